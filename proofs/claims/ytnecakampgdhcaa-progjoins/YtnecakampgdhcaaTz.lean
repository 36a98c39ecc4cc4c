/- HELPERS: Turned writes into the lent program's own lists alone. -/
import Derived.Test.YtnecakampgdhcaaTw
namespace Go.Proofs.Ytnecakampgdhcaa
open Go.RowKit
set_option linter.unusedVariables false
set_option linter.unusedSimpArgs false
theorem Chs.setCells {A : Nat → Prop} {b : Nat} (hA : A b) : ∀ (vs : List Value) (o : Nat) (w w' : World), Chs A w w' → Chs A w (w'.setCells b o vs)
  | [], _, _, _, h => h
  | v :: vs, o, w, w', h => Chs.setCells hA vs (o + 1) w _ (h.set (a := ⟨b, o, none⟩) hA v)
theorem Chs.two {A : Nat → Prop} {g o o' : Nat} {w w' : World} (h : Chs A w w') (hg : A g) (p q : Value) : Chs A w ((w'.setCell ⟨g, o, none⟩ p).setCell ⟨g, o', none⟩ q) := (h.set (a := ⟨g, o, none⟩) hg p).set (a := ⟨g, o', none⟩) hg q
/-- the lists' blocks are of A -/
def AB (A : Nat → Prop) (MS : List Iv) : Prop := ∀ j b, (MS.getD j default).rv.ownBlock = some b → A b
theorem AB.set {A : Nat → Prop} {MS : List Iv} (h : AB A MS) (i : Nat) : AB A (MS.set i I6) := by
  intro j b hb
  by_cases e : j = i
  · subst e
    by_cases hl : j < MS.length
    · simp [List.getD_eq_getElem?_getD, hl, Value.ownBlock] at hb
    · exact h j b (by simpa [List.getD_eq_getElem?_getD, hl] using hb)
  · exact h j b (by simpa [List.getD_eq_getElem?_getD, List.getElem?_set_ne (fun e' => e e'.symm)] using hb)
set_option maxRecDepth 100000 in
set_option maxHeartbeats 16000000 in
theorem turned13c {A : Nat → Prop} {w : World} {ad : Option Addr} {n c : Nat} {l : List In} {MS : List Iv} {s k : Int} {base : Nat} (h : PL w base ad n c l MS) (hn : n * 56 ≤ 140737488351232) (hA : A (match ad with | some a => a.block | none => 0)) (hAB : AB A MS) :
    Calls Try.prog 13 #[pv ad n c s k] w fun e w' => e = .returned (.tuple #[]) ∧ Chs A w w' ∧ ∀ (b' : Nat) (cs : Array Value) (fr : Nat × Nat), w.heap[b']? = some (.cells cs 24 fr) → w'.heap[b']? = some (.cells cs 24 fr) := by
  obtain ⟨gz, rfl, hc1, hc2⟩ := h.blk
  dsimp only at hA
  obtain ⟨U, hU⟩ : ∃ U, U = w.alloc (.cells #[.slice (some ⟨gz, 0, none⟩) n c, .int .i64 s, .int .i64 k] 24) := ⟨_, rfl⟩
  have hb : Below w.heap.size w U := by rw [hU]; exact Joins.below_alloc1 w _
  have hX : U.heap[w.heap.size]? = some (.cells #[.slice (some ⟨gz, 0, none⟩) n c, .int .i64 s, .int .i64 k] 24 (0, 0)) := by rw [hU]; exact heap_alloc_new w _
  have HT := hid (h.tv.below hb)
  have HB : Hid (Chs A w U) := Chs.of_below hb
  have HAB := hid hAB
  clear hAB
  have HF : Hid (∀ (b' : Nat) (cs : Array Value) (fr : Nat × Nat), w.heap[b']? = some (.cells cs 24 fr) → U.heap[b']? = some (.cells cs 24 fr)) := fun b' cs fr h' => (hb.block b' (Array.getElem?_eq_some_iff.1 h').1).trans h'
  have hsz : w.heap.size < U.heap.size := (Array.getElem?_eq_some_iff.1 hX).1
  obtain ⟨b, hbe⟩ : ∃ b, b = w.heap.size := ⟨_, rfl⟩
  clear h hb
  go_enter Try.func13, Try.ntmps13
  go_upto_region 1 with fail
  rw [← hU, ← hbe]
  rw [← hbe] at hX hsz
  have HX := hid hX
  have HBE := hid hbe
  clear hU hbe hX
  go_wp2_with fail
  go_loopw [2] (fun y wq => ∃ i : Nat, y = .int .i64 (i : Int) ∧ i ≤ n ∧ Hid (∃ l' MS', TV wq base (some ⟨gz, 0, none⟩) n c l' MS' ∧ AB A MS') ∧ Hid (Chs A w wq) ∧ Hid (wq.heap[b]? = some (.cells #[.slice (some ⟨gz, 0, none⟩) n c, .int .i64 s, .int .i64 k] 24 (0, 0))) ∧ b < wq.heap.size ∧ Hid (∀ (b' : Nat) (cs : Array Value) (fr : Nat × Nat), w.heap[b']? = some (.cells cs 24 fr) → wq.heap[b']? = some (.cells cs 24 fr))) (fun y _ => n - (intOf y).toNat)
  case atStart => exact ⟨0, rfl, by omega, ⟨_, _, HT.out, HAB.out⟩, HB.out, HX.out, hsz, HF.out⟩
  case round =>
    clear HT HB HX hsz HF HAB
    obtain ⟨i, rfl, hi, HT, HB, HX, hsz, HF⟩ := hrel
    obtain ⟨p0, p1, p2⟩ := three_cells HX.out
    by_cases hil : i < n
    · have b1 : decide ((i : Int) < (n : Int)) = true := by simp; omega
      have b2 : (i : Int) < (n : Int) := by omega
      have ad1 : IntKind.i64.wrap ((i : Int) + 1) = (i : Int) + 1 := by simp [IntKind.wrap, IntKind.bits, IntKind.signed]; omega
      go_wp2_with fail
      obtain ⟨l1, MS, hT, hAB⟩ := HT.out
      have HAB := hid hAB
      clear hAB
      obtain ⟨N, hN⟩ : ∃ N, N = MS.getD i default := ⟨_, rfl⟩
      obtain ⟨op, xx, yy, aa, r1, r2, r3⟩ := N
      have hr2 : r2 ≤ 8796093022208 := by
        rcases hT.lo i (by have := hT.len; omega) with hO | ⟨e1, _⟩
        · rw [← hN] at hO; have := hO.sm; dsimp only at this; omega
        · rw [← hN] at e1; cases e1; omega
      have HT1 := hid hT
      have HN := hid hN
      clear hT hN HT p0 p1 p2
      go_loopw [3] (fun y wq => ∃ j : Nat, y = .int .i64 (j : Int) ∧ j ≤ r2 ∧ Hid (∃ l', TV wq base (some ⟨gz, 0, none⟩) n c l' MS) ∧ Hid (Chs A w wq) ∧ Hid (wq.heap[b]? = some (.cells #[.slice (some ⟨gz, 0, none⟩) n c, .int .i64 s, .int .i64 k] 24 (0, 0))) ∧ b < wq.heap.size ∧ Hid (∀ (b' : Nat) (cs : Array Value) (fr : Nat × Nat), w.heap[b']? = some (.cells cs 24 fr) → wq.heap[b']? = some (.cells cs 24 fr))) (fun y _ => r2 - (intOf y).toNat)
      case atStart => exact ⟨0, rfl, by omega, ⟨_, HT1.out⟩, HB.out, HX.out, hsz, HF.out⟩
      case round =>
        clear HT1 HB HX hsz HF
        obtain ⟨j, rfl, hj, HT, HB, HX, hsz, HF⟩ := hrel
        obtain ⟨p0, p1, p2⟩ := three_cells HX.out
        obtain ⟨l2, hT⟩ := HT.out
        have hI5 := hT.at5 i hil
        rw [← HN.out] at hI5
        unfold I5 at hI5
        simp only [Nat.zero_add] at hI5
        obtain ⟨n0, n1, n2, n3, n4⟩ := hI5
        have hgb : gz ≠ b := fun e => own_ne hT.row HX.out (by decide) (by rw [e]; rfl)
        by_cases hjl : j < r2
        · have b3 : decide ((j : Int) < (r2 : Int)) = true := by simp; omega
          have b4 : (j : Int) < (r2 : Int) := by omega
          have ad2 : IntKind.i64.wrap ((j : Int) + 1) = (j : Int) + 1 := by simp [IntKind.wrap, IntKind.bits, IntKind.signed]; omega
          have m3 : IntKind.i64.wrap (3 * (j : Int)) = 3 * (j : Int) := by simp [IntKind.wrap, IntKind.bits, IntKind.signed]; omega
          have m4 : IntKind.i64.wrap (1000 + 3 * (j : Int)) = 1000 + 3 * (j : Int) := by simp [IntKind.wrap, IntKind.bits, IntKind.signed]; omega
          obtain ⟨g, hg, hO⟩ : ∃ g, r1 = some ⟨g, 0, none⟩ ∧ LO wr base (.slice (some ⟨gz, 0, none⟩) (n + 2) c) ⟨op, xx, yy, aa, r1, r2, r3⟩ (l2[i]'(by have := hT.len; omega)) := by
            rcases hT.lo i (by have := hT.len; omega) with hO | ⟨e1, _⟩
            · rw [← HN.out] at hO
              obtain ⟨g, e, _, _⟩ := hO.blk
              exact ⟨g, e, hO⟩
            · rw [← HN.out] at e1; cases e1; omega
          subst hg
          have hlen := hO.len
          dsimp only at hlen
          have ht := row_there hO.rr (j := j * 2) (m := 2) (by omega)
          have hgb2 : g ≠ b := fun e => own_ne hO.rr HX.out (by decide) (by rw [e]; rfl)
          have hgbase : A g := HAB.out i g (by rw [← HN.out]; rfl)
          have hgf : ∀ (b' : Nat) (cs : Array Value) (fr : Nat × Nat), w.heap[b']? = some (.cells cs 24 fr) → b' ≠ g := fun b' cs fr h' e => own_ne hO.rr (HF.out b' cs fr h') (by decide) (by rw [e]; rfl)
          have HGF := hid hgf
          clear hgf
          obtain ⟨l3, hT3⟩ := hT.setR i hil HN.out.symm j hjl (1000 + 3 * (j : Int)) (1000 + 3 * (j : Int))
          have HT3 := hid hT3
          clear hT hT3 hO hlen HT
          go_wp2_with ((with_reducible refine store49 rfl (.tmp 36) (.tmp 35) rfl g j (1000 + 3 * (j : Int)) (1000 + 3 * (j : Int)) ?_ ?_ ht ?_); (rfl); (rfl))
          exact ⟨⟨j + 1, by push_cast; rfl, by omega, ⟨_, HT3.out⟩, Chs.two HB.out hgbase _ _, (Below.heap_setCell _ _ _ _ (fun e => hgb2 e.symm)).trans ((Below.heap_setCell _ _ _ _ (fun e => hgb2 e.symm)).trans HX.out), by simpa [World.setCell] using hsz, fun b' cs fr h' => (Below.heap_setCell _ _ _ _ (HGF.out b' cs fr h')).trans ((Below.heap_setCell _ _ _ _ (HGF.out b' cs fr h')).trans (HF.out b' cs fr h'))⟩, by simp [intOf]; omega⟩
        · have b3 : decide ((j : Int) < (r2 : Int)) = false := by simp; omega
          by_cases h7 : op = 7
          · subst h7
            have ht := row_there hT.row (j := i * 5) (m := 5) (by omega)
            have hT5 := hT.setI i hil
            have hgf : ∀ (b' : Nat) (cs : Array Value) (fr : Nat × Nat), w.heap[b']? = some (.cells cs 24 fr) → b' ≠ gz := fun b' cs fr h' e => own_ne hT.row (HF.out b' cs fr h') (by decide) (by rw [e]; rfl)
            have HGF := hid hgf
            clear hgf
            have HT5 := hid hT5
            clear hT hT5 HT
            go_wp2_with ((with_reducible refine store51 rfl (.tmp 48) (.tmp 47) rfl gz i ?_ ?_ ht ?_); (rfl); (rfl))
            exact ⟨⟨i + 1, by push_cast; rfl, by omega, ⟨_, _, HT5.out, HAB.out.set i⟩, Chs.setCells hA _ _ _ _ HB.out, (setCells_old gz _ _ _ b (fun e => hgb e.symm)).trans HX.out, by rw [setCells_size]; exact hsz, fun b' cs fr h' => (setCells_old gz _ _ _ b' (HGF.out b' cs fr h')).trans (HF.out b' cs fr h')⟩, by simp [intOf]; omega⟩
          · have b7 : (op == 7) = false := by simpa using h7
            have HTT := hid hT
            clear hT HT
            go_wp2
            exact ⟨⟨i + 1, by push_cast; rfl, by omega, ⟨_, _, HTT.out, HAB.out⟩, HB.out, HX.out, hsz, HF.out⟩, by simp [intOf]; omega⟩
    · have b1 : decide ((i : Int) < (n : Int)) = false := by simp; omega
      go_wp2
      all_goals go_end0
      all_goals exact ⟨rfl, HB.out, HF.out⟩
end Go.Proofs.Ytnecakampgdhcaa
