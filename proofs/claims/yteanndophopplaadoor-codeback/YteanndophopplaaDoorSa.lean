/- HELPERS: rows of bytes in memory; are two the same? -/
import Derived.Test.YteanndophopplaaDoorCe
import Derived.Test.YteanndophopplaaDoorLb
import Derived.BigQuiet
import Derived.Deep.QuietTactic
namespace Go.Proofs.YteanndophopplaaDoor
open Go.RowKit
set_option linter.unusedVariables false
set_option linter.unusedSimpArgs false
/-- a row of bytes in memory, below a bound -/
def BA (w : World) (B : Nat) (ad : Option Addr) (l : List Nat) : Prop :=
  l = [] ∨ ∃ b o, ad = some ⟨b, o, none⟩ ∧ b < B ∧ ∀ k (h : k < l.length), w.cell? ⟨b, o + k, none⟩ = some (.int .u8 (l[k] : Int))
theorem BA.kept {w w' : World} {B B' : Nat} {ad : Option Addr} {l : List Nat} (h : BA w B ad l) (hk : ∀ b, b < B → w'.heap[b]? = w.heap[b]?) (hB : B ≤ B') : BA w' B' ad l := by
  rcases h with h | ⟨b, o, h1, h2, h3⟩
  · exact .inl h
  · exact .inr ⟨b, o, h1, by omega, fun k hl => (cell_eq (hk b h2) _).trans (h3 k hl)⟩
theorem sames_ne {l l' : List Nat} {k : Nat} {x y : Nat} (h : l[k]? = some x) (h' : l'[k]? = some y) (hn : x ≠ y) : l ≠ l' := by
  intro e; subst e; rw [h] at h'; exact hn (Option.some.inj h')
set_option maxRecDepth 100000 in
set_option maxHeartbeats 4000000 in
theorem same20 {w : World} {ad ad' : Option Addr} {n c n' c' : Nat} {l l' : List Nat} (h : BA w w.heap.size ad l) (h' : BA w w.heap.size ad' l') (hn : n = l.length) (hn' : n' = l'.length) (hS : n ≤ 9223372036854775807) (hS' : n' ≤ 9223372036854775807) :
    Calls Tryd.prog 20 #[.slice ad n c, .slice ad' n' c'] w fun e w' => e = .returned (.bool (decide (l = l'))) ∧ ∃ m, w' = w.drewN m := by
  have HN := hid hn
  have HN' := hid hn'
  have HR := hid h
  have HR' := hid h'
  clear hn hn' h h'
  by_cases hnn : n = n'
  · subst hnn
    go_enter Tryd.func20, Tryd.ntmps20
    go_wp2_with fail
    go_loopw [5] (fun y wq => ∃ i : Nat, y = .int .i64 (i : Int) ∧ i ≤ n ∧ (∃ m, wq = w.drewN m) ∧ Hid (∀ j, j < i → l[j]? = l'[j]?)) (fun y _ => n - (intOf y).toNat)
    case atStart => exact ⟨0, rfl, by omega, ⟨0, rfl⟩, fun j hj => by omega⟩
    case round =>
      obtain ⟨i, rfl, hi, ⟨m, rfl⟩, HA⟩ := hrel
      by_cases hil : i < n
      · have b1 : decide ((i : Int) < (n : Int)) = true := by simp; omega
        have b2 : (i : Int) < (n : Int) := by omega
        have ad1 : IntKind.i64.wrap ((i : Int) + 1) = (i : Int) + 1 := by simp [IntKind.wrap, IntKind.bits, IntKind.signed]; omega
        have hil1 : i < l.length := by have := HN.out; omega
        have hil2 : i < l'.length := by have := HN'.out; omega
        rcases HR.out with h0 | ⟨b, o, rfl, hb, h3⟩
        · rw [h0] at hil1; simp at hil1
        rcases HR'.out with h0 | ⟨b', o', rfl, hb', h3'⟩
        · rw [h0] at hil2; simp at hil2
        have m0 : w.cell? ⟨b, o + i, none⟩ = some (.int .u8 (l[i] : Int)) := h3 i hil1
        have m1 : w.cell? ⟨b', o' + i, none⟩ = some (.int .u8 (l'[i] : Int)) := h3' i hil2
        have hx := List.getElem?_eq_getElem hil1
        have hy := List.getElem?_eq_getElem hil2
        generalize l[i] = x at m0 hx
        generalize l'[i] = y at m1 hy
        have HX := hid hx
        have HY := hid hy
        clear h3 h3' hx hy hil1 hil2
        by_cases hxy : x = y
        · subst hxy
          go_upto_region 6 with fail
          go_big_quiet (fail)
          go_wp2
          refine ⟨⟨i + 1, by push_cast; rfl, by omega, ⟨_, rfl⟩, fun j hj => ?_⟩, by simp [intOf]; omega⟩
          by_cases e : j = i
          · subst e; rw [HX.out, HY.out]
          · exact HA.out j (by omega)
        · have d1 : ((x : Int) != (y : Int)) = true := by simp; omega
          have d2 : ¬ ((x : Int) = (y : Int)) := by omega
          go_upto_region 6 with fail
          go_big_quiet (fail)
          go_wp2
          all_goals go_ret
          all_goals refine ⟨ret_bool ?_, ⟨_, World.drewN_drewN _ _ _⟩⟩
          all_goals
            symm
            rw [decide_eq_false_iff_not]
            exact sames_ne HX.out HY.out hxy
      · have b1 : decide ((i : Int) < (n : Int)) = false := by simp; omega
        go_wp2
        all_goals go_ret
        all_goals refine ⟨ret_bool ?_, ⟨_, rfl⟩⟩
        all_goals
          symm
          rw [decide_eq_true_eq]
          refine List.ext_getElem? fun j => ?_
          by_cases hj : j < i
          · exact HA.out j hj
          · rw [List.getElem?_eq_none (by have := HN.out; omega), List.getElem?_eq_none (by have := HN'.out; omega)]
  · have d0 : ((n : Int) != (n' : Int)) = true := by simp; omega
    have d1 : ¬ ((n : Int) = (n' : Int)) := by omega
    go_enter Tryd.func20, Tryd.ntmps20
    go_wp2
    all_goals go_ret
    all_goals refine ⟨ret_bool ?_, ⟨0, rfl⟩⟩
    all_goals
      symm
      rw [decide_eq_false_iff_not]
      intro e
      exact hnn (by rw [HN.out, HN'.out, e])
end Go.Proofs.YteanndophopplaaDoor
