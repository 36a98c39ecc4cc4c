/- HELPERS: the contract of runes.Norm. -/
import Derived.Test.YtjglehklfdhgaaaDoorGather
namespace Go.Proofs.YtjglehklfdhgaaaDoor
open Go.Shelf Go.RowKit Go.Lib Go.Sort Go.Mx
set_option linter.unusedVariables false
set_option linter.unusedSimpArgs false
theorem RowAt.below {N N' B : Nat} {w w' : World} {v : Value} {L : List (Int × Int)} (h : RowAt N w v L) (hb : Below B w w') (hB : N ≤ B) (hN : N ≤ N') : RowAt N' w' v L := by
  obtain ⟨ad, cap, hv, h | ⟨b, off, ha, hbN, h0, h1⟩⟩ := h
  · exact ⟨ad, cap, hv, .inl h⟩
  · exact ⟨ad, cap, hv, .inr ⟨b, off, ha, by omega, fun k hk => (hb.cell (p := ⟨b, off + k * 2, none⟩) (by show b < B; omega)).trans (h0 k hk), fun k hk => (hb.cell (p := ⟨b, off + k * 2 + 1, none⟩) (by show b < B; omega)).trans (h1 k hk)⟩⟩
theorem GatherEnd.low {N N' : Nat} {w0 w w' : World} {e : Ending} {P : List (Int × Int)} (h : GatherEnd N w w' e P) (hb : Below N' w0 w) (hN : N' ≤ N) : GatherEnd N' w0 w' e P := by
  obtain ⟨D, h1, h2, h3, h4⟩ := h
  refine ⟨D, h1, h2, hb.trans (h3.mono hN), ?_⟩
  split
  · rename_i h5
    rw [if_pos h5] at h4
    obtain ⟨v, hv, ho⟩ := h4
    exact ⟨v, hv, Joins.ownsRow_le ho hN⟩
  · rename_i h5
    rwa [if_neg h5] at h4
theorem GatherEnd.form {N : Nat} {w w' : World} {e : Ending} {P : List (Int × Int)} (h : GatherEnd N w w' e P) : ∃ v c, e = .returned (.tuple #[v, .int .i64 c]) := by
  obtain ⟨D, h1, h2, h3, h4⟩ := h
  split at h4
  · obtain ⟨v, hv, _⟩ := h4; exact ⟨v, 0, hv⟩
  · exact ⟨_, 3, h4⟩
def okR (g : Int × Int) : Bool := decide (0 ≤ g.1 ∧ g.1 ≤ g.2 ∧ g.2 ≤ 1114111)
theorem all_take_snoc (L : List (Int × Int)) (k : Nat) (h : k < L.length) : (L.take (k + 1)).all okR = ((L.take k).all okR && okR (L.getD k (0, 0))) := by
  rw [take_snoc' L k h, List.all_append]; simp
theorem all_bad (L : List (Int × Int)) (k : Nat) (h : k < L.length) (hb : okR (L.getD k (0, 0)) = false) : L.all okR = false := by
  rw [List.all_eq_false]
  exact ⟨_, getD_mem' L k h, by rw [hb]; simp⟩
theorem ok_bd (L : List (Int × Int)) (h : L.all okR = true) : bdB L := by
  intro g hg
  have := (List.all_eq_true.1 h) g hg
  simp only [okR, decide_eq_true_eq] at this
  omega
def NormEnd (N : Nat) (w w' : World) (e : Ending) (L : List (Int × Int)) : Prop := if L.all okR = true then GatherEnd N w w' e (allParts L) else e = .returned (.tuple #[.slice none 0 0, .int .i64 10]) ∧ Below N w w'
theorem NormEnd.bad {N : Nat} {w w' : World} {L : List (Int × Int)} (h : L.all okR = false) (hb : Below N w w') : NormEnd N w w' (.returned (.tuple #[.slice none 0 0, .int .i64 10])) L := by
  unfold NormEnd; rw [if_neg (by rw [h]; simp)]; exact ⟨rfl, hb⟩
theorem NormEnd.ok {N : Nat} {w w' : World} {e : Ending} {L : List (Int × Int)} (h : L.all okR = true) (hg : GatherEnd N w w' e (allParts L)) : NormEnd N w w' e L := by
  unfold NormEnd; rw [if_pos h]; exact hg
set_option maxHeartbeats 2000000 in
set_option maxRecDepth 1000000 in
theorem norm26 (L : List (Int × Int)) (ad : Option Addr) (n cap : Nat) (w : World) (hn : Hid (n = L.length)) (hS : n ≤ 2199023255552)
    (hl : Hid (RowAt w.heap.size w (.slice ad n cap) L)) :
    Calls Tryd.prog 26 #[.slice ad n cap] w fun e w' => NormEnd w.heap.size w w' e L := by
  go_enter Tryd.func26, Tryd.ntmps26
  go_wp2
  go_loopw [8] (fun i wr => ∃ (k : Nat), k ≤ n ∧ i = .int .i64 k ∧ Below w.heap.size w wr ∧ Hid ((L.take k).all okR = true))
    (fun i _ => n - (intOf i).toNat)
  case atStart => exact ⟨0, by omega, rfl, Below.refl _ _, by exact rfl⟩
  case round =>
    obtain ⟨k, hk, rfl, hbw, HR⟩ := hrel
    have hsz := hbw.size
    by_cases hlt : k < n
    · obtain ⟨ad', cap', he, h | ⟨b, off, rfl, hbN, hc0, hc1⟩⟩ := hl.out
      · exact absurd h (by rw [← hn.out]; omega)
      · have hn' := hn.out
        simp only [Value.slice.injEq] at he
        obtain ⟨rfl, -, rfl⟩ := he
        have d0 := (hbw.cell (p := ⟨b, off + k * 2, none⟩) hbN).trans (hc0 k (by omega))
        have d1 := (hbw.cell (p := ⟨b, off + k * 2 + 1, none⟩) hbN).trans (hc1 k (by omega))
        have hts := all_take_snoc L k (by omega)
        have hbad := all_bad L k (by omega)
        generalize L.getD k (0, 0) = g at d0 d1 hts hbad
        obtain ⟨lo, hi⟩ := g
        simp only at d0 d1
        have HTS : Hid ((L.take (k + 1)).all okR = ((L.take k).all okR && okR (lo, hi))) := hts
        have HBAD : Hid (okR (lo, hi) = false → L.all okR = false) := hbad
        clear hts hbad hc0 hc1 hn'
        by_cases hg : 0 ≤ lo ∧ lo ≤ hi ∧ hi ≤ 1114111
        · obtain ⟨g1, g2, g3⟩ := hg
          go_wp2
          go_roundw
          case rel =>
            refine ⟨k + 1, by omega, by go_num, hbw.alloc hsz _, ?_⟩
            exact (by rw [HTS.out, HR.out]; simp [okR]; omega : (L.take (k + 1)).all okR = true)
          case measure => simp [intOf]; omega
        · have hE : Hid (L.all okR = false) := HBAD.out (by simp [okR]; omega)
          go_wp2
          all_goals first | (exfalso; omega) | skip
          all_goals go_ret2
          all_goals exact NormEnd.bad hE.out (hbw.alloc hsz _)
    · obtain rfl : k = n := by omega
      have hall : L.all okR = true := by
        have := HR.out
        rwa [List.take_of_length_le (by rw [← hn.out]; exact Nat.le_refl _)] at this
      have HALL : Hid (L.all okR = true) := hall
      clear HR hall
      have hfl : [L].flatten = L := by simp
      have hcell : (wr.alloc (.cells #[.slice ad k cap] 42)).cell? ⟨wr.heap.size, 0 + 0, none⟩ = some (.slice ad k cap) := (World.cell?_alloc_at _ _ _ 0 rfl).trans rfl
      have hrow : RowAt (wr.alloc (.cells #[.slice ad k cap] 42)).heap.size (wr.alloc (.cells #[.slice ad k cap] 42)) (.slice ad k cap) L := hl.out.below (hbw.alloc hsz _) (Nat.le_refl _) (by simp; omega)
      have hg := gather47 [L] wr.heap.size 0 1 1 k (wr.alloc (.cells #[.slice ad k cap] 42)) rfl (by show ([L].flatten).length ≤ k; rw [hfl, ← hn.out]; exact Nat.le_refl _) hS (by omega) (by show bdB [L].flatten; rw [hfl]; exact ok_bd L HALL.out) (by simp)
        (by intro j hj; obtain rfl : j = 0 := by omega
            exact ⟨_, hcell, hrow⟩)
      rw [hfl] at hg
      clear hcell hrow hfl
      go_wp2_with (go_at_call 47; refine hg.mono ?_; intro e w2 hE; obtain ⟨v2, c2, rfl⟩ := hE.form)
      go_ret2
      exact NormEnd.ok HALL.out (hE.low (hbw.alloc hsz _) (by simp; omega))
end Go.Proofs.YtjglehklfdhgaaaDoor
