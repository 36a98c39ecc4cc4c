/- HELPERS: the contract of runes.Cut for every slice of bytes. -/
import Derived.Test.YtjglehklfdhgaaaDoorSame
import Derived.Test.YtjglehklfdhgaaaDoorPlacesM
namespace Go.Proofs.YtjglehklfdhgaaaDoor
open Go.RowKit Go.Mx
set_option linter.unusedVariables false
set_option linter.unusedSimpArgs false
/-- what Cut leaves -/
def CutEnd (w w' : World) (e : Ending) (l : List Int) (n : Nat) : Prop := ∃ g2, w.heap.size < g2 ∧
     e = .returned (.tuple #[.slice (some ⟨w.heap.size, 0, none⟩) (cut l).length n, .slice (some ⟨g2, 0, none⟩) ((cut l).length + 1) (n + 1)]) ∧
     w'.ownsRow w.heap.size 3 1 (.slice (some ⟨w.heap.size, 0, none⟩) (cut l).length n) (cut l).length (I64 (runesOf (cut l))) ∧
     w'.ownsRow w.heap.size 3 1 (.slice (some ⟨g2, 0, none⟩) ((cut l).length + 1) (n + 1)) ((cut l).length + 1) (I64 (placesOf (cut l) ++ [(n : Int)])) ∧
     Below w.heap.size w w'
set_option maxHeartbeats 1600000 in
set_option maxRecDepth 1000000 in
theorem cut_zero (ad : Option Addr) (cap : Nat) (w : World) : Calls Tryd.prog 13 #[.slice ad 0 cap] w fun e w' => CutEnd w w' e [] 0 := by
  obtain ⟨i0, hi, hz0, hz1, hz2⟩ := info_parts info3
  go_enter Tryd.func13, Tryd.ntmps13
  go_wp2_with (at_make; refine wpList_make_own _ rfl _ (.tmp 10) 29 rfl w.heap.size 3 i0 (.int .i64 0) 1 Tryd.underlying29 hi hz0 hz1 _ _ _ 0 rfl rfl (by omega) (by omega) (by unfold maxLen; omega) (Nat.le_refl _) ?_)
  intro w0 hown0 hgrow0
  have hs0 : w.heap.size < w0.heap.size := (hown0.lt _ rfl).2
  go_wp2_with (at_make; refine wpList_make_own _ rfl _ (.tmp 14) 29 rfl w.heap.size 3 i0 (.int .i64 0) 1 Tryd.underlying29 hi hz0 hz1 _ _ _ 1 rfl rfl (by omega) (by rw [hz2]; omega) (by unfold maxLen; omega) (by omega) ?_)
  intro w1 hown1 hgrow1
  have hown0' := hown0.kept hgrow1 (.inr (by simp [Value.ownBlock]))
  have hb1 : Below w.heap.size w w1 := ((Below.refl _ _).grown hgrow0 (Nat.le_refl _) (fun k h => by cases h)).grown hgrow1 (by omega) (fun k h => by cases h)
  generalize hg2 : w0.heap.size = g2 at hown1 hs0 ⊢
  have hsz := hb1.size
  clear hown0 hgrow0 hgrow1 hg2
  go_wp2
  refine wp_loop_rounds 1 ?_
  rw [rounds_succ]
  go_wp2_with (at_builtin; refine wpList_append_fits _ rfl (.tmp 39) (.tmp 42) 29 rfl w.heap.size 3 i0 1 Tryd.underlying29 hi hz1 g2 0 1 _ rfl (hown1.alloc _) ⟨w1.heap.size, 0, none⟩ 1 1 [.int .i64 0] rfl rfl (by exact news_one _ _ _ _ rfl) (one_cell_int _ _) (by omega) ?_; intro w4 ho5 hg4; have ho6 := (hown0'.alloc (.cells #[Value.int .i64 0] 3)).kept hg4 (.inr (by simp [Value.ownBlock]; omega)); have hbw4 : Below w.heap.size w w4 := (hb1.alloc hsz _).grown hg4 (by simp; omega) (fun k hk => by cases hk; omega); clear hg4)
  go_ret2
  exact ⟨g2, hs0, rfl, ho6, ho5, hbw4⟩
/-- a slice value whose cells hold bytes, in a block below N -/
def BytesAt (N : Nat) (w : World) (v : Value) (l : List Int) : Prop := ∃ ad cap, v = .slice ad l.length cap ∧ l.length ≤ cap ∧ cap ≤ 9223372036854775807 ∧ (l.length = 0 ∨ ∃ b off, ad = some ⟨b, off, none⟩ ∧ b < N ∧ Bytes w b off l)
theorem BytesAt.below {N N' B : Nat} {w w' : World} {v : Value} {l : List Int} (h : BytesAt N w v l) (hb : Below B w w') (hB : N ≤ B) (hN : N ≤ N') : BytesAt N' w' v l := by
  obtain ⟨ad, cap, hv, h1, h2, h | ⟨b, off, ha, hbN, h0⟩⟩ := h
  · exact ⟨ad, cap, hv, h1, h2, .inl h⟩
  · exact ⟨ad, cap, hv, h1, h2, .inr ⟨b, off, ha, by omega, h0.below hb (by omega)⟩⟩
theorem cut13 (l : List Int) (ad : Option Addr) (n cap : Nat) (w : World) (hn : n = l.length) (hlen : n ≤ 17592186044416) (hT : Tabs w) (h2 : 2 ≤ w.heap.size) (hl : BytesAt w.heap.size w (.slice ad n cap) l) (hL : ByteL l) :
    Calls Tryd.prog 13 #[.slice ad n cap] w fun e w' => CutEnd w w' e l n := by
  obtain ⟨ad', cap', he, h1, h3, h | ⟨b, off, rfl, hbN, h0⟩⟩ := hl
  · have hl0 : l = [] := List.eq_nil_of_length_eq_zero h
    subst hl0
    subst hn
    exact cut_zero ad cap w
  · simp only [Value.slice.injEq] at he
    obtain ⟨rfl, -, rfl⟩ := he
    exact cut_any l b off cap n w hn hlen (by omega) h3 hT h0 hL hbN h2
end Go.Proofs.YtjglehklfdhgaaaDoor
