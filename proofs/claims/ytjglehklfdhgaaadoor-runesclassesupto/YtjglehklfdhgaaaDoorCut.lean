/- HELPERS: the contract of runes.Cut. -/
import Derived.Test.YtjglehklfdhgaaaDoorDecode
import Derived.WalkSmall
namespace Go.Proofs.YtjglehklfdhgaaaDoor
open Go.RowKit Go.Mx
set_option linter.unusedVariables false
set_option linter.unusedSimpArgs false
theorem info3 : (Tryd.prog.info? 3).map (fun i => (i.zero, i.size, i.bytes)) = some (some (.int .i64 0), 1, 8) := by kernel_rfl
theorem Tabs.below {w w' : World} {B : Nat} (h : Tabs w) (hb : Below B w w') (hB : 2 ≤ B) : Tabs w' :=
  ⟨fun i hi => (hb.cell (p := ⟨0, i, none⟩) (by show 0 < B; omega)).trans (h.1 i hi), fun i hi => (hb.cell (p := ⟨1, i, none⟩) (by show 1 < B; omega)).trans (h.2 i hi)⟩
theorem Bytes.below {w w' : World} {B b off : Nat} {l : List Int} (h : Bytes w b off l) (hb : Below B w w') (hB : b < B) : Bytes w' b off l :=
  fun k hk => (hb.cell (p := ⟨b, off + k, none⟩) hB).trans (h k hk)
theorem news_one (w : World) (v : Value) (t : TypeId) (g : Nat) (hg : g = w.heap.size) : ∀ (j : Nat) (u : Value), [v][j]? = some u → (w.alloc (.cells #[v] t)).cell? ((⟨g, 0, none⟩ : Addr).add j) = some u := by
  intro j u h
  match j, h with
  | 0, h =>
    simp at h
    subst h
    exact (World.cell?_alloc_at _ t g 0 hg).trans rfl
theorem one_cell_int (k : IntKind) (r : Int) : ∀ u : Value, u ∈ [Value.int k r] → u.oneCell' = true := by
  intro u hu; simp at hu; subst hu; rfl
abbrev I64 (l : List Int) : List Value := l.map (Value.int .i64)
set_option maxHeartbeats 1600000 in
set_option maxRecDepth 1000000 in
theorem cut_any (l : List Int) (b off cap n : Nat) (w : World) (HN : Hid (n = l.length)) (hlen : n ≤ 17592186044416) (hcap : n ≤ cap) (hcl : cap ≤ 9223372036854775807)
   (hT : Hid (Tabs w)) (hB : Hid (Bytes w b off l)) (hL : Hid (ByteL l)) (hb : b < w.heap.size) (h2 : 2 ≤ w.heap.size) :
   Calls Tryd.prog 13 #[.slice (some ⟨b, off, none⟩) n cap] w fun e w' => ∃ g2, w.heap.size < g2 ∧
     e = .returned (.tuple #[.slice (some ⟨w.heap.size, 0, none⟩) (cut l).length n, .slice (some ⟨g2, 0, none⟩) ((cut l).length + 1) (n + 1)]) ∧
     w'.ownsRow w.heap.size 3 1 (.slice (some ⟨w.heap.size, 0, none⟩) (cut l).length n) (cut l).length (I64 (runesOf (cut l))) ∧
     w'.ownsRow w.heap.size 3 1 (.slice (some ⟨g2, 0, none⟩) ((cut l).length + 1) (n + 1)) ((cut l).length + 1) (I64 (placesOf (cut l) ++ [(n : Int)])) ∧
     Below w.heap.size w w' := by
  obtain ⟨i0, hi, hz0, hz1, hz2⟩ := info_parts info3
  go_enter Tryd.func13, Tryd.ntmps13
  go_wp2_with (at_make; refine wpList_make_own _ rfl _ (.tmp 10) 29 rfl w.heap.size 3 i0 (.int .i64 0) 1 Tryd.underlying29 hi hz0 hz1 _ _ _ n rfl rfl (by omega) (by rw [hz2]; omega) (by unfold maxLen; omega) (Nat.le_refl _) ?_)
  intro w0 hown0 hgrow0
  have hs0 : w.heap.size < w0.heap.size := (hown0.lt _ rfl).2
  go_wp2_with (at_make; refine wpList_make_own _ rfl _ (.tmp 14) 29 rfl w.heap.size 3 i0 (.int .i64 0) 1 Tryd.underlying29 hi hz0 hz1 _ _ _ (n + 1) rfl rfl (by omega) (by rw [hz2]; omega) (by unfold maxLen; omega) (by omega) ?_)
  intro w1 hown1 hgrow1
  have hown0' := hown0.kept hgrow1 (.inr (by simp [Value.ownBlock]))
  have hb1 : Below w.heap.size w w1 := ((Below.refl _ _).grown hgrow0 (Nat.le_refl _) (fun k h => by cases h)).grown hgrow1 (by omega) (fun k h => by cases h)
  generalize hg2 : w0.heap.size = g2 at hown1 hs0 ⊢
  clear hown0 hgrow0 hgrow1 hg2
  go_wp2
  go_loopw [4, 5, 6] (fun v1 v2 i wr => ∃ (p : Nat) (G : List (Int × Nat)), p ≤ n ∧ G.length ≤ p ∧ i = .int .i64 p ∧ v1 = .slice (some ⟨w.heap.size, 0, none⟩) G.length n ∧ v2 = .slice (some ⟨g2, 0, none⟩) G.length (n + 1) ∧
      wr.ownsRow w.heap.size 3 1 (.slice (some ⟨w.heap.size, 0, none⟩) G.length n) G.length (I64 (runesOf G)) ∧ wr.ownsRow w.heap.size 3 1 (.slice (some ⟨g2, 0, none⟩) G.length (n + 1)) G.length (I64 (placesOf G)) ∧
      Below w.heap.size w wr ∧ Hid (G ++ cutF n p (l.drop p) = cut l))
    (fun _ _ i _ => n - (intOf i).toNat)
  case atStart => exact ⟨0, [], by omega, by simp, rfl, rfl, rfl, hown0', hown1, hb1, by show [] ++ cutF n 0 l = cut l; rw [HN.out]; rfl⟩
  case round =>
    obtain ⟨p, G, hp, hGp, rfl, rfl, rfl, ho1, ho2, hbw, HG⟩ := hrel
    have hsz : w.heap.size ≤ wr.heap.size := hbw.size
    by_cases hlt : p < n
    · have hdec := decode_any (l.drop p) (by intro h; have := congrArg List.length h; rw [List.length_drop] at this; have := HN.out; simp at *; omega) b (off + p) (cap - p) (n - p) wr (by rw [List.length_drop, ← HN.out]) (by omega) (by omega) (by omega) (hT.out.below hbw h2) ((hB.out.below hbw hb).drop p) (hL.out.drop p)
      have hdb := dec_bd (l.drop p) (by intro h; have := congrArg List.length h; rw [List.length_drop] at this; have := HN.out; simp at *; omega)
      have hst := cut_step l n p G HN.out hlt HG.out
      have hdl : (l.drop p).length = n - p := by rw [List.length_drop, ← HN.out]
      rw [hdl] at hdb
      clear hdl
      generalize hr : (dec (l.drop p)).1 = r at hdec hst hdb
      generalize hs : (dec (l.drop p)).2 = s at hdec hst hdb
      obtain ⟨hd1, hd2, hd3, _⟩ := hdb
      have HST : Hid (_ = cut l) := hst
      clear hst hr hs
      go_wp2_with (first
        | (go_at_call 12; refine hdec.mono ?_; rintro e w' ⟨rfl, q, rfl⟩)
        | (at_builtin; refine wpList_append_fits _ rfl (.tmp 27) (.tmp 29) 29 rfl w.heap.size 3 i0 1 Tryd.underlying29 hi hz1 w.heap.size G.length n _ rfl (by exact (show (wr.drewN q).ownsRow w.heap.size 3 1 _ _ _ from ho1).alloc _) ⟨wr.heap.size, 0, none⟩ 1 1 [.int .i64 r] rfl rfl (by exact news_one _ _ _ _ rfl) (one_cell_int _ _) (by omega) ?_; intro w3 ho3 hg3; have ho4 := ((show (wr.drewN q).ownsRow w.heap.size 3 1 _ _ _ from ho2).alloc (.cells #[Value.int .i64 r] 3)).kept hg3 (.inr (by simp [Value.ownBlock]; omega)); have hbw3 : Below w.heap.size w w3 := ((below_drewN hbw q).alloc (by exact hsz) _).grown hg3 (by simp; omega) (fun k hk => by cases hk; exact Nat.le_refl _); have hsz3 := hbw3.size; clear hg3)
        | (at_builtin; refine wpList_append_fits _ rfl (.tmp 31) (.tmp 33) 29 rfl w.heap.size 3 i0 1 Tryd.underlying29 hi hz1 g2 G.length (n + 1) _ rfl (ho4.alloc _) ⟨w3.heap.size, 0, none⟩ 1 1 [.int .i64 p] rfl rfl (by exact news_one _ _ _ _ rfl) (one_cell_int _ _) (by omega) ?_; intro w4 ho5 hg4; have ho6 := (ho3.alloc (.cells #[Value.int .i64 p] 3)).kept hg4 (.inr (by simp [Value.ownBlock]; omega)); have hbw4 : Below w.heap.size w w4 := (hbw3.alloc hsz3 _).grown hg4 (by simp; omega) (fun k hk => by cases hk; omega); clear hg4))
      go_roundw
      case rel =>
        refine ⟨p + s.toNat, G ++ [(r, p)], by omega, by simp; omega, by go_num, by simp, by simp, by simpa [runesOf, I64] using ho6, by simpa [placesOf, I64] using ho5, hbw4, HST⟩
      case measure => simp [intOf]; omega
    · obtain rfl : p = n := by omega
      obtain rfl := cut_done l p G HN.out HG.out
      clear HG
      go_wp2_with (at_builtin; refine wpList_append_fits _ rfl (.tmp 39) (.tmp 42) 29 rfl w.heap.size 3 i0 1 Tryd.underlying29 hi hz1 g2 (cut l).length (p + 1) _ rfl (ho2.alloc _) ⟨wr.heap.size, 0, none⟩ 1 1 [.int .i64 p] rfl rfl (by exact news_one _ _ _ _ rfl) (one_cell_int _ _) (by omega) ?_; intro w4 ho5 hg4; have ho6 := (ho1.alloc (.cells #[Value.int .i64 p] 3)).kept hg4 (.inr (by simp [Value.ownBlock]; omega)); have hbw4 : Below w.heap.size w w4 := (hbw.alloc hsz _).grown hg4 (by simp; omega) (fun k hk => by cases hk; omega); clear hg4)
      go_ret2
      exact ⟨g2, hs0, rfl, ho6, by simpa [placesOf, I64] using ho5, hbw4⟩
end Go.Proofs.YtjglehklfdhgaaaDoor
