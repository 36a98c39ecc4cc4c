/- HELPERS: the document's Cut: the walk. -/
import Derived.Test.YtjglehklfdhgaaaDoorRd
namespace Go.Proofs.YtjglehklfdhgaaaDoor
open Go.RowKit Go.Mx
set_option linter.unusedVariables false
set_option linter.unusedSimpArgs false
/-- what the document's Cut leaves -/
def RCut (w w' : World) (e : Ending) (l : List Int) : Prop := ∃ v1 v2, e = .returned (.tuple #[v1, v2]) ∧
     w'.ownsRow w.heap.size 3 1 v1 (cut l).length (I64 (runesOf (cut l))) ∧ w'.ownsRow w.heap.size 3 1 v2 ((cut l).length + 1) (I64 (placesOf (cut l) ++ [(l.length : Int)])) ∧ Below w.heap.size w w'
/-- a row that grows keeps another one -/
theorem moved_kept {w w' : World} {base e m : Nat} {v v' u : Value} {xs : List Value} {o : Obj} (hm : Moved (w.alloc o) w' v v') (hu : w.ownsRow base e 1 u m xs) (hd : ∀ b, u.ownBlock = some b → v.ownBlock ≠ some b) :
    w'.ownsRow base e 1 u m xs ∧ (∀ b, u.ownBlock = some b → v'.ownBlock ≠ some b) := by
  have hsa : (w.alloc o).heap.size = w.heap.size + 1 := by simp
  refine ⟨own_kept hu (fun b hb => ?_), fun b hb e => ?_⟩
  · have hlt := (hu.lt b hb).2
    have ha : (w.alloc o).heap[b]? = w.heap[b]? := heap_alloc_old w o hlt
    rcases hm with ⟨_, hg⟩ | ⟨_, hg⟩
    · rw [hg.block b (by omega) (fun e => hd b hb e.symm), ha]
    · rw [hg.block b (by omega) (by simp), ha]
  · have hlt := (hu.lt b hb).2
    rcases hm with ⟨h5, _⟩ | ⟨h5, _⟩
    · exact hd b hb (by rw [← h5]; exact e)
    · rw [h5] at e; injection e with e; omega
theorem moved_below {w w0 w' : World} {base e n : Nat} {v v' : Value} {xs : List Value} {o : Obj} (hm : Moved (w.alloc o) w' v v') (hv : w.ownsRow base e 1 v n xs) (hb : Below base w0 w) (hs : base ≤ w.heap.size) : Below base w0 w' := by
  have hb0 : Below base w0 (w.alloc o) := hb.alloc hs o
  have hbs : base ≤ (w.alloc o).heap.size := by simp; omega
  rcases hm with ⟨_, hg⟩ | ⟨_, hg⟩
  · exact hb0.grown hg hbs (fun k hk => (hv.lt k hk).1)
  · exact hb0.grown hg hbs (fun k hk => by cases hk)
/-- what holds between the rounds -/
structure RC (w : World) (G : List (Int × Nat)) (m : Nat) (v1 v2 : Value) (wr : World) : Prop where
  o1 : wr.ownsRow w.heap.size 3 1 v1 m (I64 (runesOf G))
  o2 : wr.ownsRow w.heap.size 3 1 v2 m (I64 (placesOf G))
  dj : ∀ b, v1.ownBlock = some b → v2.ownBlock ≠ some b
  bel : Below w.heap.size w wr
theorem RC.below {w : World} {G : List (Int × Nat)} {m : Nat} {v1 v2 : Value} {wr w' : World} (h : RC w G m v1 v2 wr) (hb : Below wr.heap.size wr w') : RC w G m v1 v2 w' :=
  ⟨own_kept h.o1 (fun b hb' => hb.block b (h.o1.lt b hb').2), own_kept h.o2 (fun b hb' => hb.block b (h.o2.lt b hb').2), h.dj, h.bel.trans (hb.mono h.bel.size)⟩
theorem RC.step {w : World} {G : List (Int × Nat)} {m : Nat} {v1 v2 v1' v2' : Value} {wr w1 w2 : World} {o o' : Obj} {r : Int} {p : Nat} (h : RC w G m v1 v2 wr)
    (h1 : w1.ownsRow w.heap.size 3 1 v1' (m + 1) (I64 (runesOf G) ++ [.int .i64 r])) (m1 : Moved (wr.alloc o) w1 v1 v1')
    (h2 : w2.ownsRow w.heap.size 3 1 v2' (m + 1) (I64 (placesOf G) ++ [.int .i64 (p : Int)])) (m2 : Moved (w1.alloc o') w2 v2 v2') : RC w (G ++ [(r, p)]) (m + 1) v1' v2' w2 := by
  have k1 := moved_kept m1 h.o2 (fun b hb e => h.dj b e hb)
  have b1 := moved_below m1 h.o1 h.bel h.bel.size
  have k2 := moved_kept m2 h1 (fun b hb e => k1.2 b e hb)
  have b2 := moved_below m2 k1.1 b1 b1.size
  exact ⟨by simpa [runesOf, I64] using k2.1, by simpa [placesOf, I64] using h2, k2.2, b2⟩
set_option maxHeartbeats 2000000 in
set_option maxRecDepth 1000000 in
theorem rcut16 (l : List Int) (ad : Option Addr) (n cap : Nat) (w : World) (hn : Hid (n = l.length)) (hlen : n ≤ 100000000) (hl : Hid (BytesAt w.heap.size w (.slice ad n cap) l)) (hL : Hid (ByteL l)) :
    Calls Tryd.prog 16 #[.slice ad n cap] w fun e w' => RCut w w' e l := by
  obtain ⟨i0, hi, hz0, hz1, hz2⟩ := info_parts info3
  go_enter Tryd.func16, Tryd.ntmps16
  go_wp2
  go_loopw [4, 5, 6] (fun v1 v2 i wr => ∃ (p m : Nat) (G : List (Int × Nat)) (x1 x2 : Value), p ≤ n ∧ m ≤ p ∧ i = .int .i64 p ∧ x1 = v1 ∧ x2 = v2 ∧ Hid (RC w G m x1 x2 wr) ∧ Hid (m = G.length ∧ G ++ cutF n p (l.drop p) = cut l))
    (fun _ _ i _ => n - (intOf i).toNat)
  case atStart => exact ⟨0, 0, [], _, _, by omega, by omega, rfl, rfl, rfl, ⟨World.ownsRow_nil _ _ _ _, World.ownsRow_nil _ _ _ _, fun b hb => by simp [Value.ownBlock] at hb, Below.refl _ _⟩, by exact ⟨rfl, by show [] ++ cutF n 0 l = cut l; rw [hn.out]; rfl⟩⟩
  case round =>
    obtain ⟨p, m, G, x1, x2, hp, hmp, rfl, rfl, rfl, HI, HG⟩ := hrel
    by_cases hlt : p < n
    · obtain ⟨ad', cap', he, hc1, hc2, h | ⟨b, off, rfl, hbN, hB⟩⟩ := hl.out
      · exact absurd h (by rw [← hn.out]; omega)
      · simp only [Value.slice.injEq] at he
        obtain ⟨rfl, -, rfl⟩ := he
        have hn' := hn.out
        rw [← hn'] at hc1
        have hne : l.drop p ≠ [] := by intro h; have := congrArg List.length h; rw [List.length_drop] at this; simp at this; omega
        have hsr := HI.out.bel.size
        have hdec := rdec_any (l.drop p) hne b (off + p) (cap - p) (n - p) wr (by show _ = _; rw [List.length_drop, ← hn']) (by omega) (by omega) (by omega) (by omega) ((hB.below HI.out.bel hbN).drop p) (hL.out.drop p) (by omega)
        have hdb := dec_bd (l.drop p) hne
        have hst := cut_step l n p G hn' hlt HG.out.2
        have hdl : (l.drop p).length = n - p := by rw [List.length_drop, ← hn']
        rw [hdl] at hdb
        clear hdl hne hB
        generalize hr : (dec (l.drop p)).1 = r at hdec hst hdb
        generalize hs : (dec (l.drop p)).2 = s at hdec hst hdb
        obtain ⟨hd1, hd2, hd3, _⟩ := hdb
        have HST : Hid (_ = cut l) := hst
        clear hst hr hs hn'
        go_wp2_with (first
          | (go_at_call 15; refine hdec.mono ?_; rintro e w1 ⟨rfl, hb1⟩; have H1 : Hid (RC w G m x1 x2 w1) := HI.out.below hb1; have hs1 := H1.out.bel.size)
          | (at_builtin; refine wpList_append_move rfl (.tmp 20) (.tmp 22) 29 rfl w.heap.size 3 i0 (.int .i64 0) 8 Tryd.underlying29 hi hz0 hz1 hz2 rfl x1 m _ rfl (H1.out.o1.alloc _) ⟨w1.heap.size, 0, none⟩ 1 1 [.int .i64 r] rfl rfl (by decide) (by exact news_one _ _ _ _ rfl) (one_cell_int _ _) (by unfold maxLen; omega) (by omega) (by simp; omega) ?_; intro y1 w2 ho2 hm2; have k2 := moved_kept hm2.out H1.out.o2 (fun b hb e => H1.out.dj b e hb); have b2 := moved_below hm2.out H1.out.o1 H1.out.bel hs1; have hs2 := b2.size)
          | (at_builtin; refine wpList_append_move rfl (.tmp 24) (.tmp 26) 29 rfl w.heap.size 3 i0 (.int .i64 0) 8 Tryd.underlying29 hi hz0 hz1 hz2 rfl x2 m _ rfl (k2.1.alloc _) ⟨w2.heap.size, 0, none⟩ 1 1 [.int .i64 (p : Int)] rfl rfl (by decide) (by exact news_one _ _ _ _ rfl) (one_cell_int _ _) (by unfold maxLen; omega) (by omega) (by simp; omega) ?_; intro y2 w3 ho3 hm3; have HN : Hid (RC w (G ++ [(r, p)]) (m + 1) y1 y2 w3) := H1.out.step ho2.out hm2.out ho3.out hm3.out; clear ho2 hm2 ho3 hm3 k2 b2 H1))
        go_roundw
        case rel => exact ⟨p + s.toNat, m + 1, G ++ [(r, p)], y1, y2, by omega, by omega, by go_num, rfl, rfl, HN, by exact ⟨by simp [HG.out.1], HST.out⟩⟩
        case measure => simp [intOf]; omega
    · obtain rfl : p = n := by omega
      have hG := cut_done l p G hn.out HG.out.2
      subst hG
      have hm := HG.out.1
      clear HG
      have hs1 := HI.out.bel.size
      have HO1 : Hid (wr.ownsRow w.heap.size 3 1 x1 m (I64 (runesOf (cut l)))) := HI.out.o1
      go_wp2_with (at_builtin; refine wpList_append_move rfl (.tmp 32) (.tmp 34) 29 rfl w.heap.size 3 i0 (.int .i64 0) 8 Tryd.underlying29 hi hz0 hz1 hz2 rfl x2 m _ rfl (HI.out.o2.alloc _) ⟨wr.heap.size, 0, none⟩ 1 1 [.int .i64 (p : Int)] rfl rfl (by decide) (by exact news_one _ _ _ _ rfl) (one_cell_int _ _) (by unfold maxLen; omega) (by omega) (by simp; omega) ?_; intro y2 w3 ho3 hm3)
      go_ret2
      have k3 := moved_kept hm3.out HI.out.o1 HI.out.dj
      have b3 := moved_below hm3.out HI.out.o2 HI.out.bel hs1
      refine ⟨_, _, rfl, by rw [← hm]; exact k3.1, ?_, b3⟩
      rw [← hm, ← hn.out]
      simpa [placesOf, I64] using ho3.out
end Go.Proofs.YtjglehklfdhgaaaDoor
