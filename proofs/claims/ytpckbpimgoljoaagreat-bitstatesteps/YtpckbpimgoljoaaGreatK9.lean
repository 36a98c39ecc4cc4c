/- HELPERS: options. -/
import Derived.Test.YtpckbpimgoljoaaGreatFb
/- HELPERS: the JOIN of runs. -/
namespace Go.Proofs.YtpckbpimgoljoaaGreat
open Go.RowKit
set_option linter.unusedVariables false
set_option linter.unusedSimpArgs false
theorem moved_below {w : World} {B : Nat} {W w3 : World} {v v' : Value} (hb : Below B W w) (hB : B ≤ w.heap.size) (hv : ∀ k, v.ownBlock = some k → B ≤ k) (hm : Moved w w3 v v') : Below B W w3 ∧ w.heap.size ≤ w3.heap.size := by
  have hs3 : w.heap.size ≤ w3.heap.size := by rcases hm with ⟨_, h⟩ | ⟨_, h⟩ <;> exact h.size
  have hold : ∀ k, k < B → w3.heap[k]? = w.heap[k]? := fun k hk => moved_old' hm (by omega) (fun e => by have := hv k e; omega)
  refine ⟨⟨?_, ?_, ?_, by have := hb.size; omega, fun k hk => (hold k hk).trans (hb.block k hk)⟩, hs3⟩
  · rcases hm with ⟨_, h⟩ | ⟨_, h⟩ <;> exact h.os.trans hb.os
  · rcases hm with ⟨_, h⟩ | ⟨_, h⟩ <;> exact h.tape.trans hb.tape
  · rcases hm with ⟨_, h⟩ | ⟨_, h⟩ <;> exact h.output.trans hb.output
/-- runs with the places of their forms -/
abbrev Rn := Nat × (Tn × Nat)
abbrev rcs (x : Rn) : List Value := [pt x.1, .int .i64 (x.2.2 : Int)]
theorem rcs_at : ∀ (l : List Rn) (i : Nat) (hi : i < l.length), (l.flatMap rcs)[i * 2]? = some (pt l[i].1) ∧ (l.flatMap rcs)[i * 2 + 1]? = some (.int .i64 (l[i].2.2 : Int)) := by
  intro l
  induction l with
  | nil => intro i hi; simp at hi
  | cons x l ih =>
    intro i hi
    cases i with
    | zero => simp
    | succ i =>
      have := ih i (by simpa using hi)
      have hf : (x :: l).flatMap rcs = rcs x ++ l.flatMap rcs := by simp
      rw [hf, show (i + 1) * 2 = i * 2 + 2 by omega, List.getElem?_append_right (by simp), show i * 2 + 2 + 1 = i * 2 + 1 + 2 by omega, List.getElem?_append_right (by simp)]
      simpa using this
theorem info92 : (Tryz.prog.info? 119).map (fun i => (i.zero, i.size, i.bytes)) = some (some (.agg #[.pointer none, .int .i64 0]), 2, 16) := by kernel_rfl
/-- a row of runs of one's own, as one that is read -/
theorem rv_of {w : World} {A : Nat → Prop} {base : Nat} {ad : Option Addr} {n c : Nat} {K : List Rn} (h : w.ownsRow base 119 2 (.slice ad n c) K.length (K.flatMap rcs)) (hB : ∀ b, base ≤ b → b < w.heap.size → A b) : RV w A ad (fun i => (K.getD i (0, emptyT, 0)).1) (K.map (·.2)) := fun hp => by
  rcases h.2 with ⟨e, h0⟩ | ⟨b, cap, cur, e, _⟩
  · simp at hp; omega
  · have hrow := h
    rw [e] at hrow
    simp only [Value.slice.injEq] at e
    refine ⟨b, 0, e.1, hB b (hrow.lt b rfl).1 (hrow.lt b rfl).2, fun i hi => ?_⟩
    simp only [List.length_map] at hi
    have h2 := rcs_at K i hi
    rw [Nat.zero_add, hrow.cellAt (i * 2) (by omega), hrow.cellAt (i * 2 + 1) (by omega), h2.1, h2.2]
    simp [List.getD_eq_getElem?_getD, List.getElem?_eq_getElem hi]
/-- the runs as they came in -/
def runsOf (fs : Nat → Nat) (l : List (Tn × Nat)) : List Rn := (List.range l.length).map fun i => (fs i, l.getD i (emptyT, 0))
theorem runsOf_len (fs : Nat → Nat) (l : List (Tn × Nat)) : (runsOf fs l).length = l.length := by simp [runsOf]
theorem runsOf_snd (fs : Nat → Nat) (l : List (Tn × Nat)) : (runsOf fs l).map (·.2) = l := by
  apply List.ext_getElem (by simp [runsOf])
  intro i h1 h2
  simp [runsOf, List.getD_eq_getElem?_getD, List.getElem?_eq_getElem h2]
theorem runsOf_at (fs : Nat → Nat) (l : List (Tn × Nat)) (i : Nat) (hi : i < l.length) : (runsOf fs l)[i]'(by rw [runsOf_len]; exact hi) = (fs i, l[i]) := by
  simp [runsOf, List.getD_eq_getElem?_getD, List.getElem?_eq_getElem hi]
def keptOf (fs : Nat → Nat) (l : List (Tn × Nat)) (i : Nat) : List Rn := ((runsOf fs l).take i).filter fun x => keep x.2
theorem keptOf_step (fs : Nat → Nat) (l : List (Tn × Nat)) (i : Nat) (hi : i < l.length) : keptOf fs l (i + 1) = keptOf fs l i ++ (if keep l[i] then [(fs i, l[i])] else []) := by
  unfold keptOf
  rw [List.take_succ_eq_append_getElem (by rw [runsOf_len]; exact hi), List.filter_append, runsOf_at fs l i hi]
  congr 1
  simp only [List.filter_cons, List.filter_nil]
theorem keptOf_all (fs : Nat → Nat) (l : List (Tn × Nat)) : (keptOf fs l l.length).map (·.2) = l.filter keep := by
  unfold keptOf
  rw [List.take_of_length_le (by rw [runsOf_len]; exact Nat.le_refl _)]
  have h := runsOf_snd fs l
  conv => rhs; rw [← h]
  rw [List.filter_map]
  rfl
theorem timesOf_append (a b : List (Tn × Nat)) : timesOf (a ++ b) = timesOf a + timesOf b := by
  induction a with
  | nil => simp [timesOf]
  | cons x a ih => simp only [List.cons_append, timesOf, ih]; omega
theorem timesOf_le {l : List (Tn × Nat)} (h : ∀ x ∈ l, x.2 ≤ 1000) : timesOf l ≤ l.length * 1000 := by
  induction l with
  | nil => simp [timesOf]
  | cons x l ih => simp only [timesOf, List.length_cons]; have := h x (by simp); have := ih (fun y hy => h y (by simp [hy])); omega
theorem keptOf_mem {fs : Nat → Nat} {l : List (Tn × Nat)} {i : Nat} {x : Rn} (h : x ∈ keptOf fs l i) : ∃ j, ∃ hj : j < l.length, x = (fs j, l[j]) ∧ keep l[j] = true := by
  unfold keptOf at h
  rw [List.mem_filter] at h
  have h1 := List.mem_of_mem_take h.1
  obtain ⟨j, hj, hx⟩ := List.getElem_of_mem h1
  rw [runsOf_len] at hj
  rw [runsOf_at fs l j hj] at hx
  exact ⟨j, hj, hx.symm, by rw [← hx] at h; exact h.2⟩
theorem keptOf_len (fs : Nat → Nat) (l : List (Tn × Nat)) (i : Nat) (hi : i ≤ l.length) : (keptOf fs l i).length ≤ i := by
  unfold keptOf
  refine Nat.le_trans (List.length_filter_le _ _) ?_
  rw [List.length_take, runsOf_len]; omega
set_option maxRecDepth 100000 in
set_option maxHeartbeats 8000000 in
theorem join43 (A : Nat → Prop) (ad : Option Addr) (c : Nat) (fs : Nat → Nat) (l : List (Tn × Nat)) (w : World) (hA : ∀ b, A b → b < w.heap.size) (hv : RV w A ad fs l) (ht : ∀ x ∈ l, x.2 ≤ 1000) (hl : l.length ≤ 200000) (hs : ∀ i (hi : i < l.length), FA w A (fs i) l[i].1) (hd : ∀ x ∈ l, x.1.depth ≤ 4000000000) :
    Calls Tryz.prog 36 #[.slice ad l.length c] w fun e w' => ∃ f, e = .returned (pt f) ∧ FA w' (New A w w') f (joinT l) ∧ Below w.heap.size w w' := by
  obtain ⟨i0, hi0, hz0, hz1, hz2⟩ := info_parts info92
  obtain ⟨n, hn⟩ : ∃ n, n = l.length := ⟨_, rfl⟩
  rw [← hn]
  obtain ⟨z, hz⟩ : ∃ z, z = w.heap.size := ⟨_, rfl⟩
  have HS := hid hs
  have HV := hid hv
  have HN := hid hn
  have HT := hid ht
  have HDD := hid hd
  have HZ := hid hz
  have HAA := hid hA
  have hn2 : n ≤ 200000 := by omega
  clear hs hv hn ht hd hz hA
  go_enter Tryz.func36, Tryz.ntmps36
  go_wp2_with fail
  go_loopw [3, 4, 9] (fun u t y wq => ∃ i : Nat, y = .int .i64 (i : Int) ∧ i ≤ n ∧ Hid (Below z w wq) ∧ ∃ tt : Nat, t = .int .i64 (tt : Int) ∧ Hid (tt = timesOf ((keptOf fs l i).map (·.2))) ∧ tt ≤ 200000000 ∧ Hid (wq.ownsRow z 119 2 u (keptOf fs l i).length ((keptOf fs l i).flatMap rcs))) (fun _ _ y _ => n - (intOf y).toNat)
  case atStart => exact ⟨0, rfl, by omega, (by have := Below.refl z w; exact this), 0, rfl, by simp [keptOf, timesOf, Hid], by omega, World.ownsRow_nil _ _ _ _⟩
  case round =>
    obtain ⟨i, rfl, hi, BK, tt, rfl, HTT, htl, HO⟩ := hrel
    by_cases hil : i < n
    · have b1 : decide ((i : Int) < (n : Int)) = true := by simp; omega
      have b2 : (i : Int) < (n : Int) := by omega
      have ad1 : IntKind.i64.wrap ((i : Int) + 1) = (i : Int) + 1 := by simp [IntKind.wrap, IntKind.bits, IntKind.signed]; omega
      have hil' : i < l.length := by have := HN.out; omega
      obtain ⟨b, o, rfl, hba, hcs⟩ := HV.out (by omega)
      have hb := HAA.out b hba
      obtain ⟨e0, e1⟩ := hcs i hil'
      have hbz : b < z := by have := HZ.out; omega
      have hbw := BK.out.block b hbz
      have u0 := (cell_eq hbw (o + i * 2)).trans e0
      have u1 := (cell_eq hbw (o + i * 2 + 1)).trans e1
      obtain ⟨hfa, N0, ev, hc, hk0⟩ := (HS.out i hil').cells
      have hfl := HAA.out _ hfa
      obtain ⟨c0, c9, c10, c11⟩ := (hc.kept (BK.out.block _ (by have := HZ.out; omega))).num
      rw [hk0] at c0
      have hst := keptOf_step fs l i hil'
      have htt := HT.out _ (List.getElem_mem hil')
      have hKl := keptOf_len fs l i (by omega)
      obtain ⟨f, hf⟩ : ∃ f, f = fs i := ⟨_, rfl⟩
      obtain ⟨X, hX⟩ : ∃ X, X = l[i] := ⟨_, rfl⟩
      obtain ⟨m, hm⟩ : ∃ m, m = X.2 := ⟨_, rfl⟩
      obtain ⟨kd, hkd⟩ : ∃ kd, kd = X.1.kind := ⟨_, rfl⟩
      rw [← hf] at u0 c0 hfl hst
      rw [← hX] at u1 c0 hst htt
      rw [← hm] at u1 htt
      rw [← hkd] at c0
      have hkp : keep X = (decide (0 < m) && !(kd == 1)) := by rw [hm, hkd]; rfl
      have hfz : f < z := by have := HZ.out; omega
      have hzl : z ≤ wr.heap.size := by have := BK.out.size; have := HZ.out; omega
      obtain ⟨K, hK⟩ : ∃ K, K = keptOf fs l i := ⟨_, rfl⟩
      rw [← hK] at hst HTT HO hKl
      obtain ⟨p, hp⟩ : ∃ p, p = K.length := ⟨_, rfl⟩
      have HST := hid hst
      have HKP := hid hkp
      have HM := hid hm
      have HPL := hid hp
      have hpi : p ≤ i := by omega
      rw [← hp] at HO
      clear hfa hba hf hX hm hkd hc hk0 hbw e0 e1 c9 c10 c11 hcs hst hkp hK hp
      go_upto_region 6 with fail
      obtain ⟨V, hV⟩ : ∃ V, V = wr.alloc (.cells #[pt f, .int .i64 (m : Int)] 119) := ⟨_, rfl⟩
      rw [← hV]
      obtain ⟨x, hx⟩ : ∃ x, x = wr.heap.size := ⟨_, rfl⟩
      have hVo : ∀ b, b < wr.heap.size → V.heap[b]? = wr.heap[b]? := fun b hb => by rw [hV]; exact heap_alloc_old wr _ hb
      have hVx : V.heap[x]? = some (.cells #[pt f, .int .i64 (m : Int)] 119 (0, 0)) := by rw [hV, hx]; exact heap_alloc_new wr _
      have g0 := (cell_eq (hVo f (by omega)) 0).trans c0
      have r0 : V.cell? ⟨x, 0, none⟩ = some (pt f) := Joins.cell_of_block hVx 0
      have r1 : V.cell? ⟨x, 1, none⟩ = some (.int .i64 (m : Int)) := Joins.cell_of_block hVx 1
      have hbV : Below z w V := by rw [hV]; exact BK.out.alloc (by omega) _
      have hOV : V.ownsRow z 119 2 u3 p (K.flatMap rcs) := by rw [hV]; exact HO.out.alloc _
      rw [← hx]
      have HBV := hid hbV
      have HOV := hid hOV
      have hxV : x < V.heap.size := (Array.getElem?_eq_some_iff.1 hVx).1
      have HVX := hid hVx
      have HXZ := hid (show z ≤ x by omega)
      have HXO : Hid (u3.ownBlock ≠ some x) := fun e => by have := (HO.out.lt x e).2; omega
      clear c0 u0 u1 hV hx hVo hVx hbV BK HO hOV
      have hskip : keep X = false → ∀ P : Nat, Hid (Below z w (V.drewN P)) → True := fun _ _ _ => trivial
      clear hskip
      by_cases hm0 : m = 0
      · have g1 : decide ((m : Int) > 0) = false := by simp; omega
        have g2 : decide (0 < m) = false := by simp; omega
        have hk : keep X = false := by rw [HKP.out, g2]; rfl
        go_wp2
        have hst := HST.out
        rw [hk] at hst
        simp only [Bool.false_eq_true, if_false, List.append_nil] at hst
        refine ⟨⟨i + 1, by push_cast; rfl, by omega, HBV.out, tt, rfl, ?_, htl, ?_⟩, by simp [intOf]; omega⟩
        · rw [hst]; exact HTT.out
        · rw [hst, ← HPL.out]; exact HOV.out
      · have g1 : decide ((m : Int) > 0) = true := by simp; omega
        have g2 : decide (0 < m) = true := by simp; omega
        by_cases hk1 : kd = 1
        · have g3 : (kd != 1) = false := by simp [hk1]
          have hk : keep X = false := by rw [HKP.out, hk1]; simp
          go_wp2
          have hst := HST.out
          rw [hk] at hst
          simp only [Bool.false_eq_true, if_false, List.append_nil] at hst
          refine ⟨⟨i + 1, by push_cast; rfl, by omega, HBV.out, tt, rfl, ?_, htl, ?_⟩, by simp [intOf]; omega⟩
          · rw [hst]; exact HTT.out
          · rw [hst, ← HPL.out]; exact HOV.out
        · have g3 : (kd != 1) = true := by simp [hk1]
          have hk : keep X = true := by rw [HKP.out, g2]; simp [hk1]
          have hst := HST.out
          rw [hk] at hst
          simp only [if_true] at hst
          have HS2 := hid hst
          have tw : IntKind.i64.wrap ((tt : Int) + (m : Int)) = (tt : Int) + (m : Int) := by simp [IntKind.wrap, IntKind.bits, IntKind.signed]; omega
          clear hst
          obtain ⟨V2, hV2⟩ : ∃ V2, V2 = V.alloc (.cells #[pt f, .int .i64 (m : Int)] 119) := ⟨_, rfl⟩
          have hO2 : V2.ownsRow z 119 2 u3 p (K.flatMap rcs) := by rw [hV2]; exact HOV.out.alloc _
          have hN2 : V2.heap[V.heap.size]? = some (.cells #[pt f, .int .i64 (m : Int)] 119 (0, 0)) := by rw [hV2]; exact heap_alloc_new V _
          have hX2 : V2.heap[x]? = some (.cells #[pt f, .int .i64 (m : Int)] 119 (0, 0)) := by rw [hV2]; exact (heap_alloc_old V _ hxV).trans HVX.out
          have hb2 : Below z w V2 := by rw [hV2]; exact HBV.out.alloc (by have := HXZ.out; omega) _
          have hnews : ∀ j u, [pt f, .int .i64 (m : Int)][j]? = some u → V2.cell? ((⟨V.heap.size, 0, none⟩ : Addr).add j) = some u := fun j u hj => by
            rw [Addr.add_mid, Nat.zero_add]
            rw [Joins.cell_of_block hN2 j]
            simpa using hj
          have hs2 : V.heap.size < V2.heap.size := (Array.getElem?_eq_some_iff.1 hN2).1
          have HO2 := hid hO2
          have HX2 := hid hX2
          have HB2 := hid hb2
          have HNW := hid hnews
          have HV2 := hid hV2
          clear hO2 hX2 hb2 hnews hV2 hN2
          go_upto_region 7 with fail
          go_upto_region 8 with (at_builtin; rw [← HV2.out]; refine wpList_append_moveN rfl (.tmp 25) (.tmp 27) 90 rfl z 119 i0 (.agg #[.pointer none, .int .i64 0]) 2 16 Tryz.underlying90 hi0 hz0 hz1 hz2 rfl (by decide) u3 p (K.flatMap rcs) rfl HO2.out ⟨V.heap.size, 0, none⟩ 1 1 [pt f, .int .i64 (m : Int)] rfl rfl (by decide) HNW.out (by simp [Value.oneCell']) (by unfold maxLen; omega) (by omega) (by have := HXZ.out; omega) ?_; intro v5 w5 ho5 hm5)
          have hX5 := (moved_old' hm5.out (by omega) HXO.out).trans HX2.out
          have r15 : w5.cell? ⟨x, 1, none⟩ = some (.int .i64 (m : Int)) := Joins.cell_of_block hX5 1
          have hb5 := moved_below HB2.out (by have := HXZ.out; omega) (fun k hk => (HO2.out.lt k hk).1) hm5.out
          have HB5 := hid hb5.1
          clear hb5 hX5 r0 r1 g0
          go_wp2
          refine ⟨⟨i + 1, by push_cast; rfl, by omega, HB5.out, tt + m, by push_cast; rfl, ?_, ?_, ?_⟩, by simp [intOf]; omega⟩
          · show tt + m = _
            rw [HS2.out, List.map_append, timesOf_append, ← HTT.out]
            simp [timesOf, HM.out]
          · have h1 : timesOf ((keptOf fs l (i + 1)).map (·.2)) ≤ 200000000 := by
              refine Nat.le_trans (timesOf_le (fun y hy => ?_)) ?_
              · obtain ⟨x', hx', rfl⟩ := List.mem_map.1 hy
                obtain ⟨j, hj, rfl, _⟩ := keptOf_mem hx'
                exact HT.out _ (List.getElem_mem hj)
              · have := keptOf_len fs l (i + 1) (by omega)
                simp only [List.length_map]
                omega
            rw [HS2.out, List.map_append, timesOf_append, ← HTT.out] at h1
            simp [timesOf] at h1
            have := HM.out
            omega
          · have h := ho5.out
            rw [HPL.out, HM.out] at h
            rw [HS2.out, List.length_append, List.flatMap_append]
            have h' : w5.ownsRow z 119 2 v5 (K.length + [(f, X)].length) (K.flatMap rcs ++ [(f, X)].flatMap rcs) := h
            exact h'
    · have b1 : decide ((i : Int) < (n : Int)) = false := by simp; omega
      obtain rfl : i = n := by omega
      have hall := keptOf_all fs l
      rw [← HN.out] at hall
      obtain ⟨K, hK⟩ : ∃ K, K = keptOf fs l i := ⟨_, rfl⟩
      have hKm : ∀ x ∈ K, ∃ j, ∃ hj : j < l.length, x = (fs j, l[j]) ∧ keep l[j] = true := fun x hx => keptOf_mem (by rw [← hK]; exact hx)
      have hKl := keptOf_len fs l i (by have := HN.out; omega)
      rw [← hK] at hall HTT HO hKl
      have hjT : joinT l = joinK (K.map (·.2)) := by unfold joinT; rw [hall]
      have hzl : z ≤ wr.heap.size := by have := BK.out.size; have := HZ.out; omega
      have hkk : ∀ b, b < w.heap.size → wr.heap[b]? = w.heap[b]? := fun b hb => BK.out.block b (by have := HZ.out; omega)
      have hFAk : ∀ x ∈ K, FA wr (New A w wr) x.1 x.2.1 := fun x hx => by
        obtain ⟨j, hj, rfl, _⟩ := hKm x hx
        exact (HS.out j hj).kept (fun b hb => hkk b (HAA.out b hb)) (fun b hb => .inl hb)
      have hKt : ∀ x ∈ K.map (·.2), 0 < x.2 ∧ x.2 ≤ 1000 := fun x hx => by
        obtain ⟨y, hy, rfl⟩ := List.mem_map.1 hx
        obtain ⟨j, hj, rfl, h⟩ := hKm y hy
        simp only [keep, Bool.and_eq_true, decide_eq_true_eq] at h
        exact ⟨h.1, HT.out _ (List.getElem_mem hj)⟩
      have hKd : ∀ x ∈ K.map (·.2), x.1.depth ≤ 4000000000 := fun x hx => by
        obtain ⟨y, hy, rfl⟩ := List.mem_map.1 hx
        obtain ⟨j, hj, rfl, h⟩ := hKm y hy
        exact HDD.out _ (List.getElem_mem hj)
      have HF := hid hFAk
      have HKT := hid hKt
      have HKD := hid hKd
      have HJT := hid hjT
      have HLK := hid hKl
      clear hall hKm hjT hkk hFAk hKt hKd hK hKl
      by_cases ht0 : tt = 0
      · have g1 : ((tt : Int) == 0) = true := by simp [ht0]
        have HC := empty61 A wr
        subst ht0
        go_wp2_with (first | (go_at_call 66; (with_reducible refine HC.mono ?_); rintro e w1 ⟨f, rfl, hf, hb⟩; have HFF := hid hf; have HB1 := hid hb; clear hf hb HC))
        all_goals go_ret
        all_goals
          refine ⟨f, rfl, ?_, ?_⟩
          · rw [HJT.out]; unfold joinK; rw [if_pos HTT.out.symm]; exact HFF.out.kept (fun _ _ => rfl) (fun b hb => hb.more (by have := HZ.out; omega) (Nat.le_refl _))
          · rw [← HZ.out]; exact BK.out.trans (Joins.below_le HB1.out hzl)
      · have g1 : ((tt : Int) == 0) = false := by simp [ht0]
        by_cases ht1 : tt = 1
        · have g2 : ((tt : Int) == 1) = true := by simp [ht1]
          subst ht1
          obtain ⟨y, hy⟩ : ∃ y, K = [y] := by
            have h1 := HTT.out
            have h2 := HKT.out
            cases K with
            | nil => simp [timesOf] at h1
            | cons y K =>
              cases K with
              | nil => exact ⟨y, rfl⟩
              | cons y' K =>
                simp only [List.map_cons, timesOf] at h1
                have := h2 y.2 (by simp)
                have := h2 y'.2 (by simp)
                omega
          subst hy
          have hrow := HO.out
          obtain ⟨bb, cc, rfl⟩ : ∃ bb cc, u3 = .slice (some ⟨bb, 0, none⟩) 1 cc := by
            rcases hrow.2 with ⟨e, h0⟩ | ⟨g, cap, cur, e, _⟩
            · simp at h0
            · exact ⟨g, cap, e⟩
          have q0 : wr.cell? ⟨bb, 0, none⟩ = some (pt y.1) := by rw [hrow.cellAt 0 (by simp)]; rfl
          clear hrow
          go_wp2
          all_goals go_ret
          all_goals
            refine ⟨y.1, rfl, ?_, ?_⟩
            · rw [HJT.out]; unfold joinK
              have h1 : timesOf ([y].map (·.2)) = 1 := HTT.out.symm
              rw [if_neg (by omega), if_pos h1]
              exact HF.out y (by simp)
            · rw [← HZ.out]; exact BK.out
        · have g2 : ((tt : Int) == 1) = false := by simp; omega
          obtain ⟨ka, kc, rfl, hkc, hkm⟩ := row_shape HO.out
          have hrv := rv_of (A := New A w wr) HO.out (fun b h1 h2 => .inr ⟨by have := HZ.out; omega, h2⟩)
          have hKp : 0 < (K.map (·.2)).length := by
            rcases Nat.eq_zero_or_pos (K.map (·.2)).length with h | h
            · have h1 := HTT.out
              rw [List.length_eq_zero_iff.1 h] at h1
              simp [timesOf] at h1
              omega
            · exact h
          have HC := row45 (New A w wr) 4 ka kc _ (K.map (·.2)) wr (.inl rfl) (New.low HAA.out (by have := HZ.out; omega)) hrv HKT.out (by have := HLK.out; simp; omega) hKp (fun j hj => by
            simp only [List.length_map] at hj
            have := HF.out K[j] (List.getElem_mem hj)
            simpa [List.getD_eq_getElem?_getD, List.getElem?_eq_getElem hj] using this) HKD.out
          simp only [List.length_map] at HC
          clear hrv hKp hkm hkc
          go_wp2_with (first | (go_at_call 38; (with_reducible refine HC.mono ?_); rintro e w1 ⟨f, rfl, hf, hb⟩; have HFF := hid hf; have HB1 := hid hb; clear hf hb HC))
          all_goals go_ret
          all_goals
            refine ⟨f, rfl, ?_, ?_⟩
            · rw [HJT.out]; unfold joinK
              have h1 := HTT.out
              rw [if_neg (by omega), if_neg (by omega)]
              exact HFF.out.kept (fun _ _ => rfl) (fun b hb => hb.trans HB1.out.size (by have := HZ.out; omega))
            · rw [← HZ.out]; exact BK.out.trans (Joins.below_le HB1.out hzl)
end Go.Proofs.YtpckbpimgoljoaaGreat
namespace Go.Proofs.YtpckbpimgoljoaaGreat
open Go.RowKit
set_option linter.unusedVariables false
set_option linter.unusedSimpArgs false
/-- a node in a block -/
abbrev BN (w : World) (b : Nat) (N : Nv) : Prop := w.heap[b]? = some (.cells #[.int .i64 N.k, .slice N.r1 N.r2 N.r3, .int .i64 N.a2, .slice N.s1 N.s2 N.s3, .int .i64 N.a4, .int .i64 N.a5, .bool N.a6, .int .i64 N.a7, .string N.a8] 25 (0, 0))
theorem optT_dle (y : Tn) (lz : Bool) (n : Nat) : (optT y lz n).depth ≤ y.depth + 2 * n + 1 := by
  cases n with
  | zero => simp [optT, Tn.depth, depthL]
  | succ n =>
    rw [optT_depth]
    have : n * (1 + if y.kind = 1 then 0 else 1) ≤ n * 2 := Nat.mul_le_mul_left _ (by split <;> omega)
    omega
theorem two_runs {w : World} {A : Nat → Prop} {z g f : Nat} {y o : Tn} {m : Nat} (hz : w.heap[z]? = some (.cells #[pt g, .int .i64 (m : Int), pt f, .int .i64 1] 119 (0, 0))) (hzA : A z) : RV w A (some ⟨z, 0, none⟩) (fun i => if i = 0 then g else f) [(y, m), (o, 1)] := fun _ => by
  refine ⟨z, 0, rfl, hzA, fun i hi => ?_⟩
  have h0 : w.cell? ⟨z, 0, none⟩ = some (pt g) := Joins.cell_of_block hz 0
  have h1 : w.cell? ⟨z, 1, none⟩ = some (.int .i64 (m : Int)) := Joins.cell_of_block hz 1
  have h2 : w.cell? ⟨z, 2, none⟩ = some (pt f) := Joins.cell_of_block hz 2
  have h3 : w.cell? ⟨z, 3, none⟩ = some (.int .i64 1) := Joins.cell_of_block hz 3
  have : i = 0 ∨ i = 1 := by simp at hi; omega
  rcases this with rfl | rfl
  · exact ⟨h0, h1⟩
  · exact ⟨h2, h3⟩
/-- the JOIN of a run and a form -/
theorem join_pair {w : World} {A : Nat → Prop} {z g f : Nat} {y o : Tn} {m : Nat} (hz : w.heap[z]? = some (.cells #[pt g, .int .i64 (m : Int), pt f, .int .i64 1] 119 (0, 0))) (hm : m ≤ 1000) (hA : ∀ b, A b → b < w.heap.size) (hzA : A z) (hg : FA w A g y) (hf : FA w A f o) (dy : y.depth ≤ 4000000000) (dO : o.depth ≤ 4000000000) :
    Calls Tryz.prog 36 #[.slice (some ⟨z, 0, none⟩) 2 2] w fun e w' => ∃ f', e = .returned (pt f') ∧ FA w' (New A w w') f' (joinT [(y, m), (o, 1)]) ∧ Below w.heap.size w w' := by
  refine join43 A (some ⟨z, 0, none⟩) 2 _ [(y, m), (o, 1)] w hA (two_runs hz hzA) ?_ (by simp) ?_ ?_
  · intro x hx; simp at hx; rcases hx with rfl | rfl <;> simp <;> omega
  · intro i hi
    have : i = 0 ∨ i = 1 := by simp at hi; omega
    rcases this with rfl | rfl
    · exact hg
    · exact hf
  · intro x hx; simp at hx; rcases hx with rfl | rfl <;> assumption
theorem wrapN (x : Nat) (h : x ≤ 4611686018427387904) : IntKind.i64.wrap (x : Int) = (x : Int) := by simp [IntKind.wrap, IntKind.bits, IntKind.signed]; omega
theorem wrapNN (x y : Nat) (h : x + y ≤ 4611686018427387904) : IntKind.i64.wrap ((x : Int) + (y : Int)) = (x : Int) + (y : Int) := by simp [IntKind.wrap, IntKind.bits, IntKind.signed]; omega
set_option maxRecDepth 100000 in
set_option maxHeartbeats 8000000 in
theorem opt65 (A : Nat → Prop) (g : Nat) (y : Tn) (n : Nat) (lz : Bool) (w : World) (hA : ∀ b, A b → b < w.heap.size) (hg : FA w A g y) (hn : n ≤ 1000) (hd : y.depth ≤ 1000000000) :
    Calls Tryz.prog 70 #[pt g, .int .i64 (n : Int), .bool lz] w fun e w' => ∃ f, e = .returned (pt f) ∧ FA w' (New A w w') f (optT y lz n) ∧ Below w.heap.size w w' := by
  obtain ⟨W, hW⟩ : ∃ W, W = ((w.alloc (.cells #[pt g] 76)).alloc (.cells #[.int .i64 (n : Int)] 3)).alloc (.cells #[.bool lz] 4) := ⟨_, rfl⟩
  obtain ⟨t0, t1, t2, t3⟩ := three_new w (.cells #[pt g] 76) (.cells #[.int .i64 (n : Int)] 3) (.cells #[.bool lz] 4)
  have hbW : Below w.heap.size w W := by rw [hW]; exact ((Joins.below_alloc1 w _).alloc (by simp) _).alloc (by simp; omega) _
  have hsW : W.heap.size = w.heap.size + 1 + 1 + 1 := by rw [hW]; simp
  rw [← hW] at t0 t1 t2
  obtain ⟨z, hz⟩ : ∃ z, z = w.heap.size := ⟨_, rfl⟩
  rw [← hz] at t0 t1 t2 hsW
  have hgW : FA W A g y := hg.up hA hbW (fun _ h => h)
  have HAW : Hid (∀ b, A b → b < W.heap.size) := fun b hb => by have := hA b hb; have := hbW.size; omega
  have c0 := bx0 t0
  have c1 := bx0 t1
  have c2 := bx0 t2
  have HBW := hid hbW
  have HGW := hid hgW
  have HZ := hid hz
  have HSW := hid hsW
  have T0 := hid t0
  have T1 := hid t1
  have T2 := hid t2
  clear hg hbW hgW hsW t0 t1 t2 t3 hA
  rcases Nat.eq_zero_or_pos n with h0 | h0
  · have b0 : ((n : Int) == 0) = true := by simp; omega
    have H0 := hid h0
    clear h0
    have HC := empty61 A W
    go_enter Tryz.func70, Tryz.ntmps70
    go_upto_region 1 with fail
    rw [← hz, ← hW]
    clear hW hz
    go_wp2_with (first | (go_at_call 66; (with_reducible refine HC.mono ?_); rintro e w1 ⟨f, rfl, hf, hb⟩; have HFF := hid hf; have HB1 := hid hb; clear hf hb HC))
    all_goals go_ret
    all_goals rw [H0.out]
    all_goals exact ⟨f, rfl, HFF.out.kept (fun _ _ => rfl) (fun b hb => hb.more HBW.out.size (Nat.le_refl _)), HBW.out.trans (Joins.below_le HB1.out (by have := HZ.out; have := HSW.out; omega))⟩
  · have b0 : ((n : Int) == 0) = false := by simp; omega
    have HC := loop66 0 1 lz W
    go_enter Tryz.func70, Tryz.ntmps70
    go_upto_region 1 with fail
    rw [← hz, ← hW]
    clear hW hz
    go_upto_region 4 with (first | (go_at_call 71; (with_reducible refine HC.mono ?_); rintro e w1 ⟨rfl, hb⟩; have HB1 := hid hb; clear hb HC))
    obtain ⟨Q, hQ⟩ : ∃ Q, Q = w1.alloc (.cells #[.int .i64 6, .slice none 0 0, .int .i64 0, .slice none 0 0, .int .i64 0, .int .i64 1, .bool lz, .int .i64 0, .string ⟨#[]⟩] 25) := ⟨_, rfl⟩
    rw [← hQ]
    obtain ⟨qb, hqb⟩ : ∃ qb, qb = w1.heap.size := ⟨_, rfl⟩
    rw [← hqb]
    have hbQ : Below W.heap.size W Q := by rw [hQ]; exact HB1.out.alloc HB1.out.size _
    have hBN : BN Q qb (NO 6 0 1 lz 0 ⟨#[]⟩) := by rw [hQ, hqb]; exact heap_alloc_new w1 _
    have hzQ : z + 1 + 1 < W.heap.size := by have := HSW.out; omega
    have hqW : W.heap.size ≤ qb := by rw [hqb]; exact HB1.out.size
    have d0 := bx0 ((hbQ.block z (by omega)).trans T0.out)
    have d1 := bx0 ((hbQ.block (z + 1) (by omega)).trans T1.out)
    obtain ⟨q0, q1, q2, q3, q4, q5, q6, q7, q8⟩ := nine' hBN
    have hAQ : ∀ b, A b → b < Q.heap.size := fun b hb => by have := HAW.out b hb; have := hbQ.size; omega
    have HC2 := over47 A 6 0 1 lz 0 ⟨#[]⟩ g y Q (ok_NO 6 0 1 lz 0 ⟨#[]⟩ (by decide) (by decide) (by decide) (by decide) (Nat.zero_le _)) hAQ (HGW.out.up HAW.out hbQ (fun _ h => h)) (by omega)
    have HAQ := hid hAQ
    have HBQ := hid hbQ
    have HBN := hid hBN
    have hqQ : qb < Q.heap.size := (Array.getElem?_eq_some_iff.1 hBN).1
    clear hQ hqb hbQ hBN c0 c1 c2 HB1 hAQ
    by_cases h1 : n = 1
    · have b1 : ((n : Int) == 1) = true := by simp; omega
      have H1 := hid h1
      clear h1
      go_upto_region 5 with (first | (go_at_call 40; (with_reducible refine HC2.mono ?_); rintro e w2 ⟨f1, rfl, hf1, hb2⟩; have HF1 := hid hf1; have HB2 := hid hb2; have d12 := bx0 ((hb2.block (z + 1) (by omega)).trans ((HBQ.out.block (z + 1) (by omega)).trans T1.out)); clear hf1 hb2 HC2))
      go_wp2
      all_goals go_ret
      all_goals rw [H1.out]
      all_goals exact ⟨f1, rfl, HF1.out.kept (fun _ _ => rfl) (fun b hb => hb.more (Nat.le_trans HBW.out.size HBQ.out.size) (Nat.le_refl _)), (HBW.out.trans (Joins.below_le HBQ.out (by have := HZ.out; omega))).trans (Joins.below_le HB2.out (by have := HZ.out; omega))⟩
    · have b1 : ((n : Int) == 1) = false := by simp; omega
      go_upto_region 5 with (first | (go_at_call 40; (with_reducible refine HC2.mono ?_); rintro e w2 ⟨f1, rfl, hf1, hb2⟩; have HF1 := hid hf1; have HB2 := hid hb2; have d12 := bx0 ((hb2.block (z + 1) (by omega)).trans ((HBQ.out.block (z + 1) (by omega)).trans T1.out)); clear hf1 hb2 HC2))
      go_upto_region 7 with fail
      have hzs : W.heap.size ≤ Q.heap.size := HBQ.out.size
      have hs2 : Q.heap.size ≤ w2.heap.size := HB2.out.size
      obtain ⟨V, hV⟩ : ∃ V, V = (w2.alloc (.cells #[pt g, .int .i64 1, pt f1, .int .i64 1] 119)).drew := ⟨_, rfl⟩
      have hVb : Below w2.heap.size w2 V := by rw [hV]; exact (Joins.below_alloc1 w2 _).trans (Joins.below_le (below_drew _) (by simp))
      have hVn : V.heap[w2.heap.size]? = some (.cells #[pt g, .int .i64 ((1 : Nat) : Int), pt f1, .int .i64 1] 119 (0, 0)) := by rw [hV]; exact heap_alloc_new w2 _
      have hgy2 : FA w2 A g y := (HGW.out.up HAW.out HBQ.out (fun _ h => h)).up HAQ.out HB2.out (fun _ h => h)
      have hA2 : ∀ b, A b → b < w2.heap.size := fun b hb => by have := HAQ.out b hb; omega
      have hsV : V.heap.size = w2.heap.size + 1 := by rw [hV]; show (w2.alloc _).heap.size = _; simp
      have HC3 := join_pair (A := New A Q V) hVn (by omega) (New.low HAQ.out (by omega)) (.inr ⟨by omega, by omega⟩) (hgy2.up hA2 hVb (fun b hb => .inl hb)) (HF1.out.up (New.low HAQ.out hs2) hVb (fun b hb => hb.more (Nat.le_refl _) (by omega))) (by omega) (by rw [loopT_depth]; omega)
      have hS : ∀ w3, Below w2.heap.size w2 w3 → w3.cell? ⟨qb, 0, none⟩ = some (.int .i64 6) ∧ w3.cell? ⟨qb, 1, none⟩ = some (.slice none 0 0) ∧ w3.cell? ⟨qb, 2, none⟩ = some (.int .i64 0) ∧ w3.cell? ⟨qb, 3, none⟩ = some (.slice none 0 0) ∧ w3.cell? ⟨qb, 4, none⟩ = some (.int .i64 0) ∧ w3.cell? ⟨qb, 5, none⟩ = some (.int .i64 1) ∧ w3.cell? ⟨qb, 6, none⟩ = some (.bool lz) ∧ w3.cell? ⟨qb, 7, none⟩ = some (.int .i64 0) ∧ w3.cell? ⟨qb, 8, none⟩ = some (.string ⟨#[]⟩) ∧ w3.cell? ⟨z, 0, none⟩ = some (pt g) := fun w3 h3 => by
        have hq3 := (h3.block qb (by omega)).trans ((HB2.out.block qb hqQ).trans HBN.out)
        have hz3 := (h3.block z (by omega)).trans ((HB2.out.block z (by omega)).trans ((HBQ.out.block z (by omega)).trans T0.out))
        obtain ⟨q0, q1, q2, q3, q4, q5, q6, q7, q8⟩ := nine' hq3
        exact ⟨q0, q1, q2, q3, q4, q5, q6, q7, q8, bx0 hz3⟩
      have HSS := hid hS
      have HVB := hid hVb
      have HD2 := hid (below_drew w2)
      have HGY := hid hgy2
      have HVV := hid hV
      have HSV := hid hsV
      clear hsV hA2 hS hVb hVn hgy2 d0 d1 d12 q0 q1 q2 q3 q4 q5 q6 q7 q8
      go_region_held2 (fun w3 => w3.cell? ⟨qb, 0, none⟩ = some (.int .i64 6) ∧ w3.cell? ⟨qb, 1, none⟩ = some (.slice none 0 0) ∧ w3.cell? ⟨qb, 2, none⟩ = some (.int .i64 0) ∧ w3.cell? ⟨qb, 3, none⟩ = some (.slice none 0 0) ∧ w3.cell? ⟨qb, 4, none⟩ = some (.int .i64 0) ∧ w3.cell? ⟨qb, 5, none⟩ = some (.int .i64 1) ∧ w3.cell? ⟨qb, 6, none⟩ = some (.bool lz) ∧ w3.cell? ⟨qb, 7, none⟩ = some (.int .i64 0) ∧ w3.cell? ⟨qb, 8, none⟩ = some (.string ⟨#[]⟩) ∧ w3.cell? ⟨z, 0, none⟩ = some (pt g))
        (first | exact HSS.out _ HD2.out | exact HSS.out _ HVB.out | exact HSS.out _ (HD2.out.alloc (Nat.le_refl _) _) | exact HSS.out _ (HVB.out.trans (Joins.below_le HB4.out HVB.out.size)) | exact HSS.out _ (HVB.out.trans (Joins.below_le (HB4.out.trans (Joins.below_le HB5.out HB4.out.size)) HVB.out.size)))
        (first | (go_at_call 36; rw [← HVV.out]; (with_reducible refine HC3.mono ?_); rintro e w4 ⟨j4, rfl, hj4, hb4⟩; have HC4 := over47 (New (New A Q V) V w4) 6 0 1 lz 0 ⟨#[]⟩ j4 _ w4 (ok_NO 6 0 1 lz 0 ⟨#[]⟩ (by decide) (by decide) (by decide) (by decide) (Nat.zero_le _)) (New.low (New.low HAQ.out (by have := HSV.out; omega)) hb4.size) hj4 (by rw [join_two_depth _ _ rfl (by rw [loopT_depth]; omega), loopT_depth]; split <;> omega); have HB4 := hid hb4; clear hb4 hj4 HC3) | (go_at_call 40; (with_reducible refine HC4.mono ?_); rintro e w5 ⟨f2, rfl, hf2, hb5⟩; have HF2 := hid hf2; have HB5 := hid hb5; clear hf2 hb5 HC4))
      all_goals
        obtain ⟨m, hm⟩ : ∃ m, n = m + 2 := ⟨n - 2, by omega⟩
        have hb25 : Below w2.heap.size w2 w5 := HVB.out.trans (Joins.below_le (HB4.out.trans (Joins.below_le HB5.out HB4.out.size)) HVB.out.size)
        have z45 : w4.heap.size ≤ w5.heap.size := HB5.out.size
        have zV4 : V.heap.size ≤ w4.heap.size := HB4.out.size
        have hsV := HSV.out
        have hF1 : FA w5 (New A Q w5) f1 (optT y lz 1) := HF1.out.up (New.low HAQ.out hs2) hb25 (fun b hb => hb.more (Nat.le_refl _) (by omega))
        have hF2 : FA w5 (New A Q w5) f2 (optT y lz 2) := HF2.out.kept (fun _ _ => rfl) (fun b hb => (hb.trans z45 zV4).trans (by omega) (by omega))
        have hG5 : FA w5 A g y := HGY.out.up (fun b hb => by have := HAQ.out b hb; omega) hb25 (fun _ h => h)
        have hA5 : ∀ b, New A Q w5 b → b < w5.heap.size := New.low HAQ.out (by omega)
        have HA5 : Hid (∀ b, A b → b < w5.heap.size) := fun b hb => hA5 b (.inl hb)
        obtain ⟨hf1a, N1, ev1, hc1, _⟩ := hF1.cells
        obtain ⟨hf2a, N2, ev2, hc2, _⟩ := hF2.cells
        have hf1l := hA5 _ hf1a
        have hf2l := hA5 _ hf2a
        clear hf1a hf2a hA5 hsV
        obtain ⟨_, _, x10, x11⟩ := hc1.num
        obtain ⟨_, _, y10, y11⟩ := hc2.num
        have eN := optT_capN y lz m
        have eD := optT_dep y lz m
        have dd1 := optT_dle y lz 1
        have dd2 := optT_dle y lz 2
        have le1 : (optT y lz 1).depth ≤ (optT y lz 2).depth := by rw [optT_depth y lz 0, optT_depth y lz 1]; omega
        have le2 : capN (optT y lz 1).nodes ≤ capN (optT y lz 2).nodes := by rw [optT_nodes y lz 0, optT_nodes y lz 1]; unfold capN; omega
        rw [← hm] at eN eD
        have cle : capN (optT y lz 2).nodes ≤ 200001 := by unfold capN; omega
        obtain ⟨a, ha⟩ : ∃ a, a = capN (optT y lz 1).nodes := ⟨_, rfl⟩
        obtain ⟨b, hb⟩ : ∃ b, b = capN (optT y lz 2).nodes := ⟨_, rfl⟩
        obtain ⟨d1, hd1⟩ : ∃ d1, d1 = (optT y lz 1).depth := ⟨_, rfl⟩
        obtain ⟨d2, hd2⟩ : ∃ d2, d2 = (optT y lz 2).depth := ⟨_, rfl⟩
        rw [← ha] at x10 eN le2
        rw [← hb] at y10 eN le2 cle
        rw [← hd1] at x11 eD le1 dd1
        rw [← hd2] at y11 eD le1 dd2
        clear ha hb hd1 hd2 hc1 hc2
        have m1 : (m + 1) * (b - a) ≤ 1000 * 200001 := Nat.mul_le_mul (by omega) (by omega)
        have m2 : (m + 1) * (d2 - d1) ≤ 1000 * 1000000005 := Nat.mul_le_mul (by omega) (by omega)
        have c1 : ((n : Int) - 1) * ((b : Int) - (a : Int)) = (((m + 1) * (b - a) : Nat) : Int) := by rw [hm]; push_cast [le2]; congr 1; omega
        have c2 : ((n : Int) - 1) * ((d2 : Int) - (d1 : Int)) = (((m + 1) * (d2 - d1) : Nat) : Int) := by rw [hm]; push_cast [le1]; congr 1; omega
        have w1' : IntKind.i64.wrap ((n : Int) - 1) = (n : Int) - 1 := by simp [IntKind.wrap, IntKind.bits, IntKind.signed]; omega
        have w2' : IntKind.i64.wrap ((b : Int) - (a : Int)) = (b : Int) - (a : Int) := by simp [IntKind.wrap, IntKind.bits, IntKind.signed]; omega
        have w3' : IntKind.i64.wrap (((n : Int) - 1) * ((b : Int) - (a : Int))) = ((n : Int) - 1) * ((b : Int) - (a : Int)) := by rw [c1]; exact wrapN _ (by omega)
        have w4' : IntKind.i64.wrap ((a : Int) + ((n : Int) - 1) * ((b : Int) - (a : Int))) = (a : Int) + ((n : Int) - 1) * ((b : Int) - (a : Int)) := by rw [c1]; exact wrapNN _ _ (by omega)
        have w5' : IntKind.i64.wrap ((d2 : Int) - (d1 : Int)) = (d2 : Int) - (d1 : Int) := by simp [IntKind.wrap, IntKind.bits, IntKind.signed]; omega
        have w6' : IntKind.i64.wrap (((n : Int) - 1) * ((d2 : Int) - (d1 : Int))) = ((n : Int) - 1) * ((d2 : Int) - (d1 : Int)) := by rw [c2]; exact wrapN _ (by omega)
        have w7' : IntKind.i64.wrap ((d1 : Int) + ((n : Int) - 1) * ((d2 : Int) - (d1 : Int))) = (d1 : Int) + ((n : Int) - 1) * ((d2 : Int) - (d1 : Int)) := by rw [c2]; exact wrapNN _ _ (by omega)
        have HC6 : ∀ W' : World, Calls Tryz.prog 67 #[.int .i64 ((a : Int) + ((n : Int) - 1) * ((b : Int) - (a : Int)))] W' fun e w' => e = .returned (.int .i64 ((capN (a + (m + 1) * (b - a)) : Nat) : Int)) ∧ w' = W' := fun W' => by
          have := atMost62 (a + (m + 1) * (b - a)) W' (by omega)
          rwa [show ((a + (m + 1) * (b - a) : Nat) : Int) = (a : Int) + ((n : Int) - 1) * ((b : Int) - (a : Int)) by rw [c1]; push_cast; rfl] at this
        have eD' : ((optT y lz n).depth : Int) = (d1 : Int) + ((n : Int) - 1) * ((d2 : Int) - (d1 : Int)) := by rw [c2, eD]; push_cast; rfl
        rw [← eN] at HC6
        have hS5 : ∀ w3, Below w5.heap.size w5 w3 → (w3.cell? ⟨qb, 0, none⟩ = some (.int .i64 6) ∧ w3.cell? ⟨qb, 1, none⟩ = some (.slice none 0 0) ∧ w3.cell? ⟨qb, 2, none⟩ = some (.int .i64 0) ∧ w3.cell? ⟨qb, 3, none⟩ = some (.slice none 0 0) ∧ w3.cell? ⟨qb, 4, none⟩ = some (.int .i64 0) ∧ w3.cell? ⟨qb, 5, none⟩ = some (.int .i64 1) ∧ w3.cell? ⟨qb, 6, none⟩ = some (.bool lz) ∧ w3.cell? ⟨qb, 7, none⟩ = some (.int .i64 0) ∧ w3.cell? ⟨qb, 8, none⟩ = some (.string ⟨#[]⟩) ∧ w3.cell? ⟨z, 0, none⟩ = some (pt g)) ∧
            w3.cell? ⟨z + 1, 0, none⟩ = some (.int .i64 (n : Int)) ∧ w3.cell? ⟨f1, 10, none⟩ = some (.int .i64 (a : Int)) ∧ w3.cell? ⟨f1, 11, none⟩ = some (.int .i64 (d1 : Int)) ∧ w3.cell? ⟨f2, 10, none⟩ = some (.int .i64 (b : Int)) ∧ w3.cell? ⟨f2, 11, none⟩ = some (.int .i64 (d2 : Int)) := fun w3 h3 => by
          refine ⟨HSS.out _ (hb25.trans (Joins.below_le h3 hb25.size)), ?_, (cell_eq (h3.block f1 hf1l) _).trans x10, (cell_eq (h3.block f1 hf1l) _).trans x11, (cell_eq (h3.block f2 hf2l) _).trans y10, (cell_eq (h3.block f2 hf2l) _).trans y11⟩
          have := hb25.size
          exact bx0 ((h3.block (z + 1) (by omega)).trans ((hb25.block (z + 1) (by omega)).trans ((HB2.out.block (z + 1) (by omega)).trans ((HBQ.out.block (z + 1) (by omega)).trans T1.out))))
        have HS5 := hid hS5
        have HD5 := hid (below_drew w5)
        have HEN := hid eN
        have HED := hid eD'
        have HM := hid hm
        have HB25 := hid hb25
        have HG5 := hid hG5
        clear hS5 eN eD eD' hm hb25 hG5 hF1 hF2 x10 x11 y10 y11 c1 c2 HSS
        obtain ⟨AA, hAA⟩ : ∃ AA, AA = capN (optT y lz n).nodes := ⟨_, rfl⟩
        rw [← hAA] at HC6
        have HA := hid hAA
        clear hAA
        go_upto_region 8 with fail
        go_region_held2 (fun w3 => (w3.cell? ⟨qb, 0, none⟩ = some (.int .i64 6) ∧ w3.cell? ⟨qb, 1, none⟩ = some (.slice none 0 0) ∧ w3.cell? ⟨qb, 2, none⟩ = some (.int .i64 0) ∧ w3.cell? ⟨qb, 3, none⟩ = some (.slice none 0 0) ∧ w3.cell? ⟨qb, 4, none⟩ = some (.int .i64 0) ∧ w3.cell? ⟨qb, 5, none⟩ = some (.int .i64 1) ∧ w3.cell? ⟨qb, 6, none⟩ = some (.bool lz) ∧ w3.cell? ⟨qb, 7, none⟩ = some (.int .i64 0) ∧ w3.cell? ⟨qb, 8, none⟩ = some (.string ⟨#[]⟩) ∧ w3.cell? ⟨z, 0, none⟩ = some (pt g)) ∧
            w3.cell? ⟨z + 1, 0, none⟩ = some (.int .i64 (n : Int)) ∧ w3.cell? ⟨f1, 10, none⟩ = some (.int .i64 (a : Int)) ∧ w3.cell? ⟨f1, 11, none⟩ = some (.int .i64 (d1 : Int)) ∧ w3.cell? ⟨f2, 10, none⟩ = some (.int .i64 (b : Int)) ∧ w3.cell? ⟨f2, 11, none⟩ = some (.int .i64 (d2 : Int)))
          (first | exact HS5.out _ HD5.out | exact HS5.out _ (HD5.out.alloc (Nat.le_refl _) _))
          (first | (go_at_call 67; (with_reducible refine (HC6 _).mono ?_); rintro e w6 ⟨rfl, hw1⟩; have hw2 := hw1.symm; clear hw1; subst hw2))
        all_goals
          go_wp2
          go_ret
          have hz := HZ.out
          have hs := HSW.out
          have h25 := HB25.out.size
          have hall : Below w.heap.size w w5 := ((HBW.out.trans (Joins.below_le HBQ.out (by omega))).trans (Joins.below_le HB2.out (by omega))).trans (Joins.below_le HB25.out (by omega))
          have hnew : Below w.heap.size w (w5.alloc (.cells (FV (NO 6 0 1 lz 0 ⟨#[]⟩) (.func (.func 98) #[] #[pt z, pt (z + 1), pt (z + 1 + 1)]) AA ((d1 : Int) + ((n : Int) - 1) * ((d2 : Int) - (d1 : Int)))) 81)).drew := (hall.alloc (by omega) _).trans (Joins.below_le (below_drew _) (by simp; omega))
          have hsz : (w5.alloc (.cells (FV (NO 6 0 1 lz 0 ⟨#[]⟩) (.func (.func 98) #[] #[pt z, pt (z + 1), pt (z + 1 + 1)]) AA ((d1 : Int) + ((n : Int) - 1) * ((d2 : Int) - (d1 : Int)))) 81)).drew.heap.size = w5.heap.size + 1 := by show (w5.alloc _).heap.size = _; simp
          have hnn : (w5.alloc (.cells (FV (NO 6 0 1 lz 0 ⟨#[]⟩) (.func (.func 98) #[] #[pt z, pt (z + 1), pt (z + 1 + 1)]) AA ((d1 : Int) + ((n : Int) - 1) * ((d2 : Int) - (d1 : Int)))) 81)).drew.heap[w5.heap.size]? = some (.cells (FV (NO 6 0 1 lz 0 ⟨#[]⟩) (.func (.func 98) #[] #[pt z, pt (z + 1), pt (z + 1 + 1)]) AA ((d1 : Int) + ((n : Int) - 1) * ((d2 : Int) - (d1 : Int)))) 81 (0, 0)) := heap_alloc_new w5 _
          have hold : ∀ b, b < w5.heap.size → (w5.alloc (.cells (FV (NO 6 0 1 lz 0 ⟨#[]⟩) (.func (.func 98) #[] #[pt z, pt (z + 1), pt (z + 1 + 1)]) AA ((d1 : Int) + ((n : Int) - 1) * ((d2 : Int) - (d1 : Int)))) 81)).drew.heap[b]? = w5.heap[b]? := fun b hb => heap_alloc_old w5 _ hb
          generalize (w5.alloc (.cells (FV (NO 6 0 1 lz 0 ⟨#[]⟩) (.func (.func 98) #[] #[pt z, pt (z + 1), pt (z + 1 + 1)]) AA ((d1 : Int) + ((n : Int) - 1) * ((d2 : Int) - (d1 : Int)))) 81)).drew = U at hnew hsz hnn hold ⊢
          have hzz : ∀ b, b < W.heap.size → U.heap[b]? = W.heap[b]? := fun b hb => (hold b (by omega)).trans ((HB25.out.block b (by omega)).trans ((HB2.out.block b (by omega)).trans (HBQ.out.block b hb)))
          refine ⟨w5.heap.size, rfl, ?_, hnew⟩
          have hm := HM.out
          subst hm
          refine .opt (b1 := z) (b2 := z + 1) (b3 := z + 1 + 1) (g := g) (n := m) (.inr ⟨by omega, by omega⟩) ?_ ((hzz z (by omega)).trans T0.out) ((hzz (z + 1) (by omega)).trans T1.out) ((hzz (z + 1 + 1) (by omega)).trans T2.out) (.inr ⟨by omega, by omega⟩) (.inr ⟨by omega, by omega⟩) (.inr ⟨by omega, by omega⟩) hn hd (HG5.out.kept (fun b hb => hold b (HA5.out b hb)) (fun b hb => .inl hb))
          unfold FC
          rw [HED.out, ← HA.out]
          exact hnn
end Go.Proofs.YtpckbpimgoljoaaGreat
