/- HELPERS: the groups that stand in a tree. -/
import Derived.Test.YtdidopgenhpakaaHd
import Derived.Test.YtdidopgenhpakaaSd
import Derived.BigQuiet
namespace Go.Proofs.Ytdidopgenhpakaa
open Go.RowKit
set_option linter.unusedVariables false
set_option linter.unusedSimpArgs false
abbrev gi (L : List (Int × ByteArray)) : List Value := L.map fun p => .int .i64 p.1
abbrev gs' (L : List (Int × ByteArray)) : List Value := L.map fun p => .string p.2
/-- groups in memory: their numbers, their names -/
structure GR (x : Nat) (w : World) (va vb : Value) (L : List (Int × ByteArray)) : Prop where
  ra : w.ownsRow x 3 1 va L.length (gi L)
  rb : w.ownsRow x 9 1 vb L.length (gs' L)
  ap : ∀ c, va.ownBlock = some c → vb.ownBlock ≠ some c
abbrev FG (va vb : Value) : List Nat := va.ownBlock.toList ++ vb.ownBlock.toList
theorem GR.below {x : Nat} {w w' : World} {va vb va' vb' : Value} {L : List (Int × ByteArray)} (h : GR x w va vb L) (hc : Chg w w' (FG va vb) (FG va' vb')) (hx : x ≤ w.heap.size) : Below x w w' := by
  refine ⟨hc.os, hc.tape, hc.output, hc.size, fun c hk => hc.block c (by omega) fun hm => ?_⟩
  simp only [FG, List.mem_append, Option.mem_toList] at hm
  rcases hm with hm | hm
  · have := (h.ra.lt c hm).1; omega
  · have := (h.rb.lt c hm).1; omega
theorem GR.kept {x : Nat} {w w' : World} {va vb : Value} {L : List (Int × ByteArray)} (h : GR x w va vb L) (hb : Below w.heap.size w w') : GR x w' va vb L :=
  ⟨row_kept h.ra fun c hc => hb.block c (h.ra.lt c hc).2, row_kept h.rb fun c hc => hb.block c (h.rb.lt c hc).2, h.ap⟩
theorem GR.low {x : Nat} {w : World} {va vb : Value} {L : List (Int × ByteArray)} (h : GR x w va vb L) : ∀ c ∈ FG va vb, c < w.heap.size := fun c hm => by
  simp only [FG, List.mem_append, Option.mem_toList] at hm
  rcases hm with hm | hm
  · exact (h.ra.lt c hm).2
  · exact (h.rb.lt c hm).2
theorem grpL_take (L : List (Int × ByteArray)) : ∀ (ts : List Tn) (i : Nat) (hi : i < ts.length), grpL (ts.take (i + 1)) L = ts[i].grp (grpL (ts.take i) L) := by
  intro ts
  induction ts generalizing L with
  | nil => intro i hi; simp at hi
  | cons t ts ih =>
    intro i hi
    cases i with
    | zero => simp [grpL]
    | succ i =>
      simp only [List.take_succ_cons, grpL, List.getElem_cons_succ]
      exact ih (t.grp L) i (by simpa using hi)
theorem info3g : (Try.prog.info? 3).map (fun i => (i.zero, i.size, i.bytes)) = some (some (.int .i64 0), 1, 8) := by kernel_rfl
theorem info9 : (Try.prog.info? 9).map (fun i => (i.zero, i.size, i.bytes)) = some (some (.string ⟨#[]⟩), 1, 16) := by kernel_rfl
theorem lit1 {W : World} {p : Nat} {v : Value} {t : TypeId} (h : W.heap[p]? = some (.cells #[v] t (0, 0))) : ∀ j u, [v][j]? = some u → W.cell? ((⟨p, 0, none⟩ : Addr).add j) = some u := fun j u hj => by
  rw [Addr.add_mid, Nat.zero_add, Joins.cell_of_block h j]
  simpa using hj
/-- a cell of a row that was gathered -/
theorem gi_at {x : Nat} {w : World} {va : Value} {L : List (Int × ByteArray)} (h : w.ownsRow x 3 1 va L.length (gi L)) (hp : 0 < L.length) : ∃ b c, va = .slice (some ⟨b, 0, none⟩) L.length c ∧ ∀ i (hi : i < L.length), w.cell? ⟨b, i, none⟩ = some (.int .i64 L[i].1) := by
  rcases h.2 with ⟨_, h0⟩ | ⟨g, cap, cur, e, _⟩
  · omega
  · have hr := h
    rw [e] at hr
    refine ⟨g, cap, e, fun i hi => ?_⟩
    rw [hr.cellAt i (by omega)]
    simp [List.getElem?_eq_getElem hi]
theorem gs_at {x : Nat} {w : World} {va : Value} {L : List (Int × ByteArray)} (h : w.ownsRow x 9 1 va L.length (gs' L)) (hp : 0 < L.length) : ∃ b c, va = .slice (some ⟨b, 0, none⟩) L.length c ∧ ∀ i (hi : i < L.length), w.cell? ⟨b, i, none⟩ = some (.string L[i].2) := by
  rcases h.2 with ⟨_, h0⟩ | ⟨g, cap, cur, e, _⟩
  · omega
  · have hr := h
    rw [e] at hr
    refine ⟨g, cap, e, fun i hi => ?_⟩
    rw [hr.cellAt i (by omega)]
    simp [List.getElem?_eq_getElem hi]
set_option maxRecDepth 100000 in
set_option maxHeartbeats 8000000 in
theorem groups26 {w0 : World} {B : Nat} {N : Nv} {t : Tn} (h : TI w0 B N t) : ∀ (x : Nat) (va vb : Value) (L : List (Int × ByteArray)) (w : World), B ≤ x → x ≤ w.heap.size → (∀ b, b < B → w.heap[b]? = w0.heap[b]?) → GR x w va vb L → L.length + t.nodes ≤ 400000 →
    Calls Try.prog 26 #[N.v, va, vb] w fun e w' => ∃ va' vb', e = .returned (.tuple #[va', vb']) ∧ GR x w' va' vb' (t.grp L) ∧ Chg w w' (FG va vb) (FG va' vb') := by
  induction h with
  | @mk N R ts ND ok hr hR hRk hs hS hk ih =>
  intro x va vb L w hBx hx hw hg hlb
  have hnn : (Tn.mk N.k R N.a2 ts N.a4 N.a5 N.a6 N.a7 N.a8).nodes = 1 + nodesL ts := by simp only [Tn.nodes]
  rw [hnn] at hlb
  have hgr : (Tn.mk N.k R N.a2 ts N.a4 N.a5 N.a6 N.a7 N.a8).grp L = if N.k = 6 ∧ N.a5 = 0 then L else grpL ts (if N.k = 7 then addG L N.a7 N.a8 else L) := by simp only [Tn.grp]
  rw [hgr]
  have hnl := nodes_ge ts
  have hBW : Below w.heap.size w (w.alloc (.cells #[.int .i64 N.k, .slice N.r1 N.r2 N.r3, .int .i64 N.a2, .slice N.s1 N.s2 N.s3, .int .i64 N.a4, .int .i64 N.a5, .bool N.a6, .int .i64 N.a7, .string N.a8] 25)) := Joins.below_alloc1 w _
  have hBN : BN (w.alloc (.cells #[.int .i64 N.k, .slice N.r1 N.r2 N.r3, .int .i64 N.a2, .slice N.s1 N.s2 N.s3, .int .i64 N.a4, .int .i64 N.a5, .bool N.a6, .int .i64 N.a7, .string N.a8] 25)) w.heap.size N := heap_alloc_new w _
  obtain ⟨W, hW⟩ : ∃ W, W = w.alloc (.cells #[.int .i64 N.k, .slice N.r1 N.r2 N.r3, .int .i64 N.a2, .slice N.s1 N.s2 N.s3, .int .i64 N.a4, .int .i64 N.a5, .bool N.a6, .int .i64 N.a7, .string N.a8] 25) := ⟨_, rfl⟩
  have hSW : W.heap.size = w.heap.size + 1 := by rw [hW]; simp
  have hCW : Chg w W (FG va vb) (FG va vb) := by rw [hW]; exact (Chg.refl w _).alloc _
  rw [← hW] at hBN hBW
  obtain ⟨z, hz⟩ : ∃ z, z = w.heap.size := ⟨_, rfl⟩
  rw [← hz] at hBN hSW
  have hzF : z ∉ FG va vb := fun hm => by have := hg.low z hm; omega
  obtain ⟨k, r1, r2, r3, a2, s1, s2, s3, a4, a5, a6, a7, a8⟩ := N
  obtain ⟨q0, q1, q2, q3, q4, q5, q6, q7, q8⟩ := nine' hBN
  dsimp only at hs hS hW hgr q0 q1 q2 q3 q4 q5 q6 q7 q8 ⊢
  have hm2 : s2 ≤ 400000 := by omega
  have S1 := hid (hg.kept hBW)
  have S2 := hid hCW
  have S3 := hid hBN
  have S4 := hid hzF
  have HR0 := hid hg
  have HXW := hid hx
  have HBX := hid hBx
  have HZ := hid hz
  have HSS := hid hS
  have HIH := hid ih
  have HL := hid hs
  have HW := hid hw
  have HLB := hid hlb
  have HSW := hid hSW
  clear hBW hBN hSW hCW hzF hS ih hk ok hr hR hRk hs hw hnn hnl hgr hlb hBx hx hg
  obtain ⟨G, hG⟩ : ∃ G, G = if k = 6 ∧ a5 = 0 then L else grpL ts (if k = 7 then addG L a7 a8 else L) := ⟨_, rfl⟩
  rw [← hG]
  have HGG := hid hG
  clear hG
  by_cases hA : k = 6 ∧ a5 = 0
  · have HGR : Hid (G = L) := by rw [HGG.out, if_pos hA]; exact rfl
    obtain ⟨rfl, rfl⟩ := hA
    go_enter Try.func26, Try.ntmps26
    go_upto_region 1 with fail
    rw [← hz, ← hW]
    clear hW hz
    go_wp2
    all_goals go_ret2
    all_goals exact ⟨va, vb, rfl, by rw [HGR.out]; exact S1.out, S2.out⟩
  have hG2 : G = grpL ts (if k = 7 then addG L a7 a8 else L) := by rw [HGG.out, if_neg hA]
  by_cases h7 : k = 7
  · subst h7
    simp only [if_true] at hG2
    have HG2 := hid hG2
    clear hG2 hA HGG
    obtain ⟨ua, ca, hva, hca, _⟩ := row_shape S1.out.ra
    obtain ⟨ub, cb, hvb, hcb, _⟩ := row_shape S1.out.rb
    obtain ⟨n, hn⟩ : ∃ n, n = L.length := ⟨_, rfl⟩
    rw [← hn] at hva hvb
    subst hva hvb
    have HN := hid hn
    have hnb : n ≤ 400000 := by have := HLB.out; omega
    have hzl : z < W.heap.size := by have := HSW.out; omega
    obtain ⟨i3, hi3, hz30, hz31, hz32⟩ := info_parts info3g
    obtain ⟨i9, hi9, hz90, hz91, hz92⟩ := info_parts info9
    clear hn hca hcb
    go_enter Try.func26, Try.ntmps26
    go_upto_region 1 with fail
    rw [← hz, ← hW]
    clear hW hz
    go_wp2_with fail
    go_loopw [8, 9] (fun u y wq => ∃ i : Nat, y = .int .i64 (i : Int) ∧ i ≤ n ∧ (∃ hb : Bool, u = .bool hb ∧ Hid (hb = hasG (L.take i) a7 a8)) ∧ Hid (Below W.heap.size W wq)) (fun _ y _ => n - (intOf y).toNat)
    case atStart => exact ⟨0, rfl, by omega, ⟨false, rfl, rfl⟩, Below.refl _ _⟩
    case round =>
      obtain ⟨i, rfl, hi, ⟨hb, rfl, HHB⟩, BK⟩ := hrel
      clear q0 q1 q2 q3 q4 q5 q6 q7 q8
      have hB1 := (BK.out.block z hzl).trans S3.out
      obtain ⟨q0, q1, q2, q3, q4, q5, q6, q7, q8⟩ := nine' hB1
      have hG1 := S1.out.kept BK.out
      by_cases hil : i < n
      · have b1 : decide ((i : Int) < (n : Int)) = true := by simp; omega
        have b2 : (i : Int) < (n : Int) := by omega
        have ad1 : IntKind.i64.wrap ((i : Int) + 1) = (i : Int) + 1 := by simp [IntKind.wrap, IntKind.bits, IntKind.signed]; omega
        have hil' : i < L.length := by have := HN.out; omega
        obtain ⟨ba, ca2, ea, hca⟩ := gi_at hG1.ra (by omega)
        obtain ⟨bb, cb2, eb, hcb⟩ := gs_at hG1.rb (by omega)
        have c1 := hca i hil'
        have c2 := hcb i hil'
        have hst := hasG_take L a7 a8 i hil'
        obtain ⟨i0, hi0⟩ : ∃ i0, i0 = L[i].1 := ⟨_, rfl⟩
        obtain ⟨s0, hs0⟩ : ∃ s0, s0 = L[i].2 := ⟨_, rfl⟩
        rw [← hi0] at c1 hst
        rw [← hs0] at c2 hst
        simp only [Value.slice.injEq] at ea eb
        obtain ⟨rfl, _, _⟩ := ea
        obtain ⟨rfl, _, _⟩ := eb
        rw [← HHB.out] at hst
        have HST := hid hst
        clear hca hcb hi0 hs0 hst hG1 hB1
        cases hb
        · by_cases hi7 : i0 = a7
          · have e1 : (i0 == a7) = true := by simpa using hi7
            cases hsb : (s0.toList == a8.toList)
            · go_upto_region 8 with fail
              go_quiet (fail)
              go_wp2
              refine ⟨⟨i + 1, by push_cast; rfl, by omega, ⟨false, rfl, ?_⟩, ⟨BK.out.os, BK.out.tape, BK.out.output, BK.out.size, BK.out.block⟩⟩, by simp [intOf]; omega⟩
              show false = _
              rw [HST.out, e1, hsb]; rfl
            · go_upto_region 8 with fail
              go_quiet (fail)
              go_wp2
              refine ⟨⟨i + 1, by push_cast; rfl, by omega, ⟨true, rfl, ?_⟩, ⟨BK.out.os, BK.out.tape, BK.out.output, BK.out.size, BK.out.block⟩⟩, by simp [intOf]; omega⟩
              show true = _
              rw [HST.out, e1, hsb]; rfl
          · have e1 : (i0 == a7) = false := by simpa using hi7
            go_upto_region 8 with fail
            go_quiet (fail)
            go_wp2
            refine ⟨⟨i + 1, by push_cast; rfl, by omega, ⟨false, rfl, ?_⟩, ⟨BK.out.os, BK.out.tape, BK.out.output, BK.out.size, BK.out.block⟩⟩, by simp [intOf]; omega⟩
            show false = _
            rw [HST.out, e1]; rfl
        · go_upto_region 8 with fail
          go_quiet (fail)
          go_wp2
          refine ⟨⟨i + 1, by push_cast; rfl, by omega, ⟨true, rfl, ?_⟩, ⟨BK.out.os, BK.out.tape, BK.out.output, BK.out.size, BK.out.block⟩⟩, by simp [intOf]; omega⟩
          show true = _
          rw [HST.out]; rfl
      · have b1 : decide ((i : Int) < (n : Int)) = false := by simp; omega
        have hin : i = n := by omega
        have hhb : hb = hasG L a7 a8 := by have := HHB.out; rw [hin, HN.out, List.take_length] at this; exact this
        have hCr : Chg w wr (FG (.slice ua n ca) (.slice ub n cb)) (FG (.slice ua n ca) (.slice ub n cb)) := S2.out.trans (chg_of_below BK.out (Chg.refl wr _))
        have L1 := hid hG1
        have L2 := hid hCr
        have L3 := hid hB1
        have HHH := hid hhb
        clear hG1 hCr hB1 hin hhb HHB
        cases hb
        · have HGR : Hid (G = grpL ts (L ++ [(a7, a8)])) := by
            rw [HG2.out]; unfold addG; rw [← HHH.out]; exact rfl
          obtain ⟨V, hV⟩ : ∃ V, V = wr.alloc (.cells #[.int .i64 a7] 3) := ⟨_, rfl⟩
          have hbV : Below wr.heap.size wr V := by rw [hV]; exact Joins.below_alloc1 wr _
          have hVn : V.heap[wr.heap.size]? = some (.cells #[.int .i64 a7] 3 (0, 0)) := by rw [hV]; exact heap_alloc_new wr _
          have hVs : V.heap.size = wr.heap.size + 1 := by rw [hV]; simp
          have hGV := L1.out.kept hbV
          have hxr : x ≤ wr.heap.size := by have := L2.out.size; have := HXW.out; omega
          have hzr : z < wr.heap.size := (Array.getElem?_eq_some_iff.1 L3.out).1
          have hzf := S4.out
          simp only [FG, List.mem_append, Option.mem_toList, not_or] at hzf
          have HZ1 := hid hzf.1
          have HZ2 := hid hzf.2
          have HRA : Hid (V.ownsRow x 3 1 (.slice ua n ca) n (gi L)) := by have := hGV.ra; rw [← HN.out] at this; exact this
          have HLT := hid (lit1 hVn)
          have HVV := hid hV
          have HBV := hid hbV
          have HVS := hid hVs
          have HGV := hid hGV
          clear hV hbV hVn hVs hGV hzf
          go_upto_region 10 with fail
          go_upto_region 11 with (at_builtin; rw [← HVV.out]; refine wpList_append_moveN rfl (.tmp 51) (.tmp 54) 43 rfl x 3 i3 (.int .i64 0) 1 8 Try.underlying43 hi3 hz30 hz31 hz32 rfl (by decide) (.slice ua n ca) n (gi L) rfl HRA.out ⟨wr.heap.size, 0, none⟩ 1 1 [.int .i64 a7] rfl rfl (by decide) HLT.out (by simp [Value.oneCell']) (by unfold maxLen; omega) (by omega) (by have := HVS.out; omega) ?_; intro v5 w5 ho5 hm5)
          have hs5 : V.heap.size ≤ w5.heap.size := by rcases hm5.out with ⟨_, h⟩ | ⟨_, h⟩ <;> exact h.size
          have hB5 : BN w5 z ⟨7, r1, r2, r3, a2, s1, s2, s3, a4, a5, a6, a7, a8⟩ := (moved_old' hm5.out (by have := HVS.out; omega) HZ1.out).trans ((HBV.out.block z hzr).trans L3.out)
          have hrb5 : w5.ownsRow x 9 1 (.slice ub n cb) n (gs' L) := by
            have h := HGV.out.rb
            rw [← HN.out] at h
            exact row_kept h fun c hc => moved_old' hm5.out (h.lt c hc).2 (fun e => HGV.out.ap c e hc)
          have hC5 : Chg w w5 (FG (.slice ua n ca) (.slice ub n cb)) (FG v5 (.slice ub n cb)) := by
            refine (L2.out.trans (chg_of_below HBV.out (Chg.refl V _))).trans ?_
            refine ⟨?_, ?_, ?_, hs5, fun c hc hn => ?_, fun c hc => ?_⟩
            · rcases hm5.out with ⟨_, h⟩ | ⟨_, h⟩ <;> exact h.os
            · rcases hm5.out with ⟨_, h⟩ | ⟨_, h⟩ <;> exact h.tape
            · rcases hm5.out with ⟨_, h⟩ | ⟨_, h⟩ <;> exact h.output
            · simp only [FG, List.mem_append, Option.mem_toList, not_or] at hn
              exact moved_old' hm5.out hc hn.1
            · simp only [FG, List.mem_append, Option.mem_toList] at hc ⊢
              rcases hc with hc | hc
              · rcases hm5.out with ⟨h0, _⟩ | ⟨h0, _⟩
                · rw [h0] at hc; exact .inl (.inl hc)
                · rw [h0] at hc; simp at hc; right; omega
              · exact .inl (.inr hc)
          have hv5 : ∀ c, v5.ownBlock = some c → (Value.slice ub n cb).ownBlock ≠ some c := fun c hc e => by
            rcases hm5.out with ⟨h0, _⟩ | ⟨h0, _⟩
            · rw [h0] at hc; exact HGV.out.ap c hc e
            · rw [h0] at hc
              have h1 := (hrb5.lt c e)
              have h2 := HGV.out.rb
              rw [← HN.out] at h2
              have := (h2.lt c e).2
              simp at hc
              omega
          have hz5 : v5.ownBlock ≠ some z := fun hc => by
            rcases hm5.out with ⟨h0, _⟩ | ⟨h0, _⟩
            · rw [h0] at hc; exact HZ1.out hc
            · rw [h0] at hc; simp at hc; have := HVS.out; omega
          obtain ⟨V6, hV6⟩ : ∃ V6, V6 = w5.alloc (.cells #[.string a8] 9) := ⟨_, rfl⟩
          have hbV6 : Below w5.heap.size w5 V6 := by rw [hV6]; exact Joins.below_alloc1 w5 _
          have hVn6 : V6.heap[w5.heap.size]? = some (.cells #[.string a8] 9 (0, 0)) := by rw [hV6]; exact heap_alloc_new w5 _
          have hVs6 : V6.heap.size = w5.heap.size + 1 := by rw [hV6]; simp
          have HRB6 : Hid (V6.ownsRow x 9 1 (.slice ub n cb) n (gs' L)) := row_kept hrb5 fun c hc => hbV6.block c (hrb5.lt c hc).2
          have HRA6 : Hid (V6.ownsRow x 3 1 v5 (n + 1) (gi L ++ [.int .i64 a7])) := row_kept ho5.out fun c hc => hbV6.block c (ho5.out.lt c hc).2
          have HLT6 := hid (lit1 hVn6)
          have hzw5 : z < w5.heap.size := by have := HVS.out; omega
          clear q0 q1 q2 q3 q4 q5 q6 q7 q8
          obtain ⟨q0, q1, q2, q3, q4, q5, q6, q7, q8⟩ := nine' hB5
          have HV6 := hid hV6
          have HBV6 := hid hbV6
          have HVS6 := hid hVs6
          have HB5 := hid hB5
          have HC5 := hid hC5
          have HV5 := hid hv5
          have HZ5 := hid hz5
          have hxV6 : x ≤ V6.heap.size := by have := HVS.out; omega
          clear hV6 hbV6 hVn6 hVs6 hB5 hrb5 hC5 hv5 hz5 ho5 hm5 hs5
          go_wp2_with (first | (at_builtin; rw [← HV6.out]; refine wpList_append_moveN rfl (.tmp 56) (.tmp 59) 50 rfl x 9 i9 (.string ⟨#[]⟩) 1 16 Try.underlying50 hi9 hz90 hz91 hz92 rfl (by decide) (.slice ub n cb) n (gs' L) rfl HRB6.out ⟨w5.heap.size, 0, none⟩ 1 1 [.string a8] rfl rfl (by decide) HLT6.out (by simp [Value.oneCell']) (by unfold maxLen; omega) (by omega) hxV6 ?_; intro v6 w6 ho6 hm6))
          have hs6 : V6.heap.size ≤ w6.heap.size := by rcases hm6.out with ⟨_, h⟩ | ⟨_, h⟩ <;> exact h.size
          have hln : (L ++ [(a7, a8)]).length = n + 1 := by simp [HN.out]
          have hv6 : ∀ c, v6.ownBlock = some c → (Value.slice ub n cb).ownBlock = some c ∨ V6.heap.size ≤ c := fun c hc => by
            rcases hm6.out with ⟨h0, _⟩ | ⟨h0, _⟩
            · rw [h0] at hc; exact .inl hc
            · rw [h0] at hc; simp at hc; right; omega
          have hra6 : w6.ownsRow x 3 1 v5 (n + 1) (gi L ++ [.int .i64 a7]) := row_kept HRA6.out fun c hc => moved_old' hm6.out (HRA6.out.lt c hc).2 (HV5.out c hc)
          have A1 : Hid (GR x w6 v5 v6 (L ++ [(a7, a8)])) := by
            refine ⟨?_, ?_, fun c h1 h2 => ?_⟩
            · rw [hln]; simpa [gi] using hra6
            · rw [hln]; have := ho6.out; simpa [gs'] using this
            · rcases hv6 c h2 with h | h
              · exact HV5.out c h1 h
              · have := (HRA6.out.lt c h1).2; omega
          have A2 : Hid (Chg w w6 (FG (.slice ua n ca) (.slice ub n cb)) (FG v5 v6)) := by
            refine (HC5.out.trans (chg_of_below HBV6.out (Chg.refl V6 _))).trans ?_
            refine ⟨?_, ?_, ?_, hs6, fun c hc hn => ?_, fun c hc => ?_⟩
            · rcases hm6.out with ⟨_, h⟩ | ⟨_, h⟩ <;> exact h.os
            · rcases hm6.out with ⟨_, h⟩ | ⟨_, h⟩ <;> exact h.tape
            · rcases hm6.out with ⟨_, h⟩ | ⟨_, h⟩ <;> exact h.output
            · simp only [FG, List.mem_append, Option.mem_toList, not_or] at hn
              exact moved_old' hm6.out hc hn.2
            · simp only [FG, List.mem_append, Option.mem_toList] at hc ⊢
              rcases hc with hc | hc
              · exact .inl (.inl hc)
              · rcases hv6 c hc with h | h
                · exact .inl (.inr h)
                · exact .inr h
          have A3 : Hid (BN w6 z ⟨7, r1, r2, r3, a2, s1, s2, s3, a4, a5, a6, a7, a8⟩) := (moved_old' hm6.out (by have := HVS6.out; omega) HZ2.out).trans ((HBV6.out.block z hzw5).trans HB5.out)
          have A4 : Hid (z ∉ FG v5 v6) := by
            show ¬ _
            simp only [FG, List.mem_append, Option.mem_toList, not_or]
            refine ⟨HZ5.out, fun e => ?_⟩
            rcases hv6 z e with h | h
            · exact HZ2.out h
            · have := HVS6.out; omega
          clear hs6 hln hv6 hra6 ho6 hm6
          go_loopw [1, 2, 10] (fun u v y wq => ∃ i : Nat, y = .int .i64 (i : Int) ∧ i ≤ s2 ∧ Hid (GR x wq u v (grpL (ts.take i) (L ++ [(a7, a8)]))) ∧ Hid (Chg w wq (FG (.slice ua n ca) (.slice ub n cb)) (FG u v)) ∧ Hid (BN wq z ⟨7, r1, r2, r3, a2, s1, s2, s3, a4, a5, a6, a7, a8⟩) ∧ Hid (z ∉ FG u v)) (fun _ _ y _ => s2 - (intOf y).toNat)
          case atStart => exact ⟨0, rfl, by omega, (by have h := A1.out; simp only [List.take_zero, grpL]; exact h), A2.out, A3.out, A4.out⟩
          case round =>
            obtain ⟨i, rfl, hi, HG, HC, BX, HZF⟩ := hrel
            clear q0 q1 q2 q3 q4 q5 q6 q7 q8
            obtain ⟨q0, q1, q2, q3, q4, q5, q6, q7, q8⟩ := nine' BX.out
            by_cases hil : i < s2
            · have b1 : decide ((i : Int) < (s2 : Int)) = true := by simp; omega
              have b2 : (i : Int) < (s2 : Int) := by omega
              have ad1 : IntKind.i64.wrap ((i : Int) + 1) = (i : Int) + 1 := by simp [IntKind.wrap, IntKind.bits, IntKind.signed]; omega
              have hlt : i < ts.length := by have := HL.out; omega
              obtain ⟨b, o, rfl, hbl, h9⟩ := HSS.out (by omega)
              have hbel := HR0.out.below HC.out HXW.out
              obtain ⟨n0, n1, n2, n3, n4, n5, n6, n7, n8⟩ := (h9 i hlt).kept ((hbel.block b (by have := HBX.out; omega)).trans (HW.out b hbl))
              have hlen := grpL_len (ts.take i) (L ++ [(a7, a8)])
              (try simp only [List.length_append, List.length_cons, List.length_nil] at hlen)
              have hst := nodesL_take ts i hlt
              have htl := nodesL_take_le ts (i + 1)
              have HCC := HIH.out i hlt x u1 u2 (grpL (ts.take i) (L ++ [(a7, a8)])) wr HBX.out (by have := HC.out.size; have := HXW.out; omega) (fun b hb => (hbel.block b (by have := HBX.out; omega)).trans (HW.out b hb)) HG.out (by have := HLB.out; omega)
              rw [← grpL_take (L ++ [(a7, a8)]) ts i hlt] at HCC
              obtain ⟨M, hM⟩ : ∃ M, M = ND i := ⟨_, rfl⟩
              rw [← hM] at HCC n0 n1 n2 n3 n4 n5 n6 n7 n8
              have hzl := (Array.getElem?_eq_some_iff.1 BX.out).1
              clear h9 hM hbel hlen hst htl
              go_wp2_with (first | (go_at_call 26; (with_reducible refine HCC.mono ?_); rintro e w2 ⟨va', vb', rfl, hg2, hc2⟩; have HG2 := hid hg2; have HC2 := hid hc2; clear hg2 hc2 HCC))
              refine ⟨⟨i + 1, by push_cast; rfl, by omega, HG2.out, HC.out.trans HC2.out, (HC2.out.block z hzl HZF.out).trans BX.out, fun hm => ?_⟩, by simp [intOf]; omega⟩
              rcases HC2.out.new z hm with h | h
              · exact HZF.out h
              · omega
            · have b1 : decide ((i : Int) < (s2 : Int)) = false := by simp; omega
              obtain rfl : i = s2 := by omega
              go_wp2
              all_goals go_ret2
              all_goals
                refine ⟨_, _, rfl, ?_, HC.out⟩
                have hg := HG.out
                rw [HL.out, List.take_length] at hg
                rw [HGR.out]
                exact hg
        · have HGR : Hid (G = grpL ts L) := by
            rw [HG2.out]; unfold addG; rw [← HHH.out]; exact rfl
          have L4 := hid S4.out
          go_wp2_with fail
          go_loopw [1, 2, 10] (fun u v y wq => ∃ i : Nat, y = .int .i64 (i : Int) ∧ i ≤ s2 ∧ Hid (GR x wq u v (grpL (ts.take i) L)) ∧ Hid (Chg w wq (FG (.slice ua n ca) (.slice ub n cb)) (FG u v)) ∧ Hid (BN wq z ⟨7, r1, r2, r3, a2, s1, s2, s3, a4, a5, a6, a7, a8⟩) ∧ Hid (z ∉ FG u v)) (fun _ _ y _ => s2 - (intOf y).toNat)
          case atStart => exact ⟨0, rfl, by omega, (by have h := L1.out; simp only [List.take_zero, grpL]; exact h), L2.out, L3.out, L4.out⟩
          case round =>
            obtain ⟨i, rfl, hi, HG, HC, BX, HZF⟩ := hrel
            clear q0 q1 q2 q3 q4 q5 q6 q7 q8
            obtain ⟨q0, q1, q2, q3, q4, q5, q6, q7, q8⟩ := nine' BX.out
            by_cases hil : i < s2
            · have b1 : decide ((i : Int) < (s2 : Int)) = true := by simp; omega
              have b2 : (i : Int) < (s2 : Int) := by omega
              have ad1 : IntKind.i64.wrap ((i : Int) + 1) = (i : Int) + 1 := by simp [IntKind.wrap, IntKind.bits, IntKind.signed]; omega
              have hlt : i < ts.length := by have := HL.out; omega
              obtain ⟨b, o, rfl, hbl, h9⟩ := HSS.out (by omega)
              have hbel := HR0.out.below HC.out HXW.out
              obtain ⟨n0, n1, n2, n3, n4, n5, n6, n7, n8⟩ := (h9 i hlt).kept ((hbel.block b (by have := HBX.out; omega)).trans (HW.out b hbl))
              have hlen := grpL_len (ts.take i) L
              (try simp only [List.length_append, List.length_cons, List.length_nil] at hlen)
              have hst := nodesL_take ts i hlt
              have htl := nodesL_take_le ts (i + 1)
              have HCC := HIH.out i hlt x u1 u2 (grpL (ts.take i) L) wr HBX.out (by have := HC.out.size; have := HXW.out; omega) (fun b hb => (hbel.block b (by have := HBX.out; omega)).trans (HW.out b hb)) HG.out (by have := HLB.out; omega)
              rw [← grpL_take L ts i hlt] at HCC
              obtain ⟨M, hM⟩ : ∃ M, M = ND i := ⟨_, rfl⟩
              rw [← hM] at HCC n0 n1 n2 n3 n4 n5 n6 n7 n8
              have hzl := (Array.getElem?_eq_some_iff.1 BX.out).1
              clear h9 hM hbel hlen hst htl
              go_wp2_with (first | (go_at_call 26; (with_reducible refine HCC.mono ?_); rintro e w2 ⟨va', vb', rfl, hg2, hc2⟩; have HG2 := hid hg2; have HC2 := hid hc2; clear hg2 hc2 HCC))
              refine ⟨⟨i + 1, by push_cast; rfl, by omega, HG2.out, HC.out.trans HC2.out, (HC2.out.block z hzl HZF.out).trans BX.out, fun hm => ?_⟩, by simp [intOf]; omega⟩
              rcases HC2.out.new z hm with h | h
              · exact HZF.out h
              · omega
            · have b1 : decide ((i : Int) < (s2 : Int)) = false := by simp; omega
              obtain rfl : i = s2 := by omega
              go_wp2
              all_goals go_ret2
              all_goals
                refine ⟨_, _, rfl, ?_, HC.out⟩
                have hg := HG.out
                rw [HL.out, List.take_length] at hg
                rw [HGR.out]
                exact hg
  · simp only [if_neg h7] at hG2
    have HGR := hid hG2
    have g7 : (k == 7) = false := by simpa using h7
    clear hG2 HGG h7
    by_cases h6 : k = 6
    · have g6 : (k == 6) = true := by simpa using h6
      have g0 : (a5 == 0) = false := by
        have : ¬ a5 = 0 := fun e => hA ⟨h6, e⟩
        simpa using this
      clear hA h6
      go_enter Try.func26, Try.ntmps26
      go_upto_region 1 with fail
      rw [← hz, ← hW]
      clear hW hz
      go_wp2_with fail
      go_loopw [1, 2, 10] (fun u v y wq => ∃ i : Nat, y = .int .i64 (i : Int) ∧ i ≤ s2 ∧ Hid (GR x wq u v (grpL (ts.take i) L)) ∧ Hid (Chg w wq (FG va vb) (FG u v)) ∧ Hid (BN wq z ⟨k, r1, r2, r3, a2, s1, s2, s3, a4, a5, a6, a7, a8⟩) ∧ Hid (z ∉ FG u v)) (fun _ _ y _ => s2 - (intOf y).toNat)
      case atStart => exact ⟨0, rfl, by omega, (by have h := S1.out; simp only [List.take_zero, grpL]; exact h), S2.out, S3.out, S4.out⟩
      case round =>
        obtain ⟨i, rfl, hi, HG, HC, BX, HZF⟩ := hrel
        clear q0 q1 q2 q3 q4 q5 q6 q7 q8
        obtain ⟨q0, q1, q2, q3, q4, q5, q6, q7, q8⟩ := nine' BX.out
        by_cases hil : i < s2
        · have b1 : decide ((i : Int) < (s2 : Int)) = true := by simp; omega
          have b2 : (i : Int) < (s2 : Int) := by omega
          have ad1 : IntKind.i64.wrap ((i : Int) + 1) = (i : Int) + 1 := by simp [IntKind.wrap, IntKind.bits, IntKind.signed]; omega
          have hlt : i < ts.length := by have := HL.out; omega
          obtain ⟨b, o, rfl, hbl, h9⟩ := HSS.out (by omega)
          have hbel := HR0.out.below HC.out HXW.out
          obtain ⟨n0, n1, n2, n3, n4, n5, n6, n7, n8⟩ := (h9 i hlt).kept ((hbel.block b (by have := HBX.out; omega)).trans (HW.out b hbl))
          have hlen := grpL_len (ts.take i) L
          (try simp only [List.length_append, List.length_cons, List.length_nil] at hlen)
          have hst := nodesL_take ts i hlt
          have htl := nodesL_take_le ts (i + 1)
          have HCC := HIH.out i hlt x u1 u2 (grpL (ts.take i) L) wr HBX.out (by have := HC.out.size; have := HXW.out; omega) (fun b hb => (hbel.block b (by have := HBX.out; omega)).trans (HW.out b hb)) HG.out (by have := HLB.out; omega)
          rw [← grpL_take L ts i hlt] at HCC
          obtain ⟨M, hM⟩ : ∃ M, M = ND i := ⟨_, rfl⟩
          rw [← hM] at HCC n0 n1 n2 n3 n4 n5 n6 n7 n8
          have hzl := (Array.getElem?_eq_some_iff.1 BX.out).1
          clear h9 hM hbel hlen hst htl
          go_wp2_with (first | (go_at_call 26; (with_reducible refine HCC.mono ?_); rintro e w2 ⟨va', vb', rfl, hg2, hc2⟩; have HG2 := hid hg2; have HC2 := hid hc2; clear hg2 hc2 HCC))
          refine ⟨⟨i + 1, by push_cast; rfl, by omega, HG2.out, HC.out.trans HC2.out, (HC2.out.block z hzl HZF.out).trans BX.out, fun hm => ?_⟩, by simp [intOf]; omega⟩
          rcases HC2.out.new z hm with h | h
          · exact HZF.out h
          · omega
        · have b1 : decide ((i : Int) < (s2 : Int)) = false := by simp; omega
          obtain rfl : i = s2 := by omega
          go_wp2
          all_goals go_ret2
          all_goals
            refine ⟨_, _, rfl, ?_, HC.out⟩
            have hg := HG.out
            rw [HL.out, List.take_length] at hg
            rw [HGR.out]
            exact hg
    · have g6 : (k == 6) = false := by simpa using h6
      clear hA h6
      go_enter Try.func26, Try.ntmps26
      go_upto_region 1 with fail
      rw [← hz, ← hW]
      clear hW hz
      go_wp2_with fail
      go_loopw [1, 2, 10] (fun u v y wq => ∃ i : Nat, y = .int .i64 (i : Int) ∧ i ≤ s2 ∧ Hid (GR x wq u v (grpL (ts.take i) L)) ∧ Hid (Chg w wq (FG va vb) (FG u v)) ∧ Hid (BN wq z ⟨k, r1, r2, r3, a2, s1, s2, s3, a4, a5, a6, a7, a8⟩) ∧ Hid (z ∉ FG u v)) (fun _ _ y _ => s2 - (intOf y).toNat)
      case atStart => exact ⟨0, rfl, by omega, (by have h := S1.out; simp only [List.take_zero, grpL]; exact h), S2.out, S3.out, S4.out⟩
      case round =>
        obtain ⟨i, rfl, hi, HG, HC, BX, HZF⟩ := hrel
        clear q0 q1 q2 q3 q4 q5 q6 q7 q8
        obtain ⟨q0, q1, q2, q3, q4, q5, q6, q7, q8⟩ := nine' BX.out
        by_cases hil : i < s2
        · have b1 : decide ((i : Int) < (s2 : Int)) = true := by simp; omega
          have b2 : (i : Int) < (s2 : Int) := by omega
          have ad1 : IntKind.i64.wrap ((i : Int) + 1) = (i : Int) + 1 := by simp [IntKind.wrap, IntKind.bits, IntKind.signed]; omega
          have hlt : i < ts.length := by have := HL.out; omega
          obtain ⟨b, o, rfl, hbl, h9⟩ := HSS.out (by omega)
          have hbel := HR0.out.below HC.out HXW.out
          obtain ⟨n0, n1, n2, n3, n4, n5, n6, n7, n8⟩ := (h9 i hlt).kept ((hbel.block b (by have := HBX.out; omega)).trans (HW.out b hbl))
          have hlen := grpL_len (ts.take i) L
          (try simp only [List.length_append, List.length_cons, List.length_nil] at hlen)
          have hst := nodesL_take ts i hlt
          have htl := nodesL_take_le ts (i + 1)
          have HCC := HIH.out i hlt x u1 u2 (grpL (ts.take i) L) wr HBX.out (by have := HC.out.size; have := HXW.out; omega) (fun b hb => (hbel.block b (by have := HBX.out; omega)).trans (HW.out b hb)) HG.out (by have := HLB.out; omega)
          rw [← grpL_take L ts i hlt] at HCC
          obtain ⟨M, hM⟩ : ∃ M, M = ND i := ⟨_, rfl⟩
          rw [← hM] at HCC n0 n1 n2 n3 n4 n5 n6 n7 n8
          have hzl := (Array.getElem?_eq_some_iff.1 BX.out).1
          clear h9 hM hbel hlen hst htl
          go_wp2_with (first | (go_at_call 26; (with_reducible refine HCC.mono ?_); rintro e w2 ⟨va', vb', rfl, hg2, hc2⟩; have HG2 := hid hg2; have HC2 := hid hc2; clear hg2 hc2 HCC))
          refine ⟨⟨i + 1, by push_cast; rfl, by omega, HG2.out, HC.out.trans HC2.out, (HC2.out.block z hzl HZF.out).trans BX.out, fun hm => ?_⟩, by simp [intOf]; omega⟩
          rcases HC2.out.new z hm with h | h
          · exact HZF.out h
          · omega
        · have b1 : decide ((i : Int) < (s2 : Int)) = false := by simp; omega
          obtain rfl : i = s2 := by omega
          go_wp2
          all_goals go_ret2
          all_goals
            refine ⟨_, _, rfl, ?_, HC.out⟩
            have hg := HG.out
            rw [HL.out, List.take_length] at hg
            rw [HGR.out]
            exact hg
end Go.Proofs.Ytdidopgenhpakaa
