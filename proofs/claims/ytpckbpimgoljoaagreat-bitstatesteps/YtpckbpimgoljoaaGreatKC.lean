/- HELPERS: to go through a row of runs. -/
import Derived.Test.YtpckbpimgoljoaaGreatKB
/- HELPERS: to go through what stands below a form. -/
namespace Go.Proofs.YtpckbpimgoljoaaGreat
open Go.RowKit
set_option linter.unusedVariables false
set_option linter.unusedSimpArgs false
abbrev dv (b : Nat) : Value := .func (.func 42) #[] #[pt b]
/-- a form's walk puts its trees behind the others -/
def EQ (x : Nat) (l : List Tn) (ev : Value) (w0 : World) : Prop := ∀ W b uv us, x ≤ W.heap.size → (∀ c, c < x → W.heap[c]? = w0.heap[c]?) → ROv x W b uv us → us.length + l.length < 200000 →
  ∃ n ca, ev = .func (.func n) #[] ca ∧ (∀ args w, (callFunc n args).run Tryz.prog w = .ok (.enter n args) w) ∧ Calls Tryz.prog n (#[dv b] ++ ca) W (EPost x b W uv (us ++ l))
theorem leaf68 (v : Value) (w : World) : Calls Tryz.prog 73 #[v] w fun e w' => e = .returned (.tuple #[]) ∧ w' = w := by
  go_enter Tryz.func73, Tryz.ntmps73
  go_wp2
  all_goals go_end0
  all_goals exact ⟨rfl, rfl⟩
/-- building works for all trees below a size -/
def BPs (N : Nat) : Prop := ∀ (s : Tn) (W : World) (g : Nat) (A : Nat → Prop), s.nodes < N → FA W A g s → (∀ c, A c → c < W.heap.size) → BP s g W
theorem bp_below {N : Nat} (HP : BPs N) {s : Tn} {w : World} {g : Nat} {A : Nat → Prop} (hs : s.nodes < N) (hg : FA w A g s) (hA : ∀ c, A c → c < w.heap.size) : ∀ W', Below w.heap.size w W' → BP s g W' := fun W' hb =>
  HP s W' g A hs (hg.up hA hb (fun _ h => h)) (fun c hc => by have := hA c hc; have := hb.size; omega)
set_option maxRecDepth 100000 in
set_option maxHeartbeats 4000000 in
theorem over67 {x b bx g : Nat} {w : World} {uv : Value} {us : List Tn} {s : Tn} (hR : ROv x w b uv us) (hx : x ≤ w.heap.size) (hb : Bx w bx 76 (pt g)) (HP : ∀ W', Below w.heap.size w W' → BP s g W') (hn : us.length < 200000) :
    Calls Tryz.prog 72 #[dv b, pt bx] w (EPost x b w uv (us ++ [s])) := by
  have HC := do49 hR hx g s HP hn
  have c0 := bx0 hb
  clear hR HP hn hb
  go_enter Tryz.func72, Tryz.ntmps72
  go_wp2_with (first | (go_at_call 42; (with_reducible refine HC.mono ?_); rintro e w2 ⟨rfl, hr2⟩; have HR2 := hid hr2; clear hr2 HC))
  all_goals go_end0
  all_goals exact ⟨rfl, HR2.out⟩
set_option maxRecDepth 100000 in
set_option maxHeartbeats 4000000 in
theorem within64 {x b f : Nat} {k : Int} {w : World} {uv : Value} {us : List Tn} {t : Tn} {N0 : Nv} {ev : Value} (hR : ROv x w b uv us) (hx : x ≤ w.heap.size) (hc : FC w f N0 ev t) (hk : N0.k = t.kind) (HE : t.kind = k → EQ x t.subs ev w) (HP : t.kind ≠ k → ∀ W', Below w.heap.size w W' → BP t f W') (hn : us.length + (within k t).length < 200000) :
    Calls Tryz.prog 69 #[pt f, .int .i64 k, dv b] w (EPost x b w uv (us ++ within k t)) := by
  obtain ⟨c0, c9, c10, c11⟩ := hc.num
  rw [hk] at c0
  by_cases h : t.kind = k
  · have hw : within k t = t.subs := by unfold within; rw [if_pos h]
    rw [hw] at hn ⊢
    obtain ⟨n, ca, rfl, hen, HC⟩ := HE h w b uv us hx (fun _ _ => rfl) hR hn
    have bk : (t.kind == k) = true := by simpa using h
    obtain ⟨kd, hkd⟩ : ∃ kd, kd = t.kind := ⟨_, rfl⟩
    rw [← hkd] at c0 bk
    clear HE HP hR hn hc hk h hw hkd c10 c11
    go_enter Tryz.func69, Tryz.ntmps69
    go_wp2_with (first | (with_reducible refine HC.mono ?_; rintro e w2 ⟨rfl, hr2⟩; have HR2 := hid hr2; clear hr2 HC))
    all_goals first | go_end0 | (refine bodyPost_ret (v := .tuple #[]) rfl rfl ?_)
    all_goals exact ⟨rfl, HR2.out⟩
  · have hw : within k t = [t] := by unfold within; rw [if_neg h]
    rw [hw] at hn ⊢
    have HC := do49 hR hx f t (HP h) (by simp at hn; omega)
    have bk : (t.kind == k) = false := by simpa using h
    obtain ⟨kd, hkd⟩ : ∃ kd, kd = t.kind := ⟨_, rfl⟩
    rw [← hkd] at c0 bk
    clear HE HP hR hn hc hk h hw hkd c10 c11 c9
    go_enter Tryz.func69, Tryz.ntmps69
    go_wp2_with (first | (go_at_call 42; (with_reducible refine HC.mono ?_); rintro e w2 ⟨rfl, hr2⟩; have HR2 := hid hr2; clear hr2 HC))
    all_goals first | go_end0 | (refine bodyPost_ret (v := .tuple #[]) rfl rfl ?_)
    all_goals exact ⟨rfl, HR2.out⟩
end Go.Proofs.YtpckbpimgoljoaaGreat
namespace Go.Proofs.YtpckbpimgoljoaaGreat
open Go.RowKit
set_option linter.unusedVariables false
set_option linter.unusedSimpArgs false
theorem flat_rep_len (n : Nat) (l : List Tn) : (List.replicate n l).flatten.length = n * l.length := by simp
theorem rowS_part (k : Int) (l : List (Tn × Nat)) (i j : Nat) (hi : i < l.length) (hj : j ≤ l[i].2) : (rowS k (l.take i)).length + j * (within k l[i].1).length ≤ (rowS k l).length := by
  have h1 : rowS k l = rowS k (l.take (i + 1)) ++ rowS k (l.drop (i + 1)) := by rw [← rowS_append, List.take_append_drop]
  rw [h1, rowS_take k l i hi, List.length_append, List.length_append, flat_rep_len]
  have := Nat.mul_le_mul_right (within k l[i].1).length hj
  omega
theorem rep_succ (j : Nat) (l : List Tn) : (List.replicate (j + 1) l).flatten = (List.replicate j l).flatten ++ l := by
  rw [List.replicate_succ', List.flatten_append]; simp
set_option maxRecDepth 100000 in
set_option maxHeartbeats 8000000 in
theorem row63 {x b b1 b2 n c : Nat} {k : Int} {ad : Option Addr} {fs : Nat → Nat} {l : List (Tn × Nat)} {w : World} {uv : Value} {us : List Tn} (hR : ROv x w b uv us) (hx : x ≤ w.heap.size) (h1 : Bx w b1 90 (.slice ad n c)) (h2 : Bx w b2 3 (.int .i64 k)) (hb1 : b1 < x) (hb2 : b2 < x) (hn : n = l.length) (hv : RV w (fun c => c < x) ad fs l) (ht : ∀ y ∈ l, y.2 ≤ 1000) (hl : l.length ≤ 200000)
    (HW : Hid (∀ i (hi : i < l.length), ∀ W uv us, x ≤ W.heap.size → (∀ c, c < x → W.heap[c]? = w.heap[c]?) → ROv x W b uv us → us.length + (within k l[i].1).length < 200000 → Calls Tryz.prog 69 #[pt (fs i), .int .i64 k, dv b] W (EPost x b W uv (us ++ within k l[i].1)))) (hnl : us.length + (rowS k l).length < 200000) :
    Calls Tryz.prog 68 #[dv b, pt b1, pt b2] w (EPost x b w uv (us ++ rowS k l)) := by
  have c1 := bx0 h1
  have HR := hid hR
  have H1 := hid h1
  have H2 := hid h2
  have HN := hid hn
  have HV := hid hv
  have HT := hid ht
  have HNL := hid hnl
  have hn2 : n ≤ 200000 := by omega
  clear hR h1 h2 hn hv ht hnl hl
  go_enter Tryz.func68, Tryz.ntmps68
  go_wp2_with fail
  go_loopw [8] (fun y wq => ∃ i : Nat, y = .int .i64 (i : Int) ∧ i ≤ n ∧ Hid (∃ uv', ROv x wq b uv' (us ++ rowS k (l.take i)) ∧ Chg w wq (FB b uv) (FB b uv'))) (fun y _ => n - (intOf y).toNat)
  case atStart => exact ⟨0, rfl, by omega, ⟨uv, by simpa [rowS] using HR.out, Chg.refl _ _⟩⟩
  case round =>
    obtain ⟨i, rfl, hi, HI⟩ := hrel
    by_cases hil : i < n
    · have b1' : decide ((i : Int) < (n : Int)) = true := by simp; omega
      have b2' : (i : Int) < (n : Int) := by omega
      have ad1 : IntKind.i64.wrap ((i : Int) + 1) = (i : Int) + 1 := by simp [IntKind.wrap, IntKind.bits, IntKind.signed]; omega
      have hil' : i < l.length := by have := HN.out; omega
      obtain ⟨uv1, hR1, hC1⟩ := HI.out
      have hB1 := HR.out.below hC1 hx
      obtain ⟨bb, o, rfl, hbb, hcs⟩ := HV.out (by omega)
      obtain ⟨e0, e1⟩ := hcs i hil'
      have u0 := (cell_eq (hB1.block bb hbb) (o + i * 2)).trans e0
      have u1 := (cell_eq (hB1.block bb hbb) (o + i * 2 + 1)).trans e1
      have k2 := bx0 ((hB1.block b2 hb2).trans H2.out)
      have htm := HT.out _ (List.getElem_mem hil')
      have hps := fun j hj => rowS_part k l i j hil' hj
      have HWi := HW.out i hil'
      have hst := rowS_take k l i hil'
      obtain ⟨f, hf⟩ : ∃ f, f = fs i := ⟨_, rfl⟩
      obtain ⟨m, hm⟩ : ∃ m, m = l[i].2 := ⟨_, rfl⟩
      obtain ⟨wi, hwi⟩ : ∃ wi, wi = within k l[i].1 := ⟨_, rfl⟩
      rw [← hf] at u0 HWi
      rw [← hm] at u1 htm hps hst
      rw [← hwi] at hps HWi hst
      obtain ⟨hd, hhd⟩ : ∃ hd, hd = us ++ rowS k (l.take i) := ⟨_, rfl⟩
      have hlen : ∀ j, j ≤ m → hd.length + j * wi.length ≤ us.length + (rowS k l).length := fun j hj => by rw [hhd, List.length_append]; have := hps j hj; omega
      rw [← hhd] at hR1
      have hst' : us ++ rowS k (l.take (i + 1)) = hd ++ (List.replicate m wi).flatten := by rw [hst, hhd, List.append_assoc]
      have hxw : x ≤ wr.heap.size := by have := hC1.size; omega
      have hyb : b < wr.heap.size := by obtain ⟨MS, AS, h⟩ := hR1; exact (Array.getElem?_eq_some_iff.1 h.box).1
      have hyu : ∀ c, uv1.ownBlock = some c → c < wr.heap.size := fun c hc => by obtain ⟨MS, AS, h⟩ := hR1; exact (h.row.lt c hc).2
      have HR1 := hid hR1
      have HC1 := hid hC1
      have HWW := hid HWi
      have HLN := hid hlen
      have HST := hid hst'
      have HYU := hid hyu
      clear hR1 hC1 HWi hps hst hlen hst' hhd hf hm hwi hcs e0 e1 HI hB1 hyu
      go_upto_region 3 with fail
      obtain ⟨V, hV⟩ : ∃ V, V = wr.alloc (.cells #[pt f, .int .i64 (m : Int)] 119) := ⟨_, rfl⟩
      rw [← hV]
      obtain ⟨y, hy⟩ : ∃ y, y = wr.heap.size := ⟨_, rfl⟩
      rw [← hy]
      have hVb : Below wr.heap.size wr V := by rw [hV]; exact Joins.below_alloc1 wr _
      have hVy : V.heap[y]? = some (.cells #[pt f, .int .i64 (m : Int)] 119 (0, 0)) := by rw [hV, hy]; exact heap_alloc_new wr _
      have r0 : V.cell? ⟨y, 0, none⟩ = some (pt f) := Joins.cell_of_block hVy 0
      have r1 : V.cell? ⟨y, 1, none⟩ = some (.int .i64 (m : Int)) := Joins.cell_of_block hVy 1
      have hRV : ROv x V b uv1 hd := HR1.out.kept hVb
      have hCV : Chg w V (FB b uv) (FB b uv1) := by rw [hV]; exact HC1.out.alloc _
      have hyF : y ∉ FB b uv1 := by
        simp only [FB, List.mem_cons, Option.mem_toList, not_or]
        exact ⟨by omega, fun e => by have := HYU.out y e; omega⟩
      have HVY := hid hVy
      have HRV := hid hRV
      have HCV := hid hCV
      have HYF := hid hyF
      clear hV hy hVb hVy hRV hCV hyF HR1 HC1 HYU u0 u1 k2 hyb
      go_upto_region 4 with fail
      go_loopw [14] (fun yj wq => ∃ j : Nat, yj = .int .i64 (j : Int) ∧ j ≤ m ∧ Hid (∃ uv', ROv x wq b uv' (hd ++ (List.replicate j wi).flatten) ∧ Chg w wq (FB b uv) (FB b uv') ∧ y ∉ FB b uv') ∧ Hid (wq.heap[y]? = some (.cells #[pt f, .int .i64 (m : Int)] 119 (0, 0)))) (fun yj _ => m - (intOf yj).toNat)
      case atStart => exact ⟨0, rfl, by omega, ⟨uv1, by simpa using HRV.out, HCV.out, HYF.out⟩, HVY.out⟩
      case round =>
        obtain ⟨j, rfl, hj, HJ, HYB⟩ := hrel
        obtain ⟨uv2, hR2, hC2, hy2⟩ := HJ.out
        by_cases hjm : j < m
        · have d1 : decide ((j : Int) < (m : Int)) = true := by simp; omega
          have adj : IntKind.i64.wrap ((j : Int) + 1) = (j : Int) + 1 := by simp [IntKind.wrap, IntKind.bits, IntKind.signed]; omega
          have q0 := Joins.cell_of_block HYB.out 0
          have hB2 := HR.out.below hC2 hx
          have k2 := bx0 ((hB2.block b2 hb2).trans H2.out)
          have hl2 := HLN.out (j + 1) (by omega)
          have hnl := HNL.out
          have HC := HWW.out wr uv2 _ (by have := hC2.size; omega) (fun c hc => hB2.block c hc) hR2 (by rw [List.length_append, flat_rep_len]; have : (j + 1) * wi.length = j * wi.length + wi.length := Nat.succ_mul _ _; omega)
          have HC2 := hid hC2
          have HY2 := hid hy2
          have hyl := (Array.getElem?_eq_some_iff.1 HYB.out).1
          clear hR2 hC2 hy2 hB2 HJ hl2 hnl
          go_wp2_with (first | (go_at_call 69; (with_reducible refine HC.mono ?_); rintro e w3 ⟨rfl, uv3, hr3, hc3⟩; have HR3 := hid hr3; have HC3 := hid hc3; clear hr3 hc3 HC))
          refine ⟨⟨j + 1, by push_cast; rfl, by omega, ⟨uv3, ?_, HC2.out.trans HC3.out, fun hm => ?_⟩, ?_⟩, by simp [intOf]; omega⟩
          · rw [rep_succ, ← List.append_assoc]; exact HR3.out
          · rcases HC3.out.new y hm with h | h
            · exact HY2.out h
            · omega
          · exact (HC3.out.block y hyl HY2.out).trans HYB.out
        · have d1 : decide ((j : Int) < (m : Int)) = false := by simp; omega
          have hje : j = m := by omega
          have HRR := hid hR2
          have HCC := hid hC2
          clear hR2 hC2 hy2 HJ
          go_wp2
          refine ⟨⟨i + 1, by push_cast; rfl, by omega, ⟨uv2, ?_, HCC.out⟩⟩, by simp [intOf]; omega⟩
          rw [HST.out, ← hje]
          exact HRR.out
    · have b1' : decide ((i : Int) < (n : Int)) = false := by simp; omega
      obtain rfl : i = n := by omega
      go_wp2
      all_goals go_end0
      all_goals
        obtain ⟨uv1, hR1, hC1⟩ := HI.out
        refine ⟨rfl, uv1, ?_, hC1⟩
        rw [HN.out, List.take_length] at hR1
        exact hR1
end Go.Proofs.YtpckbpimgoljoaaGreat
