/- HELPERS: to go through a row of runs. -/
import Derived.Test.YtdidopgenhpakaaGc
namespace Go.Proofs.Ytdidopgenhpakaa
open Go.RowKit
set_option linter.unusedVariables false
set_option linter.unusedSimpArgs false
theorem flat_rep_len (n : Nat) (l : List Tn) : (List.replicate n l).flatten.length = n * l.length := by simp
theorem rowS_part (k : Int) (l : List (Tn × Nat)) (i j : Nat) (hi : i < l.length) (hj : j ≤ l[i].2) : (rowS k (l.take i)).length + j * (within k l[i].1).length ≤ (rowS k l).length := by
  have h1 : rowS k l = rowS k (l.take (i + 1)) ++ rowS k (l.drop (i + 1)) := by rw [← rowS_append, List.take_append_drop]
  rw [h1, rowS_take k l i hi, List.length_append, List.length_append, flat_rep_len]
  have := Nat.mul_le_mul_right (within k l[i].1).length hj
  omega
theorem rep_succ (j : Nat) (l : List Tn) : (List.replicate (j + 1) l).flatten = (List.replicate j l).flatten ++ l := by
  rw [List.replicate_succ', List.flatten_append]; simp
set_option maxRecDepth 100000 in
set_option maxHeartbeats 8000000 in
theorem row63 {x b b1 b2 n c : Nat} {k : Int} {ad : Option Addr} {fs : Nat → Nat} {l : List (Tn × Nat)} {w : World} {uv : Value} {us : List Tn} (hR : ROv x w b uv us) (hx : x ≤ w.heap.size) (h1 : Bx w b1 74 (.slice ad n c)) (h2 : Bx w b2 3 (.int .i64 k)) (hb1 : b1 < x) (hb2 : b2 < x) (hn : n = l.length) (hv : RV w (fun c => c < x) ad fs l) (ht : ∀ y ∈ l, y.2 ≤ 1000) (hl : l.length ≤ 200000)
    (HW : Hid (∀ i (hi : i < l.length), ∀ W uv us, x ≤ W.heap.size → (∀ c, c < x → W.heap[c]? = w.heap[c]?) → ROv x W b uv us → us.length + (within k l[i].1).length < 200000 → Calls Try.prog 64 #[pt (fs i), .int .i64 k, dv b] W (EPost x b W uv (us ++ within k l[i].1)))) (hnl : us.length + (rowS k l).length < 200000) :
    Calls Try.prog 63 #[dv b, pt b1, pt b2] w (EPost x b w uv (us ++ rowS k l)) := by
  have c1 := bx0 h1
  have HR := hid hR
  have H1 := hid h1
  have H2 := hid h2
  have HN := hid hn
  have HV := hid hv
  have HT := hid ht
  have HNL := hid hnl
  have hn2 : n ≤ 200000 := by omega
  clear hR h1 h2 hn hv ht hnl hl
  go_enter Try.func63, Try.ntmps63
  go_wp2_with fail
  go_loopw [8] (fun y wq => ∃ i : Nat, y = .int .i64 (i : Int) ∧ i ≤ n ∧ Hid (∃ uv', ROv x wq b uv' (us ++ rowS k (l.take i)) ∧ Chg w wq (FB b uv) (FB b uv'))) (fun y _ => n - (intOf y).toNat)
  case atStart => exact ⟨0, rfl, by omega, ⟨uv, by simpa [rowS] using HR.out, Chg.refl _ _⟩⟩
  case round =>
    obtain ⟨i, rfl, hi, HI⟩ := hrel
    by_cases hil : i < n
    · have b1' : decide ((i : Int) < (n : Int)) = true := by simp; omega
      have b2' : (i : Int) < (n : Int) := by omega
      have ad1 : IntKind.i64.wrap ((i : Int) + 1) = (i : Int) + 1 := by simp [IntKind.wrap, IntKind.bits, IntKind.signed]; omega
      have hil' : i < l.length := by have := HN.out; omega
      obtain ⟨uv1, hR1, hC1⟩ := HI.out
      have hB1 := HR.out.below hC1 hx
      obtain ⟨bb, o, rfl, hbb, hcs⟩ := HV.out (by omega)
      obtain ⟨e0, e1⟩ := hcs i hil'
      have u0 := (cell_eq (hB1.block bb hbb) (o + i * 2)).trans e0
      have u1 := (cell_eq (hB1.block bb hbb) (o + i * 2 + 1)).trans e1
      have k2 := bx0 ((hB1.block b2 hb2).trans H2.out)
      have htm := HT.out _ (List.getElem_mem hil')
      have hps := fun j hj => rowS_part k l i j hil' hj
      have HWi := HW.out i hil'
      have hst := rowS_take k l i hil'
      obtain ⟨f, hf⟩ : ∃ f, f = fs i := ⟨_, rfl⟩
      obtain ⟨m, hm⟩ : ∃ m, m = l[i].2 := ⟨_, rfl⟩
      obtain ⟨wi, hwi⟩ : ∃ wi, wi = within k l[i].1 := ⟨_, rfl⟩
      rw [← hf] at u0 HWi
      rw [← hm] at u1 htm hps hst
      rw [← hwi] at hps HWi hst
      obtain ⟨hd, hhd⟩ : ∃ hd, hd = us ++ rowS k (l.take i) := ⟨_, rfl⟩
      have hlen : ∀ j, j ≤ m → hd.length + j * wi.length ≤ us.length + (rowS k l).length := fun j hj => by rw [hhd, List.length_append]; have := hps j hj; omega
      rw [← hhd] at hR1
      have hst' : us ++ rowS k (l.take (i + 1)) = hd ++ (List.replicate m wi).flatten := by rw [hst, hhd, List.append_assoc]
      have hxw : x ≤ wr.heap.size := by have := hC1.size; omega
      have hyb : b < wr.heap.size := by obtain ⟨MS, AS, h⟩ := hR1; exact (Array.getElem?_eq_some_iff.1 h.box).1
      have hyu : ∀ c, uv1.ownBlock = some c → c < wr.heap.size := fun c hc => by obtain ⟨MS, AS, h⟩ := hR1; exact (h.row.lt c hc).2
      have HR1 := hid hR1
      have HC1 := hid hC1
      have HWW := hid HWi
      have HLN := hid hlen
      have HST := hid hst'
      have HYU := hid hyu
      clear hR1 hC1 HWi hps hst hlen hst' hhd hf hm hwi hcs e0 e1 HI hB1 hyu
      go_upto_region 3 with fail
      obtain ⟨V, hV⟩ : ∃ V, V = wr.alloc (.cells #[pt f, .int .i64 (m : Int)] 92) := ⟨_, rfl⟩
      rw [← hV]
      obtain ⟨y, hy⟩ : ∃ y, y = wr.heap.size := ⟨_, rfl⟩
      rw [← hy]
      have hVb : Below wr.heap.size wr V := by rw [hV]; exact Joins.below_alloc1 wr _
      have hVy : V.heap[y]? = some (.cells #[pt f, .int .i64 (m : Int)] 92 (0, 0)) := by rw [hV, hy]; exact heap_alloc_new wr _
      have r0 : V.cell? ⟨y, 0, none⟩ = some (pt f) := Joins.cell_of_block hVy 0
      have r1 : V.cell? ⟨y, 1, none⟩ = some (.int .i64 (m : Int)) := Joins.cell_of_block hVy 1
      have hRV : ROv x V b uv1 hd := HR1.out.kept hVb
      have hCV : Chg w V (FB b uv) (FB b uv1) := by rw [hV]; exact HC1.out.alloc _
      have hyF : y ∉ FB b uv1 := by
        simp only [FB, List.mem_cons, Option.mem_toList, not_or]
        exact ⟨by omega, fun e => by have := HYU.out y e; omega⟩
      have HVY := hid hVy
      have HRV := hid hRV
      have HCV := hid hCV
      have HYF := hid hyF
      clear hV hy hVb hVy hRV hCV hyF HR1 HC1 HYU u0 u1 k2 hyb
      go_upto_region 4 with fail
      go_loopw [14] (fun yj wq => ∃ j : Nat, yj = .int .i64 (j : Int) ∧ j ≤ m ∧ Hid (∃ uv', ROv x wq b uv' (hd ++ (List.replicate j wi).flatten) ∧ Chg w wq (FB b uv) (FB b uv') ∧ y ∉ FB b uv') ∧ Hid (wq.heap[y]? = some (.cells #[pt f, .int .i64 (m : Int)] 92 (0, 0)))) (fun yj _ => m - (intOf yj).toNat)
      case atStart => exact ⟨0, rfl, by omega, ⟨uv1, by simpa using HRV.out, HCV.out, HYF.out⟩, HVY.out⟩
      case round =>
        obtain ⟨j, rfl, hj, HJ, HYB⟩ := hrel
        obtain ⟨uv2, hR2, hC2, hy2⟩ := HJ.out
        by_cases hjm : j < m
        · have d1 : decide ((j : Int) < (m : Int)) = true := by simp; omega
          have adj : IntKind.i64.wrap ((j : Int) + 1) = (j : Int) + 1 := by simp [IntKind.wrap, IntKind.bits, IntKind.signed]; omega
          have q0 := Joins.cell_of_block HYB.out 0
          have hB2 := HR.out.below hC2 hx
          have k2 := bx0 ((hB2.block b2 hb2).trans H2.out)
          have hl2 := HLN.out (j + 1) (by omega)
          have hnl := HNL.out
          have HC := HWW.out wr uv2 _ (by have := hC2.size; omega) (fun c hc => hB2.block c hc) hR2 (by rw [List.length_append, flat_rep_len]; have : (j + 1) * wi.length = j * wi.length + wi.length := Nat.succ_mul _ _; omega)
          have HC2 := hid hC2
          have HY2 := hid hy2
          have hyl := (Array.getElem?_eq_some_iff.1 HYB.out).1
          clear hR2 hC2 hy2 hB2 HJ hl2 hnl
          go_wp2_with (first | (go_at_call 64; (with_reducible refine HC.mono ?_); rintro e w3 ⟨rfl, uv3, hr3, hc3⟩; have HR3 := hid hr3; have HC3 := hid hc3; clear hr3 hc3 HC))
          refine ⟨⟨j + 1, by push_cast; rfl, by omega, ⟨uv3, ?_, HC2.out.trans HC3.out, fun hm => ?_⟩, ?_⟩, by simp [intOf]; omega⟩
          · rw [rep_succ, ← List.append_assoc]; exact HR3.out
          · rcases HC3.out.new y hm with h | h
            · exact HY2.out h
            · omega
          · exact (HC3.out.block y hyl HY2.out).trans HYB.out
        · have d1 : decide ((j : Int) < (m : Int)) = false := by simp; omega
          have hje : j = m := by omega
          have HRR := hid hR2
          have HCC := hid hC2
          clear hR2 hC2 hy2 HJ
          go_wp2
          refine ⟨⟨i + 1, by push_cast; rfl, by omega, ⟨uv2, ?_, HCC.out⟩⟩, by simp [intOf]; omega⟩
          rw [HST.out, ← hje]
          exact HRR.out
    · have b1' : decide ((i : Int) < (n : Int)) = false := by simp; omega
      obtain rfl : i = n := by omega
      go_wp2
      all_goals go_end0
      all_goals
        obtain ⟨uv1, hR1, hC1⟩ := HI.out
        refine ⟨rfl, uv1, ?_, hC1⟩
        rw [HN.out, List.take_length] at hR1
        exact hR1
end Go.Proofs.Ytdidopgenhpakaa
