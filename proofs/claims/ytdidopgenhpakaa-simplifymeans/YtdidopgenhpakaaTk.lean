/- HELPERS: the program's census: is a tree sound? -/
import Derived.Test.YtdidopgenhpakaaTi
import Derived.Test.YtdidopgenhpakaaBh
namespace Go.Proofs.Ytdidopgenhpakaa
open Go.RowKit
set_option linter.unusedVariables false
set_option linter.unusedSimpArgs false
set_option maxRecDepth 100000 in
set_option maxHeartbeats 8000000 in
theorem takes48g {w0 : World} {B : Nat} {N : Nv} {t : Tn} (h : TI w0 B N t) : ∀ (c : Nat) (cnt d : Int) (w : World), B ≤ c → 0 ≤ cnt ∧ cnt ≤ 200000 → 0 ≤ d ∧ d ≤ 10001 → B ≤ w.heap.size → (∀ b, b < B → w.heap[b]? = w0.heap[b]?) →
    w.heap[c]? = some (.cells #[.int .i64 cnt] 72 (0, 0)) →
    Calls Try.prog 42 #[pt c, N.v, .int .i64 d] w fun e w' => Chg w w' [c] [c] ∧ ((∃ c', t.tk cnt d = some c' ∧ e = .returned (.bool true) ∧ w'.heap[c]? = some (.cells #[.int .i64 c'] 72 (0, 0))) ∨ (t.tk cnt d = none ∧ e = .returned (.bool false))) := by
  induction h with
  | @mk N R ts ND ok hr hR hRk hs hS hk ih =>
  intro c cnt d w hBc hcb hd hB hw hc
  have HS : ∀ w', Chg w w' [c] [c] → Calls Try.prog 60 #[N.v] w' fun e w'' => e = .returned (.bool (nodeB N.k R N.a2 N.s2 N.a4 N.a5 N.a6 N.a7 N.a8)) ∧ Below w'.heap.size w' w'' := fun w' hch =>
    sound61 N R w' ok hr ((hR.kept (fun b hb => (hch.block b (by omega) (by simp; omega)).trans (hw b hb))).le (by have := hch.size; omega))
  have hmax := ok.s
  obtain ⟨k, r1, r2, r3, a2, s1, s2, s3, a4, a5, a6, a7, a8⟩ := N
  dsimp only at hs hS hmax HS
  simp only [Tn.tk]
  have hm2 : s2 ≤ 9223372036854775807 := by have : maxLen = 9223372036854775807 := rfl; omega
  rw [← hs]
  generalize nodeB k R a2 s2 a4 a5 a6 a7 a8 = nb at HS ⊢
  obtain ⟨r, hrr⟩ : ∃ r, r = if cnt + 1 ≤ 200000 ∧ d ≤ 10000 ∧ nb = true then tkL ts (cnt + 1) (d + 1) else none := ⟨_, rfl⟩
  rw [← hrr]
  have HRR := hid hrr
  clear hrr
  have hcl := (Array.getElem?_eq_some_iff.1 hc).1
  have c0 : w.cell? ⟨c, 0, none⟩ = some (.int .i64 cnt) := bx0 hc
  have cf := Joins.unfrozen_of_block hc 0
  have ad0 : IntKind.i64.wrap (cnt + 1) = cnt + 1 := by simp [IntKind.wrap, IntKind.bits, IntKind.signed]; omega
  have adD : IntKind.i64.wrap (d + 1) = d + 1 := by simp [IntKind.wrap, IntKind.bits, IntKind.signed]; omega
  have HC0 := hid hc
  have HW := hid hw
  have HSS := hid hS
  have IH := hid ih
  have HL := hid hs
  clear hc hw hS ih hs ok hr hR hRk hk hmax
  go_enter Try.func42, Try.ntmps42
  go_upto_region 2 with fail
  obtain ⟨W, hW⟩ : ∃ W, W = (w.setCell ⟨c, 0, none⟩ (.int .i64 (cnt + 1))).alloc (.cells #[.int .i64 k, .slice r1 r2 r3, .int .i64 a2, .slice s1 s2 s3, .int .i64 a4, .int .i64 a5, .bool a6, .int .i64 a7, .string a8] 25) := ⟨_, rfl⟩
  rw [← hW]
  have hsw : (w.setCell ⟨c, 0, none⟩ (.int .i64 (cnt + 1))).heap.size = w.heap.size := by simp [World.setCell]
  have hWs : W.heap.size = w.heap.size + 1 := by rw [hW]; simp [World.setCell]
  have hWz : W.heap[w.heap.size]? = some (.cells #[.int .i64 k, .slice r1 r2 r3, .int .i64 a2, .slice s1 s2 s3, .int .i64 a4, .int .i64 a5, .bool a6, .int .i64 a7, .string a8] 25 (0, 0)) := by rw [hW, ← hsw]; exact heap_alloc_new _ _
  have hWc : W.heap[c]? = some (.cells #[.int .i64 (cnt + 1)] 72 (0, 0)) := by rw [hW]; exact (heap_alloc_old _ _ (by omega)).trans (Joins.block_setCell (i := 0) HC0.out _)
  have hch : Chg w W [c] [c] := by rw [hW]; exact ((Chg.refl w [c]).set (a := ⟨c, 0, none⟩) _ (by simp)).alloc _
  have x0 : W.cell? ⟨c, 0, none⟩ = some (.int .i64 (cnt + 1)) := bx0 hWc
  obtain ⟨z, hz⟩ : ∃ z, z = w.heap.size := ⟨_, rfl⟩
  rw [← hz] at hWz hWs ⊢
  obtain ⟨o0, o1, o2, o3, o4, o5, o6, o7, o8⟩ := nine' hWz
  have HCH := hid hch
  have HWZ := hid hWz
  have HWC := hid hWc
  have HWS := hid hWs
  have HZ := hid hz
  have HS1 := HS W hch
  clear hW hsw hWs hWz hWc hch hz c0 cf HS
  by_cases hc1 : cnt + 1 ≤ 200000
  · have b0 : decide (cnt + 1 > 200000) = false := by simp; omega
    have b0' : decide (200000 < cnt + 1) = false := by simp; omega
    by_cases hd1 : d ≤ 10000
    · have b00 : decide (d > 10000) = false := by simp; omega
      have b00' : decide (10000 < d) = false := by simp; omega
      cases nb
      · go_wp2_with (first | (go_at_call 60; (with_reducible refine HS1.mono ?_); rintro e w1 ⟨rfl, hb1⟩; have HB1 := hid hb1; clear hb1 HS1))
        go_ret
        exact ⟨HCH.out.trans (Chg.of_below HB1.out), .inr ⟨by rw [HRR.out, if_neg (by simp)], rfl⟩⟩
      · go_wp2_with (first | (go_at_call 60; (with_reducible refine HS1.mono ?_); rintro e w1 ⟨rfl, hb1⟩; have k3 : w1.cell? ⟨z, 3, none⟩ = some (.slice s1 s2 s3) := (hb1.cell (p := ⟨z, 3, none⟩) (by have := HWS.out; show z < W.heap.size; omega)).trans o3; have HB1 := hid hb1; clear hb1 HS1))
        have hch1 : Chg w w1 [c] [c] := HCH.out.trans (Chg.of_below HB1.out)
        have hcc : w1.heap[c]? = some (.cells #[.int .i64 (cnt + 1)] 72 (0, 0)) := (HB1.out.block c (by have := HWS.out; have := HZ.out; omega)).trans HWC.out
        have HC1 := hid hcc
        have HCH1 := hid hch1
        clear hcc hch1
        have HR : Hid (r = tkL ts (cnt + 1) (d + 1)) := HRR.out.trans (if_pos ⟨hc1, hd1, by trivial⟩)
        go_loopw [33] (fun y wq => ∃ (i : Nat) (q : Int), y = .int .i64 (i : Int) ∧ i ≤ s2 ∧ (0 ≤ q ∧ q ≤ 200000) ∧ Hid (tkL (ts.drop i) q (d + 1) = r) ∧ Hid (Chg w wq [c] [c] ∧ wq.heap[c]? = some (.cells #[.int .i64 q] 72 (0, 0)))) (fun y _ => s2 - (intOf y).toNat)
        case atStart => exact ⟨0, cnt + 1, rfl, by omega, by omega, HR.out.symm, HCH1.out, HC1.out⟩
        case round =>
          obtain ⟨i, q, rfl, hi, hq, HQ, HI⟩ := hrel
          by_cases hil : i < s2
          · have b1 : decide ((i : Int) < (s2 : Int)) = true := by simp; omega
            have b2 : (i : Int) < (s2 : Int) := by omega
            have hlt : i < ts.length := by rw [← HL.out]; exact hil
            obtain ⟨b, o, hs1, hb, hcb'⟩ := HSS.out (by omega)
            subst hs1
            have hwk : ∀ b, b < B → wr.heap[b]? = w0.heap[b]? := fun b hb => (HI.out.1.block b (by omega) (by simp; omega)).trans (HW.out b hb)
            obtain ⟨n0, n1, n2, n3, n4, n5, n6, n7, n8⟩ := (hcb' i hlt).kept (hwk b hb)
            have HC := IH.out i hlt c q (d + 1) (wr.alloc (.cells #[.int .i64 (ND i).k, .slice (ND i).r1 (ND i).r2 (ND i).r3, .int .i64 (ND i).a2, .slice (ND i).s1 (ND i).s2 (ND i).s3, .int .i64 (ND i).a4, .int .i64 (ND i).a5, .bool (ND i).a6, .int .i64 (ND i).a7, .string (ND i).a8] 25)) hBc hq (by omega) (by have := HI.out.1.size; simp; omega) (fun b hb => (heap_alloc_old _ _ (by have := HI.out.1.size; omega)).trans (hwk b hb)) ((heap_alloc_old wr _ (by have := HI.out.1.size; omega)).trans HI.out.2)
            rw [tkL_drop ts i hlt q (d + 1)] at HQ
            have hsp := Tn.tk_spec ts[i] q (d + 1) hq.2 (by omega)
            have hg2 : ∀ c', ts[i].tk q (d + 1) = some c' → 0 ≤ c' ∧ c' ≤ 200000 := fun c' hc' => by
              rw [hsp] at hc'
              split at hc'
              · simp at hc'; omega
              · simp at hc'
            obtain ⟨g, hg⟩ : ∃ g, g = ts[i].tk q (d + 1) := ⟨_, rfl⟩
            rw [← hg] at HC HQ hg2
            have HG2 := hid hg2
            obtain ⟨M, hM⟩ : ∃ M, M = ND i := ⟨_, rfl⟩
            rw [← hM] at HC n0 n1 n2 n3 n4 n5 n6 n7 n8
            have ad1 : IntKind.i64.wrap ((i : Int) + 1) = (i : Int) + 1 := by simp [IntKind.wrap, IntKind.bits, IntKind.signed]; omega
            clear hM hg hwk hcb' hsp hlt hg2
            cases g with
            | none =>
              have HC' := HC.mono (R' := fun e w' => e = .returned (.bool false) ∧ Chg _ w' [c] [c]) (fun e w' ⟨h1, h2⟩ => by
                rcases h2 with ⟨c', h, _⟩ | ⟨_, h⟩
                · cases h
                · exact ⟨h, h1⟩)
              clear HC
              have e := HQ.out
              simp only at e
              have E := hid e
              clear e HQ HG2
              go_wp2_with (first | (go_at_call 42; (with_reducible refine HC'.mono ?_); rintro e w2 ⟨rfl, hc2⟩; have HC2 := hid hc2; clear hc2 HC'))
              go_ret
              exact ⟨(HI.out.1.alloc _).trans HC2.out, .inr ⟨E.out.symm, rfl⟩⟩
            | some c' =>
              have HC' := HC.mono (R' := fun e w' => e = .returned (.bool true) ∧ Chg _ w' [c] [c] ∧ w'.heap[c]? = some (.cells #[.int .i64 c'] 72 (0, 0))) (fun e w' ⟨h1, h2⟩ => by
                rcases h2 with ⟨c', h, h3, h4⟩ | ⟨h, _⟩
                · cases h; exact ⟨h3, h1, h4⟩
                · cases h)
              clear HC
              have e := HQ.out
              simp only at e
              have E := hid e
              clear e HQ
              have hc'b := HG2.out c' rfl
              clear HG2
              go_wp2_with (first | (go_at_call 42; (with_reducible refine HC'.mono ?_); rintro e w2 ⟨rfl, hc2, hb2⟩; have HC2 := hid hc2; have HB2 := hid hb2; clear hc2 hb2 HC'))
              refine ⟨⟨i + 1, c', by push_cast; rfl, by omega, hc'b, E.out, (HI.out.1.alloc _).trans HC2.out, HB2.out⟩, ?_⟩
              simp [intOf]
              omega
          · have b1 : decide ((i : Int) < (s2 : Int)) = false := by simp; omega
            obtain rfl : i = s2 := by omega
            have e := HQ.out
            rw [HL.out, List.drop_length] at e
            simp only [tkL] at e
            have E := hid e
            clear e
            go_wp2
            go_ret
            exact ⟨HI.out.1, .inl ⟨q, E.out.symm, rfl, HI.out.2⟩⟩
    · have b00 : decide (d > 10000) = true := by simp; omega
      have b00' : decide (10000 < d) = true := by simp; omega
      go_wp2
      go_ret
      exact ⟨HCH.out, .inr ⟨by rw [HRR.out, if_neg (by omega)], rfl⟩⟩
  · have b0 : decide (cnt + 1 > 200000) = true := by simp; omega
    have b0' : decide (200000 < cnt + 1) = true := by simp; omega
    go_wp2
    go_ret
    exact ⟨HCH.out, .inr ⟨by rw [HRR.out, if_neg (by omega)], rfl⟩⟩
theorem sound29g {w : World} {N : Nv} {t : Tn} (h : TI w w.heap.size N t) : Calls Try.prog 30 #[N.v] w fun e w' => e = .returned (.int .i64 (if t.sound then 0 else 50)) ∧ Below w.heap.size w w' := by
  have HC := takes48g h (w.heap.size + 1) 0 1 ((w.alloc (.cells #[.int .i64 N.k, .slice N.r1 N.r2 N.r3, .int .i64 N.a2, .slice N.s1 N.s2 N.s3, .int .i64 N.a4, .int .i64 N.a5, .bool N.a6, .int .i64 N.a7, .string N.a8] 25)).alloc (.cells #[.int .i64 0] 72)) (by omega) (by omega) (by omega) (by simp; omega) (fun b hb => (heap_alloc_old _ _ (by simp; omega)).trans (heap_alloc_old w _ hb)) (two_new w _ _ _)
  have HS := sound_tk t
  obtain ⟨k, r1, r2, r3, a2, s1, s2, s3, a4, a5, a6, a7, a8⟩ := N
  dsimp only at HC
  obtain ⟨g, hg⟩ : ∃ g, g = t.tk 0 1 := ⟨_, rfl⟩
  rw [← hg] at HC HS
  rw [← HS]
  clear hg HS
  cases g with
  | none =>
    have HC' := HC.mono (R' := fun e w' => e = .returned (.bool false) ∧ Chg _ w' [w.heap.size + 1] [w.heap.size + 1]) (fun e w' ⟨h1, h2⟩ => by
      rcases h2 with ⟨c', h, _⟩ | ⟨_, h⟩
      · cases h
      · exact ⟨h, h1⟩)
    clear HC
    go_enter Try.func30, Try.ntmps30
    go_wp2_with (first | (go_at_call 42; (with_reducible refine HC'.mono ?_); rintro e w2 ⟨rfl, hc2⟩; have HC2 := hid hc2; clear hc2 HC'))
    go_ret
    exact ⟨rfl, (below_two' w _ _).trans (HC2.out.below (by simp; omega) (fun k hk => by simp at hk; omega))⟩
  | some c' =>
    have HC' := HC.mono (R' := fun e w' => e = .returned (.bool true) ∧ Chg _ w' [w.heap.size + 1] [w.heap.size + 1]) (fun e w' ⟨h1, h2⟩ => by
      rcases h2 with ⟨c', h, h3, h4⟩ | ⟨h, _⟩
      · exact ⟨h3, h1⟩
      · cases h)
    clear HC
    go_enter Try.func30, Try.ntmps30
    go_wp2_with (first | (go_at_call 42; (with_reducible refine HC'.mono ?_); rintro e w2 ⟨rfl, hc2⟩; have HC2 := hid hc2; clear hc2 HC'))
    go_ret
    exact ⟨rfl, (below_two' w _ _).trans (HC2.out.below (by simp; omega) (fun k hk => by simp at hk; omega))⟩
end Go.Proofs.Ytdidopgenhpakaa
