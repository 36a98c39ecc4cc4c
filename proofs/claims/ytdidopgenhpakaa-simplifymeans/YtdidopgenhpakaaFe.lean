/- HELPERS: the forms of a row of trees. -/
import Derived.Test.YtdidopgenhpakaaSb
namespace Go.Proofs.Ytdidopgenhpakaa
open Go.RowKit
set_option linter.unusedVariables false
set_option linter.unusedSimpArgs false
set_option maxRecDepth 100000 in
set_option maxHeartbeats 8000000 in
theorem onceEach44 (A : Nat → Prop) (n : Nat) (NS : Nat → Nv) (us : Nat → Tn) (ad : Option Addr) (cap : Nat) (w : World) (hA : ∀ b, A b → b < w.heap.size) (hn : n ≤ 200000) (hs : 0 < n → ∃ b o, ad = some ⟨b, o, none⟩ ∧ b < w.heap.size ∧ ∀ i, i < n → N9 w b o i (NS i))
    (IH : Hid (∀ i, i < n → ∀ w1 : World, w.heap.size ≤ w1.heap.size → (∀ b, b < w.heap.size → w1.heap[b]? = w.heap[b]?) → Calls Try.prog 31 #[(NS i).v] w1 fun e w' => ∃ f, e = .returned (pt f) ∧ FA w' (New A w1 w') f (us i) ∧ Below w1.heap.size w1 w')) :
    Calls Try.prog 44 #[.slice ad n cap] w fun e w' => ∃ (v : Value) (K : List Rn), e = .returned v ∧ K.length = n ∧ w'.ownsRow w.heap.size 92 2 v K.length (K.flatMap rcs) ∧ (∀ i (hi : i < K.length), K[i].2 = (us i, 1) ∧ FA w' (New A w w') K[i].1 (us i)) ∧ Below w.heap.size w w' := by
  obtain ⟨i0, hi0, hz0, hz1, hz2⟩ := info_parts info92
  obtain ⟨z, hz⟩ : ∃ z, z = w.heap.size := ⟨_, rfl⟩
  have HS := hid hs
  have HZ := hid hz
  have HAA := hid hA
  rw [← hz]
  clear hs hz hA
  go_enter Try.func44, Try.ntmps44
  go_wp2_with fail
  go_loopw [3, 8] (fun u y wq => ∃ i : Nat, y = .int .i64 (i : Int) ∧ i ≤ n ∧ Hid (Below z w wq) ∧ ∃ K : List Rn, Hid (K.length = i) ∧ Hid (wq.ownsRow z 92 2 u i (K.flatMap rcs)) ∧ Hid (∀ j (hj : j < K.length), K[j].2 = (us j, 1) ∧ ∃ A', FA wq A' K[j].1 (us j) ∧ (∀ b, A' b → New A w wq b ∧ u.ownBlock ≠ some b))) (fun _ y _ => n - (intOf y).toNat)
  case atStart => exact ⟨0, rfl, by omega, (by have := Below.refl z w; exact this), [], rfl, World.ownsRow_nil _ _ _ _, fun j hj => by simp at hj⟩
  case round =>
    obtain ⟨i, rfl, hi, BK, K, HKL, HO, HF⟩ := hrel
    by_cases hil : i < n
    · have b1 : decide ((i : Int) < (n : Int)) = true := by simp; omega
      have b2 : (i : Int) < (n : Int) := by omega
      have ad1 : IntKind.i64.wrap ((i : Int) + 1) = (i : Int) + 1 := by simp [IntKind.wrap, IntKind.bits, IntKind.signed]; omega
      obtain ⟨b, o, rfl, hb, hc⟩ := HS.out (by omega)
      obtain ⟨n0, n1, n2, n3, n4, n5, n6, n7, n8⟩ := (hc i hil).kept (BK.out.block b (by have := HZ.out; omega))
      have hzr : z ≤ wr.heap.size := by have := BK.out.size; have := HZ.out; omega
      have hub : ∀ k, u3.ownBlock = some k → z ≤ k ∧ k < wr.heap.size := fun k hk => HO.out.lt k hk
      have HC := IH.out i hil (wr.alloc (.cells #[.int .i64 (NS i).k, .slice (NS i).r1 (NS i).r2 (NS i).r3, .int .i64 (NS i).a2, .slice (NS i).s1 (NS i).s2 (NS i).s3, .int .i64 (NS i).a4, .int .i64 (NS i).a5, .bool (NS i).a6, .int .i64 (NS i).a7, .string (NS i).a8] 25)) (by have := HZ.out; simp; omega) (fun b hb => (heap_alloc_old _ _ (by have := HZ.out; omega)).trans (BK.out.block b (by have := HZ.out; omega)))
      obtain ⟨P, hP⟩ : ∃ P, P = NS i := ⟨_, rfl⟩
      rw [← hP] at HC n0 n1 n2 n3 n4 n5 n6 n7 n8
      obtain ⟨u, hu⟩ : ∃ u, u = us i := ⟨_, rfl⟩
      rw [← hu] at HC
      have HU := hid hu
      obtain ⟨V0, hV0⟩ : ∃ V0, V0 = wr.alloc (.cells #[.int .i64 P.k, .slice P.r1 P.r2 P.r3, .int .i64 P.a2, .slice P.s1 P.s2 P.s3, .int .i64 P.a4, .int .i64 P.a5, .bool P.a6, .int .i64 P.a7, .string P.a8] 25) := ⟨_, rfl⟩
      have hB0 : Below wr.heap.size wr V0 := by rw [hV0]; exact Joins.below_alloc1 wr _
      have hs0 : V0.heap.size = wr.heap.size + 1 := by rw [hV0]; simp
      rw [← hV0] at HC
      have HB0 := hid hB0
      have HS0 := hid hs0
      have HUB := hid hub
      have HV0 := hid hV0
      clear hc hP hu hB0 hs0 hub hV0
      go_upto_region 6 with (first | (go_at_call 31; rw [← HV0.out]; (with_reducible refine HC.mono ?_); rintro e w2 ⟨f, rfl, hf, hb2⟩; have HFF := hid hf; have HB2 := hid hb2; clear hf hb2 HC; obtain ⟨V2, hV2⟩ : ∃ V2, V2 = w2.alloc (.cells #[pt f, .int .i64 1] 92) := ⟨_, rfl⟩; have hO2 : V2.ownsRow z 92 2 u3 i (K.flatMap rcs) := (by rw [hV2]; exact (row_kept HO.out fun k hk => (HB2.out.block k (by have := HUB.out k hk; have := HS0.out; omega)).trans (HB0.out.block k (HUB.out k hk).2)).alloc _); have hN2 : V2.heap[w2.heap.size]? = some (.cells #[pt f, .int .i64 1] 92 (0, 0)) := (by rw [hV2]; exact heap_alloc_new w2 _); have hnews : ∀ j u, [pt f, .int .i64 1][j]? = some u → V2.cell? ((⟨w2.heap.size, 0, none⟩ : Addr).add j) = some u := (fun j u hj => by rw [Addr.add_mid, Nat.zero_add, Joins.cell_of_block hN2 j]; simpa using hj); have HO2 := hid hO2; have HNW := hid hnews; have HV2 := hid hV2; clear hO2 hnews hV2 hN2) | (at_builtin; rw [← HV2.out]; refine wpList_append_moveN rfl (.tmp 12) (.tmp 16) 74 rfl z 92 i0 (.agg #[.pointer none, .int .i64 0]) 2 16 Try.underlying74 hi0 hz0 hz1 hz2 rfl (by decide) u3 i (K.flatMap rcs) rfl HO2.out ⟨w2.heap.size, 0, none⟩ 1 1 [pt f, .int .i64 1] rfl rfl (by decide) HNW.out (by simp [Value.oneCell']) (by unfold maxLen; omega) (by omega) (by rw [HV2.out]; have := HB2.out.size; have := HS0.out; simp; omega) ?_; intro v5 w5 ho5 hm5))
      go_wp2
      have hs0 := HS0.out
      have hs2 := HB2.out.size
      have hz := HZ.out
      have hV2s : V2.heap.size = w2.heap.size + 1 := by rw [HV2.out]; simp
      have hb2 : Below z w V2 := by rw [HV2.out]; exact ((BK.out.trans (Joins.below_le HB0.out (by omega))).trans (Joins.below_le HB2.out (by omega))).alloc (by omega) _
      have hb5 := moved_below hb2 (by omega) (fun k hk => (HO2.out.lt k hk).1) hm5.out
      have hold2 : ∀ b, b < w2.heap.size → u3.ownBlock ≠ some b → w5.heap[b]? = w2.heap[b]? := fun b hb hn => (moved_old' hm5.out (by omega) hn).trans (by rw [HV2.out]; exact heap_alloc_old w2 _ hb)
      have hv5 : ∀ b, b < w2.heap.size → u3.ownBlock ≠ some b → v5.ownBlock ≠ some b := fun b hb hn e => by
        rcases hm5.out with ⟨h0, _⟩ | ⟨h0, _⟩
        · rw [h0] at e; exact hn e
        · rw [h0] at e; simp at e; omega
      refine ⟨⟨i + 1, by push_cast; rfl, by omega, hb5.1, K ++ [(f, (u, 1))], ?_, ?_, ?_⟩, by simp [intOf]; omega⟩
      · show (K ++ [(f, (u, 1))]).length = i + 1
        simp [HKL.out]
      · have h := ho5.out
        rw [List.flatMap_append]
        exact h
      · intro j hj
        simp only [List.length_append, List.length_cons, List.length_nil] at hj
        by_cases hjl : j < K.length
        · rw [List.getElem_append_left hjl]
          obtain ⟨h1, A', h2, h3⟩ := HF.out j hjl
          have hlo : ∀ b, A' b → b < wr.heap.size := fun b hb => New.low HAA.out (by omega) b (h3 b hb).1
          refine ⟨h1, A', h2.kept (fun b hb => (hold2 b (by have := hlo b hb; omega) (h3 b hb).2).trans ((HB2.out.block b (by have := hlo b hb; omega)).trans (HB0.out.block b (hlo b hb)))) (fun _ h => h), fun b hb => ⟨(h3 b hb).1.more (Nat.le_refl _) (by omega), hv5 b (by have := hlo b hb; omega) (h3 b hb).2⟩⟩
        · have e : j = K.length := by omega
          have hji : j = i := by rw [e]; exact HKL.out
          rw [List.getElem_append_right (by omega)]
          simp only [e, Nat.sub_self, List.getElem_cons_zero]
          rw [← e, hji, ← HU.out]
          have hne : ∀ b, New A V0 w2 b → u3.ownBlock ≠ some b := fun b hb e => by
            have := HUB.out b e
            rcases hb with hb | hb
            · have := HAA.out b hb; omega
            · omega
          have hlo : ∀ b, New A V0 w2 b → b < w2.heap.size := New.low (fun b hb => by have := HAA.out b hb; omega) (by omega)
          exact ⟨rfl, New A V0 w2, HFF.out.kept (fun b hb => hold2 b (hlo b hb) (hne b hb)) (fun _ h => h), fun b hb => ⟨hb.more (by omega) (by omega), hv5 b (hlo b hb) (hne b hb)⟩⟩
    · have b1 : decide ((i : Int) < (n : Int)) = false := by simp; omega
      obtain rfl : i = n := by omega
      go_wp2
      all_goals go_ret
      all_goals
        refine ⟨u3, K, rfl, HKL.out, by rw [HKL.out]; exact HO.out, fun j hj => ?_, BK.out⟩
        obtain ⟨h1, A', h2, h3⟩ := HF.out j hj
        exact ⟨h1, h2.kept (fun _ _ => rfl) (fun b hb => (h3 b hb).1)⟩
end Go.Proofs.Ytdidopgenhpakaa
