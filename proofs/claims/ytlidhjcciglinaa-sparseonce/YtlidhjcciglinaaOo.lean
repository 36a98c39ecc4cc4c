/- HELPERS: the walk of SparseOnce. -/
import Derived.Test.YtlidhjcciglinaaOn
namespace Go.Proofs.Ytlidhjcciglinaa
open Go.RowKit
set_option linter.unusedVariables false
set_option linter.unusedSimpArgs false
theorem lim_lt {n x : Int} (h0 : 0 ≤ x) (h : x < (lim n : Int)) : x < n := by unfold lim at h; omega
set_option maxHeartbeats 8000000 in
set_option maxRecDepth 1000000 in
theorem once5 (n : Int) (fs l : List Int) (a1 a2 : Option Addr) (nf nl c1 c2 : Nat) (w0 : World) (hT1 : Hid (TextAt w0.heap.size w0 a1 nf fs)) (hT2 : Hid (TextAt w0.heap.size w0 a2 nl l)) (hn1 : nf ≤ 17592186043904) (hn2 : nl ≤ 17592186043904) :
    Calls Try.prog 5 #[.int .i64 n, .slice a1 nf c1, .slice a2 nl c2] w0 fun e w' => e = .returned (.bool true) ∧ Below w0.heap.size w0 w' := by
  go_enter Try.func5, Try.ntmps5
  go_wp2_with fail
  refine (awake7 w0).mono ?_
  rintro e w ⟨rfl, hb0⟩
  have hs0 := hb0.size
  have HT1 : Hid (TextAt w0.heap.size w a1 nf fs) := hT1.out.below hb0
  have HT2 : Hid (TextAt w0.heap.size w a2 nl l) := hT2.out.below hb0
  have HB0 : Hid (Below w0.heap.size w0 w) := hb0
  clear hT1 hT2 hb0
  go_wp2_with fail
  refine (new8 n w).mono ?_
  rintro e w1 ⟨g, F, rfl, hS1, hb1⟩
  have HS1 : Hid (SetS w.heap.size w1 g F (lim n) []) := hS1
  have HB1 : Hid (Below w.heap.size w w1) := hb1
  clear hS1 hb1
  go_wp2_with fail
  refine (new8 n w1).mono ?_
  rintro e w2 ⟨u, G, rfl, hS2, hb2⟩
  have hTri : Tri w.heap.size w w2 g u (.slice none 0 0) (lim n) [] [] [] F G :=
    ⟨HS1.out.kept (fun b hb => hb2.block b (HS1.out.low b hb).2), hS2.mono HB1.out.size, World.ownsRow_nil _ _ _ _, fun b hb hg => by have := (HS1.out.low b hb).2; have := (hS2.low b hg).1; omega, (fun b hb => by cases hb), (fun b hb => by cases hb), HB1.out.trans (hb2.mono HB1.out.size)⟩
  have HI : Hid (Tri w.heap.size w w2 g u (.slice none 0 0) (lim n) [] [] [] F G) := hTri
  clear hS2 hb2 hTri HS1 HB1
  obtain ⟨N, hN⟩ : ∃ N, w.heap.size = N := ⟨_, rfl⟩
  rw [hN] at HI hs0
  have HG : Hid (w.heap.size = N) := hN
  clear hN
  go_wp2
  go_loopw [10] (fun ix wr => ∃ (i : Nat) (A : List Int) (F : List Nat), i ≤ nf ∧ ix = .int .i64 i ∧ Hid (Tri N w wr g u (.slice none 0 0) (lim n) A [] [] F G))
    (fun ix _ => nf - (intOf ix).toNat)
  case atStart => exact ⟨0, [], F, by omega, rfl, HI⟩
  case round =>
    obtain ⟨i, A, F, hi, rfl, HT⟩ := hrel
    clear HI
    have hsz : N ≤ wr.heap.size := by have := HT.out.below.size; have := HG.out; omega
    by_cases hin : i < nf
    · obtain ⟨b1, o1, rfl, hb1, d1⟩ := (HT1.out.below (HT.out.below.mono (by omega))).at i hin
      generalize fs.getD i 0 = x at d1
      go_wp2_with fail
      by_cases hx : fresh (lim n) A x
      · refine (add10 N g F (lim n) A x wr HT.out.s hx hsz).mono ?_
        rintro e w3 ⟨rfl, F3, hS3, hc3⟩
        have HT3 : Hid (Tri N w w3 g u (.slice none 0 0) (lim n) (A ++ [x]) [] [] F3 G) := HT.out.one hsz hS3 hc3
        clear hS3 hc3 HT hx d1
        go_wp2
        go_roundw
        case rel => exact ⟨i + 1, _, _, by omega, by go_num, HT3⟩
        case measure => simp [intOf]; omega
      · refine (add10_no N g F (lim n) A x wr HT.out.s hx).mono ?_
        rintro e w3 ⟨rfl, hS3, hc3⟩
        have HT3 : Hid (Tri N w w3 g u (.slice none 0 0) (lim n) A [] [] F G) := HT.out.one hsz hS3 hc3
        clear hS3 hc3 HT hx d1
        go_wp2
        go_roundw
        case rel => exact ⟨i + 1, _, _, by omega, by go_num, HT3⟩
        case measure => simp [intOf]; omega
    · obtain rfl : i = nf := by omega
      clear HT1 hi hin
      go_wp2_with fail
      refine (clear16 N g F (lim n) A wr HT.out.s).mono ?_
      rintro e w4 ⟨rfl, hS4, hc4⟩
      have HT4 : Hid (Tri N w w4 g u (.slice none 0 0) (lim n) [] [] [] F G) := HT.out.one hsz hS4 hc4
      clear hS4 hc4 HT hsz
      go_wp2
      go_loopw [11, 12] (fun v jx wr => ∃ (j : Nat) (L : List Int) (F G : List Nat) (vv : Value), j ≤ nl ∧ jx = .int .i64 j ∧ vv = v ∧ Hid (Tri N w wr g u vv (lim n) L L L F G))
        (fun _ jx _ => nl - (intOf jx).toNat)
      case atStart => exact ⟨0, [], F, G, _, by omega, rfl, rfl, HT4⟩
      case round =>
        obtain ⟨j, L, F, G, v, hj, rfl, rfl, HT⟩ := hrel
        clear HT4
        have hsz : N ≤ wr.heap.size := by have := HT.out.below.size; have := HG.out; omega
        have hLk := HT.out.s.len
        have hL0 : L.length ≤ 1048576 := by omega
        by_cases hjn : j < nl
        · obtain ⟨b1, o1, rfl, hb1, d1⟩ := (HT2.out.below (HT.out.below.mono (by omega))).at j hjn
          generalize l.getD j 0 = x at d1
          by_cases hx : fresh (lim n) L x
          · obtain ⟨x0, x1, x2⟩ := hx
            have x3 : x < n := lim_lt x0 x1
            have hx : Hid (fresh (lim n) L x) := ⟨x0, x1, x2⟩
            have hin0 : decide (x ∈ L) = false := by simpa using x2
            have hin1 : decide (x ∈ L ++ [x]) = true := by simp
            clear x1 x2
            go_wp2_with fail
            refine (has12 N g F (lim n) L x wr HT.out.s).mono ?_
            rintro e w5 ⟨rfl, q5, rfl⟩
            rw [hin0]
            have HT5 : Hid (Tri N w (wr.drewN q5) g u v (lim n) L L L F G) := HT.out.next hsz (Joins.below_draws _ _ _)
            clear HT
            go_wp2_with fail
            refine (add10 N g F (lim n) L x (wr.drewN q5) HT5.out.s hx.out hsz).mono ?_
            rintro e w6 ⟨rfl, F6, hS6, hc6⟩
            have d6 : w6.cell? ⟨b1, o1 + j, none⟩ = some (.int .i64 x) := ((hc6.below (B := N) hsz (fun k hk => (HT5.out.s.low k hk).1)).cell (p := ⟨b1, o1 + j, none⟩) (by simp; omega)).trans d1
            have hs6 : N ≤ w6.heap.size := Nat.le_trans hsz hc6.size
            have HT6 : Hid (Tri N w w6 g u v (lim n) (L ++ [x]) L L F6 G) := HT5.out.one hsz hS6 hc6
            clear hS6 hc6 HT5 d1
            go_wp2_with fail
            refine (add10 N u G (lim n) L x w6 HT6.out.t hx.out hs6).mono ?_
            rintro e w7 ⟨rfl, G7, hS7, hc7⟩
            have d7 : w7.cell? ⟨b1, o1 + j, none⟩ = some (.int .i64 x) := ((hc7.below (B := N) hs6 (fun k hk => (HT6.out.t.low k hk).1)).cell (p := ⟨b1, o1 + j, none⟩) (by simp; omega)).trans d6
            have hs7 : N ≤ w7.heap.size := Nat.le_trans hs6 hc7.size
            have HT7 : Hid (Tri N w w7 g u v (lim n) (L ++ [x]) (L ++ [x]) L F6 G7) := HT6.out.two hs6 hS7 hc7
            clear hS7 hc7 HT6 d6
            go_wp2_with fail
            refine (has12 N g F6 (lim n) (L ++ [x]) x w7 HT7.out.s).mono ?_
            rintro e w8 ⟨rfl, q8, rfl⟩
            rw [hin1]
            have HT8 : Hid (Tri N w (w7.drewN q8) g u v (lim n) (L ++ [x]) (L ++ [x]) L F6 G7) := HT7.out.next hs7 (Joins.below_draws _ _ _)
            have HO8 : Hid ((w7.drewN q8).ownsRow N 3 1 v L.length (I64 L)) := HT8.out.row
            clear HT7 hin0 hin1 hLk hx
            go_wp2_with (at_builtin; refine wpList_append_one rfl (.tmp 116) (.tmp 121) 35 rfl N 3 (.int .i64 0) 8 Try.underlying35 info3 rfl v (.int .i64 x) L.length 1 (I64 L) rfl HO8.out _ rfl rfl rfl (by unfold maxLen; omega) (by omega) (by exact hs7) ?_)
            intro v2 w9 ho9 hm9
            have HT9 : Hid (Tri N w w9 g u v2 (lim n) (L ++ [x]) (L ++ [x]) (L ++ [x]) F6 G7) := HT8.out.app hs7 ho9.out hm9.out
            clear ho9 hm9 HT8 HO8 d7
            go_wp2
            go_roundw
            case rel => exact ⟨j + 1, _, _, _, _, by omega, by go_num, rfl, HT9⟩
            case measure => simp [intOf]; omega
          · have hx' : Hid (¬ fresh (lim n) L x) := hx
            have hh : ∀ wq, Hid (SetS N wq g F (lim n) L) → Calls Try.prog 12 #[.pointer (some ⟨g, 0, none⟩), .int .i64 x] wq fun e w' => e = .returned (.bool (decide (x ∈ L))) ∧ ∃ k, w' = wq.drewN k := fun wq h => has12 N g F (lim n) L x wq h
            generalize decide (x ∈ L) = t at hh
            clear hx
            go_wp2_with fail
            refine (hh wr HT.out.s).mono ?_
            rintro e w5 ⟨rfl, q5, rfl⟩
            have HT5 : Hid (Tri N w (wr.drewN q5) g u v (lim n) L L L F G) := HT.out.next hsz (Joins.below_draws _ _ _)
            clear HT
            go_wp2_with fail
            refine (add10_no N g F (lim n) L x (wr.drewN q5) HT5.out.s hx'.out).mono ?_
            rintro e w6 ⟨rfl, hS6, hc6⟩
            have d6 : w6.cell? ⟨b1, o1 + j, none⟩ = some (.int .i64 x) := ((hc6.below (B := N) hsz (fun k hk => (HT5.out.s.low k hk).1)).cell (p := ⟨b1, o1 + j, none⟩) (by simp; omega)).trans d1
            have hs6 : N ≤ w6.heap.size := Nat.le_trans hsz hc6.size
            have HT6 : Hid (Tri N w w6 g u v (lim n) L L L F G) := HT5.out.one hsz hS6 hc6
            clear hS6 hc6 HT5 d1
            go_wp2_with fail
            refine (add10_no N u G (lim n) L x w6 HT6.out.t hx'.out).mono ?_
            rintro e w7 ⟨rfl, hS7, hc7⟩
            have d7 : w7.cell? ⟨b1, o1 + j, none⟩ = some (.int .i64 x) := ((hc7.below (B := N) hs6 (fun k hk => (HT6.out.t.low k hk).1)).cell (p := ⟨b1, o1 + j, none⟩) (by simp; omega)).trans d6
            have hs7 : N ≤ w7.heap.size := Nat.le_trans hs6 hc7.size
            have HT7 : Hid (Tri N w w7 g u v (lim n) L L L F G) := HT6.out.two hs6 hS7 hc7
            clear hS7 hc7 HT6 d6
            go_wp2_with fail
            refine (hh w7 HT7.out.s).mono ?_
            rintro e w8 ⟨rfl, q8, rfl⟩
            have HT8 : Hid (Tri N w (w7.drewN q8) g u v (lim n) L L L F G) := HT7.out.next hs7 (Joins.below_draws _ _ _)
            clear HT7 hLk hx' hh
            cases t
            · go_wp2
              go_roundw
              case rel => exact ⟨j + 1, _, _, _, _, by omega, by go_num, rfl, HT8⟩
              case measure => simp [intOf]; omega
            · go_wp2
              go_roundw
              case rel => exact ⟨j + 1, _, _, _, _, by omega, by go_num, rfl, HT8⟩
              case measure => simp [intOf]; omega
        · obtain rfl : j = nl := by omega
          clear HT2 hj hjn hLk
          go_wp2_with fail
          refine (list18 N g F (lim n) L wr HT.out.s hL0).mono ?_
          rintro e w5 ⟨x, rfl, ho5, hb5⟩
          have hs5 : N ≤ w5.heap.size := Nat.le_trans hsz hb5.size
          have HT5 : Hid (Tri N w w5 g u v (lim n) L L L F G) := HT.out.next hsz hb5
          have HX5 : Hid (w5.ownsRow wr.heap.size 3 1 x L.length (I64 L)) := ho5
          clear HT ho5 hb5
          go_wp2_with fail
          refine (list18 N u G (lim n) L w5 HT5.out.t hL0).mono ?_
          rintro e w6 ⟨y, rfl, ho6, hb6⟩
          have hs6 : N ≤ w6.heap.size := Nat.le_trans hs5 hb6.size
          have HT6 : Hid (Tri N w w6 g u v (lim n) L L L F G) := HT5.out.next hs5 hb6
          have HX6 : Hid (w6.ownsRow wr.heap.size 3 1 x L.length (I64 L)) := row_kept HX5.out (fun b hb => hb6.block b (HX5.out.lt b hb).2)
          have HY6 : Hid (w6.ownsRow w5.heap.size 3 1 y L.length (I64 L)) := ho6
          clear HT5 ho6 hb6 HX5
          have iX := ints_own rfl HX6.out
          have iY := ints_own rfl HY6.out
          have iL := ints_own rfl HT6.out.row
          have h1 := same20 L L x v w6 iX iL (by omega) (by omega)
          rw [show decide (L = L) = true by simp] at h1
          obtain ⟨ad, cap, rfl⟩ : ∃ ad cap, v = .slice ad L.length cap := by obtain ⟨ad, cap, h, _⟩ := iL; exact ⟨ad, cap, h⟩
          go_wp2_with fail
          refine h1.mono ?_
          rintro e w7 ⟨rfl, q7, rfl⟩
          have h2 := same20 L L y (.slice ad L.length cap) (w6.drewN q7) (iY.drewN q7) (iL.drewN q7) (by omega) (by omega)
          rw [show decide (L = L) = true by simp] at h2
          clear h1
          go_wp2_with fail
          refine h2.mono ?_
          rintro e w8 ⟨rfl, q8, rfl⟩
          have hle : ∀ q : Nat, Calls Try.prog 14 #[.pointer (some ⟨g, 0, none⟩)] (w6.drewN q) fun e w' => e = .returned (.int .i64 (L.length : Int)) ∧ w' = w6.drewN q := fun q => len14 N g F (lim n) L (w6.drewN q) HT6.out.s
          have HB8 : Hid (∀ q : Nat, Below w0.heap.size w0 (w6.drewN q)) := fun q => HB0.out.trans ((show Below N w (w6.drewN q) from ⟨HT6.out.below.os, HT6.out.below.tape, HT6.out.below.output, HT6.out.below.size, HT6.out.below.block⟩).mono (by omega))
          clear h2 iX iY iL HT6 HX6 HY6 HB0
          go_wp2_with (go_at_call 14; refine (hle _).mono ?_; rintro e w9 ⟨rfl, rfl⟩)
          go_ret
          exact ⟨rfl, HB8.out _⟩
end Go.Proofs.Ytlidhjcciglinaa
