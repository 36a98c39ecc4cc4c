/- HELPERS: the document's Bytes of a program that may be. -/
import Derived.Test.YteanndophopplaaDoorCe
import Derived.Test.YteanndophopplaaDoorGA
import Derived.Test.YteanndophopplaaDoorHA
import Derived.Test.YteanndophopplaaDoorFe
import Derived.Test.YteanndophopplaaDoorJB
import Derived.Test.YteanndophopplaaDoorSc
import Derived.Test.YteanndophopplaaDoorCF
import Derived.Test.YteanndophopplaaDoorQQ
/- HELPERS: a program that is great. -/
namespace Go.Proofs.YteanndophopplaaDoor
open Go.RowKit
set_option linter.unusedVariables false
set_option linter.unusedSimpArgs false
/-- how many things, counted until there are too many -/
def gsum : Nat → List In → Nat
  | acc, [] => acc
  | acc, I :: r => if acc < 4194304 then gsum (acc + 1 + I.R.length) r else acc
def greatB (l : List In) : Bool := decide (4194304 ≤ gsum 0 l)
theorem gsum_small : ∀ (l : List In) (acc : Nat), gsum acc l < 4194304 → acc + l.length < 4194304 ∧ ∀ I ∈ l, I.R.length < 4194304 := by
  intro l
  induction l with
  | nil => intro acc h; exact ⟨by simpa [gsum] using h, by simp⟩
  | cons I r ih =>
    intro acc h
    unfold gsum at h
    by_cases ha : acc < 4194304
    · rw [if_pos ha] at h
      obtain ⟨h1, h2⟩ := ih _ h
      refine ⟨by simp; omega, fun J hJ => ?_⟩
      rcases List.mem_cons.1 hJ with rfl | hJ
      · omega
      · exact h2 J hJ
    · rw [if_neg ha] at h
      omega
theorem great_no {l : List In} (h : greatB l = false) : l.length < 4194304 ∧ ∀ I ∈ l, I.R.length < 4194304 := by
  have h1 : gsum 0 l < 4194304 := by simpa [greatB] using h
  have := gsum_small l 0 h1
  exact ⟨by omega, this.2⟩
theorem gsum_drop {l : List In} {i acc : Nat} (hi : i < l.length) (ha : acc < 4194304) : gsum acc (l.drop i) = gsum (acc + 1 + l[i].R.length) (l.drop (i + 1)) := by
  rw [List.drop_eq_getElem_cons hi]
  show (if acc < 4194304 then _ else _) = _
  rw [if_pos ha]
theorem gsum_stop {l : List In} {acc : Nat} (ha : ¬ acc < 4194304) : gsum acc l = acc := by
  cases l with
  | nil => rfl
  | cons I r => unfold gsum; rw [if_neg ha]
set_option maxRecDepth 100000 in
set_option maxHeartbeats 4000000 in
theorem great9 {w : World} {ad : Option Addr} {n c : Nat} {l : List In} {s k : Int} (h : PI w w.heap.size ad n l) (hn : n * 56 ≤ 140737488351232) : Calls Tryd.prog 9 #[pv ad n c s k] w fun e w' => e = .returned (.bool (greatB l)) ∧ Below w.heap.size w w' := by
  obtain ⟨W, hW⟩ : ∃ W, W = w.alloc (.cells #[.slice ad n c, .int .i64 s, .int .i64 k] 24) := ⟨_, rfl⟩
  have hX : B3 W w.heap.size (.slice ad n c) (.int .i64 s) (.int .i64 k) := by rw [hW]; exact heap_alloc_new w _
  have hb : Below w.heap.size w W := by rw [hW]; exact Joins.below_alloc1 w _
  have HP := hid (h.kept hb hb.size)
  have HL := hid h.len
  obtain ⟨p0, p1, p2⟩ := three_cells hX
  have HB := hid hb
  have HW := hid hW
  obtain ⟨r, hr⟩ : ∃ r, r = greatB l := ⟨_, rfl⟩
  rw [← hr]
  have HR := hid hr
  clear hX hb hW h hr
  go_enter Tryd.func9, Tryd.ntmps9
  go_upto_region 1 with fail
  rw [← HW.out]
  go_wp2_with fail
  go_loopw [3, 4] (fun y z wq => ∃ (i acc : Nat), y = .int .i64 (acc : Int) ∧ z = .int .i64 (i : Int) ∧ i ≤ n ∧ wq = W ∧ acc ≤ 281474976710656 ∧ Hid (gsum 0 l = gsum acc (l.drop i))) (fun _ z _ => n - (intOf z).toNat)
  case atStart => exact ⟨0, 0, rfl, rfl, by omega, rfl, by omega, rfl⟩
  case round =>
    obtain ⟨i, acc, rfl, rfl, hi, hw, hac, HG⟩ := hrel
    obtain rfl := hw
    by_cases hil : i < n
    · have b1 : decide ((i : Int) < (n : Int)) = true := by simp; omega
      have b2 : (i : Int) < (n : Int) := by omega
      by_cases ha : acc < 4194304
      · have b3 : decide ((acc : Int) < 4194304) = true := by simp; omega
        have b4 : (acc : Int) < 4194304 := by omega
        have hlt : i < l.length := by have := HL.out; omega
        obtain ⟨g, o, ND, e, hg, hcs⟩ := HP.out.mem (by omega)
        subst e
        obtain ⟨m0, m1, m2, m3, m4⟩ := (hcs i hlt).1
        have hI := (hcs i hlt).2
        obtain ⟨M, hM⟩ : ∃ M, M = ND i := ⟨_, rfl⟩
        rw [← hM] at m0 m1 m2 m3 m4 hI
        clear hM hcs
        obtain ⟨op, xx, yy, aa, r1, r2, r3⟩ := M
        dsimp only at m0 m1 m2 m3 m4
        have hsm : r2 * 16 ≤ 140737488351232 := hI.sm
        have hlen : r2 = l[i].R.length := hI.len
        have ad1 : IntKind.i64.wrap ((i : Int) + 1) = (i : Int) + 1 := by simp [IntKind.wrap, IntKind.bits, IntKind.signed]; omega
        have ad2 : IntKind.i64.wrap ((acc : Int) + 1) = (acc : Int) + 1 := by simp [IntKind.wrap, IntKind.bits, IntKind.signed]; omega
        have ad3 : IntKind.i64.wrap ((acc : Int) + 1 + (r2 : Int)) = (acc : Int) + 1 + (r2 : Int) := by simp [IntKind.wrap, IntKind.bits, IntKind.signed]; omega
        have HG2 : Hid (gsum 0 l = gsum (acc + 1 + r2) (l.drop (i + 1))) := by show _ = _; rw [HG.out, gsum_drop hlt ha, hlen]
        clear hI hlen
        go_wp2
        exact ⟨⟨i + 1, acc + 1 + r2, by push_cast; rfl, by push_cast; rfl, by omega, by trivial, by omega, HG2.out⟩, by simp [intOf]; omega⟩
      · have b3 : decide ((acc : Int) < 4194304) = false := by simp; omega
        have b4 : ¬ (acc : Int) < 4194304 := by omega
        have b5 : decide ((acc : Int) ≥ 4194304) = true := by simp; omega
        have HR0 : Hid (r = true) := by show _ = _; rw [HR.out]; unfold greatB; rw [HG.out, gsum_stop ha]; simp; omega
        go_wp2
        all_goals go_ret
        all_goals exact ⟨ret_bool (by rw [HR0.out]), HB.out⟩
    · have b1 : decide ((i : Int) < (n : Int)) = false := by simp; omega
      have b2 : ¬ (i : Int) < (n : Int) := by omega
      have HR0 : Hid (r = decide ((acc : Int) ≥ 4194304)) := by
        show _ = _
        rw [HR.out]; unfold greatB
        rw [HG.out, List.drop_eq_nil_of_le (by have := HL.out; omega)]
        show decide (4194304 ≤ acc) = _
        simp; omega
      by_cases ha : acc < 4194304
      · have b5 : decide ((acc : Int) ≥ 4194304) = false := by simp; omega
        have b6 : ¬ (4194304 : Int) ≤ (acc : Int) := by omega
        rw [b5] at HR0
        go_wp2
        all_goals go_ret
        all_goals exact ⟨ret_bool (by rw [HR0.out]), HB.out⟩
      · have b5 : decide ((acc : Int) ≥ 4194304) = true := by simp; omega
        have b6 : (4194304 : Int) ≤ (acc : Int) := by omega
        rw [b5] at HR0
        go_wp2
        all_goals go_ret
        all_goals exact ⟨ret_bool (by rw [HR0.out]), HB.out⟩
end Go.Proofs.YteanndophopplaaDoor
/- HELPERS: the document's fields of an instruction that may be. -/
namespace Go.Proofs.YteanndophopplaaDoor
open Go.RowKit
set_option linter.unusedVariables false
set_option linter.unusedSimpArgs false
/-- what the fields come to: a row of numbers of the call's own -/
def FPost (w : World) (ns : List Nat) (e : Ending) (w' : World) : Prop := Below w.heap.size w w' ∧ ∃ a c, e = .returned (.slice a ns.length c) ∧ w'.ownsRow w.heap.size 3 1 (.slice a ns.length c) ns.length (I1 ns)
theorem lit3_2 (W : World) (base : Nat) (hb : base ≤ W.heap.size) (x y : Nat) : (W.alloc (.cells #[.int .i64 (x : Int), .int .i64 (y : Int)] 3)).ownsRow base 3 1 (.slice (some ⟨W.heap.size, 0, none⟩) 2 2) 2 (I1 [x, y]) :=
  World.ownsRow_lit (base := base) (e := 3) (size := 1) W #[.int .i64 (x : Int), .int .i64 (y : Int)] 2 hb (by unfold maxLen; omega) rfl
theorem lit3_1 (W : World) (base : Nat) (hb : base ≤ W.heap.size) (x : Nat) : (W.alloc (.cells #[.int .i64 (x : Int)] 3)).ownsRow base 3 1 (.slice (some ⟨W.heap.size, 0, none⟩) 1 1) 1 (I1 [x]) :=
  World.ownsRow_lit (base := base) (e := 3) (size := 1) W #[.int .i64 (x : Int)] 1 hb (by unfold maxLen; omega) rfl
set_option maxRecDepth 100000 in
set_option maxHeartbeats 4000000 in
theorem fields42_2 {w : World} {x y : Nat} {r1 : Option Addr} {r2 r3 : Nat} {k : Int} : Calls Tryd.prog 42 #[.agg #[.int .i64 2, .int .i64 (x : Int), .int .i64 (y : Int), .int .i64 k, .slice r1 r2 r3]] w (FPost w [x, y]) := by
  obtain ⟨W, hW⟩ : ∃ W, W = w.alloc (.cells #[.int .i64 2, .int .i64 (x : Int), .int .i64 (y : Int), .int .i64 k, .slice r1 r2 r3] 49) := ⟨_, rfl⟩
  have hX : B5 W w.heap.size (.int .i64 2) (.int .i64 (x : Int)) (.int .i64 (y : Int)) (.int .i64 k) (.slice r1 r2 r3) := by rw [hW]; exact heap_alloc_new w _
  have hb : Below w.heap.size w W := by rw [hW]; exact Joins.below_alloc1 w _
  obtain ⟨c0, c1, c2, c3, c4⟩ := five hX
  have HB := hid hb
  have HW := hid hW
  clear hX hb hW
  go_enter Tryd.func42, Tryd.ntmps42
  go_upto_region 1 with fail
  rw [← HW.out]
  go_wp2
  all_goals go_ret
  all_goals exact ⟨HB.out.alloc HB.out.size _, _, _, rfl, lit3_2 W _ HB.out.size x y⟩
set_option maxRecDepth 100000 in
set_option maxHeartbeats 4000000 in
theorem fields42_3 {w : World} {x y : Nat} {r1 : Option Addr} {r2 r3 : Nat} {k : Int} : Calls Tryd.prog 42 #[.agg #[.int .i64 3, .int .i64 (x : Int), .int .i64 k, .int .i64 (y : Int), .slice r1 r2 r3]] w (FPost w [y, x]) := by
  obtain ⟨W, hW⟩ : ∃ W, W = w.alloc (.cells #[.int .i64 3, .int .i64 (x : Int), .int .i64 k, .int .i64 (y : Int), .slice r1 r2 r3] 49) := ⟨_, rfl⟩
  have hX : B5 W w.heap.size (.int .i64 3) (.int .i64 (x : Int)) (.int .i64 k) (.int .i64 (y : Int)) (.slice r1 r2 r3) := by rw [hW]; exact heap_alloc_new w _
  have hb : Below w.heap.size w W := by rw [hW]; exact Joins.below_alloc1 w _
  obtain ⟨c0, c1, c2, c3, c4⟩ := five hX
  have HB := hid hb
  have HW := hid hW
  clear hX hb hW
  go_enter Tryd.func42, Tryd.ntmps42
  go_upto_region 1 with fail
  rw [← HW.out]
  go_wp2
  all_goals go_ret
  all_goals exact ⟨HB.out.alloc HB.out.size _, _, _, rfl, lit3_2 W _ HB.out.size y x⟩
set_option maxRecDepth 100000 in
set_option maxHeartbeats 4000000 in
theorem fields42_4 {w : World} {x y : Nat} {r1 : Option Addr} {r2 r3 : Nat} {k : Int} : Calls Tryd.prog 42 #[.agg #[.int .i64 4, .int .i64 (x : Int), .int .i64 k, .int .i64 (y : Int), .slice r1 r2 r3]] w (FPost w [y, x]) := by
  obtain ⟨W, hW⟩ : ∃ W, W = w.alloc (.cells #[.int .i64 4, .int .i64 (x : Int), .int .i64 k, .int .i64 (y : Int), .slice r1 r2 r3] 49) := ⟨_, rfl⟩
  have hX : B5 W w.heap.size (.int .i64 4) (.int .i64 (x : Int)) (.int .i64 k) (.int .i64 (y : Int)) (.slice r1 r2 r3) := by rw [hW]; exact heap_alloc_new w _
  have hb : Below w.heap.size w W := by rw [hW]; exact Joins.below_alloc1 w _
  obtain ⟨c0, c1, c2, c3, c4⟩ := five hX
  have HB := hid hb
  have HW := hid hW
  clear hX hb hW
  go_enter Tryd.func42, Tryd.ntmps42
  go_upto_region 1 with fail
  rw [← HW.out]
  go_wp2
  all_goals go_ret
  all_goals exact ⟨HB.out.alloc HB.out.size _, _, _, rfl, lit3_2 W _ HB.out.size y x⟩
set_option maxRecDepth 100000 in
set_option maxHeartbeats 4000000 in
theorem fields42_5 {w : World} {y : Nat} {r1 : Option Addr} {r2 r3 : Nat} {x k : Int} : Calls Tryd.prog 42 #[.agg #[.int .i64 5, .int .i64 x, .int .i64 k, .int .i64 (y : Int), .slice r1 r2 r3]] w (FPost w [y]) := by
  obtain ⟨W, hW⟩ : ∃ W, W = w.alloc (.cells #[.int .i64 5, .int .i64 x, .int .i64 k, .int .i64 (y : Int), .slice r1 r2 r3] 49) := ⟨_, rfl⟩
  have hX : B5 W w.heap.size (.int .i64 5) (.int .i64 x) (.int .i64 k) (.int .i64 (y : Int)) (.slice r1 r2 r3) := by rw [hW]; exact heap_alloc_new w _
  have hb : Below w.heap.size w W := by rw [hW]; exact Joins.below_alloc1 w _
  obtain ⟨c0, c1, c2, c3, c4⟩ := five hX
  have HB := hid hb
  have HW := hid hW
  clear hX hb hW
  go_enter Tryd.func42, Tryd.ntmps42
  go_upto_region 1 with fail
  rw [← HW.out]
  go_wp2
  all_goals go_ret
  all_goals exact ⟨HB.out.alloc HB.out.size _, _, _, rfl, lit3_1 W _ HB.out.size y⟩
set_option maxRecDepth 100000 in
set_option maxHeartbeats 4000000 in
theorem fields42_7 {w : World} {x : Nat} {r1 : Option Addr} {r2 r3 : Nat} {y k : Int} : Calls Tryd.prog 42 #[.agg #[.int .i64 7, .int .i64 (x : Int), .int .i64 y, .int .i64 k, .slice r1 r2 r3]] w (FPost w [x]) := by
  obtain ⟨W, hW⟩ : ∃ W, W = w.alloc (.cells #[.int .i64 7, .int .i64 (x : Int), .int .i64 y, .int .i64 k, .slice r1 r2 r3] 49) := ⟨_, rfl⟩
  have hX : B5 W w.heap.size (.int .i64 7) (.int .i64 (x : Int)) (.int .i64 y) (.int .i64 k) (.slice r1 r2 r3) := by rw [hW]; exact heap_alloc_new w _
  have hb : Below w.heap.size w W := by rw [hW]; exact Joins.below_alloc1 w _
  obtain ⟨c0, c1, c2, c3, c4⟩ := five hX
  have HB := hid hb
  have HW := hid hW
  clear hX hb hW
  go_enter Tryd.func42, Tryd.ntmps42
  go_upto_region 1 with fail
  rw [← HW.out]
  go_wp2
  all_goals go_ret
  all_goals exact ⟨HB.out.alloc HB.out.size _, _, _, rfl, lit3_1 W _ HB.out.size x⟩
set_option maxRecDepth 100000 in
set_option maxHeartbeats 4000000 in
theorem fields42_6 {w : World} {r1 : Option Addr} {r2 r3 : Nat} {x y k : Int} : Calls Tryd.prog 42 #[.agg #[.int .i64 6, .int .i64 x, .int .i64 y, .int .i64 k, .slice r1 r2 r3]] w (FPost w []) := by
  obtain ⟨W, hW⟩ : ∃ W, W = w.alloc (.cells #[.int .i64 6, .int .i64 x, .int .i64 y, .int .i64 k, .slice r1 r2 r3] 49) := ⟨_, rfl⟩
  have hX : B5 W w.heap.size (.int .i64 6) (.int .i64 x) (.int .i64 y) (.int .i64 k) (.slice r1 r2 r3) := by rw [hW]; exact heap_alloc_new w _
  have hb : Below w.heap.size w W := by rw [hW]; exact Joins.below_alloc1 w _
  obtain ⟨c0, c1, c2, c3, c4⟩ := five hX
  have HB := hid hb
  have HW := hid hW
  clear hX hb hW
  go_enter Tryd.func42, Tryd.ntmps42
  go_upto_region 1 with fail
  rw [← HW.out]
  go_wp2
  all_goals go_ret
  all_goals exact ⟨HB.out, none, 0, rfl, World.ownsRow_nil _ _ _ _⟩
end Go.Proofs.YteanndophopplaaDoor
/- HELPERS: the document's fields of an instruction: runes. -/
namespace Go.Proofs.YteanndophopplaaDoor
open Go.RowKit
set_option linter.unusedVariables false
set_option linter.unusedSimpArgs false
/-- the numbers of the first j ranges, with what stands ahead of them -/
def rfl' (x : Nat) (R : List (Int × Int)) (j : Nat) : List Nat := x :: R.length :: rnums (R.take j)
theorem rfl_len (x : Nat) (R : List (Int × Int)) {j : Nat} (h : j ≤ R.length) : (rfl' x R j).length = 2 + 2 * j := by
  have e : ∀ (L : List (Int × Int)), (rnums L).length = 2 * L.length := by
    intro L
    induction L with
    | nil => rfl
    | cons r L ih => simp only [rnums, List.flatMap_cons, List.length_append] at ih ⊢; simp at ih ⊢; omega
  simp only [rfl', List.length_cons, e, List.length_take]
  omega
theorem rfl_snoc (x : Nat) (R : List (Int × Int)) {j : Nat} (h : j < R.length) : rfl' x R (j + 1) = rfl' x R j ++ [R[j].1.toNat, R[j].2.toNat] := by
  unfold rfl'
  rw [List.take_succ_eq_append_getElem h]
  have e : rnums (R.take j ++ [R[j]]) = rnums (R.take j) ++ [R[j].1.toNat, R[j].2.toNat] := by unfold rnums; rw [List.flatMap_append]; rfl
  rw [e]
  rfl
set_option maxRecDepth 100000 in
set_option maxHeartbeats 8000000 in
theorem fields42_1 {w : World} {x : Nat} {R : List (Int × Int)} {r1 : Option Addr} {r2 r3 : Nat} {y k : Int} (h : RowAt w.heap.size w (.slice r1 r2 r3) R) (hR : rightB R = true) : Calls Tryd.prog 42 #[.agg #[.int .i64 1, .int .i64 (x : Int), .int .i64 y, .int .i64 k, .slice r1 r2 r3]] w (FPost w (rfl' x R R.length)) := by
  obtain ⟨i2, hi2, hz20, hz21, hz22⟩ := info_parts info3
  obtain ⟨ad, cap, e, hrow⟩ := h
  simp only [Value.slice.injEq] at e
  obtain ⟨rfl, rfl, rfl⟩ := e
  obtain ⟨hR5, hRn⟩ := right_ok hR
  obtain ⟨n, hn⟩ : ∃ n, n = R.length := ⟨_, rfl⟩
  rw [← hn] at hR5 ⊢
  obtain ⟨W, hW⟩ : ∃ W, W = w.alloc (.cells #[.int .i64 1, .int .i64 (x : Int), .int .i64 y, .int .i64 k, .slice r1 n r3] 49) := ⟨_, rfl⟩
  have hX : B5 W w.heap.size (.int .i64 1) (.int .i64 (x : Int)) (.int .i64 y) (.int .i64 k) (.slice r1 n r3) := by rw [hW]; exact heap_alloc_new w _
  have hb : Below w.heap.size w W := by rw [hW]; exact Joins.below_alloc1 w _
  obtain ⟨c0, c1, c2, c3, c4⟩ := five hX
  have HX := hid hX
  have HB := hid hb
  have HW := hid hW
  have HN := hid hn
  have HRW := hid hrow
  have HRN := hid hRn
  have hwW : w.heap.size < W.heap.size := (Array.getElem?_eq_some_iff.1 hX).1
  have HL2 := hid (lit3_2 W W.heap.size (Nat.le_refl _) x n)
  have HE0 : Hid (I1 [x, n] = I1 (rfl' x R 0) ∧ (rfl' x R 0).length = 2) := by
    have e0 : rfl' x R 0 = [x, n] := by unfold rfl'; rw [← hn]; rfl
    exact ⟨by rw [e0], by rw [e0]; rfl⟩
  obtain ⟨b, hbq⟩ : ∃ b, b = w.heap.size := ⟨_, rfl⟩
  have HBQ := hid hbq
  clear hX hb hW hn hrow hRn hR
  go_enter Tryd.func42, Tryd.ntmps42
  go_upto_region 1 with fail
  rw [← HW.out, ← HBQ.out]
  rw [← HBQ.out] at c0 c1 c2 c3 c4 hwW
  have HBV := hid (Joins.below_alloc1 W (.cells #[.int .i64 (x : Int), .int .i64 (n : Int)] 3))
  obtain ⟨V, hV⟩ : ∃ V, V = W.alloc (.cells #[.int .i64 (x : Int), .int .i64 (n : Int)] 3) := ⟨_, rfl⟩
  rw [← hV] at HL2 HBV
  have HV := hid hV
  clear hV hbq
  go_upto_region 5 with fail
  rw [← HV.out]
  clear c0 c1 c2 c3 c4
  go_loopw [3, 4] (fun z y wq => ∃ (j : Nat) (ra : Option Addr) (rc : Nat), z = .slice ra (2 + 2 * j) rc ∧ y = .int .i64 (j : Int) ∧ j ≤ n ∧ Hid (Below W.heap.size W wq) ∧ Hid (wq.ownsRow W.heap.size 3 1 (.slice ra (2 + 2 * j) rc) (2 + 2 * j) (I1 (rfl' x R j)))) (fun _ y _ => n - (intOf y).toNat)
  case atStart => exact ⟨0, _, _, rfl, rfl, by omega, HBV.out, by rw [← HE0.out.1]; exact HL2.out⟩
  case round =>
    obtain ⟨j, ra, rc, rfl, rfl, hj, HBw, HO⟩ := hrel
    have hX : B5 wr b (.int .i64 1) (.int .i64 (x : Int)) (.int .i64 y) (.int .i64 k) (.slice r1 n r3) := (HBw.out.block b hwW).trans (by rw [HBQ.out]; exact HX.out)
    obtain ⟨p0, p1, p2, p3, p4⟩ := five hX
    have hbl : b < wr.heap.size := by have := HBw.out.size; omega
    have hWw : W.heap.size ≤ wr.heap.size := HBw.out.size
    clear hX
    by_cases hjn : j < n
    · have b1 : decide ((j : Int) < (n : Int)) = true := by simp; omega
      have b2 : (j : Int) < (n : Int) := by omega
      have ad1 : IntKind.i64.wrap ((j : Int) + 1) = (j : Int) + 1 := by simp [IntKind.wrap, IntKind.bits, IntKind.signed]; omega
      have hjR : j < R.length := by have := HN.out; omega
      obtain ⟨g, o, rfl, hg, q0, q1⟩ : ∃ g o, r1 = some ⟨g, o, none⟩ ∧ g < b ∧ wr.cell? ⟨g, o + j * 2, none⟩ = some (.int .i64 (R[j].1.toNat : Int)) ∧ wr.cell? ⟨g, o + j * 2 + 1, none⟩ = some (.int .i64 (R[j].2.toNat : Int)) := by
        rcases HRW.out with h0 | ⟨g, o, e, hg, h0, h1⟩
        · omega
        · obtain ⟨z1, _, z2, _⟩ := HRN.out R[j] (List.getElem_mem hjR)
          have e1 : R.getD j (0, 0) = R[j] := by simp [List.getD_eq_getElem?_getD, List.getElem?_eq_getElem hjR]
          refine ⟨g, o, e, by rw [HBQ.out]; exact hg, ?_, ?_⟩
          · rw [Int.toNat_of_nonneg z1]
            have := h0 j hjR
            rw [e1] at this
            exact (HBw.out.cell (p := ⟨g, _, none⟩) (by show g < _; have := HBQ.out; omega)).trans ((HB.out.cell (p := ⟨g, _, none⟩) hg).trans this)
          · rw [Int.toNat_of_nonneg z2]
            have := h1 j hjR
            rw [e1] at this
            exact (HBw.out.cell (p := ⟨g, _, none⟩) (by show g < _; have := HBQ.out; omega)).trans ((HB.out.cell (p := ⟨g, _, none⟩) hg).trans this)
      have HSN := hid (rfl_snoc x R hjR)
      obtain ⟨lo, hlo⟩ : ∃ lo, lo = R[j].1.toNat := ⟨_, rfl⟩
      obtain ⟨hi', hhi⟩ : ∃ hi, hi = R[j].2.toNat := ⟨_, rfl⟩
      rw [← hlo, ← hhi] at HSN
      rw [← hlo] at q0
      rw [← hhi] at q1
      clear hlo hhi
      have hgw : g < wr.heap.size := by omega
      go_upto_region 7 with fail
      refine wp_region_lex 13 15 (fun W => W.cell? ⟨b, 4, none⟩ = some (.slice (some ⟨g, o, none⟩) n r3) ∧ W.cell? ⟨g, o + j * 2, none⟩ = some (.int .i64 (lo : Int)) ∧ W.cell? ⟨g, o + j * 2 + 1, none⟩ = some (.int .i64 (hi' : Int))) (by kernel_rfl) (by kernel_rfl) (by decide) (by kernel_rfl) (by kernel_rfl) ⟨by simpa using p4, by simpa using q0, by simpa using q1⟩ ?_
      simp only [List.take_succ_cons, List.take_zero, List.drop_succ_cons, List.drop_zero]
      iterate 13
        refine lex_cons ?_ rfl (fun W hW => ?_) (fun _ _ _ h => h) ?_
        rotate_left
        · obtain ⟨s0, s1, s2⟩ := hW
          go_simp <;> with_reducible rfl
        simp only [Act.put, List.setIfInBounds_toArray, List.set_cons_zero, List.set_cons_succ]
      have HO6 : Hid ((wr.drew.alloc (.cells #[.int .i64 (lo : Int), .int .i64 (hi' : Int)] 3)).ownsRow W.heap.size 3 1 (.slice ra (2 + 2 * j) rc) (2 + 2 * j) (I1 (rfl' x R j))) := (HO.out.drew).alloc _
      refine lex_nil (tail_cons fun K hK => ?_)
      go_simp
      refine hK.out _ _ (fun _ => ⟨by simp [p4, hbl, World.cell?_alloc_lt], by simp [q0, hgw, World.cell?_alloc_lt], by simp [q1, hgw, World.cell?_alloc_lt]⟩) (tail_cons fun K hK => ?_)
      refine step_append_row rfl (.tmp 22) (.tmp 35) 71 rfl W.heap.size 3 i2 (.int .i64 0) 1 8 Tryd.underlying71 hi2 hz20 hz21 hz22 rfl (by decide) (.slice ra (2 + 2 * j) rc) (2 + 2 * j) (I1 (rfl' x R j)) (by simp [Act.eval, Act.put]) (by exact HO6.out) wr.heap.size 2 2 #[.int .i64 (lo : Int), .int .i64 (hi' : Int)] 3 (by simp [Act.eval, Act.put]) (by exact heap_alloc_new wr.drew _) rfl (by decide) (by simp [Value.oneCell']) (by unfold maxLen; omega) (by omega) (by (try simp) <;> omega) ?_
      intro v3 w3 ho3 hf3
      obtain ⟨y1, y3, hv3, _⟩ := row_shape ho3.out
      have old : ∀ q, q < W.heap.size → w3.heap[q]? = wr.heap[q]? := fun q hq => (hf3.out.block q (by (try simp) <;> omega) (fun e => by have := (HO.out.lt q e).1; omega)).trans (heap_alloc_old wr.drew _ (by show q < wr.heap.size; omega))
      have hb3 : Below W.heap.size W w3 := ⟨hf3.out.os.trans HBw.out.os, hf3.out.tape.trans HBw.out.tape, hf3.out.output.trans HBw.out.output, by have := hf3.out.size; simp at this; omega, fun q hq => (old q hq).trans (HBw.out.block q hq)⟩
      subst hv3
      have t4 := (cell_eq (old b hwW) 4).trans p4
      have t0 := (cell_eq (old g (by omega)) (o + j * 2)).trans q0
      have t1 := (cell_eq (old g (by omega)) (o + j * 2 + 1)).trans q1
      have HB3 := hid hb3
      have HO3 : Hid (w3.ownsRow W.heap.size 3 1 (.slice y1 (2 + 2 * (j + 1)) y3) (2 + 2 * (j + 1)) (I1 (rfl' x R (j + 1)))) := by
        have e := ho3.out
        rw [show 2 + 2 * j + 2 = 2 + 2 * (j + 1) by omega] at e
        rw [HSN.out, show I1 (rfl' x R j ++ [lo, hi']) = I1 (rfl' x R j) ++ [.int .i64 (lo : Int), .int .i64 (hi' : Int)] by simp [I1]]
        exact e
      clear old hb3 ho3 hf3 HO6
      refine hK.out _ _ (fun _ => ⟨t4, t0, t1⟩) (tail_cons fun K hK => ?_)
      simp only [Act.put, List.setIfInBounds_toArray, List.set_cons_zero, List.set_cons_succ]
      go_simp
      refine hK.out _ _ (fun h => absurd rfl h) (tail_nil ?_)
      rw [show 2 + 2 * j + 2 = 2 + 2 * (j + 1) by omega]
      go_wp2_with fail
      exact ⟨⟨j + 1, y1, y3, rfl, by push_cast; rfl, by omega, HB3.out, HO3.out⟩, by simp [intOf]; omega⟩
    · have b1 : decide ((j : Int) < (n : Int)) = false := by simp; omega
      have b2 : ¬ (j : Int) < (n : Int) := by omega
      obtain rfl : j = n := by omega
      have hlen := rfl_len x R (j := j) (by rw [HN.out]; exact Nat.le_refl _)
      have HLEN := hid hlen
      clear hlen
      go_wp2
      all_goals go_ret
      all_goals
        unfold FPost
        rw [HLEN.out]
        exact ⟨HB.out.trans (Joins.below_le HBw.out HB.out.size), ra, rc, rfl, own_wide HO.out HB.out.size⟩
theorem toNat_i {x : Int} (h : 0 ≤ x) : ((x.toNat : Nat) : Int) = x := Int.toNat_of_nonneg h
/-- THE DOCUMENT'S FIELDS OF AN INSTRUCTION THAT MAY BE -/
theorem fields42 {w : World} {N : Iv} {I : In} {n k : Int} (h : IM w w.heap.size N I) (hf : Fit n k I) : Calls Tryd.prog 42 #[N.v] w (FPost w I.nums) := by
  obtain ⟨op, x, y, a, r1, r2, r3⟩ := N
  obtain ⟨h1, h2, h3, h4, _, _, h7⟩ := h
  dsimp only at h1 h2 h3 h4 h7
  subst h1 h2 h3 h4
  cases hf with
  | rune x R hx _ _ hR =>
    have := fields42_1 (x := x.toNat) (y := 0) (k := 0) h7 hR
    rw [toNat_i hx, show rfl' x.toNat R R.length = (In.mk 1 x 0 0 R).nums by simp [rfl', In.nums]] at this
    exact this
  | alt x y hx _ hy _ =>
    have := fields42_2 (w := w) (x := x.toNat) (y := y.toNat) (r1 := r1) (r2 := r2) (r3 := r3) (k := 0)
    rw [toNat_i hx, toNat_i hy] at this
    exact this
  | cap x a hx _ ha _ =>
    have := fields42_3 (w := w) (x := x.toNat) (y := a.toNat) (r1 := r1) (r2 := r2) (r3 := r3) (k := 0)
    rw [toNat_i hx, toNat_i ha] at this
    exact this
  | assert x a hx _ ha _ =>
    have := fields42_4 (w := w) (x := x.toNat) (y := a.toNat) (r1 := r1) (r2 := r2) (r3 := r3) (k := 0)
    rw [toNat_i hx, toNat_i ha] at this
    exact this
  | mtch a ha _ =>
    have := fields42_5 (w := w) (y := a.toNat) (r1 := r1) (r2 := r2) (r3 := r3) (x := 0) (k := 0)
    rw [toNat_i ha] at this
    exact this
  | fail => exact fields42_6
  | nop x hx _ =>
    have := fields42_7 (w := w) (x := x.toNat) (r1 := r1) (r2 := r2) (r3 := r3) (y := 0) (k := 0)
    rw [toNat_i hx] at this
    exact this
end Go.Proofs.YteanndophopplaaDoor
/- HELPERS: the document's Bytes: what it is asked of. -/
namespace Go.Proofs.YteanndophopplaaDoor
open Go.RowKit
set_option linter.unusedVariables false
set_option linter.unusedSimpArgs false
theorem nums_q {n k : Int} {I : In} (hF : Fit n k I) (hn : n ≤ 20000) (hk : k ≤ 1002) : ∀ q ∈ I.nums, q ≤ 1114111 := by
  cases hF with
  | rune x R h1 h2 h3 h4 =>
    obtain ⟨r5, r6⟩ := right_ok h4
    intro q hq
    simp only [In.nums, if_true, List.mem_cons] at hq
    rcases hq with rfl | rfl | hq
    · omega
    · omega
    · simp only [rnums, List.mem_flatMap] at hq
      obtain ⟨r, hr, hq⟩ := hq
      have := r6 r hr
      simp at hq
      rcases hq with rfl | rfl <;> omega
  | alt x y h1 h2 h3 h4 => intro q hq; simp [In.nums] at hq; rcases hq with rfl | rfl <;> omega
  | cap x y h1 h2 h3 h4 => intro q hq; simp [In.nums] at hq; rcases hq with rfl | rfl <;> omega
  | assert x y h1 h2 h3 h4 => intro q hq; simp [In.nums] at hq; rcases hq with rfl | rfl <;> omega
  | mtch y h1 h2 => intro q hq; simp [In.nums] at hq; subst hq; omega
  | fail => intro q hq; simp [In.nums] at hq
  | nop y h1 h2 => intro q hq; simp [In.nums] at hq; subst hq; omega
/-- a row of bytes that grows while a row of numbers is read -/
structure ZW (U V : World) (base : Nat) (y : Value) (xs : List Nat) (z : Value) (ns : List Nat) : Prop where
  be : Below base U V
  sz : base ≤ V.heap.size
  row : V.ownsRow base 5 1 y xs.length (U8 xs)
  nr : V.ownsRow base 3 1 z ns.length (I1 ns)
  ap : ∀ b, y.ownBlock = some b → z.ownBlock ≠ some b
theorem ZW.put {U V V' : World} {base : Nat} {y y' z : Value} {xs xs' ns : List Nat} (h : ZW U V base y xs z ns) (hg : GB V V' y y') (ho : V'.ownsRow base 5 1 y' xs'.length (U8 xs')) : ZW U V' base y' xs' z ns := by
  refine ⟨below_gb h.be h.sz h.row hg, Nat.le_trans h.sz hg.size, ho, row_kept h.nr (fun b e => hg.block b (h.nr.lt b e).2 (fun e2 => h.ap b e2 e)), fun b e => ?_⟩
  rcases hg.own b e with e1 | e1
  · exact h.ap b e1
  · intro e2
    have := (h.nr.lt b e2).2
    omega
theorem zw_new {U V V' : World} {base n c : Nat} {a : Option Addr} {y : Value} {xs ns : List Nat} (hbe : Below base U V) (hs : base ≤ V.heap.size) (hr : V.ownsRow base 5 1 y xs.length (U8 xs)) (hb : Below V.heap.size V V') (hn : V'.ownsRow V.heap.size 3 1 (.slice a n c) n (I1 ns)) (hnl : n = ns.length) : ZW U V' base y xs (.slice a n c) ns := by
  refine ⟨hbe.trans (Joins.below_le hb hs), Nat.le_trans hs hb.size, row_kept hr (fun b e => hb.block b (hr.lt b e).2), ?_, fun b e e2 => ?_⟩
  · rw [← hnl]; exact own_wide hn hs
  · have h1 := (hr.lt b e).2
    have h2 := (hn.lt b e2).1
    omega
theorem sumE_take {ns : List Nat} {j : Nat} (h : j < ns.length) : sumE put7 (ns.take (j + 1)) = sumE put7 (ns.take j) ++ put7 ns[j] := by
  rw [List.take_succ_eq_append_getElem h]
  simp only [sumE, List.flatMap_append]
  simp
theorem sumE_take_le (ns : List Nat) (j : Nat) : (sumE put7 (ns.take j)).length ≤ (sumE put7 ns).length := by
  have h : sumE put7 ns = sumE put7 (ns.take j) ++ sumE put7 (ns.drop j) := by
    simp only [sumE]
    rw [← List.flatMap_append, List.take_append_drop]
  rw [h, List.length_append]; omega
theorem res25 (tmps : Array Value) (w : World) (v e : Value) (h2 : tmps.getD 2 undef = v) (h3 : tmps.getD 3 undef = e) : (results Tryd.f25 tmps).run Tryd.prog w = .ok (.tuple #[v, e]) w := by
  have h2' : tmps[2]?.getD undef = v := by simpa using h2
  have h3' : tmps[3]?.getD undef = e := by simpa using h3
  simp [results, Tryd.results25, h2', h3', Result.andThen]
set_option maxRecDepth 100000 in
set_option maxHeartbeats 4000000 in
theorem rbytes25_no {w : World} {ad : Option Addr} {n c : Nat} {l : List In} {s k : Int} (h : PI w w.heap.size ad n l) (hm : mayB l s k = false) : Calls Tryd.prog 25 #[pv ad n c s k] w fun e w' => Below w.heap.size w w' ∧ e = .returned (.tuple #[.slice none 0 0, .int .i64 90]) := by
  obtain ⟨U, hU⟩ : ∃ U, U = w.alloc (.cells #[.slice ad n c, .int .i64 s, .int .i64 k] 24) := ⟨_, rfl⟩
  have hX : B3 U w.heap.size (.slice ad n c) (.int .i64 s) (.int .i64 k) := by rw [hU]; exact heap_alloc_new w _
  have hb : Below w.heap.size w U := by rw [hU]; exact Joins.below_alloc1 w _
  have C29 := rcheck9 (c := c) (s := s) (k := k) (h.kept hb hb.size)
  rw [hm] at C29
  obtain ⟨c0, c1, c2⟩ := three_cells hX
  have HB := hid hb
  have HU := hid hU
  clear hX hb hU hm h
  go_enter Tryd.func25, Tryd.ntmps25
  go_upto_region 1 with fail
  rw [← HU.out]
  go_wp2_with (go_at_call 29; (with_reducible refine C29.mono ?_); rintro e w2 ⟨rfl, hb2⟩; have HB2 := hid hb2; clear hb2 C29)
  refine bodyPost_ret (res25 _ _ (.slice none 0 0) (.int .i64 90) rfl rfl) rfl ?_
  exact ⟨HB.out.trans (Joins.below_le HB2.out HB.out.size), rfl⟩
end Go.Proofs.YteanndophopplaaDoor
namespace Go.Proofs.YteanndophopplaaDoor
open Go.RowKit
set_option linter.unusedVariables false
set_option linter.unusedSimpArgs false
theorem lit_BA4 (W : World) (x y z u : Nat) : BA (W.alloc (.cells #[.int .u8 (x : Int), .int .u8 (y : Int), .int .u8 (z : Int), .int .u8 (u : Int)] 5)) (W.heap.size + 1) (some ⟨W.heap.size, 0, none⟩) [x, y, z, u] := by
  refine .inr ⟨W.heap.size, 0, rfl, by omega, fun k hk => ?_⟩
  have h := Joins.cell_of_block (heap_alloc_new W (.cells #[.int .u8 (x : Int), .int .u8 (y : Int), .int .u8 (z : Int), .int .u8 (u : Int)] 5)) k
  rw [Nat.zero_add, h]
  match k, hk with
  | 0, _ => rfl
  | 1, _ => rfl
  | 2, _ => rfl
  | 3, _ => rfl
theorem sum_BA (W : World) (sm : Nat) (h : sm < 4294967296) : BA (W.alloc (.cells #[.int .u8 ((sm : Int) % 256), .int .u8 ((sm : Int) / 256 % 256), .int .u8 ((sm : Int) / 65536 % 256), .int .u8 ((sm : Int) / 16777216)] 5)) (W.heap.size + 1) (some ⟨W.heap.size, 0, none⟩) (sum4 sm) := by
  have h4 : sum4 sm = [sm % 256, sm / 256 % 256, sm / 65536 % 256, sm / 16777216] := by
    unfold sum4
    rw [show sm / 16777216 % 256 = sm / 16777216 by omega]
  rw [h4]
  have := lit_BA4 W (sm % 256) (sm / 256 % 256) (sm / 65536 % 256) (sm / 16777216)
  rw [show ((sm % 256 : Nat) : Int) = (sm : Int) % 256 by omega, show ((sm / 256 % 256 : Nat) : Int) = (sm : Int) / 256 % 256 by omega, show ((sm / 65536 % 256 : Nat) : Int) = (sm : Int) / 65536 % 256 by omega, show ((sm / 16777216 : Nat) : Int) = (sm : Int) / 16777216 by omega] at this
  exact this
set_option maxRecDepth 100000 in
set_option maxHeartbeats 8000000 in
theorem rbytes25_yes {w : World} {ad : Option Addr} {n c : Nat} {l : List In} {s k : Int} (h : PI w w.heap.size ad n l) (hm : mayB l s k = true) : Calls Tryd.prog 25 #[pv ad n c s k] w (BytesAns l s k w) := by
  obtain ⟨h2, h3, h4, h5a, h5, h6⟩ := may_fit hm
  obtain ⟨U, hU⟩ : ∃ U, U = w.alloc (.cells #[.slice ad n c, .int .i64 s, .int .i64 k] 24) := ⟨_, rfl⟩
  have hX : B3 U w.heap.size (.slice ad n c) (.int .i64 s) (.int .i64 k) := by rw [hU]; exact heap_alloc_new w _
  have hb : Below w.heap.size w U := by rw [hU]; exact Joins.below_alloc1 w _
  have hP := h.kept hb hb.size
  have C29 := rcheck9 (c := c) (s := s) (k := k) hP
  rw [hm] at C29
  obtain ⟨ks, rfl⟩ : ∃ ks : Nat, k = (ks : Int) := ⟨k.toNat, by omega⟩
  obtain ⟨ss, rfl⟩ : ∃ ss : Nat, s = (ss : Int) := ⟨s.toNat, by omega⟩
  have hln : n = l.length := h.len
  have hn2 : n ≤ 20000 := by omega
  have hn0 : 0 < n := by omega
  have HL := hid hln
  have HM := hid hm
  have HF := hid h6
  have HX := hid hX
  have HB := hid hb
  have HU := hid hU
  have HP := hid hP
  obtain ⟨c0, c1, c2⟩ := three_cells hX
  clear hX hb hU hm h hln h6 hP
  go_enter Tryd.func25, Tryd.ntmps25
  go_upto_region 1 with fail
  rw [← HU.out]
  go_upto_region 4 with (go_at_call 29; (with_reducible refine C29.mono ?_); rintro e w1 ⟨rfl, hb1⟩; have HB1 := hid (HB.out.trans (Joins.below_le hb1 HB.out.size)); have HX1 := hid ((hb1.block _ (Array.getElem?_eq_some_iff.1 HX.out).1).trans HX.out); have HP1 := hid (HP.out.kept hb1 hb1.size); clear hb1 C29)
  obtain ⟨bx, hbx⟩ : ∃ bx, bx = w.heap.size := ⟨_, rfl⟩
  have HBX := hid hbx
  rw [← hbx] at c0 c1 c2 HX1 ⊢
  have hbl : bx < w1.heap.size := (Array.getElem?_eq_some_iff.1 HX1.out).1
  clear c0 c1 c2 hbx
  have hro0 : (w1.alloc (.cells #[.int .u8 72, .int .u8 82, .int .u8 80, .int .u8 71] 5)).ownsRow w1.heap.size 5 1 (.slice (some ⟨w1.heap.size, 0, none⟩) 4 4) headB.length (U8 headB) :=
    World.ownsRow_lit (base := w1.heap.size) (e := 5) (size := 1) w1 #[.int .u8 72, .int .u8 82, .int .u8 80, .int .u8 71] 4 (Nat.le_refl _) (by unfold maxLen; omega) rfl
  have hb0 : Below w1.heap.size w1 (w1.alloc (.cells #[.int .u8 72, .int .u8 82, .int .u8 80, .int .u8 71] 5)) := Joins.below_alloc1 w1 _
  obtain ⟨base, hbase⟩ : ∃ base, base = w1.heap.size := ⟨_, rfl⟩
  rw [← hbase] at hbl hro0 hb0
  have HBASE := hid hbase
  have BOX : Hid (∀ V, Below base w1 V → B3 V bx (.slice ad n c) (.int .i64 (ss : Int)) (.int .i64 (ks : Int))) := fun V hV => (hV.block bx hbl).trans HX1.out
  go_upto_region 5 with fail
  rw [← HBASE.out]
  obtain ⟨V0, hV0⟩ : ∃ V0, V0 = w1.alloc (.cells #[.int .u8 72, .int .u8 82, .int .u8 80, .int .u8 71] 5) := ⟨_, rfl⟩
  rw [← hV0] at hro0 hb0 ⊢
  obtain ⟨c0, c1, c2⟩ := three_cells (BOX.out V0 hb0)
  have hs0 : base ≤ V0.heap.size := by have := hb0.size; omega
  have D43 := put43 ks hro0 hs0 (by show 4 + ks + 1 ≤ _; omega)
  have HB0 := hid hb0
  have HR0 := hid hro0
  clear hV0 hro0 hb0 hbase
  go_upto_region 6 with (go_at_call 43; (with_reducible refine D43.mono ?_); rintro e V1 ⟨v1, rfl, hr1, hg1⟩; have hb1 := below_gb HB0.out hs0 HR0.out hg1; have hs1 : base ≤ V1.heap.size := Nat.le_trans hs0 hg1.size; obtain ⟨d0, d1, d2⟩ := three_cells (BOX.out V1 hb1); have HB1' := hid hb1; have HR1 := hid hr1; clear hr1 hg1 hb1 D43)
  clear c0 c1 c2
  have hl1 := put7_len ks
  have D43 := put43 ss HR1.out hs1 (by rw [List.length_append]; show 4 + _ + ss + 1 ≤ _; omega)
  go_upto_region 7 with (go_at_call 43; (with_reducible refine D43.mono ?_); rintro e V2 ⟨v2, rfl, hr2, hg2⟩; have hb2 := below_gb HB1'.out hs1 HR1.out hg2; have hs2 : base ≤ V2.heap.size := Nat.le_trans hs1 hg2.size; obtain ⟨c0, c1, c2⟩ := three_cells (BOX.out V2 hb2); have HB2 := hid hb2; have HR2 := hid hr2; clear hr2 hg2 hb2 D43)
  clear d0 d1 d2
  have hl2 := put7_len ss
  have D43 := put43 n HR2.out hs2 (by rw [List.length_append, List.length_append]; show 4 + _ + _ + n + 1 ≤ _; omega)
  go_upto_region 9 with (go_at_call 43; (with_reducible refine D43.mono ?_); rintro e V3 ⟨v3, rfl, hr3, hg3⟩; have hb3 := below_gb HB2.out hs2 HR2.out hg3; have hs3 : base ≤ V3.heap.size := Nat.le_trans hs2 hg3.size; have HB3 := hid hb3; have HR3 := hid hr3; clear hr3 hg3 hb3 D43)
  clear c0 c1 c2
  have hl3 := put7_len n
  have HP0 : Hid (((headB ++ put7 ks) ++ put7 ss) ++ put7 n = preB l (ss : Int) (ks : Int) 0) := by
    show _ = _
    rw [pre_zero, Int.toNat_natCast, Int.toNat_natCast, HL.out]
  have HZ0 : Hid ((preB l (ss : Int) (ks : Int) 0).length ≤ 8388604) := by
    show _ ≤ _
    rw [← HP0.out, List.length_append, List.length_append, List.length_append]
    show 4 + _ + _ + _ ≤ _
    omega
  go_loopw [5, 6] (fun y t wq => ∃ (i : Nat), t = .int .i64 (i : Int) ∧ i ≤ n ∧ Hid (Below base w1 wq) ∧ Hid (base ≤ wq.heap.size) ∧ Hid (wq.ownsRow base 5 1 y (preB l (ss : Int) (ks : Int) i).length (U8 (preB l (ss : Int) (ks : Int) i))) ∧ Hid ((preB l (ss : Int) (ks : Int) i).length ≤ 8388604)) (fun _ t _ => n - (intOf t).toNat)
  case atStart => exact ⟨0, rfl, by omega, HB3.out, hs3, by have e := HR3.out; rw [HP0.out] at e; exact e, HZ0.out⟩
  case round =>
    clear HB3 HR3 HP0 HZ0
    obtain ⟨i, rfl, hi, HBw, HSw, HR, HZ⟩ := hrel
    obtain ⟨c0, c1, c2⟩ := three_cells (BOX.out wr HBw.out)
    by_cases hil : i < n
    · have b1 : decide ((i : Int) < (n : Int)) = true := by simp; omega
      have b2 : (i : Int) < (n : Int) := by omega
      have ad1 : IntKind.i64.wrap ((i : Int) + 1) = (i : Int) + 1 := by simp [IntKind.wrap, IntKind.bits, IntKind.signed]; omega
      have hlt2 : i < l.length := by have := HL.out; omega
      obtain ⟨g, o, ND, rfl, hg, hcs⟩ := HP1.out.mem hn0
      rw [← HBASE.out] at hg
      obtain ⟨m0, m1, m2, m3, m4⟩ := (hcs i hlt2).1.kept (HBw.out.block g hg)
      have hIM0 := (hcs i hlt2).2
      have hFit := HF.out _ (List.getElem_mem hlt2)
      have HSN := hid (pre_snoc l (ss : Int) (ks : Int) i hlt2)
      have HPL := hid (pre_le l (ss : Int) (ks : Int) (i + 1))
      obtain ⟨I, hI⟩ : ∃ I, I = l[i] := ⟨_, rfl⟩
      rw [← hI] at hIM0 hFit HSN
      have hI5 := (hcs i hlt2).1
      obtain ⟨⟨op, x, y, a, r1, r2, r3⟩, hMM⟩ : ∃ M, M = ND i := ⟨_, rfl⟩
      rw [← hMM] at m0 m1 m2 m3 m4 hIM0 hI5
      simp only at m0 m1 m2 m3 m4
      obtain ⟨q, hq, hq7⟩ : ∃ q : Nat, op = (q : Int) ∧ q ≤ 7 := by
        have e : op = I.op := hIM0.op
        refine ⟨op.toNat, ?_, ?_⟩ <;> rw [e] <;> cases hFit <;> simp
      subst hq
      have HIM := hid hIM0
      have HI5 := hid hI5
      have HFit := hid hFit
      have HOP : Hid (I.op.toNat = q) := by show _ = _; rw [← hIM0.op]; simp
      clear hI hMM hcs hIM0 hFit hI5
      obtain ⟨xs, hxs⟩ : ∃ xs, xs = preB l (ss : Int) (ks : Int) i := ⟨_, rfl⟩
      rw [← hxs] at HR HZ HSN
      have hzz := HZ.out
      have hbs := HSw.out
      have b5 : (q : Int) % 256 = (q : Int) := by omega
      clear hxs
      go_upto_region 12 with (at_builtin; refine wpList_append_oneR rfl (.tmp 36) (.tmp 44) rfl base _ q 1 xs rfl (.inl HR.out) _ (by simp) rfl (by omega) hbs ?_; intro v4 w4 ho4 hm4; have hb4 := below_gb HBw.out hbs HR.out (GB.of_moved hm4.out); have hs4 : base ≤ w4.heap.size := Nat.le_trans hbs (GB.of_moved hm4.out).size; have HB4 := hid hb4; have HR4 := hid ho4.out; clear ho4 hm4 hb4)
      clear m0 m1 m2 m3 m4 c0 c1 c2
      obtain ⟨m0, m1, m2, m3, m4⟩ := HI5.out.kept (HB4.out.block g hg)
      simp only at m0 m1 m2 m3 m4
      obtain ⟨c0, c1, c2⟩ := three_cells (BOX.out w4 HB4.out)
      have C42 := fields42 (HIM.out.kept (w' := w4) (B' := w4.heap.size) (by rw [← HBASE.out]; exact HB4.out) (by rw [← HBASE.out]; exact hs4)) HFit.out
      have hnl := nums_len len7 HFit.out (by have := HL.out; omega) h5
      have HQ := hid (nums_q HFit.out (by have := HL.out; omega) h5)
      obtain ⟨ns, hns⟩ : ∃ ns, ns = I.nums := ⟨_, rfl⟩
      rw [← hns] at C42 hnl HQ HSN
      have HR4' : Hid (w4.ownsRow base 5 1 v4 (xs ++ [q]).length (U8 (xs ++ [q]))) := by show World.ownsRow _ _ _ _ _ _ _; rw [List.length_append]; exact HR4.out
      clear hns
      go_upto_region 14 with (go_at_call 42; (with_reducible refine C42.mono ?_); rintro e w5 ⟨hb5, na, nc, rfl, hn5⟩; have HZW := hid (zw_new HB4.out hs4 HR4'.out hb5 hn5 rfl); clear hb5 hn5 C42)
      clear m0 m1 m2 m3 m4 c0 c1 c2
      obtain ⟨nn, hnn⟩ : ∃ nn, nn = ns.length := ⟨_, rfl⟩
      rw [← hnn] at HZW ⊢
      have HNN := hid hnn
      clear hnn
      go_loopw [5, 8] (fun y t wq => ∃ (j : Nat), t = .int .i64 (j : Int) ∧ j ≤ nn ∧ Hid (ZW w1 wq base y ((xs ++ [q]) ++ sumE put7 (ns.take j)) (.slice na nn nc) ns)) (fun _ t _ => nn - (intOf t).toNat)
      case atStart => exact ⟨0, rfl, by omega, by show ZW _ _ _ _ _ _ _; rw [show sumE put7 (ns.take 0) = [] from rfl, List.append_nil]; exact HZW.out⟩
      case round =>
        clear HZW HB4 HR4 HR4' HBw HR HSw
        obtain ⟨j, rfl, hj, HZW⟩ := hrel
        have hlj := sumE_take_le ns j
        by_cases hjn : j < nn
        · have e1 : decide ((j : Int) < (nn : Int)) = true := by simp; omega
          have e2 : (j : Int) < (nn : Int) := by omega
          obtain ⟨_, _, _, qm1, qm2⟩ := row_shape HZW.out.nr
          have hjns : j < ns.length := by have := HNN.out; omega
          have ad2 : IntKind.i64.wrap ((j : Int) + 1) = (j : Int) + 1 := by unfold maxLen at qm2; simp [IntKind.wrap, IntKind.bits, IntKind.signed]; omega
          obtain ⟨gn, rfl⟩ : ∃ gn, na = some ⟨gn, 0, none⟩ := by
            rcases HZW.out.nr.2 with ⟨_, h0⟩ | ⟨gn, cap, cur, e, _⟩
            · omega
            · simp only [Value.slice.injEq] at e; exact ⟨gn, e.1⟩
          have kj := by have hr := HZW.out.nr; rw [HNN.out] at hr; exact I1_at hr j hjns
          obtain ⟨vq, hvq⟩ : ∃ v, v = ns.getD j 0 := ⟨_, rfl⟩
          rw [← hvq] at kj
          have hvn : vq = ns[j] := by rw [hvq]; simp [List.getD_eq_getElem?_getD, List.getElem?_eq_getElem hjns]
          have hvb : vq ≤ 1114111 := by rw [hvn]; exact HQ.out _ (List.getElem_mem hjns)
          have D43 := put43 vq HZW.out.row HZW.out.sz (by rw [List.length_append, List.length_append]; simp; omega)
          have HVN := hid hvn
          clear hvq hvn qm1 qm2
          go_wp2_with (go_at_call 43; (with_reducible refine D43.mono ?_); rintro e w7 ⟨v7, rfl, hr7, hg7⟩; have HZ7 := hid (HZW.out.put hg7 hr7); clear hr7 hg7 D43)
          exact ⟨⟨j + 1, by push_cast; rfl, by omega, by show ZW _ _ _ _ _ _ _; rw [sumE_take hjns, ← List.append_assoc, ← HVN.out]; exact HZ7.out⟩, by simp [intOf]; omega⟩
        · have e1 : decide ((j : Int) < (nn : Int)) = false := by simp; omega
          have e2 : ¬ (j : Int) < (nn : Int) := by omega
          obtain rfl : j = nn := by omega
          have hfin : (xs ++ [q]) ++ sumE put7 (ns.take j) = preB l (ss : Int) (ks : Int) (i + 1) := by
            rw [HSN.out, HOP.out, List.take_of_length_le (by rw [HNN.out]; exact Nat.le_refl _)]
          have hz := HZW.out
          rw [hfin] at hz
          obtain ⟨ya, yc, rfl, _, _⟩ := row_shape hz.row
          have HZF := hid hz
          obtain ⟨xl, hxl⟩ : ∃ xl, xl = (preB l (ss : Int) (ks : Int) (i + 1)).length := ⟨_, rfl⟩
          rw [← hxl]
          have HXL := hid hxl
          have hxb : xl ≤ 11150388610 := by
            rw [hxl, ← hfin, List.length_append, List.length_append]; simp; omega
          have ad3 : IntKind.i64.wrap ((xl : Int) + 4) = (xl : Int) + 4 := by simp [IntKind.wrap, IntKind.bits, IntKind.signed]; omega
          clear hz hfin hxl HZW
          by_cases hbig : 8388608 < xl + 4
          · have b6 : decide ((xl : Int) + 4 > 8388608) = true := by simp; omega
            have b7 : (8388608 : Int) < (xl : Int) + 4 := by omega
            go_wp2
            refine bodyPost_ret (res25 _ _ (.slice none 0 0) (.int .i64 3) rfl rfl) rfl ?_
            refine ⟨HB1.out.trans (Joins.below_le (by rw [← HBASE.out]; exact HZF.out.be) HB1.out.size), .inr (.inl ⟨HM.out, ?_, rfl⟩)⟩
            have h1 := HPL.out
            rw [← HXL.out] at h1
            simp only [fullB, List.length_append]
            have : (sum4 (crcSum (coreB l (ss : Int) (ks : Int)))).length = 4 := rfl
            omega
          · have b6 : decide ((xl : Int) + 4 > 8388608) = false := by simp; omega
            have b7 : ¬ (8388608 : Int) < (xl : Int) + 4 := by omega
            go_wp2
            exact ⟨⟨i + 1, by push_cast; rfl, by omega, HZF.out.be, HZF.out.sz, by rw [HXL.out]; exact HZF.out.row, hid (by rw [← HXL.out]; omega)⟩, by simp [intOf]; omega⟩
    · have b1 : decide ((i : Int) < (n : Int)) = false := by simp; omega
      have b2 : ¬ (i : Int) < (n : Int) := by omega
      obtain rfl : i = n := by omega
      have hcore : preB l (ss : Int) (ks : Int) i = coreB l (ss : Int) (ks : Int) := by rw [HL.out, pre_all]
      rw [hcore] at HR HZ
      obtain ⟨ya, yc, rfl, _, _⟩ := row_shape HR.out
      have hlt8 : ∀ y ∈ coreB l (ss : Int) (ks : Int), y < 256 := core_lt HM.out
      obtain ⟨xl, hxl⟩ : ∃ xl, xl = (coreB l (ss : Int) (ks : Int)).length := ⟨_, rfl⟩
      have hxb : xl ≤ 8388604 := by rw [hxl]; exact HZ.out
      have C33 := sum33 (n := xl) (c := yc) (ba_own HR.out) hxl (by omega) hlt8
      obtain ⟨sm, hsm⟩ : ∃ sm, sm = crcSum (coreB l (ss : Int) (ks : Int)) := ⟨_, rfl⟩
      have hsb : sm < 4294967296 := by rw [hsm]; exact crcSum_lt hlt8
      rw [← hsm] at C33
      rw [← hxl]
      have HXL := hid hxl
      have HSM := hid hsm
      have hbs := HSw.out
      clear hcore hlt8 hxl hsm
      go_upto_region 20 with (go_at_call 33; (with_reducible refine C33.mono ?_); rintro e w5 ⟨rfl, hw5⟩; obtain rfl := hw5.symm)
      have hro : wr.ownsRow base 5 1 (.slice ya xl yc) xl (U8 (coreB l (ss : Int) (ks : Int))) := by
        have e := HR.out
        rw [← HXL.out] at e
        exact e
      have HRO := hid (hro.alloc (.cells #[.int .u8 ((sm : Int) % 256), .int .u8 ((sm : Int) / 256 % 256), .int .u8 ((sm : Int) / 65536 % 256), .int .u8 ((sm : Int) / 16777216)] 5))
      have HSB := hid (sum_BA wr sm hsb)
      clear hro
      go_wp2_with (at_builtin; refine wpList_append_ba rfl (.tmp 71) (.tmp 83) rfl base (.slice ya xl yc) xl _ rfl HRO.out (wr.heap.size + 1) (some ⟨wr.heap.size, 0, none⟩) 4 4 (sum4 sm) rfl HSB.out rfl (by intro h; cases h) (by omega) (by simp; omega) ?_; intro v9 w9 ho9 hb9; obtain ⟨va, vc, rfl, _, _⟩ := row_shape ho9; have HO9 := hid ho9; have HB9 := hid ((HBw.out.alloc hbs _).trans hb9); clear ho9 hb9)
      refine bodyPost_ret (res25 _ _ (.slice va (xl + 4) vc) (.int .i64 0) rfl rfl) rfl ?_
      have hfull : fullB l (ss : Int) (ks : Int) = coreB l (ss : Int) (ks : Int) ++ sum4 sm := by unfold fullB; rw [HSM.out]
      have hfl : (fullB l (ss : Int) (ks : Int)).length = xl + 4 := by rw [hfull, List.length_append, ← HXL.out]; rfl
      refine ⟨HB1.out.trans (Joins.below_le (by rw [← HBASE.out]; exact HB9.out) HB1.out.size), .inr (.inr ⟨HM.out, by omega, _, rfl, ?_⟩)⟩
      rw [hfl, hfull]
      exact own_wide HO9.out (by have := HB1.out.size; have := HBASE.out; omega)
/-- THE DOCUMENT'S Bytes OF ANY PROGRAM -/
theorem rbytes25 {w : World} {ad : Option Addr} {n c : Nat} {l : List In} {s k : Int} (h : PI w w.heap.size ad n l) : Calls Tryd.prog 25 #[pv ad n c s k] w (BytesAns l s k w) := by
  cases hm : mayB l s k with
  | true => exact rbytes25_yes h hm
  | false =>
    refine (rbytes25_no h hm).mono ?_
    rintro e w' ⟨hb, rfl⟩
    exact ⟨hb, .inl ⟨hm, rfl⟩⟩
end Go.Proofs.YteanndophopplaaDoor
