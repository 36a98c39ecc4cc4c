/- HELPERS: rows of a call's own that grow; what a call that writes leaves. -/
import Derived.Test.YtpckbpimgoljoaaGreatK1
import Derived.Deep.SlicePairs
import Derived.RowKit
import Derived.Test.YtpckbpimgoljoaaGreatAr
import Derived.Test.YtpckbpimgoljoaaGreatRows
import Derived.JoinedCond
import Derived.OpenShut
import Derived.SizedLaws
import Derived.Lib.SmallJoins
import Derived.Test.YtpckbpimgoljoaaGreatProg
import Derived.WalkKit
import Derived.ProofKit
import Derived.BigQuiet
import Derived.WalkSmall
import Derived.Deep.QuietTactic
import Derived.Deep.RegionWith
import Derived.Lib.MinMax
import Derived.Maps.AppendAt
import Derived.Laws.AppendOwnNone
import Derived.Test.YtpckbpimgoljoaaGreatK2
import Derived.Test.YtpckbpimgoljoaaGreatRi
import Derived.Lib.Small
import Derived.Deep.Cut
import Derived.Deep.CutRange
import Derived.Test.YtpckbpimgoljoaaGreatK3
import Derived.Test.YtpckbpimgoljoaaGreatCa
import Derived.Test.YtpckbpimgoljoaaGreatCb
import Derived.Deep.RegionHeld3
import Derived.Test.YtpckbpimgoljoaaGreatCc
import Derived.Test.YtpckbpimgoljoaaGreatK4
import Derived.Laws.EntriesVeiled
import Derived.Test.YtpckbpimgoljoaaGreatK6
import Derived.OrdersHeld
import Derived.StillTail
import Derived.Tactics
import Derived.Below
import Derived.Deep.MidRow
import Derived.Deep.OwnRows
import Derived.Laws.Rows
import Derived.WalkLawsBesides
import Derived.Deep.RegionLaw
import Derived.Laws.CopyOwn
import Derived.Lib.LazyBuf
/- HELPERS: trees that are handed in: what is read of one, as data; where it lies. -/
namespace Go.Proofs.YtpckbpimgoljoaaGreat
open Go.RowKit Go.Deep Go.ChangeShapes Go.WideShapes
set_option linter.unusedVariables false
set_option linter.unusedSimpArgs false
section
variable {H : Type} {enc : TypeId × Value → H} {P : Program} {w : World} {base : Nat} {spare : Nat → Bool} {held : Bool} {tn ts tr te ti tb tg : TypeId} {f : Nat → Field} {g0 g1 : Field}
end
end Go.Proofs.YtpckbpimgoljoaaGreat
/- HELPERS: trees, and texts with a place, that come in as arguments. -/
namespace Go.Proofs.YtpckbpimgoljoaaGreat
open Go.ChangeShapes Go.WideShapes Go.ChangeAt Go.RowKit Go.Deep
set_option linter.unusedVariables false
set_option linter.unusedSimpArgs false
/-- how a range's type is made -/
structure RgTy (P : Program) (tr te ti : TypeId) (g0 g1 : Field) : Prop where
  ci : P.cellsOf ti = 1
  hi : P.underlying ti = some (.int .i64)
  hr : P.underlying tr = some (.slice te)
  he : P.underlying te = some (.struct #[g0, g1])
  ce : P.cellsOf te = 2
  og : g0.offset = 0 ∧ g1.offset = 1 ∧ g0.type = ti ∧ g1.type = ti
section
variable {H : Type} {enc : TypeId × Value → H} {P : Program} {w : World} {base : Nat} {spare : Nat → Bool} {held : Bool} {tr te ti : TypeId} {g0 g1 : Field}
theorem open_rng (S : RgTy P tr te ti g0 g1) {fuel : Nat} {cs : List Value} {x : DataW H × List MemPlace} (h : DataW.trod enc P w base spare held fuel tr cs = some x) :
    ∃ (ad : Option Addr) (n c : Nat) (R : List (Int × Int)), cs = [.slice ad n c] ∧ n = R.length ∧ n ≤ c ∧ c ≤ maxLen ∧ R2 w w.heap.size ad R ∧ ∀ x ∈ R, I64ok x.1 ∧ I64ok x.2 := by
  obtain ⟨o0, o1, t0, t1⟩ := S.og
  rcases open_slice_pairs S.hr S.he S.ce o0 o1 (by rw [t0]; exact S.ci) (by rw [t1]; exact S.ci) h with ⟨rfl, rfl⟩ | ⟨a, len, cap, m, n, V0, V1, D0, D1, P0, P1, rfl, hb, hl, hm, hmm, rfl, hx⟩
  · exact ⟨none, 0, 0, [], rfl, rfl, Nat.le_refl _, by simp [maxLen], fun hn => absurd rfl hn, fun x hx => by cases hx⟩
  have hlm : len ≤ m := by rw [hmm]; split <;> omega
  rw [t0, t1] at hx
  have each : ∀ i, i < len → ∃ q : Int × Int, w.cell? (a.add (i * 2)) = some (.int .i64 q.1) ∧ w.cell? (a.add (i * 2 + 1)) = some (.int .i64 q.2) ∧ I64ok q.1 ∧ I64ok q.2 := fun i hi => by
    obtain ⟨h1, h2, h3, h4⟩ := hx i (by omega)
    obtain ⟨n0, e0, _, w0⟩ := DataW.trod_int S.hi h3
    obtain ⟨n1, e1, _, w1⟩ := DataW.trod_int S.hi h4
    simp at e0 e1
    rw [e0] at h1
    rw [e1] at h2
    exact ⟨(n0, n1), h1, h2, i64ok w0, i64ok w1⟩
  obtain ⟨q, hq⟩ := choose_lt each
  refine ⟨some a, len, cap, (List.range len).map q, rfl, by simp, hl, hm, fun hn => ?_, fun x hx => ?_⟩
  · have hpos : 0 < len := by
      rcases Nat.eq_zero_or_pos len with h0 | h0
      · subst h0; simp at hn
      · exact h0
    have hc0 := (hq 0 hpos).1
    have hsp : a.spot = none := by simpa [Addr.add] using World.cell?_spot hc0
    obtain ⟨b, o, sp⟩ := a
    simp only at hsp
    subst hsp
    refine ⟨b, o, rfl, World.block_lt_of_cell? _ _ hc0, fun i hi => ?_⟩
    simp only [List.length_map, List.length_range] at hi
    have h1 := hq i hi
    rw [add_plain, add_plain] at h1
    simp only [List.getElem_map, List.getElem_range]
    exact ⟨h1.1, by rw [Nat.add_assoc]; exact h1.2.1⟩
  · simp only [List.mem_map, List.mem_range] at hx
    obtain ⟨i, hi, rfl⟩ := hx
    exact (hq i hi).2.2
end
theorem rgTy : RgTy Tryz.prog 22 71 3 { name := "Lo", type := 3, offset := 0, embedded := false, tag := "", pkgPath := "", byteOffset := 0 } { name := "Hi", type := 3, offset := 1, embedded := false, tag := "", pkgPath := "", byteOffset := 8 } where
  ci := by kernel_rfl
  hi := Tryz.underlying3
  hr := Tryz.underlying22
  he := Tryz.underlying71
  ce := by kernel_rfl
  og := ⟨rfl, rfl, rfl, rfl⟩
end Go.Proofs.YtpckbpimgoljoaaGreat
/- HELPERS: how many nodes a tree has; what a count down of them leaves. -/
namespace Go.Proofs.YtpckbpimgoljoaaGreat
open Go.RowKit
set_option linter.unusedVariables false
set_option linter.unusedSimpArgs false
end Go.Proofs.YtpckbpimgoljoaaGreat
/- HELPERS: objects in memory of the call's own: what a call leaves of them, and of all else. -/
namespace Go.Proofs.YtpckbpimgoljoaaGreat
open Go.RowKit
set_option linter.unusedVariables false
set_option linter.unusedSimpArgs false
abbrev I64 (l : List Int) : List Value := l.map (Value.int .i64)
end Go.Proofs.YtpckbpimgoljoaaGreat
/- HELPERS: is a tree too great, too deep? -/
namespace Go.Proofs.YtpckbpimgoljoaaGreat
open Go.RowKit
set_option linter.unusedVariables false
set_option linter.unusedSimpArgs false
end Go.Proofs.YtpckbpimgoljoaaGreat
/- HELPERS: runes.Right and runes.Has. -/
namespace Go.Proofs.YtpckbpimgoljoaaGreat
open Go.RowKit Go.Lib
set_option linter.unusedVariables false
set_option linter.unusedSimpArgs false
set_option maxHeartbeats 1000000 in
theorem right_long (L : List (Int × Int)) (ad : Option Addr) (n cap : Nat) (w : World) (hS : 5000 < n) (hS2 : n ≤ 17592186044416) :
    Calls Tryz.prog 61 #[.slice ad n cap] w fun e w' => e = .returned (.bool false) ∧ Below w.heap.size w w' := by
  go_enter Tryz.func61, Tryz.ntmps61
  go_wp2
  go_ret
  exact ⟨rfl, Below.refl _ _⟩
theorem right25 (L : List (Int × Int)) (ad : Option Addr) (n cap : Nat) (w : World) (hn : n = L.length) (hS2 : n ≤ 17592186044416) (hl : RowAt w.heap.size w (.slice ad n cap) L) :
    Calls Tryz.prog 61 #[.slice ad n cap] w fun e w' => e = .returned (.bool (rightB L)) ∧ Below w.heap.size w w' := by
  by_cases h : n ≤ 5000
  · have e : rightB L = rightFrom 0 L := by unfold rightB; rw [← hn]; simp [h]
    rw [e]
    exact right_short L ad n cap w hn h hl
  · have e : rightB L = false := by unfold rightB; rw [← hn]; simp [h]
    rw [e]
    exact right_long L ad n cap w (by omega) hS2
end Go.Proofs.YtpckbpimgoljoaaGreat
/- HELPERS: which nodes may be, by the document's answer. -/
namespace Go.Proofs.YtpckbpimgoljoaaGreat
open Go.RowKit
set_option linter.unusedVariables false
set_option linter.unusedSimpArgs false
end Go.Proofs.YtpckbpimgoljoaaGreat
/- HELPERS: the document's side of classes: Right. -/
namespace Go.Proofs.YtpckbpimgoljoaaGreat
open Go.RowKit
set_option linter.unusedVariables false
set_option linter.unusedSimpArgs false
theorem below_drewN' {B : Nat} {a w : World} (h : Below B a w) (n : Nat) : Below B a (w.drewN n) := h.trans ⟨rfl, rfl, rfl, Nat.le_refl _, fun _ _ => rfl⟩
end Go.Proofs.YtpckbpimgoljoaaGreat
/- HELPERS: which nodes may be: the document's answer. -/
namespace Go.Proofs.YtpckbpimgoljoaaGreat
open Go.RowKit
set_option linter.unusedVariables false
set_option linter.unusedSimpArgs false
end Go.Proofs.YtpckbpimgoljoaaGreat
/- HELPERS: the small tests of a program's instructions. -/

namespace Go.Proofs.YtpckbpimgoljoaaGreat
open Go.RowKit
set_option linter.unusedVariables false
set_option linter.unusedSimpArgs false
theorem below38 (n c : Int) (w : World) : Calls Tryz.prog 45 #[.int .i64 n, .int .i64 c] w fun e w' => e = .returned (.bool (belowB n c)) ∧ w' = w := by
  go_enter Tryz.func45, Tryz.ntmps45
  go_wp2
  all_goals go_ret
  all_goals exact ⟨ret_bool (by (simp_all [belowB]) <;> (intros; omega)), rfl⟩
theorem caps39 (c : Int) (w : World) : Calls Tryz.prog 46 #[.int .i64 c] w fun e w' => e = .returned (.bool (capsB c)) ∧ w' = w := by
  go_enter Tryz.func46, Tryz.ntmps46
  go_wp2
  all_goals go_ret
  all_goals refine ⟨ret_bool ?_, rfl⟩
  all_goals first | (simp_all [capsB]; done) | (simp [capsB, Int.tmod_eq_emod] <;> omega)
theorem hasX61 (op : Int) (w : World) : Calls Tryz.prog 82 #[.int .i64 op] w fun e w' => e = .returned (.bool (hasXB op)) ∧ w' = w := by
  go_enter Tryz.func82, Tryz.ntmps82
  go_wp2
  all_goals go_ret
  all_goals exact ⟨ret_bool (by simp_all [hasXB]), rfl⟩
theorem hasY62 (op : Int) (w : World) : Calls Tryz.prog 83 #[.int .i64 op] w fun e w' => e = .returned (.bool (hasYB op)) ∧ w' = w := by
  go_enter Tryz.func83, Tryz.ntmps83
  go_wp2
  all_goals go_ret
  all_goals exact ⟨ret_bool (by simp_all [hasYB]), rfl⟩
theorem target60 (tox : Int) (has : Bool) (c : Int) (w : World) : Calls Tryz.prog 81 #[.int .i64 tox, .bool has, .int .i64 c] w fun e w' => e = .returned (.bool (isTargetB tox has c)) ∧ w' = w := by
  have HC := below38 tox c w
  cases has
  · go_enter Tryz.func81, Tryz.ntmps81
    go_wp2
    all_goals go_ret
    all_goals exact ⟨ret_bool (by simp_all [isTargetB]), rfl⟩
  · go_enter Tryz.func81, Tryz.ntmps81
    go_wp2_with (first | (go_at_call 45; (with_reducible refine HC.mono ?_); rintro e w2 ⟨rfl, rfl⟩))
    all_goals go_ret
    all_goals exact ⟨ret_bool (by simp [isTargetB]), rfl⟩
theorem assert80 (n : Int) (w : World) : Calls Tryz.prog 103 #[.int .i64 n] w fun e w' => e = .returned (.bool (assertB n)) ∧ w' = w := by
  go_enter Tryz.func103, Tryz.ntmps103
  go_wp2
  all_goals go_ret
  all_goals exact ⟨ret_bool (by simp_all [assertB]), rfl⟩
theorem arg63 (op arg caps : Int) (w : World) : Calls Tryz.prog 84 #[.int .i64 op, .int .i64 arg, .int .i64 caps] w fun e w' => e = .returned (.bool (isArgB op arg caps)) ∧ w' = w := by
  have H1 := below38 arg caps w
  have H2 := below38 arg 100 w
  have H3 := assert80 arg w
  go_enter Tryz.func84, Tryz.ntmps84
  go_wp2_with (first | (go_at_call 45; (first | (with_reducible refine H1.mono ?_) | (with_reducible refine H2.mono ?_)); rintro e w2 ⟨rfl, rfl⟩) | (go_at_call 103; (with_reducible refine H3.mono ?_); rintro e w2 ⟨rfl, rfl⟩))
  all_goals go_ret
  all_goals exact ⟨ret_bool (by simp_all [isArgB]), rfl⟩
theorem ranges64 (op : Int) (R : List (Int × Int)) (ad : Option Addr) (n cap : Nat) (w : World) (hn : n = R.length) (hS : n * 16 ≤ 140737488351232) (hl : RowAt w.heap.size w (.slice ad n cap) R) :
    Calls Tryz.prog 85 #[.int .i64 op, .slice ad n cap] w fun e w' => e = .returned (.bool (isRangesB op R)) ∧ Below w.heap.size w w' := by
  have HC := right25 R ad n cap w hn (by omega) hl
  have HN := hid' hn
  clear hn hl
  by_cases h1 : op = 1
  · subst h1
    by_cases h0 : n = 0
    · subst h0
      go_enter Tryz.func85, Tryz.ntmps85
      go_wp2
      all_goals go_ret
      all_goals exact ⟨ret_bool (by simp [isRangesB, ← HN.out]), Below.refl _ _⟩
    · have b1 : decide ((n : Int) > 0) = true := by simp; omega
      have b2 : decide ((0 : Int) < (n : Int)) = true := by simp; omega
      go_enter Tryz.func85, Tryz.ntmps85
      go_wp2_with (first | (go_at_call 61; (with_reducible refine HC.mono ?_); rintro e w2 ⟨rfl, hb⟩; have HB := hid' hb; clear hb HC))
      all_goals go_ret
      all_goals exact ⟨ret_bool (by simp [isRangesB, ← HN.out]; intro h; omega), HB.out⟩
  · have b0 : (op != 1) = true := by simpa using h1
    go_enter Tryz.func85, Tryz.ntmps85
    go_wp2
    all_goals go_ret
    all_goals exact ⟨ret_bool (by simp only [isRangesB, ← HN.out]; rw [if_neg (by simpa using h1), Bool.eq_iff_iff]; simp), Below.refl _ _⟩
end Go.Proofs.YtpckbpimgoljoaaGreat
/- HELPERS: an instruction in memory; may it be. -/
namespace Go.Proofs.YtpckbpimgoljoaaGreat
open Go.RowKit
set_option linter.unusedVariables false
set_option linter.unusedSimpArgs false
set_option maxRecDepth 100000 in
set_option maxHeartbeats 4000000 in
theorem inst40 (N : Iv) (R : List (Int × Int)) (n caps : Int) (w : World) (hn : N.r2 = R.length) (hS : N.r2 * 16 ≤ 140737488351232) (hl : RowAt w.heap.size w (.slice N.r1 N.r2 N.r3) R) :
    Calls Tryz.prog 47 #[N.v, .int .i64 n, .int .i64 caps] w fun e w' => e = .returned (.bool (In.okB ⟨N.op, N.x, N.y, N.a, R⟩ n caps)) ∧ Below w.heap.size w w' := by
  obtain ⟨op, x, y, a, r1, r2, r3⟩ := N
  dsimp only at hn hS hl ⊢
  obtain ⟨U, hU⟩ : ∃ U, U = w.alloc (.cells #[.int .i64 op, .int .i64 x, .int .i64 y, .int .i64 a, .slice r1 r2 r3] 69) := ⟨_, rfl⟩
  have hb : Below w.heap.size w U := by rw [hU]; exact Joins.below_alloc1 w _
  have hX : U.heap[w.heap.size]? = some (.cells #[.int .i64 op, .int .i64 x, .int .i64 y, .int .i64 a, .slice r1 r2 r3] 69 (0, 0)) := by rw [hU]; exact heap_alloc_new w _
  obtain ⟨c0, c1, c2, c3, c4⟩ := five hX
  have HR : ∀ W, W.heap = U.heap → W.os = U.os → W.tape = U.tape → W.output = U.output → Calls Tryz.prog 85 #[.int .i64 op, .slice r1 r2 r3] W fun e w' => e = .returned (.bool (isRangesB op R)) ∧ Below U.heap.size U w' := by
    intro W e1 e2 e3 e4
    have hbW : Below U.heap.size U W := ⟨e2, e3, e4, by rw [e1]; exact Nat.le_refl _, fun k hk => by rw [e1]⟩
    have hbw : Below w.heap.size w W := hb.trans (Joins.below_le hbW hb.size)
    refine (ranges64 op R r1 r2 r3 W hn hS (hl.below hbw (Nat.le_refl _) hbw.size)).mono ?_
    rintro e w' ⟨h1, h2⟩
    exact ⟨h1, hbW.trans (Joins.below_le h2 hbW.size)⟩
  have HRR := hid' HR
  have HB := hid' hb
  have HX := hid' hX
  have hsz : w.heap.size < U.heap.size := (Array.getElem?_eq_some_iff.1 hX).1
  clear HR hn hS hl hb hX
  have T1 := fun W => target60 x (hasXB op) n W
  have T2 := fun W => target60 y (hasYB op) n W
  have T3 := fun W => arg63 op a caps W
  have X1 := fun W => hasX61 op W
  have X2 := fun W => hasY62 op W
  obtain ⟨b, hbe⟩ : ∃ b, b = w.heap.size := ⟨_, rfl⟩
  go_enter Tryz.func47, Tryz.ntmps47
  go_upto_region 1 with fail
  rw [← hU, ← hbe]
  rw [← hbe] at c0 c1 c2 c3 c4 hsz HX HB
  have HBE := hid' hbe
  clear hU hbe
  cases g1 : isTargetB x (hasXB op) n
  · simp only [g1] at T1
    go_quiet (first | (go_at_call 82; with_reducible refine Calls.quiet_of_same (X1 _)) | (go_at_call 81; first | (with_reducible refine Calls.quiet_of_same (T1 _)) | (with_reducible refine Calls.quiet_of_same (T2 _))) | (go_at_call 83; with_reducible refine Calls.quiet_of_same (X2 _)) | (go_at_call 84; with_reducible refine Calls.quiet_of_same (T3 _)))
    go_wp2
    all_goals go_ret
    all_goals refine ⟨ret_bool (by simp [In.okB, g1]), ?_⟩
    all_goals rw [← HBE.out]
    all_goals exact below_drewN' HB.out _
  · simp only [g1] at T1
    cases g2 : isTargetB y (hasYB op) n
    · simp only [g2] at T2
      go_quiet (first | (go_at_call 82; with_reducible refine Calls.quiet_of_same (X1 _)) | (go_at_call 81; first | (with_reducible refine Calls.quiet_of_same (T1 _)) | (with_reducible refine Calls.quiet_of_same (T2 _))) | (go_at_call 83; with_reducible refine Calls.quiet_of_same (X2 _)) | (go_at_call 84; with_reducible refine Calls.quiet_of_same (T3 _)))
      go_wp2
      all_goals go_ret
      all_goals refine ⟨ret_bool (by simp [In.okB, g1, g2]), ?_⟩
      all_goals rw [← HBE.out]
      all_goals exact below_drewN' HB.out _
    · simp only [g2] at T2
      cases g3 : isArgB op a caps
      · simp only [g3] at T3
        go_quiet (first | (go_at_call 82; with_reducible refine Calls.quiet_of_same (X1 _)) | (go_at_call 81; first | (with_reducible refine Calls.quiet_of_same (T1 _)) | (with_reducible refine Calls.quiet_of_same (T2 _))) | (go_at_call 83; with_reducible refine Calls.quiet_of_same (X2 _)) | (go_at_call 84; with_reducible refine Calls.quiet_of_same (T3 _)))
        go_wp2
        all_goals go_ret
        all_goals refine ⟨ret_bool (by simp [In.okB, g1, g2, g3]), ?_⟩
        all_goals rw [← HBE.out]
        all_goals exact below_drewN' HB.out _
      · simp only [g3] at T3
        go_region_held3 (fun W => W.cell? ⟨b, 0, none⟩ = some (.int .i64 op) ∧ W.cell? ⟨b, 1, none⟩ = some (.int .i64 x) ∧ W.cell? ⟨b, 2, none⟩ = some (.int .i64 y) ∧ W.cell? ⟨b, 3, none⟩ = some (.int .i64 a) ∧ W.cell? ⟨b, 4, none⟩ = some (.slice r1 r2 r3)) (first | (exact ⟨d0, d1, d2, d3, d4⟩) | (simp [*]; done)) (first | (go_at_call 82; (with_reducible refine (X1 _).mono ?_); rintro e w2 ⟨rfl, rfl⟩) | (go_at_call 81; (first | (with_reducible refine (T1 _).mono ?_) | (with_reducible refine (T2 _).mono ?_)); rintro e w2 ⟨rfl, rfl⟩) | (go_at_call 83; (with_reducible refine (X2 _).mono ?_); rintro e w2 ⟨rfl, rfl⟩) | (go_at_call 84; (with_reducible refine (T3 _).mono ?_); rintro e w2 ⟨rfl, rfl⟩) | (go_at_call 85; (with_reducible refine (HRR.out _ ?_ ?_ ?_ ?_).mono ?_); (rfl); (rfl); (rfl); (rfl); rintro e w2 ⟨rfl, hb2⟩; obtain ⟨d0, d1, d2, d3, d4⟩ := five ((hb2.block b hsz).trans HX.out); have HB2 := hid' hb2; clear hb2))
        all_goals go_wp2
        all_goals go_ret
        all_goals refine ⟨ret_bool (by simp [In.okB, g1, g2, g3]), ?_⟩
        all_goals rw [← HBE.out]
        all_goals first | exact HB.out.drew | exact HB.out | exact HB.out.trans (Joins.below_le HB2.out (by omega))
end Go.Proofs.YtpckbpimgoljoaaGreat
/- HELPERS: a program in memory; Check. -/
namespace Go.Proofs.YtpckbpimgoljoaaGreat
open Go.RowKit
set_option linter.unusedVariables false
set_option linter.unusedSimpArgs false
theorem head_no {l : List In} {s k : Int} (h : (decide (l.length ≤ 20000) && belowB s l.length && capsB k) = false) : mayB l s k = false := by
  unfold mayB
  rw [h]
  rfl
set_option maxRecDepth 100000 in
set_option maxHeartbeats 4000000 in
theorem maybe24_no {w : World} {ad : Option Addr} {n c : Nat} {l : List In} {s k : Int} (hl : n = l.length) (hno : (decide (l.length ≤ 20000) && belowB s l.length && capsB k) = false) :
    Calls Tryz.prog 31 #[pv ad n c s k] w fun e w' => e = .returned (.bool (mayB l s k)) ∧ Below w.heap.size w w' := by
  rw [head_no hno]
  rw [← hl] at hno
  clear hl
  have T1 := fun W => below38 s n W
  have T2 := fun W => caps39 k W
  by_cases hA : n ≤ 20000
  · have b1 : decide ((n : Int) > 20000) = false := by simp; omega
    have b1' : decide ((20000 : Int) < (n : Int)) = false := by simp; omega
    cases g1 : belowB s n
    · simp only [g1] at T1
      go_enter Tryz.func31, Tryz.ntmps31
      go_wp2_with (first | (go_at_call 45; (with_reducible refine (T1 _).mono ?_); rintro e w2 ⟨rfl, rfl⟩))
      all_goals go_ret
      all_goals exact ⟨rfl, Joins.below_alloc1 w _⟩
    · simp only [g1] at T1
      have g2 : capsB k = false := by simpa [g1, hA] using hno
      simp only [g2] at T2
      go_enter Tryz.func31, Tryz.ntmps31
      go_wp2_with (first | (go_at_call 45; (with_reducible refine (T1 _).mono ?_); rintro e w2 ⟨rfl, rfl⟩) | (go_at_call 46; (with_reducible refine (T2 _).mono ?_); rintro e w2 ⟨rfl, rfl⟩))
      all_goals go_ret
      all_goals exact ⟨rfl, Joins.below_alloc1 w _⟩
  · have b1 : decide ((n : Int) > 20000) = true := by simp; omega
    have b1' : decide ((20000 : Int) < (n : Int)) = true := by simp; omega
    go_enter Tryz.func31, Tryz.ntmps31
    go_wp2
    all_goals go_ret
    all_goals exact ⟨rfl, Joins.below_alloc1 w _⟩
theorem three_cells {w : World} {b : Nat} {v0 v1 v2 : Value} {t : TypeId} {fr : Nat × Nat} (h : w.heap[b]? = some (.cells #[v0, v1, v2] t fr)) : w.cell? ⟨b, 0, none⟩ = some v0 ∧ w.cell? ⟨b, 1, none⟩ = some v1 ∧ w.cell? ⟨b, 2, none⟩ = some v2 :=
  ⟨Joins.cell_of_block h 0, Joins.cell_of_block h 1, Joins.cell_of_block h 2⟩
set_option maxRecDepth 100000 in
set_option maxHeartbeats 4000000 in
theorem maybe24_ok {w : World} {ad : Option Addr} {n c : Nat} {l : List In} {s k : Int} (h : PI w w.heap.size ad n l) (hyes : (decide (l.length ≤ 20000) && belowB s l.length && capsB k) = true) :
    Calls Tryz.prog 31 #[pv ad n c s k] w fun e w' => e = .returned (.bool (mayB l s k)) ∧ Below w.heap.size w w' := by
  have hm : mayB l s k = l.all fun I => I.okB l.length k := by unfold mayB; rw [hyes]; rfl
  rw [hm]
  have hl := h.len
  rw [← hl] at hyes ⊢
  simp only [Bool.and_eq_true, decide_eq_true_eq] at hyes
  obtain ⟨⟨hA, g1⟩, g2⟩ := hyes
  have T1 := fun W => below38 s n W
  have T2 := fun W => caps39 k W
  simp only [g1] at T1
  simp only [g2] at T2
  have b1 : decide ((n : Int) > 20000) = false := by simp; omega
  have b1' : decide ((20000 : Int) < (n : Int)) = false := by simp; omega
  obtain ⟨U, hU⟩ : ∃ U, U = w.alloc (.cells #[.slice ad n c, .int .i64 s, .int .i64 k] 28) := ⟨_, rfl⟩
  have hb : Below w.heap.size w U := by rw [hU]; exact Joins.below_alloc1 w _
  have hX : U.heap[w.heap.size]? = some (.cells #[.slice ad n c, .int .i64 s, .int .i64 k] 28 (0, 0)) := by rw [hU]; exact heap_alloc_new w _
  have hsz : w.heap.size < U.heap.size := (Array.getElem?_eq_some_iff.1 hX).1
  have HP := hid' (h.kept hb hb.size)
  have HB := hid' hb
  have HX := hid' hX
  have HL := hid' hl
  have hz : w.heap.size ≤ w.heap.size := Nat.le_refl _
  clear h hl hb hX hm hz
  obtain ⟨b, hbe⟩ : ∃ b, b = w.heap.size := ⟨_, rfl⟩
  go_enter Tryz.func31, Tryz.ntmps31
  go_upto_region 1 with fail
  rw [← hU, ← hbe]
  rw [← hbe] at hsz HX HB
  have HBE := hid' hbe
  clear hU hbe
  obtain ⟨c0, c1, c2⟩ := three_cells HX.out
  go_wp2_with (first | (go_at_call 45; (with_reducible refine (T1 _).mono ?_); rintro e w2 ⟨rfl, hw⟩; have hw' := hw.symm; clear hw; subst hw') | (go_at_call 46; (with_reducible refine (T2 _).mono ?_); rintro e w2 ⟨rfl, hw⟩; have hw' := hw.symm; clear hw; subst hw'))
  clear c0 c1 c2 T1 T2 b1 b1'
  go_loopw [27] (fun y wq => ∃ i : Nat, y = .int .i64 (i : Int) ∧ i ≤ n ∧ Hid (Below U.heap.size U wq) ∧ Hid (∀ j (hj : j < l.length), j < i → (l[j]).okB n k = true)) (fun y _ => n - (intOf y).toNat)
  case atStart => exact ⟨0, rfl, by omega, Below.refl _ _, fun j hj h0 => by omega⟩
  case round =>
    obtain ⟨i, rfl, hi, BK, HA⟩ := hrel
    by_cases hil : i < n
    · have b1 : decide ((i : Int) < (n : Int)) = true := by simp; omega
      have b2 : (i : Int) < (n : Int) := by omega
      have ad1 : IntKind.i64.wrap ((i : Int) + 1) = (i : Int) + 1 := by simp [IntKind.wrap, IntKind.bits, IntKind.signed]; omega
      have hlt : i < l.length := by have := HL.out; omega
      obtain ⟨q, o, ND, e, hq, hcs⟩ := HP.out.mem (by omega)
      subst e
      obtain ⟨m0, m1, m2, m3, m4⟩ := (hcs i hlt).1.kept (BK.out.block q hq)
      have hIM := (hcs i hlt).2.kept BK.out BK.out.size
      obtain ⟨M, hM⟩ : ∃ M, M = ND i := ⟨_, rfl⟩
      rw [← hM] at m0 m1 m2 m3 m4 hIM
      have hbw : b < wr.heap.size := by have := BK.out.size; omega
      have hcc : wr.cell? ⟨b, 2, none⟩ = some (.int .i64 k) := (three_cells ((BK.out.block b hsz).trans HX.out)).2.2
      obtain ⟨V, hV⟩ : ∃ V, V = wr.alloc (.cells #[.int .i64 M.op, .int .i64 M.x, .int .i64 M.y, .int .i64 M.a, .slice M.r1 M.r2 M.r3] 69) := ⟨_, rfl⟩
      have hbV : Below wr.heap.size wr V := by rw [hV]; exact Joins.below_alloc1 wr _
      have hIV := hIM.kept hbV hbV.size
      have HC := inst40 M l[i].R n k V hIV.len hIV.sm hIV.row
      rw [hIV.op, hIV.x, hIV.y, hIV.a] at HC
      have HBV := hid' hbV
      have hVe : In.okB ⟨l[i].op, l[i].x, l[i].y, l[i].a, l[i].R⟩ n k = l[i].okB n k := rfl
      rw [hVe] at HC
      rw [hV] at HC HBV
      clear hM hIM hIV hbV hV hVe hcs
      cases g : l[i].okB n k
      · rw [g] at HC
        go_wp2_with (first | (go_at_call 47; (with_reducible refine HC.mono ?_); rintro e w2 ⟨rfl, hb2⟩; have HB2 := hid' hb2; clear hb2 HC))
        all_goals go_ret
        all_goals refine ⟨ret_bool ?_, ?_⟩
        · symm
          rw [List.all_eq_false]
          exact ⟨l[i], List.getElem_mem hlt, by rw [g]; simp⟩
        · rw [← HBE.out]
          exact HB.out.trans (Joins.below_le (BK.out.trans (Joins.below_le (HBV.out.trans (Joins.below_le HB2.out HBV.out.size)) BK.out.size)) (by omega))
      · rw [g] at HC
        go_wp2_with (first | (go_at_call 47; (with_reducible refine HC.mono ?_); rintro e w2 ⟨rfl, hb2⟩; have HB2 := hid' hb2; clear hb2 HC))
        refine ⟨⟨i + 1, by push_cast; rfl, by omega, BK.out.trans (Joins.below_le (HBV.out.trans (Joins.below_le HB2.out HBV.out.size)) BK.out.size), fun j hj h1 => ?_⟩, by simp [intOf]; omega⟩
        by_cases e : j = i
        · subst e; exact g
        · exact HA.out j hj (by omega)
    · have b1 : decide ((i : Int) < (n : Int)) = false := by simp; omega
      go_wp2
      all_goals go_ret
      all_goals refine ⟨ret_bool ?_, ?_⟩
      · symm
        rw [List.all_eq_true]
        intro I hI
        obtain ⟨j, hj, rfl⟩ := List.getElem_of_mem hI
        exact HA.out j hj (by have := HL.out; omega)
      · rw [← HBE.out]
        exact HB.out.trans (Joins.below_le BK.out (by omega))
theorem maybe24 {w : World} {ad : Option Addr} {n c : Nat} {l : List In} {s k : Int} (h : PI w w.heap.size ad n l) : Calls Tryz.prog 31 #[pv ad n c s k] w fun e w' => e = .returned (.bool (mayB l s k)) ∧ Below w.heap.size w w' := by
  cases hh : decide (l.length ≤ 20000) && belowB s l.length && capsB k with
  | false => exact maybe24_no h.len hh
  | true => exact maybe24_ok h hh
theorem check10 {w : World} {ad : Option Addr} {n c : Nat} {l : List In} {s k : Int} (h : PI w w.heap.size ad n l) : Calls Tryz.prog 19 #[pv ad n c s k] w fun e w' => e = .returned (.int .i64 (if mayB l s k then 0 else 90)) ∧ Below w.heap.size w w' := by
  have hb := Joins.below_alloc1 w (.cells #[.slice ad n c, .int .i64 s, .int .i64 k] 28)
  have HC := maybe24 (c := c) (s := s) (k := k) (h.kept hb hb.size)
  have HB := hid' hb
  clear h hb
  cases g : mayB l s k
  · rw [g] at HC
    go_enter Tryz.func19, Tryz.ntmps19
    go_wp2_with (first | (go_at_call 31; (with_reducible refine HC.mono ?_); rintro e w2 ⟨rfl, hb2⟩; have HB2 := hid' hb2; clear hb2 HC))
    all_goals go_ret
    all_goals exact ⟨rfl, HB.out.trans (Joins.below_le HB2.out HB.out.size)⟩
  · rw [g] at HC
    go_enter Tryz.func19, Tryz.ntmps19
    go_wp2_with (first | (go_at_call 31; (with_reducible refine HC.mono ?_); rintro e w2 ⟨rfl, hb2⟩; have HB2 := hid' hb2; clear hb2 HC))
    all_goals go_ret
    all_goals exact ⟨rfl, HB.out.trans (Joins.below_le HB2.out HB.out.size)⟩
end Go.Proofs.YtpckbpimgoljoaaGreat
/- HELPERS: which nodes may be: the program's answer. -/
namespace Go.Proofs.YtpckbpimgoljoaaGreat
open Go.RowKit
set_option linter.unusedVariables false
set_option linter.unusedSimpArgs false
end Go.Proofs.YtpckbpimgoljoaaGreat
/- HELPERS: pointers, boxes, what a call leaves. -/
namespace Go.Proofs.YtpckbpimgoljoaaGreat
open Go.RowKit
set_option linter.unusedVariables false
set_option linter.unusedSimpArgs false
end Go.Proofs.YtpckbpimgoljoaaGreat
/- HELPERS: trees that lie in some blocks; rows of them. -/
namespace Go.Proofs.YtpckbpimgoljoaaGreat
open Go.RowKit
set_option linter.unusedVariables false
set_option linter.unusedSimpArgs false
end Go.Proofs.YtpckbpimgoljoaaGreat
/- HELPERS: a region that draws its order: what only reads is taken first, in the text's order, where the rest keeps what it reads, but for the last operation, which waits for all. -/

namespace Go.Proofs.YtpckbpimgoljoaaGreat
open Go Go.RowKit
set_option linter.unusedVariables false
section
variable {P : Program} {ops : Array Oper} {Q : Exit → Act → World → Prop} {md : Region.Mode} {S : World → Prop} {L : Nat}
end
end Go.Proofs.YtpckbpimgoljoaaGreat
namespace Go.Proofs.YtpckbpimgoljoaaGreat
open Go.RowKit
set_option linter.unusedVariables false
set_option linter.unusedSimpArgs false
theorem row_setC {w : World} {base e size n b c : Nat} {xs : List Value} (h : w.ownsRow base e size (.slice (some ⟨b, 0, none⟩) n c) n xs) (j : Nat) (v : Value) : (w.setCell ⟨b, j, none⟩ v).ownsRow base e size (.slice (some ⟨b, 0, none⟩) n c) n (xs.set j v) := by
  obtain ⟨hl, hr⟩ := h
  rcases hr with ⟨he, _⟩ | ⟨g, cap, cur, he, hb, hgg, h1, h2, h3, h4⟩
  · cases he
  · simp only [Value.slice.injEq, Option.some.injEq, Addr.mk.injEq] at he
    obtain ⟨⟨rfl, _⟩, _, rfl⟩ := he
    refine ⟨by simp [hl], .inr ⟨b, c, cur.setIfInBounds j v, rfl, hb, Joins.block_setCell hgg _, h1, h2, by simpa using h3, ?_⟩⟩
    simp only [Array.toList_setIfInBounds]
    rw [List.take_set, h4]
end Go.Proofs.YtpckbpimgoljoaaGreat
