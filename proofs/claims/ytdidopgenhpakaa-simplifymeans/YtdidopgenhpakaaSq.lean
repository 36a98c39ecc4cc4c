/- HELPERS: two trees that hold the same are told to be the same. -/
import Derived.Test.YtdidopgenhpakaaBh
import Derived.Laws.StructEq
import Derived.Deep.DrawnRows
namespace Go.Proofs.Ytdidopgenhpakaa
open Go.RowKit
set_option linter.unusedVariables false
set_option linter.unusedSimpArgs false
attribute [local go_sem ↓] Go.wp_at_zero Go.wp_at_succ
theorem fields53 : Try.prog.underlying 63 = some (.struct (Try.prog.fieldsOf 63)) := by kernel_rfl
theorem held53 : Try.prog.stoodInHeld 63 = false := by kernel_rfl
theorem guard53 : Try.prog.eqGuardType Try.prog.depth 63 = false := by kernel_rfl
set_option maxRecDepth 100000 in
theorem rng_neq (lo hi : Int) (W : World) : (binOp .neq 63 (.agg #[.int .i64 lo, .int .i64 hi]) (.agg #[.int .i64 lo, .int .i64 hi])).run Try.prog W = .ok (.bool false) W := by
  have he : ∀ (a b : Int), (Op.equalIn 9999 3 (.int .i64 a) (.int .i64 b)).run Try.prog W = .ok (a == b) W := fun a b => run_equalIn_int W 9998 3 .i64 .i64 a b Try.underlying3
  rw [run_neq_struct, show Op.equalIn 10000 63 = Op.equalIn (9999 + 1) 63 from rfl, run_equalIn_agg W 9999 63 _ _ fields53 held53]
  have hp : ∀ (xs : Array Value) (o : Nat) (v : Value), xs[o]? = some v → (part 3 xs o).run Try.prog W = .ok v W := by
    intro xs o v h
    simp [part, Try.isAgg3, h, Result.andThen]
  simp [Program.fieldsOf, Try.underlying63, Op.eqFields, hp, he, Result.andThen]
theorem rng_guard (x y : Operand) (lo hi lo' hi' : Int) (W : World) : (eqGuard .neq 63 x y (.agg #[.int .i64 lo, .int .i64 hi]) (.agg #[.int .i64 lo', .int .i64 hi'])).run Try.prog W = .ok () W := run_eqGuard_agg W .neq 63 x y _ _ guard53
theorem TI.inv {w : World} {B : Nat} {N : Nv} {t : Tn} (h : TI w B N t) : ∃ (R : List (Int × Int)) (ts : List Tn) (ND : Nat → Nv), t = .mk N.k R N.a2 ts N.a4 N.a5 N.a6 N.a7 N.a8 ∧ N.ok ∧ N.r2 = R.length ∧ R2 w B N.r1 R ∧ (∀ x ∈ R, I64ok x.1 ∧ I64ok x.2) ∧ N.s2 = ts.length ∧
    (0 < ts.length → ∃ b o, N.s1 = some ⟨b, o, none⟩ ∧ b < B ∧ ∀ i, i < ts.length → N9 w b o i (ND i)) ∧ ∀ i (hi : i < ts.length), TI w B (ND i) ts[i] := by
  cases h with
  | mk ok hr hR hRk hs hS hk => exact ⟨_, _, _, rfl, ok, hr, hR, hRk, hs, hS, hk⟩
set_option maxRecDepth 100000 in
set_option maxHeartbeats 8000000 in
theorem same13g {w0 : World} {B : Nat} {N : Nv} {t : Tn} (h : TI w0 B N t) : ∀ (N' : Nv), TI w0 B N' t → ∀ (w : World), B ≤ w.heap.size → (∀ b, b < B → w.heap[b]? = w0.heap[b]?) →
    Calls Try.prog 15 #[N.v, N'.v] w fun e w' => e = .returned (.bool true) ∧ Below w.heap.size w w' := by
  induction h with
  | @mk N R ts ND ok hr hR hRk hs hS hk ih =>
  intro N' h' w hB hw
  obtain ⟨R', ts', ND', e, ok', hr', hR', hRk', hs', hS', hk'⟩ := h'.inv
  obtain ⟨k, r1, r2, r3, a2, s1, s2, s3, a4, a5, a6, a7, a8⟩ := N
  obtain ⟨k', p1, p2, p3, b2, q1, q2, q3, b4, b5, b6, b7, b8⟩ := N'
  simp only [Tn.mk.injEq] at e
  obtain ⟨rfl, rfl, rfl, rfl, rfl, rfl, rfl, rfl, rfl⟩ := e
  dsimp only at hs hS hr hR hs' hS' hr' hR' ok ok'
  have e1 : p2 = r2 := by omega
  have e2 : q2 = s2 := by omega
  subst e1 e2
  have kr : p2 ≤ 9223372036854775807 := by have := ok.r; dsimp only at this; have : maxLen = 9223372036854775807 := rfl; omega
  have ks : q2 ≤ 9223372036854775807 := by have := ok.s; dsimp only at this; have : maxLen = 9223372036854775807 := rfl; omega
  have HRW : Hid (∀ w1 : World, (∀ b, b < B → w1.heap[b]? = w0.heap[b]?) → R2 w1 B r1 R ∧ R2 w1 B p1 R) := fun w1 h1 => ⟨hR.kept h1, hR'.kept h1⟩
  have HW := hid hw
  have HS := hid hS
  have HS' := hid hS'
  have HIH := hid ih
  have HK := hid hk'
  have HL := hid hs
  have HRL := hid hr
  clear ok ok' hr hR hRk hs hS hk ih hr' hR' hRk' hs' hS' hk' h' hw
  go_enter Try.func15, Try.ntmps15
  go_wp2_with fail
  obtain ⟨W, hW⟩ : ∃ W, W = (w.alloc (.cells #[.int .i64 k, .slice r1 p2 r3, .int .i64 a2, .slice s1 q2 s3, .int .i64 a4, .int .i64 a5, .bool a6, .int .i64 a7, .string a8] 25)).alloc (.cells #[.int .i64 k, .slice p1 p2 p3, .int .i64 a2, .slice q1 q2 q3, .int .i64 a4, .int .i64 a5, .bool a6, .int .i64 a7, .string a8] 25) := ⟨_, rfl⟩
  have HBW : Hid (Below w.heap.size w W) := by rw [hW]; exact below_two' w _ _
  have HX1 : Hid (W.heap[w.heap.size]? = some (.cells #[.int .i64 k, .slice r1 p2 r3, .int .i64 a2, .slice s1 q2 s3, .int .i64 a4, .int .i64 a5, .bool a6, .int .i64 a7, .string a8] 25 (0, 0))) := by
    rw [hW]
    exact (heap_alloc_old _ _ (by simp)).trans (heap_alloc_new w _)
  have HX2 : Hid (W.heap[w.heap.size + 1]? = some (.cells #[.int .i64 k, .slice p1 p2 p3, .int .i64 a2, .slice q1 q2 q3, .int .i64 a4, .int .i64 a5, .bool a6, .int .i64 a7, .string a8] 25 (0, 0))) := by
    rw [hW]
    exact two_new w _ _ _
  have l1 : w.heap.size < W.heap.size := (Array.getElem?_eq_some_iff.1 HX1.out).1
  have l2 : w.heap.size + 1 < W.heap.size := (Array.getElem?_eq_some_iff.1 HX2.out).1
  rw [← hW]
  obtain ⟨x1, hx1⟩ : ∃ x1, x1 = w.heap.size := ⟨_, rfl⟩
  obtain ⟨x2, hx2⟩ : ∃ x2, x2 = w.heap.size + 1 := ⟨_, rfl⟩
  rw [← hx2] at HX2 l2 ⊢
  rw [← hx1] at HX1 l1 ⊢
  have HWW : Hid (∀ b, b < B → W.heap[b]? = w0.heap[b]?) := fun b hb => (HBW.out.block b (by omega)).trans (HW.out b hb)
  have HBW' : Hid (Below x1 w W) := by rw [hx1]; exact HBW.out
  have hBW : B ≤ W.heap.size := by omega
  have HXX := hid hx1
  clear hW HW HBW hx1 hx2
  go_loopw [5] (fun x wq => ∃ i : Nat, x = .int .i64 (i : Int) ∧ i ≤ p2 ∧ Hid (Below W.heap.size W wq)) (fun x _ => p2 - (intOf x).toNat)
  case atStart => exact ⟨0, rfl, by omega, Below.refl _ _⟩
  case round =>
    obtain ⟨i, rfl, hi, BK⟩ := hrel
    obtain ⟨o0, o1, o2, o3, o4, o5, o6, o7, o8⟩ := nine' ((BK.out.block x1 l1).trans HX1.out)
    obtain ⟨u0, u1, u2, u3, u4, u5, u6, u7, u8⟩ := nine' ((BK.out.block x2 l2).trans HX2.out)
    by_cases hil : i < p2
    · have b1 : decide ((i : Int) < (p2 : Int)) = true := by simp; omega
      have b2 : (i : Int) < (p2 : Int) := by omega
      have hlt : i < R.length := by have := HRL.out; omega
      have hwk : ∀ b, b < B → wr.heap[b]? = w0.heap[b]? := fun b hb => (BK.out.block b (by omega)).trans (HWW.out b hb)
      obtain ⟨hq1, hq2⟩ := HRW.out wr hwk
      have hne : R ≠ [] := fun e => by rw [e] at hlt; simp at hlt
      obtain ⟨rb, ro, e1, _, hc1⟩ := hq1 hne
      obtain ⟨pb, po, e2, _, hc2⟩ := hq2 hne
      subst e1 e2
      obtain ⟨m0, m1⟩ := hc1 i hlt
      obtain ⟨v0, v1⟩ := hc2 i hlt
      obtain ⟨⟨lo, hi'⟩, hv⟩ : ∃ v, R[i]'hlt = v := ⟨_, rfl⟩
      rw [hv] at m0 m1 v0 v1
      simp only at m0 m1 v0 v1
      have ad1 : IntKind.i64.wrap ((i : Int) + 1) = (i : Int) + 1 := by simp [IntKind.wrap, IntKind.bits, IntKind.signed]; omega
      have hneq := fun W' => rng_neq lo hi' W'
      have hgd := fun x y W' => rng_guard x y lo hi' lo hi' W'
      clear hc1 hc2 hq1 hq2 hwk hv hne
      go_wp2_with fail
      go_quiet (fail)
      go_wp2
      exact ⟨⟨i + 1, by push_cast; rfl, by omega, BK.out.trans ⟨rfl, rfl, rfl, Nat.le_refl _, fun _ _ => rfl⟩⟩, by simp [intOf]; omega⟩
    · have b1 : decide ((i : Int) < (p2 : Int)) = false := by simp; omega
      go_wp2_with fail
      clear b1 o0 o1 o2 o3 o4 o5 o6 o7 o8 u0 u1 u2 u3 u4 u5 u6 u7 u8
      go_loopw [6] (fun x wq => ∃ i2 : Nat, x = .int .i64 (i2 : Int) ∧ i2 ≤ q2 ∧ Hid (Below W.heap.size W wq)) (fun x _ => q2 - (intOf x).toNat)
      case atStart => exact ⟨0, rfl, by omega, BK⟩
      case round =>
        clear BK
        obtain ⟨i2, rfl, hi2, BK⟩ := hrel
        obtain ⟨o0, o1, o2, o3, o4, o5, o6, o7, o8⟩ := nine' ((BK.out.block x1 l1).trans HX1.out)
        obtain ⟨u0, u1, u2, u3, u4, u5, u6, u7, u8⟩ := nine' ((BK.out.block x2 l2).trans HX2.out)
        by_cases hil2 : i2 < q2
        · have b1 : decide ((i2 : Int) < (q2 : Int)) = true := by simp; omega
          have b2 : (i2 : Int) < (q2 : Int) := by omega
          have hlt : i2 < ts.length := by have := HL.out; omega
          have hwk : ∀ b, b < B → wr.heap[b]? = w0.heap[b]? := fun b hb => (BK.out.block b (by omega)).trans (HWW.out b hb)
          obtain ⟨b, o, e1, hb, hc⟩ := HS.out (by omega)
          obtain ⟨b', o', e2, hb', hc'⟩ := HS'.out (by omega)
          subst e1 e2
          obtain ⟨n0, n1, n2, n3, n4, n5, n6, n7, n8⟩ := (hc i2 hlt).kept (hwk b hb)
          obtain ⟨k0, k1, k2, k3, k4, k5, k6, k7, k8⟩ := (hc' i2 hlt).kept (hwk b' hb')
          have C1 : ∀ W', Below wr.heap.size wr W' → Calls Try.prog 15 #[(ND i2).v, (ND' i2).v] W' fun e w' => e = .returned (.bool true) ∧ Hid (Below wr.heap.size wr w') := fun W' hBl =>
            (HIH.out i2 hlt (ND' i2) (HK.out i2 hlt) W' (by have := hBl.size; have := BK.out.size; omega) (fun b hb => (hBl.block b (by have := BK.out.size; omega)).trans (hwk b hb))).mono fun e w' h => ⟨h.1, hBl.trans (Joins.below_le h.2 hBl.size)⟩
          obtain ⟨P, hP⟩ : ∃ P, P = ND i2 := ⟨_, rfl⟩
          obtain ⟨P', hP'⟩ : ∃ P, P = ND' i2 := ⟨_, rfl⟩
          rw [← hP, ← hP'] at C1
          rw [← hP] at n0 n1 n2 n3 n4 n5 n6 n7 n8
          rw [← hP'] at k0 k1 k2 k3 k4 k5 k6 k7 k8
          clear hc hc' hwk hP hP'
          have ad1 : IntKind.i64.wrap ((i2 : Int) + 1) = (i2 : Int) + 1 := by simp [IntKind.wrap, IntKind.bits, IntKind.signed]; omega
          go_wp2_with fail
          go_region_with (go_at_call 15; (with_reducible refine (C1 _ ?_).mono ?_); (exact ⟨rfl, rfl, rfl, Nat.le_refl _, fun _ _ => rfl⟩); rintro e w6 ⟨rfl, HB6⟩)
          all_goals go_wp2
          all_goals exact ⟨⟨i2 + 1, by push_cast; rfl, by omega, BK.out.trans (Joins.below_le HB6.out BK.out.size)⟩, by simp [intOf]; omega⟩
        · have b1 : decide ((i2 : Int) < (q2 : Int)) = false := by simp; omega
          go_wp2
          go_ret
          refine ⟨rfl, ?_⟩
          rw [← HXX.out]
          exact HBW'.out.trans (Joins.below_le BK.out (by omega))
theorem same13 {w : World} {N N' : Nv} {t : Tn} (h : TI w w.heap.size N t) (h' : TI w w.heap.size N' t) : Calls Try.prog 15 #[N.v, N'.v] w fun e w' => e = .returned (.bool true) ∧ Below w.heap.size w w' := same13g h N' h' w (Nat.le_refl _) fun _ _ => rfl
end Go.Proofs.Ytdidopgenhpakaa
