/- HELPERS: a tree that came in has no list of ranges beyond the form's bound. -/
import Derived.Test.YtpckbpimgoljoaaGreatKD
import Derived.Test.YtpckbpimgoljoaaGreatAr
/- HELPERS: is a tree heavy? -/
namespace Go.Proofs.YtpckbpimgoljoaaGreat
open Go.RowKit
set_option linter.unusedVariables false
set_option linter.unusedSimpArgs false
mutual
/-- no list of ranges beyond the form's bound -/
def Tn.small : Tn → Bool
  | .mk _ R _ s _ _ _ _ _ => decide (R.length * 16 ≤ 140737488351232) && smallL s
def smallL : List Tn → Bool
  | [] => true
  | t :: ts => t.small && smallL ts
end
theorem smallL_get {ts : List Tn} (h : smallL ts = true) : ∀ (i : Nat) (hi : i < ts.length), ts[i].small = true := by
  induction ts with
  | nil => intro i hi; simp at hi
  | cons t ts ih =>
    simp only [smallL, Bool.and_eq_true] at h
    intro i hi
    cases i with
    | zero => exact h.1
    | succ i => exact ih h.2 i (by simpa using hi)
theorem wt_mul (T : Int) (n : Nat) (h1 : 1 ≤ T) (h2 : T ≤ 1099511627776 / (n : Int)) (hn : 1 ≤ n) : ∃ v : Nat, wrap64 (T * (n : Int)) = (v : Int) ∧ v ≤ 1099511627776 := by
  obtain ⟨m, rfl⟩ : ∃ m : Nat, T = (m : Int) := ⟨T.toNat, by omega⟩
  have h3 : (m : Int) * (n : Int) ≤ 1099511627776 := by
    have := Int.mul_le_of_le_ediv (by omega : (0 : Int) < (n : Int)) h2
    exact this
  have e : (m : Int) * (n : Int) = ((m * n : Nat) : Int) := by push_cast; rfl
  rw [e] at h3 ⊢
  refine ⟨m * n, ?_, by omega⟩
  unfold wrap64
  omega
set_option maxRecDepth 100000 in
set_option maxHeartbeats 8000000 in
theorem weight28 {w0 : World} {B : Nat} {N : Nv} {t : Tn} (h : TI w0 B N t) : t.small = true → ∀ (w : World), B ≤ w.heap.size → (∀ b, b < B → w.heap[b]? = w0.heap[b]?) →
    Calls Tryz.prog 11 #[N.v] w fun e w' => ∃ v : Nat, e = .returned (.int .i64 (v : Int)) ∧ v ≤ 1099511627776 ∧ Below w.heap.size w w' := by
  induction h with
  | @mk N R ts ND ok hr hR hRk hs hS hk ih =>
  intro hsm w hB hw
  simp only [Tn.small, Bool.and_eq_true, decide_eq_true_eq] at hsm
  have ihS : ∀ i (hi : i < ts.length), ∀ w1 : World, B ≤ w1.heap.size → (∀ b, b < B → w1.heap[b]? = w0.heap[b]?) → Calls Tryz.prog 11 #[(ND i).v] w1 fun e w' => ∃ v : Nat, e = .returned (.int .i64 (v : Int)) ∧ v ≤ 1099511627776 ∧ Below w1.heap.size w1 w' := fun i hi => ih i hi (smallL_get hsm.2 i hi)
  have hBW : Below w.heap.size w (w.alloc (.cells #[.int .i64 N.k, .slice N.r1 N.r2 N.r3, .int .i64 N.a2, .slice N.s1 N.s2 N.s3, .int .i64 N.a4, .int .i64 N.a5, .bool N.a6, .int .i64 N.a7, .string N.a8] 25)) := Joins.below_alloc1 w _
  have hBN : BN (w.alloc (.cells #[.int .i64 N.k, .slice N.r1 N.r2 N.r3, .int .i64 N.a2, .slice N.s1 N.s2 N.s3, .int .i64 N.a4, .int .i64 N.a5, .bool N.a6, .int .i64 N.a7, .string N.a8] 25)) w.heap.size N := heap_alloc_new w _
  have hmax := ok.s
  have hok4 := ok.a4
  have hok5 := ok.a5
  obtain ⟨k, r1, r2, r3, a2, s1, s2, s3, a4, a5, a6, a7, a8⟩ := N
  dsimp only at hs hS hr hBN hBW hmax hok4 hok5
  have hm2 : s2 ≤ 9223372036854775807 := by have : maxLen = 9223372036854775807 := rfl; omega
  have hr2 : r2 ≤ 8796093021952 := by omega
  have ad0 : IntKind.i64.wrap (1 + (r2 : Int)) = 1 + (r2 : Int) := by simp [IntKind.wrap, IntKind.bits, IntKind.signed]; omega
  obtain ⟨q0, q1, q2, q3, q4, q5, q6, q7, q8⟩ := nine' hBN
  obtain ⟨W, hW⟩ : ∃ W, W = w.alloc (.cells #[.int .i64 k, .slice r1 r2 r3, .int .i64 a2, .slice s1 s2 s3, .int .i64 a4, .int .i64 a5, .bool a6, .int .i64 a7, .string a8] 25) := ⟨_, rfl⟩
  rw [← hW] at hBN hBW q0 q1 q2 q3 q4 q5 q6 q7 q8
  obtain ⟨z, hz⟩ : ∃ z, z = w.heap.size := ⟨_, rfl⟩
  rw [← hz] at hBN hBW q0 q1 q2 q3 q4 q5 q6 q7 q8
  have HBN := hid hBN
  have HBW := hid hBW
  have HZ := hid hz
  have HSS := hid hS
  have HIH := hid ihS
  have HL := hid hs
  have HW := hid hw
  clear hBN hBW hS ihS ih hk ok hr hR hRk hs hw hsm hmax
  go_enter Tryz.func11, Tryz.ntmps11
  go_upto_region 1 with fail
  rw [← hz, ← hW]
  clear hW hz
  go_wp2_with fail
  go_loopw [3, 4] (fun u y wq => ∃ i : Nat, y = .int .i64 (i : Int) ∧ i ≤ s2 ∧ (∃ n : Nat, u = .int .i64 (n : Int) ∧ 1 ≤ n ∧ n ≤ 8796093021953) ∧ Hid (Below z w wq) ∧ Hid (BN wq z ⟨k, r1, r2, r3, a2, s1, s2, s3, a4, a5, a6, a7, a8⟩)) (fun _ y _ => s2 - (intOf y).toNat)
  case atStart => exact ⟨0, rfl, by omega, ⟨1 + r2, by push_cast; rfl, by omega, by omega⟩, HBW.out, HBN.out⟩
  case round =>
    obtain ⟨i, rfl, hi, ⟨n, rfl, hn1, hn2⟩, BK, BX⟩ := hrel
    clear q0 q1 q2 q3 q4 q5 q6 q7 q8
    obtain ⟨q0, q1, q2, q3, q4, q5, q6, q7, q8⟩ := nine' BX.out
    by_cases hil : i < s2
    · have b1 : decide ((i : Int) < (s2 : Int)) = true := by simp; omega
      have b2 : (i : Int) < (s2 : Int) := by omega
      have ad1 : IntKind.i64.wrap ((i : Int) + 1) = (i : Int) + 1 := by simp [IntKind.wrap, IntKind.bits, IntKind.signed]; omega
      have hlt : i < ts.length := by have := HL.out; omega
      obtain ⟨b, o, rfl, hbl, h9⟩ := HSS.out (by omega)
      have hbw : wr.heap[b]? = w.heap[b]? := BK.out.block b (by have := HZ.out; omega)
      obtain ⟨n0, n1, n2, n3, n4, n5, n6, n7, n8⟩ := (h9 i hlt).kept (hbw.trans (HW.out b hbl))
      have HC := HIH.out i hlt wr (by have := BK.out.size; have := HZ.out; omega) (fun b hb => (BK.out.block b (by have := HZ.out; omega)).trans (HW.out b hb))
      have hzl := (Array.getElem?_eq_some_iff.1 BX.out).1
      obtain ⟨M, hM⟩ : ∃ M, M = ND i := ⟨_, rfl⟩
      rw [← hM] at HC n0 n1 n2 n3 n4 n5 n6 n7 n8
      clear h9 hbw hM
      go_wp2_with (first | (go_at_call 11; (with_reducible refine HC.mono ?_); rintro e w2 ⟨v, rfl, hv, hb2⟩; have ad2 : IntKind.i64.wrap ((n : Int) + (v : Int)) = (n : Int) + (v : Int) := (by simp [IntKind.wrap, IntKind.bits, IntKind.signed]; omega); have hB2 := (hb2.block z hzl).trans BX.out; clear q0 q1 q2 q3 q4 q5 q6 q7 q8; obtain ⟨q0, q1, q2, q3, q4, q5, q6, q7, q8⟩ := nine' hB2; have HB2 := hid hb2; have HX2 := hid hB2; clear hb2 hB2 HC))
      have hz := HZ.out
      refine ⟨⟨i + 1, by push_cast; rfl, by omega, ⟨min 1099511627776 (n + v), by congr 1; omega, by omega, by omega⟩, BK.out.trans (Joins.below_le HB2.out (by have := BK.out.size; omega)), HX2.out⟩, by simp [intOf]; omega⟩
    · have b1 : decide ((i : Int) < (s2 : Int)) = false := by simp; omega
      have hn0 : ((n : Int) == 0) = false := by simp; omega
      have hn0' : (n : Int) ≠ 0 := by omega
      by_cases hk : k = 6
      · have g6 : (k == 6) = true := by simpa using hk
        go_wp2
        all_goals go_ret
        all_goals first | exact ⟨1099511627776, rfl, by omega, by rw [← HZ.out]; exact BK.out⟩ | (obtain ⟨v, hv, hv2⟩ := wt_mul a5 n (by omega) (by omega) hn1; exact ⟨v, congrArg (fun x : Int => Ending.returned (Value.int .i64 x)) hv, hv2, by rw [← HZ.out]; exact BK.out⟩) | (obtain ⟨v, hv, hv2⟩ := wt_mul a4 n (by omega) (by omega) hn1; exact ⟨v, congrArg (fun x : Int => Ending.returned (Value.int .i64 x)) hv, hv2, by rw [← HZ.out]; exact BK.out⟩) | (obtain ⟨v, hv, hv2⟩ := wt_mul 1 n (by omega) (by omega) hn1; exact ⟨v, congrArg (fun x : Int => Ending.returned (Value.int .i64 x)) hv, hv2, by rw [← HZ.out]; exact BK.out⟩) | (obtain ⟨v, hv, hv2⟩ := wt_mul 1 n (by omega) (by omega) hn1; rw [Int.one_mul] at hv; exact ⟨v, congrArg (fun x : Int => Ending.returned (Value.int .i64 x)) hv, hv2, by rw [← HZ.out]; exact BK.out⟩)
      · have g6 : (k == 6) = false := by simpa using hk
        go_wp2
        all_goals go_ret
        all_goals first | exact ⟨1099511627776, rfl, by omega, by rw [← HZ.out]; exact BK.out⟩ | (obtain ⟨v, hv, hv2⟩ := wt_mul 1 n (by omega) (by omega) hn1; exact ⟨v, congrArg (fun x : Int => Ending.returned (Value.int .i64 x)) hv, hv2, by rw [← HZ.out]; exact BK.out⟩) | (obtain ⟨v, hv, hv2⟩ := wt_mul 1 n (by omega) (by omega) hn1; rw [Int.one_mul] at hv; exact ⟨v, congrArg (fun x : Int => Ending.returned (Value.int .i64 x)) hv, hv2, by rw [← HZ.out]; exact BK.out⟩) | (obtain ⟨v, hv, hv2⟩ := wt_mul 1 n (by omega) (by omega) hn1; rw [Int.one_mul, IntWalk.wrap64_in _ (by omega)] at hv; exact ⟨n, rfl, by omega, by rw [← HZ.out]; exact BK.out⟩)
set_option maxRecDepth 100000 in
set_option maxHeartbeats 4000000 in
theorem heavy8 {w : World} {N : Nv} {t : Tn} (h : TI w w.heap.size N t) (hs : t.small = true) : Calls Tryz.prog 5 #[N.v] w fun e w' => ∃ b, e = .returned (.bool b) ∧ Below w.heap.size w w' := by
  have HC := weight28 h hs (w.alloc (.cells #[.int .i64 N.k, .slice N.r1 N.r2 N.r3, .int .i64 N.a2, .slice N.s1 N.s2 N.s3, .int .i64 N.a4, .int .i64 N.a5, .bool N.a6, .int .i64 N.a7, .string N.a8] 25)) (by simp) (fun b hb => heap_alloc_old w _ hb)
  have HB := hid (Joins.below_alloc1 w (.cells #[.int .i64 N.k, .slice N.r1 N.r2 N.r3, .int .i64 N.a2, .slice N.s1 N.s2 N.s3, .int .i64 N.a4, .int .i64 N.a5, .bool N.a6, .int .i64 N.a7, .string N.a8] 25))
  obtain ⟨k, r1, r2, r3, a2, s1, s2, s3, a4, a5, a6, a7, a8⟩ := N
  dsimp only at HC HB
  clear h
  go_enter Tryz.func5, Tryz.ntmps5
  go_wp2_with (first | (go_at_call 11; (with_reducible refine HC.mono ?_); rintro e w2 ⟨v, rfl, hv, hb2⟩; have HB2 := hid hb2; clear hb2 HC))
  all_goals go_ret
  all_goals exact ⟨_, rfl, HB.out.trans (Joins.below_le HB2.out HB.out.size)⟩
end Go.Proofs.YtpckbpimgoljoaaGreat
namespace Go.Proofs.YtpckbpimgoljoaaGreat
open Go.RowKit Go.Deep Go.ChangeShapes Go.WideShapes
set_option linter.unusedVariables false
set_option linter.unusedSimpArgs false
theorem smallL_of : ∀ {ts : List Tn}, (∀ t ∈ ts, t.small = true) → smallL ts = true
  | [], _ => rfl
  | t :: ts, h => by simp only [smallL, Bool.and_eq_true]; exact ⟨h t (by simp), smallL_of fun u hu => h u (by simp [hu])⟩
theorem weightsAll_memT {H : Type} {P : Program} {e : TypeId} : ∀ {l : List (DataW H)} {d : DataW H}, d ∈ l → ∀ n ∈ d.weights P e, n ∈ DataW.weightsAll P e l
  | x :: l, d, hd, n, hn => by
    simp only [DataW.weightsAll, List.mem_append]
    rcases List.mem_cons.1 hd with rfl | h
    · exact .inl hn
    · exact .inr (weightsAll_memT h n hn)
section
variable {H : Type} {enc : TypeId × Value → H} {P : Program} {w : World} {base : Nat} {spare : Nat → Bool} {held : Bool} {tn ts tr te ti tb tg : TypeId} {f : Nat → Field} {g0 g1 : Field}
theorem ranges_smallT (S : NodeTy P tn ts tr te ti tb tg f g0 g1) (hby : P.bytesOf te = 16) {fuel : Nat} {cs : List Value} {x : DataW H × List MemPlace} (h : DataW.trod enc P w base spare held fuel tr cs = some x) (hw : ∀ n ∈ x.1.weights P tr, n ≤ reachBytes) {ad : Option Addr} {n c : Nat} (hc : cs = [.slice ad n c]) : n * 16 ≤ 140737488351232 := by
  rcases DataW.trod_slice S.hr h with ⟨e, _⟩ | ⟨a, len, cap, elems, rest, n', _, e, hx, _, _, _, hel, _⟩
  · rw [hc] at e
    simp at e
    omega
  · rw [hc] at e
    simp at e
    have := hw ((elems.length + rest.length) * P.bytesOf te) (by rw [hx]; simp [DataW.weights, S.hr])
    rw [hby] at this
    have hr : reachBytes = 140737488351232 := by decide
    omega
theorem open_nodeS (S : NodeTy P tn ts tr te ti tb tg f g0 g1) (hby : P.bytesOf te = 16) : ∀ (fuel : Nat) (cs : List Value) (x : DataW H × List MemPlace), DataW.trod enc P w base spare held fuel tn cs = some x → (∀ n ∈ x.1.weights P tn, n ≤ reachBytes) → ∃ N t, cs = Nv.cs N ∧ TI w w.heap.size N t ∧ t.small = true := by
  intro fuel
  induction fuel using Nat.strongRecOn with
  | _ fuel ih =>
  intro cs x h hwt
  obtain ⟨xs, n, hf, rfl, hl, hxl, hfs⟩ := DataW.trod_struct S.hn h
  rw [S.cn] at hl
  simp only [List.size_toArray, List.length_cons, List.length_nil] at hxl
  obtain ⟨t0, t1, t2, t3, t4, t5, t6, t7, t8⟩ := S.ty
  match xs, hxl, cs, hl with
  | [y0, y1, y2, y3, y4, y5, y6, y7, y8], _, [v0, v1, v2, v3, v4, v5, v6, v7, v8], _ =>
  have g0 := hfs 0 (f 0) rfl
  have g1 := hfs 1 (f 1) rfl
  have g2 := hfs 2 (f 2) rfl
  have g3 := hfs 3 (f 3) rfl
  have g4 := hfs 4 (f 4) rfl
  have g5 := hfs 5 (f 5) rfl
  have g6 := hfs 6 (f 6) rfl
  have g7 := hfs 7 (f 7) rfl
  have g8 := hfs 8 (f 8) rfl
  simp [t0, S.of, S.ci] at g0
  simp [t1, S.of, S.cr] at g1
  simp [t2, S.of, S.ci] at g2
  simp [t3, S.of, S.cs] at g3
  simp [t4, S.of, S.ci] at g4
  simp [t5, S.of, S.ci] at g5
  simp [t6, S.of, S.cb] at g6
  simp [t7, S.of, S.ci] at g7
  simp [t8, S.of, S.cg] at g8
  have hw1 : ∀ n ∈ y1.1.weights P tr, n ≤ reachBytes := fun n hn => hwt n (by
    simp only [DataW.weights, S.hn]
    exact DataW.weights_mem_each (j := 1) (by simp [t1]) (by simp) n hn)
  have hw3 : ∀ n ∈ y3.1.weights P ts, n ≤ reachBytes := fun n hn => hwt n (by
    simp only [DataW.weights, S.hn]
    exact DataW.weights_mem_each (j := 3) (by simp [t3]) (by simp) n hn)
  obtain ⟨k, e0, _, w0⟩ := DataW.trod_int S.hi g0
  obtain ⟨a2, e2, _, w2⟩ := DataW.trod_int S.hi g2
  obtain ⟨a4, e4, _, w4⟩ := DataW.trod_int S.hi g4
  obtain ⟨a5, e5, _, w5⟩ := DataW.trod_int S.hi g5
  obtain ⟨a7, e7, _, w7⟩ := DataW.trod_int S.hi g7
  obtain ⟨a6, e6, _⟩ := DataW.trod_bool S.hb g6
  obtain ⟨a8, e8, _, w8⟩ := DataW.trod_string S.hg g8
  obtain ⟨r1, r2, r3, R, e1, hr, hrc, hrm, hR, hRk⟩ := open_ranges S g1
  have hsr : R.length * 16 ≤ 140737488351232 := by rw [← hr]; exact ranges_smallT S hby g1 hw1 e1
  simp only [List.cons.injEq, and_true] at e0 e1 e2 e4 e5 e6 e7 e8
  subst e0 e1 e2 e4 e5 e6 e7 e8
  rcases DataW.trod_slice S.hs g3 with ⟨e3, _⟩ | ⟨a, len, cap, elems, rest, n', hn', e3, hy3, hb, hlc, hcm, hel, hx, _, _⟩
  · simp only [List.cons.injEq, and_true] at e3
    subst e3
    exact ⟨⟨k, r1, r2, r3, a2, none, 0, 0, a4, a5, a6, a7, a8⟩, _, rfl, .mk (ts := []) (ND := fun _ => default) ⟨i64ok w0, i64ok w2, i64ok w4, i64ok w5, i64ok w7, w8, ⟨hrc, hrm⟩, ⟨Nat.le_refl _, by simp [maxLen]⟩⟩ hr hR hRk rfl (fun hp => absurd hp (by simp)) (fun i hi => absurd hi (by simp)), by simp only [Tn.small, smallL, Bool.and_true, decide_eq_true_eq]; exact hsr⟩
  · simp only [List.cons.injEq, and_true] at e3
    subst e3
    rw [S.cn] at hx
    have each : ∀ i, i < len → ∃ q : Nv × Tn, (∀ j, j < 9 → w.cell? (a.add (i * 9 + j)) = (Nv.cs q.1)[j]?) ∧ TI w w.heap.size q.1 q.2 ∧ q.2.small = true := fun i hi => by
      have h1 := hx i hi
      rw [List.getElem?_eq_getElem (by omega)] at h1
      obtain ⟨cs', h2, h3⟩ := Option.bind_eq_some_iff.1 h1
      obtain ⟨N, t, rfl, ht, hts⟩ := ih n' (by omega) cs' _ h3 (fun n hn => hw3 n (by rw [hy3]; simp only [DataW.weights, S.hs]; exact List.mem_cons_of_mem _ (List.mem_append_left _ (weightsAll_memT (List.mem_map.2 ⟨_, List.getElem_mem _, rfl⟩) n hn))))
      obtain ⟨_, _, hc⟩ := World.cells?_some h2
      exact ⟨(N, t), fun j hj => by have := hc j hj; rwa [add_add] at this, ht, hts⟩
    obtain ⟨q, hq⟩ := choose_lt each
    refine ⟨⟨k, r1, r2, r3, a2, some a, len, cap, a4, a5, a6, a7, a8⟩, _, rfl, .mk (ts := (List.range len).map fun i => (q i).2) (ND := fun i => (q i).1) ⟨i64ok w0, i64ok w2, i64ok w4, i64ok w5, i64ok w7, w8, ⟨hrc, hrm⟩, ⟨hlc, hcm⟩⟩ hr hR hRk (by simp) (fun hp => ?_) (fun i hi => ?_), ?_⟩
    · simp only [List.length_map, List.length_range] at hp ⊢
      have hc0 := (hq 0 hp).1 0 (by omega)
      simp only [Nv.cs, List.getElem?_cons_zero] at hc0
      have hsp : a.spot = none := by simpa [Addr.add] using World.cell?_spot hc0
      obtain ⟨b, o, sp⟩ := a
      simp only at hsp
      subst hsp
      refine ⟨b, o, rfl, World.block_lt_of_cell? _ _ hc0, fun i hi => ?_⟩
      have h1 := (hq i hi).1
      simp only [add_plain, ← Nat.add_assoc] at h1
      exact ⟨by simpa using h1 0 (by omega), by simpa using h1 1 (by omega), by simpa using h1 2 (by omega), by simpa using h1 3 (by omega), by simpa using h1 4 (by omega), by simpa using h1 5 (by omega), by simpa using h1 6 (by omega), by simpa using h1 7 (by omega), by simpa using h1 8 (by omega)⟩
    · simp only [List.length_map, List.length_range] at hi
      simpa using (hq i hi).2.1
    · simp only [Tn.small, Bool.and_eq_true, decide_eq_true_eq]
      refine ⟨hsr, smallL_of fun t ht => ?_⟩
      obtain ⟨i, hi, rfl⟩ := List.mem_map.1 ht
      exact (hq i (List.mem_range.1 hi)).2.2
end
set_option maxRecDepth 100000
section
variable {H : Type} {enc : TypeId × Value → H} {W : World} {base : Nat} {v : Value} {d : DataW H} {p : List MemPlace}
/-- a tree that came in, with its sizes -/
theorem node_argS (hok : Value.okWide Tryz.prog W .any base 25 v) (h0 : DataW.Trod enc Tryz.prog W 0 (fun _ => true) true 25 v d p) (hsz : ∀ n ∈ d.weights Tryz.prog 25, n ≤ reachBytes) : ∃ N t, v = Nv.v N ∧ TI W W.heap.size N t ∧ t.small = true := by
  obtain ⟨cs, rfl, hs⟩ := okWide_struct Tryz.underlying25 hok
  obtain ⟨fuel, hf⟩ := h0
  obtain ⟨N, t, h1, h2, h3⟩ := open_nodeS nodeTy (by kernel_rfl) fuel _ _ hf hsz
  have h1' : cs.toList = Nv.cs N := h1
  refine ⟨N, t, ?_, h2, h3⟩
  have : cs = (Nv.cs N).toArray := by rw [← h1']
  rw [this]
end
end Go.Proofs.YtpckbpimgoljoaaGreat
