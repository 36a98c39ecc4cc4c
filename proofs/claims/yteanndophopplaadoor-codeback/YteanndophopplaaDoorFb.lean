/- HELPERS: ranges, fields laid down, number by number. -/
import Derived.Test.YteanndophopplaaDoorFa
import Derived.Test.YteanndophopplaaDoorEa
namespace Go.Proofs.YteanndophopplaaDoor
open Go.RowKit
set_option linter.unusedVariables false
set_option linter.unusedSimpArgs false
theorem enter_of {P : Program} {f : FuncId} {fn : Func} {c : Code} (hf : P.funcs[f]? = some fn) (hname : (fn.name == "runtime.NumGoroutine") = false) (hb : fn.body = some c) : ∀ (args : Array Value) (w : World), (callFunc f args).run P w = .ok (.enter f args) w := by
  intro args w
  have h1 : fn.name ≠ "runtime.NumGoroutine" := by simpa using hname
  simp [callFunc, hf, h1, hb]
abbrev Enters (f : Nat) : Prop := ∀ (args : Array Value) (w : World), (callFunc f args).run Tryd.prog w = .ok (.enter f args) w
abbrev mv (f wb : Nat) : Value := .func (.func f) #[pt wb] #[]
abbrev LenE (E : Nat → List Nat) : Prop := ∀ n, (E n).length ≤ n + 2
theorem WB.below {T base wb : Nat} {w w1 : World} {xs : List Nat} {v v' : Value} (h : WB T base wb w xs v) (hb : base ≤ wb) (hc : Chg w w1 (WF wb v) (WF wb v')) : Below base w w1 :=
  hc.below h.bs (fun k hk => by
    rcases List.mem_cons.1 hk with rfl | hk
    · exact hb
    · simp at hk; exact (h.own.lt k hk).1)
theorem WB.alloc {T base wb : Nat} {w : World} {xs : List Nat} {v : Value} (h : WB T base wb w xs v) (o : Obj) : WB T base wb (w.alloc o) xs v :=
  ⟨(heap_alloc_old w o (Array.getElem?_eq_some_iff.1 h.box).1).trans h.box, h.own.alloc o, by have := h.bs; simp; omega⟩
theorem WB.keepNew {T base wb : Nat} {w w1 : World} {o : Obj} {xs : List Nat} {v : Value} {F : List Nat} (h : WB T base wb w xs v) (hc : Chg (w.alloc o) w1 (WF wb v) F) : w1.heap[w.heap.size]? = some o := by
  have hwb : wb < w.heap.size := (Array.getElem?_eq_some_iff.1 h.box).1
  refine (hc.block w.heap.size (by simp) (fun hk => ?_)).trans (heap_alloc_new w o)
  rcases List.mem_cons.1 hk with e | hk
  · omega
  · simp at hk
    have := (h.own.lt _ hk).2
    omega
theorem Chg.pre {w w1 : World} {o : Obj} {F F' : List Nat} (h : Chg (w.alloc o) w1 F F') : Chg w w1 F F' :=
  ⟨h.os, h.tape, h.output, by have := h.size; simp at this; omega, fun k hk hn => (h.block k (by simp; omega) hn).trans (heap_alloc_old w o hk), fun k hk => by
    rcases h.new k hk with e | e
    · exact .inl e
    · right; simp at e; omega⟩
def sumE (E : Nat → List Nat) (l : List Nat) : List Nat := l.flatMap E
theorem rn_take (R : List (Int × Int)) (i : Nat) (hi : i < R.length) : rnums (R.take (i + 1)) = rnums (R.take i) ++ [R[i].1.toNat, R[i].2.toNat] := by
  unfold rnums; rw [List.take_succ_eq_append_getElem hi, List.flatMap_append]; simp
theorem rn_len (E : Nat → List Nat) (hE : LenE E) : ∀ (R : List (Int × Int)), (∀ r ∈ R, 0 ≤ r.1 ∧ r.1 ≤ 1114111 ∧ 0 ≤ r.2 ∧ r.2 ≤ 1114111) → (sumE E (rnums R)).length ≤ R.length * 2228226 := by
  intro R
  induction R with
  | nil => intro _; simp [sumE, rnums]
  | cons r R ih =>
    intro h
    have h1 := h r (by simp)
    have h2 := ih (fun x hx => h x (by simp [hx]))
    have e : sumE E (rnums (r :: R)) = E r.1.toNat ++ (E r.2.toNat ++ sumE E (rnums R)) := by simp [sumE, rnums]
    rw [e, List.length_append, List.length_append, List.length_cons]
    have a := hE r.1.toNat
    have b := hE r.2.toNat
    omega
set_option maxRecDepth 100000 in
set_option maxHeartbeats 4000000 in
theorem layRanges72 {f T base wb : Nat} {E : Nat → List Nat} {w0 : World} (hN : NumW f T base wb E w0) (hf : Enters f) (hE : LenE E) (hbw : base ≤ wb) {w : World} {xs : List Nat} {v : Value} {ad : Option Addr} {n c : Nat} {R : List (Int × Int)}
    (hq : Below base w0 w) (hW : WB T base wb w xs v) (hR : RowAt base w (.slice ad n c) R) (hn : n = R.length) (h5 : n ≤ 5000) (hr : ∀ r ∈ R, 0 ≤ r.1 ∧ r.1 ≤ 1114111 ∧ 0 ≤ r.2 ∧ r.2 ≤ 1114111) (hS : xs.length ≤ 549755813888) :
    Calls Tryd.prog 72 #[.slice ad n c, mv f wb] w fun e w' => e = .returned (.tuple #[]) ∧ ∃ v', WB T base wb w' (xs ++ (E n ++ sumE E (rnums R))) v' ∧ Chg w w' (WF wb v) (WF wb v') := by
  have HW := hid hW
  have HQW := hid hq
  have HR := hid hR
  have HN := hid hn
  have HQ := hid hr
  have C0 := hN w xs v n hq hW (by omega)
  have HE := hid (rn_len E hE)
  have HE0 := hid hE
  clear hW hR hn hr hE hq
  go_enter Tryd.func72, Tryd.ntmps72
  go_wp2_with (with_reducible refine C0.mono ?_; rintro e w1 ⟨rfl, v1, hW1, hC1⟩; have HW1 := hid hW1; have HC1 := hid hC1; clear hW1 hC1)
  go_loopw [12] (fun y wq => ∃ (i : Nat) (z : Value), y = .int .i64 (i : Int) ∧ i ≤ n ∧ Hid (WB T base wb wq (xs ++ (E n ++ sumE E (rnums (R.take i)))) z) ∧ Hid (Chg w wq (WF wb v) (WF wb z))) (fun y _ => n - (intOf y).toNat)
  case atStart => exact ⟨0, v1, rfl, by omega, by
    have e := HW1.out
    have e2 : xs ++ E n = xs ++ (E n ++ sumE E (rnums (R.take 0))) := by simp [sumE, rnums]
    rw [e2] at e
    exact e, HC1.out⟩
  case round =>
    clear HW1 HC1
    obtain ⟨i, z, rfl, hi, HWz, HCz⟩ := hrel
    by_cases hil : i < n
    · have b1 : decide ((i : Int) < (n : Int)) = true := by simp; omega
      have b2 : (i : Int) < (n : Int) := by omega
      have ad1 : IntKind.i64.wrap ((i : Int) + 1) = (i : Int) + 1 := by simp [IntKind.wrap, IntKind.bits, IntKind.signed]; omega
      have hil' : i < R.length := by have := HN.out; omega
      have HBz := hid (HW.out.below hbw HCz.out)
      obtain ⟨ad', cap', hv', hR'⟩ := HR.out.below HBz.out (Nat.le_refl _) (Nat.le_refl _)
      simp only [Value.slice.injEq] at hv'
      obtain ⟨rfl, -, rfl⟩ := hv'
      obtain ⟨b, off, rfl, hb, hm0, hm1⟩ : ∃ b off, ad = some ⟨b, off, none⟩ ∧ b < base ∧ (∀ k, k < R.length → wr.cell? ⟨b, off + k * 2, none⟩ = some (.int .i64 (R.getD k (0, 0)).1)) ∧ (∀ k, k < R.length → wr.cell? ⟨b, off + k * 2 + 1, none⟩ = some (.int .i64 (R.getD k (0, 0)).2)) := by
        rcases hR' with h0 | h0
        · omega
        · exact h0
      have m0 := hm0 i hil'
      have m1 := hm1 i hil'
      clear hm0 hm1
      have hri := HQ.out _ (List.getElem_mem hil')
      have hsn := rn_take R i hil'
      have hlen := HE.out (R.take i) (fun r hr => HQ.out r (List.mem_of_mem_take hr))
      rw [List.length_take, Nat.min_eq_left (by omega)] at hlen
      have g : R.getD i (0, 0) = R[i] := by simp [List.getD_eq_getElem?_getD, List.getElem?_eq_getElem hil']
      rw [g] at m0 m1
      obtain ⟨ri, hri'⟩ : ∃ ri, ri = R[i] := ⟨_, rfl⟩
      rw [← hri'] at m0 m1 hri hsn
      obtain ⟨lo, hlo⟩ : ∃ lo : Nat, ri.1 = (lo : Int) := ⟨ri.1.toNat, by omega⟩
      obtain ⟨hh, hhi⟩ : ∃ hh : Nat, ri.2 = (hh : Int) := ⟨ri.2.toNat, by omega⟩
      have e1 : ri.1.toNat = lo := by omega
      have e2 : ri.2.toNat = hh := by omega
      rw [hlo] at m0
      rw [hhi] at m1
      rw [e1, e2] at hsn
      have hlo' : lo ≤ 1114111 := by omega
      have hhi' : hh ≤ 1114111 := by omega
      have HSN : Hid (xs ++ (E n ++ sumE E (rnums (R.take (i + 1)))) = (xs ++ (E n ++ sumE E (rnums (R.take i)))) ++ E lo ++ E hh) := by
        show _ = _
        rw [hsn]; simp [sumE]
      obtain ⟨A, hA⟩ : ∃ A, A = xs ++ (E n ++ sumE E (rnums (R.take i))) := ⟨_, rfl⟩
      have hAl : A.length ≤ 549755813888 + (5002 + i * 2228226) := by
        rw [hA, List.length_append, List.length_append]
        have := HE0.out n
        omega
      have hAm : A.length ≤ 600000000000 := by
        have : i * 2228226 ≤ 5000 * 2228226 := Nat.mul_le_mul_right _ (by omega)
        omega
      rw [← hA] at HWz HSN
      clear hR' hA hsn g hri' e1 e2 hri hlo hhi hlen hAl
      have C1 := hN _ A z lo ((HQW.out.trans HBz.out).alloc HWz.out.bs _) (HWz.out.alloc (.cells #[.int .i64 (lo : Int), .int .i64 (hh : Int)] 51)) (by omega)
      have hE1 := HE0.out lo
      go_wp2_with (first | (with_reducible refine C1.mono ?_; rintro e w1 ⟨rfl, v1, hW1, hC1⟩; have k0 := HWz.out.keepNew hC1; have k1 := Joins.cell_of_block k0 1; simp at k1; have HW1 := hid hW1; have HC1 := hid hC1.pre; have C2 := hN w1 (A ++ E lo) v1 hh ((HQW.out.trans HBz.out).trans (HWz.out.below hbw hC1.pre)) hW1 (by rw [List.length_append]; omega); clear hW1 hC1 k0 C1) | (with_reducible refine C2.mono ?_; rintro e w2 ⟨rfl, v2, hW2, hC2⟩; have HW2 := hid hW2; have HC2 := hid hC2; clear hW2 hC2 C2))
      exact ⟨⟨i + 1, v2, by push_cast; rfl, by omega, by rw [HSN.out]; exact HW2.out, HCz.out.trans (HC1.out.trans HC2.out)⟩, by simp [intOf]; omega⟩
    · have b1 : decide ((i : Int) < (n : Int)) = false := by simp; omega
      go_wp2
      all_goals go_end0
      all_goals refine ⟨rfl, z, ?_, HCz.out⟩
      all_goals
        have e := HWz.out
        rw [List.take_of_length_le (by have := HN.out; omega)] at e
        exact e
end Go.Proofs.YteanndophopplaaDoor
