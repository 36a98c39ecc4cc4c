/- HELPERS: what lies between the head and the sum. -/
import Derived.Test.YteanndophopplaaDoorGe
import Derived.Laws.BytesArg
import Derived.Deep.RegionHeld3
import Derived.Deep.QuietTactic
import Derived.BigQuiet
import Derived.Laws.StructEq
import Derived.Deep.DrawnRows
import Derived.Stop.BytesEq
import Derived.Test.YteanndophopplaaDoorXj
namespace Go.Proofs.YteanndophopplaaDoor
open Go.RowKit
set_option linter.unusedVariables false
set_option linter.unusedSimpArgs false
theorem inner_short {w : World} {ad : Option Addr} {n c : Nat} (h8 : n < 8) : Calls Tryd.prog 55 #[.slice ad n c] w fun e w' => e = Broke ∧ ∃ m, w' = w.drewN m := by
  have b1 : decide ((n : Int) - 4 < 4) = true := by simp; omega
  have b2 : (n : Int) - 4 < 4 := by omega
  go_enter Tryd.func55, Tryd.ntmps55
  go_upto_region 2 with fail
  go_big_quiet (fail)
  go_wp2
  exact ⟨rfl, rfl, _, rfl⟩
/-- the head as a string -/
abbrev headS : ByteArray := ⟨#[72, 82, 80, 71]⟩
def I8 (l : List Nat) : List Int := l.map fun x : Nat => (x : Int)
theorem u8_back : ∀ (l : List Nat), (∀ x ∈ l, x < 256) → ((I8 l).map fun n => UInt8.ofNat n.toNat).map UInt8.toNat = l := by
  intro l h
  simp only [I8, List.map_map]
  conv => rhs; rw [← List.map_id l]
  apply List.map_congr_left
  intro x hx
  have := h x hx
  simp
  omega
theorem head_ne {l : List Nat} (h : ∀ x ∈ l, x < 256) (hne : l ≠ headB) : (strOfNums (I8 l)).toList ≠ [72, 82, 80, 71] := by
  intro e
  rw [ByteArray.toList_eq, strOfNums_data] at e
  have := congrArg (List.map UInt8.toNat) e
  rw [u8_back l h] at this
  exact hne this
theorem head_eq : (strOfNums (I8 headB)).toList = [72, 82, 80, 71] := by
  rw [ByteArray.toList_eq, strOfNums_data]; rfl
theorem conv_cells {w : World} {b o c : Nat} {l : List Nat} (hc : ∀ k (h : k < l.length), w.cell? ⟨b, o + k, none⟩ = some (.int .u8 (l[k] : Int))) (h4 : 4 ≤ l.length) (q : Nat) :
    (convert 36 9 (.slice (some ⟨b, o, none⟩) 4 c)).run Tryd.prog (w.drewN q) = .ok (.string (strOfNums (I8 (l.take 4)))) (w.drewN q) :=
  run_convert_bytes_arg (P := Tryd.prog) (w.drewN q) 36 5 Tryd.underlying36 Tryd.underlying5 b o 4 c (I8 (l.take 4)) (by simp [I8]; omega) (fun k hk => by
    have e := hc k (by omega)
    have e2 : (I8 (l.take 4)).getD k 0 = ((l[k]'(by omega) : Nat) : Int) := by
      rw [List.getD_eq_getElem?_getD, List.getElem?_eq_getElem (by simp [I8]; omega)]
      simp [I8]
    rw [e2]
    exact e) 9 Tryd.underlying9
theorem inner_head {w : World} {b o n c : Nat} {l : List Nat} (hn : n = l.length) (hs : n ≤ 8388608) (hcp : n ≤ c) (hc : ∀ k (h : k < l.length), w.cell? ⟨b, o + k, none⟩ = some (.int .u8 (l[k] : Int))) (h8 : 8 ≤ n) (hlt : ∀ x ∈ l, x < 256) (hne : l.take 4 ≠ headB) : Calls Tryd.prog 55 #[.slice (some ⟨b, o, none⟩) n c] w fun e w' => e = Broke ∧ ∃ m, w' = w.drewN m := by
  have cv := conv_cells (c := c) hc (by omega)
  obtain ⟨S, hS⟩ : ∃ S, S = strOfNums (I8 (l.take 4)) := ⟨_, rfl⟩
  rw [← hS] at cv
  have d2 : ¬ (S.toList = [72, 82, 80, 71]) := by
    rw [hS]
    exact head_ne (fun x hx => hlt x (List.mem_of_mem_take hx)) hne
  have d1 : (S.toList == [72, 82, 80, 71]) = false := by simpa using d2
  have b1 : decide ((n : Int) - 4 < 4) = false := by simp; omega
  have b2 : ¬ (n : Int) - 4 < 4 := by omega
  have b3 : 4 ≤ c := by omega
  have b4 : (4 : Int) ≤ (c : Int) := by omega
  clear hn hc hlt hne hS
  go_enter Tryd.func55, Tryd.ntmps55
  go_upto_region 2 with fail
  go_big_quiet (fail)
  go_wp2
  exact ⟨rfl, rfl, _, rfl⟩
/-- four cells behind one another as an array -/
theorem four_at {w : World} {b o : Nat} {l : List Nat} (hc : ∀ k (h : k < l.length), w.cell? ⟨b, o + k, none⟩ = some (.int .u8 (l[k] : Int))) (m : Nat) (hm : m + 4 = l.length) : ∃ s0 s1 s2 s3 : Nat, l.drop m = [s0, s1, s2, s3] ∧ w.cell? ⟨b, o + m, none⟩ = some (.int .u8 (s0 : Int)) ∧ w.cell? ⟨b, o + m + 1, none⟩ = some (.int .u8 (s1 : Int)) ∧ w.cell? ⟨b, o + m + 2, none⟩ = some (.int .u8 (s2 : Int)) ∧ w.cell? ⟨b, o + m + 3, none⟩ = some (.int .u8 (s3 : Int)) := by
  refine ⟨l[m]'(by omega), l[m + 1]'(by omega), l[m + 2]'(by omega), l[m + 3]'(by omega), ?_, hc m (by omega), hc (m + 1) (by omega), hc (m + 2) (by omega), hc (m + 3) (by omega)⟩
  apply List.ext_getElem
  · simp; omega
  · intro i h1 h2
    simp at h2
    obtain rfl | rfl | rfl | rfl : i = 0 ∨ i = 1 ∨ i = 2 ∨ i = 3 := by omega
    all_goals simp
theorem guard96 : Tryd.prog.eqGuardType Tryd.prog.depth 96 = false := by kernel_rfl
theorem cell8 {x : Nat} (h : x < 256) : Extern.Stop.cell (UInt8.ofNat x) = .int .u8 (x : Int) := by
  unfold Extern.Stop.cell
  congr 1
  simp
  omega
theorem beq8 {a b : Nat} (ha : a < 256) (hb : b < 256) : (UInt8.ofNat a == UInt8.ofNat b) = (a == b) := by
  rw [Bool.eq_iff_iff]
  simp [← UInt8.toNat_inj]
  omega
theorem arr_neq {a0 a1 a2 a3 b0 b1 b2 b3 : Nat} (h0 : a0 < 256) (h1 : a1 < 256) (h2 : a2 < 256) (h3 : a3 < 256) (g0 : b0 < 256) (g1 : b1 < 256) (g2 : b2 < 256) (g3 : b3 < 256) (W : World) :
    (Op.equalIn 10000 96 (.agg #[.int .u8 (a0 : Int), .int .u8 (a1 : Int), .int .u8 (a2 : Int), .int .u8 (a3 : Int)]) (.agg #[.int .u8 (b0 : Int), .int .u8 (b1 : Int), .int .u8 (b2 : Int), .int .u8 (b3 : Int)])).run Tryd.prog W = .ok ([a0, a1, a2, a3] == [b0, b1, b2, b3]) W := by
  have hsz : ∀ w, (sizeOf 5).run Tryd.prog w = .ok 1 w := fun w => by kernel_rfl
  have h := run_equalIn_bytes (P := Tryd.prog) W 9998 96 5 4 Tryd.underlying96 Tryd.underlying5 hsz [UInt8.ofNat a0, UInt8.ofNat a1, UInt8.ofNat a2, UInt8.ofNat a3] [UInt8.ofNat b0, UInt8.ofNat b1, UInt8.ofNat b2, UInt8.ofNat b3] rfl rfl
  simp only [List.map_cons, List.map_nil, cell8 h0, cell8 h1, cell8 h2, cell8 h3, cell8 g0, cell8 g1, cell8 g2, cell8 g3, List.cons_beq_cons, beq8 h0 g0, beq8 h1 g1, beq8 h2 g2, beq8 h3 g3] at h
  rw [show (10000 : Nat) = 9998 + 2 from rfl, h]
  rfl
theorem cast4 (s : Nat) : ((s % 256 : Nat) : Int) = (s : Int) % 256 ∧ ((s / 256 % 256 : Nat) : Int) = (s : Int) / 256 % 256 ∧ ((s / 65536 % 256 : Nat) : Int) = (s : Int) / 65536 % 256 ∧ ((s / 16777216 % 256 : Nat) : Int) = (s : Int) / 16777216 % 256 := ⟨by omega, by omega, by omega, by omega⟩
theorem sum4_lt (s : Nat) : s % 256 < 256 ∧ s / 256 % 256 < 256 ∧ s / 65536 % 256 < 256 ∧ s / 16777216 % 256 < 256 := ⟨by omega, by omega, by omega, by omega⟩
theorem step_callG {P : Program} {ops : Array Oper} {o : Oper} {a : Act} {w : World} {K : Act → World → Prop} {Q : Exit → Act → World → Prop} {E : Prop} (hw : Region.wanted o (yielded ops a.tmps) = true) (f : FuncId) (x : Operand) (t : TypeId)
    (hop : o.op = Op.call { callee := Callee.value (.func f), args := #[x], argTypes := #[t] }) (hen : ∀ args w, (callFunc f args).run P w = .ok (.enter f args) w)
    (hc : Calls P f #[a.eval x] w fun e w' => ∃ v, e = .returned v ∧ K (a.put o.dst v) w') :
    if Region.wanted o (yielded ops a.tmps) = true then Oper.wp P o a w K Q else E := by
  rw [if_pos hw]
  have h2 := hen #[a.eval x] w
  unfold Oper.wp
  have ev : a.eval (.func f) = .func (.func f) #[] #[] := rfl
  simp [execOp, hop, resolve, invoke, ev, Deferred.ofValue, h2, Result.andThen]
  show Calls P f #[a.eval x] w _
  refine hc.mono fun e w' h => ?_
  obtain ⟨v, rfl, hk⟩ := h
  exact hk
theorem run_arr (b q c : Nat) (V : World) : (Instr.arrayAt 96 (.slice (some ⟨b, q, none⟩) 4 c)).run Tryd.prog V = .ok (.pointer (some ⟨b, q, none⟩)) V := by
  simp [Instr.arrayAt, run_underlying Tryd.underlying96, Result.andThen]
theorem step_val {P : Program} {ops : Array Oper} {o : Oper} {a : Act} {w : World} {K : Act → World → Prop} {Q : Exit → Act → World → Prop} {E : Prop} (hw : Region.wanted o (yielded ops a.tmps) = true) (v : Value) (hv : (execOp a.eval o).run P w = .ok (.value v) w) (h : K (a.put o.dst v) w) :
    if Region.wanted o (yielded ops a.tmps) = true then Oper.wp P o a w K Q else E := by
  rw [if_pos hw]
  unfold Oper.wp
  simp only [hv]
  exact h
theorem en63 : Enters 63 := enter_of Tryd.func63 (by kernel_rfl) rfl
set_option maxRecDepth 100000 in
set_option maxHeartbeats 4000000 in
theorem inner_sum {w : World} {b o m c : Nat} {l : List Nat} (hn : m + 4 = l.length) (hs : m + 4 ≤ 8388608) (hcp : m + 4 ≤ c) (hcm : c ≤ 9223372036854775807) (hbw : b < w.heap.size) (hc : ∀ k (h : k < l.length), w.cell? ⟨b, o + k, none⟩ = some (.int .u8 (l[k] : Int))) (h8 : 4 ≤ m) (hlt : ∀ x ∈ l, x < 256) (he : l.take 4 = headB) :
    Calls Tryd.prog 55 #[.slice (some ⟨b, o, none⟩) (m + 4) c] w fun e w' => Below w.heap.size w w' ∧ ((sum4 (crcSum (l.take m)) ≠ l.drop m ∧ e = Broke) ∨ (sum4 (crcSum (l.take m)) = l.drop m ∧ ∃ c', m - 4 ≤ c' ∧ e = .returned (.slice (some ⟨b, o + 4, none⟩) (m - 4) c') )) := by
  obtain ⟨S, hS⟩ : ∃ S, S = strOfNums (I8 headB) := ⟨_, rfl⟩
  have cv : ∀ V : World, (∀ k (h : k < l.length), V.cell? ⟨b, o + k, none⟩ = some (.int .u8 (l[k] : Int))) → (convert 36 9 (.slice (some ⟨b, o, none⟩) 4 c)).run Tryd.prog V = .ok (.string S) V := fun V hV => by
    have := conv_cells (c := c) hV (by omega) 0
    rw [he, ← hS] at this
    exact this
  have d2 : S.toList = [72, 82, 80, 71] := by rw [hS]; exact head_eq
  have d1 : (S.toList == [72, 82, 80, 71]) = true := by simpa using d2
  have b1m : decide ((m : Int) < 4) = false := by simp; omega
  have b2m : ¬ (m : Int) < 4 := by omega
  have b5 : m ≤ c := by omega
  have b6 : (m : Int) ≤ (c : Int) := by omega
  have b8 : (m : Int) ≤ (m : Int) + 4 := by omega
  have b9 : ¬ (c = m) := by omega
  have b10 : (m : Int) + 4 - 4 = (m : Int) := by omega
  have b11 : (m : Int) + 4 ≤ (c : Int) := by omega
  have b3 : 4 ≤ c := by omega
  have b4 : (4 : Int) ≤ (c : Int) := by omega
  obtain ⟨s0, s1, s2, s3, hd, _, _, _, _⟩ := four_at hc m (by omega)
  have h4 : ∀ V : World, (∀ k (h : k < l.length), V.cell? ⟨b, o + k, none⟩ = some (.int .u8 (l[k] : Int))) → V.cell? ⟨b, o + m, none⟩ = some (.int .u8 (s0 : Int)) ∧ V.cell? ⟨b, o + m + 1, none⟩ = some (.int .u8 (s1 : Int)) ∧ V.cell? ⟨b, o + m + 2, none⟩ = some (.int .u8 (s2 : Int)) ∧ V.cell? ⟨b, o + m + 3, none⟩ = some (.int .u8 (s3 : Int)) := fun V hV => by
    obtain ⟨t0, t1, t2, t3, hd', e0, e1, e2, e3⟩ := four_at hV m (by omega)
    rw [hd] at hd'
    simp at hd'
    obtain ⟨rfl, rfl, rfl, rfl⟩ := hd'
    exact ⟨e0, e1, e2, e3⟩
  have hsl : ∀ x ∈ l.drop m, x < 256 := fun x hx => hlt x (List.mem_of_mem_drop hx)
  rw [hd] at hsl
  have l0 := hsl s0 (by simp); have l1 := hsl s1 (by simp); have l2 := hsl s2 (by simp); have l3 := hsl s3 (by simp)
  have hba : BA w w.heap.size (some ⟨b, o, none⟩) (l.take m) := .inr ⟨b, o, rfl, hbw, fun k hk => by rw [hc k (by simp at hk; omega)]; simp⟩
  have C63 := sum63 (w := w.drew) (n := m) (c := c) (l := l.take m) hba (by simp; omega) (by omega) (fun x hx => hlt x (List.mem_of_mem_take hx))
  rw [hd]
  obtain ⟨sm, hsm⟩ : ∃ sm, crcSum (l.take m) = sm := ⟨_, rfl⟩
  rw [hsm] at C63 ⊢
  obtain ⟨q0, q1, q2, q3⟩ := sum4_lt sm
  have HAN := hid (arr_neq q0 q1 q2 q3 l0 l1 l2 l3)
  have HCV := hid cv
  have H4 := hid h4
  have HC := hid hc
  have HSM := hid hsm
  clear hn hc hlt hS cv h4 hd hsl hba hsm he q0 q1 q2 q3 l0 l1 l2 l3
  have ra := fun V => run_arr b (o + m) (c - m) V
  go_enter Tryd.func55, Tryd.ntmps55
  go_upto_region 2 with fail
  refine wp_region_lexF [0, 1, 2, 3, 4, 5, 6, 7, 8, 9, 10, 11, 13, 14, 15, 16, 17] [12, 18, 19] (fun V => (convert 36 9 (.slice (some ⟨b, o, none⟩) 4 c)).run Tryd.prog V = .ok (.string S) V ∧ V.cell? ⟨b, o + m, none⟩ = some (.int .u8 (s0 : Int)) ∧ V.cell? ⟨b, o + m + 1, none⟩ = some (.int .u8 (s1 : Int)) ∧ V.cell? ⟨b, o + m + 2, none⟩ = some (.int .u8 (s2 : Int)) ∧ V.cell? ⟨b, o + m + 3, none⟩ = some (.int .u8 (s3 : Int))) (by kernel_rfl) (by kernel_rfl) rfl (by kernel_rfl) (by kernel_rfl) ⟨HCV.out _ HC.out, H4.out _ HC.out⟩ ?_
  simp only [opsAt, opsNo, List.getElem?_toArray, List.getElem?_cons_zero, List.getElem?_cons_succ]
  iterate 12
    refine lex_cons ?_ rfl (fun V hV => ?_) (fun _ _ _ h => h) ?_
    rotate_left
    · obtain ⟨w0, w1, w2, w3, w4⟩ := hV
      go_simp <;> with_reducible rfl
    simp only [Act.put, List.setIfInBounds_toArray, List.set_cons_zero, List.set_cons_succ]
  iterate 5
    refine lex_cons ?_ rfl (fun V hV => ?_) (fun _ _ _ h => h) ?_
    rotate_left
    · obtain ⟨w0, w1, w2, w3, w4⟩ := hV
      go_simp <;> with_reducible rfl
    simp only [Act.put, List.setIfInBounds_toArray, List.set_cons_zero, List.set_cons_succ]
  refine lex_nil (tailK_cons fun K hK => ?_)
  refine step_callG rfl 63 (.tmp 18) 36 rfl en63 ?_
  refine C63.mono ?_
  rintro e w5 ⟨rfl, hb5⟩
  refine ⟨_, rfl, ?_⟩
  have hc5 : ∀ k (h : k < l.length), w5.cell? ⟨b, o + k, none⟩ = some (.int .u8 (l[k] : Int)) := fun k hk => (cell_eq (hb5.block b hbw) _).trans (HC.out k hk)
  have HB5 : Hid (Below w.heap.size w w5) := (⟨rfl, rfl, rfl, Nat.le_refl _, fun _ _ => rfl⟩ : Below w.heap.size w w.drew).trans hb5
  refine hK.out _ _ (fun _ => ⟨HCV.out _ hc5, H4.out _ hc5⟩) (tailK_cons fun K2 hK2 => ?_)
  have han := HAN.out
  clear HAN
  obtain ⟨r, hr⟩ : ∃ r, ([sm % 256, sm / 256 % 256, sm / 65536 % 256, sm / 16777216 % 256] == [s0, s1, s2, s3]) = r := ⟨_, rfl⟩
  rw [hr] at han
  have HR := hid hr
  clear hr
  have g96 := guard96
  have han5 : (Op.equalIn 10000 96 (.agg #[.int .u8 ((sm : Int) % 256), .int .u8 ((sm : Int) / 256 % 256), .int .u8 ((sm : Int) / 65536 % 256), .int .u8 ((sm : Int) / 16777216 % 256)]) (.agg #[.int .u8 (s0 : Int), .int .u8 (s1 : Int), .int .u8 (s2 : Int), .int .u8 (s3 : Int)])).run Tryd.prog w5 = .ok r w5 := by
    have this := han w5
    obtain ⟨e0, e1, e2, e3⟩ := cast4 sm
    rw [e0, e1, e2, e3] at this
    exact this
  clear han
  refine step_val rfl (.bool (!r)) ?_ ?_
  · go_simp
  refine hK2.out _ _ (fun _ => ⟨HCV.out _ hc5, H4.out _ hc5⟩) (tailK_cons fun K3 hK3 => ?_)
  refine step_val rfl (.bool (!r)) ?_ ?_
  · go_simp <;> with_reducible rfl
  refine hK3.out _ _ (fun _ => ⟨HCV.out _ hc5, H4.out _ hc5⟩) (tailK_nil ?_)
  simp only [Act.put, List.setIfInBounds_toArray, List.set_cons_zero, List.set_cons_succ]
  cases r
  · go_wp2
    refine ⟨rfl, HB5.out, .inl ⟨fun e => ?_, rfl⟩⟩
    have := HR.out
    rw [show ([sm % 256, sm / 256 % 256, sm / 65536 % 256, sm / 16777216 % 256] : List Nat) = sum4 sm from rfl, e] at this
    simp at this
  · go_wp2
    all_goals go_ret
    all_goals refine ⟨HB5.out, .inr ⟨by have := HR.out; simpa [sum4] using this, ?_⟩⟩
    all_goals exact ⟨c - 4, by omega, rfl⟩
end Go.Proofs.YteanndophopplaaDoor
