/- HELPERS: trees whose lists are their own; a row of nodes turned about; the mirrors of a row. -/
import Derived.Test.YtilpkeipjlnogaaFr
import Derived.Test.YtilpkeipjlnogaaMi
namespace Go.Proofs.Ytilpkeipjlnogaa
open Go.RowKit
set_option linter.unusedVariables false
set_option linter.unusedSimpArgs false
/-- the cells of ranges -/
abbrev O2 (R : List (Int × Int)) : List Value := R.flatMap fun x => [.int .i64 x.1, .int .i64 x.2]
theorem O2_len (R : List (Int × Int)) : (O2 R).length = R.length * 2 := by
  induction R with
  | nil => rfl
  | cons x R ih => simp only [O2, List.flatMap_cons, List.length_append, List.length_cons, List.length_nil] at ih ⊢; omega
theorem O2_at : ∀ (R : List (Int × Int)) (i : Nat) (hi : i < R.length), (O2 R)[i * 2]? = some (.int .i64 R[i].1) ∧ (O2 R)[i * 2 + 1]? = some (.int .i64 R[i].2) := by
  intro R
  induction R with
  | nil => intro i hi; simp at hi
  | cons x R ih =>
    intro i hi
    cases i with
    | zero => simp [O2]
    | succ i =>
      have := ih i (by simpa using hi)
      have hf : O2 (x :: R) = [.int .i64 x.1, .int .i64 x.2] ++ O2 R := by simp [O2]
      rw [hf, show (i + 1) * 2 = i * 2 + 2 by omega, List.getElem?_append_right (by simp), show i * 2 + 2 + 1 = i * 2 + 1 + 2 by omega, List.getElem?_append_right (by simp)]
      simpa using this
theorem O2_one (R : List (Int × Int)) : ∀ u ∈ O2 R, u.oneCell' = true := by
  intro u hu
  simp only [O2, List.mem_flatMap] at hu
  obtain ⟨x, _, hx⟩ := hu
  simp at hx
  rcases hx with rfl | rfl <;> rfl
/-- the block of a list -/
abbrev Nv.rb (N : Nv) : Option Nat := (Value.slice N.r1 N.r2 N.r3).ownBlock
abbrev Nv.sb (N : Nv) : Option Nat := (Value.slice N.s1 N.s2 N.s3).ownBlock
/-- a tree whose lists lie in blocks of their own, each in one by itself: A -/
inductive TO (w : World) : Nv → Tn → (Nat → Prop) → Prop
  | mk {N : Nv} {R : List (Int × Int)} {ts : List Tn} {ND : Nat → Nv} {AS : Nat → Nat → Prop} (ok : N.ok) (hRk : ∀ x ∈ R, I64ok x.1 ∧ I64ok x.2)
      (rr : w.ownsRow 0 53 2 (.slice N.r1 N.r2 N.r3) R.length (O2 R)) (sr : w.ownsRow 0 25 9 (.slice N.s1 N.s2 N.s3) ts.length (((List.range ts.length).map ND).flatMap Nv.cs))
      (hk : ∀ i (hi : i < ts.length), TO w (ND i) ts[i] (AS i))
      (d1 : ∀ i j b, i < ts.length → j < ts.length → i ≠ j → AS i b → ¬ AS j b)
      (d2 : ∀ b, N.rb = some b → N.sb ≠ some b)
      (d3 : ∀ i b, i < ts.length → AS i b → N.rb ≠ some b ∧ N.sb ≠ some b) :
      TO w N (.mk N.k R N.a2 ts N.a4 N.a5 N.a6 N.a7 N.a8) (fun b => N.rb = some b ∨ N.sb = some b ∨ ∃ i, i < ts.length ∧ AS i b)
theorem TO.kept {w w' : World} {N : Nv} {t : Tn} {A : Nat → Prop} (h : TO w N t A) (hk : ∀ b, A b → w'.heap[b]? = w.heap[b]?) : TO w' N t A := by
  induction h with
  | mk ok hRk rr sr hkk d1 d2 d3 ih =>
    exact .mk ok hRk (row_kept rr fun b hb => hk b (.inl hb)) (row_kept sr fun b hb => hk b (.inr (.inl hb))) (fun i hi => ih i hi fun b hb => hk b (.inr (.inr ⟨i, hi, hb⟩))) d1 d2 d3
theorem TO.low {w : World} {N : Nv} {t : Tn} {A : Nat → Prop} (h : TO w N t A) : ∀ b, A b → b < w.heap.size := by
  induction h with
  | mk ok hRk rr sr hkk d1 d2 d3 ih =>
    rintro b (h | h | ⟨i, hi, h⟩)
    · exact (rr.lt b h).2
    · exact (sr.lt b h).2
    · exact ih i hi b h
theorem TO.ok {w : World} {N : Nv} {t : Tn} {A : Nat → Prop} (h : TO w N t A) : N.ok := by cases h; assumption
theorem row_len {w : World} {base e size n : Nat} {a : Option Addr} {l c : Nat} {xs : List Value} (h : w.ownsRow base e size (.slice a l c) n xs) : l = n := by
  rcases h.2 with ⟨e, h0⟩ | ⟨g, cap, cur, e, _⟩
  · simp only [Value.slice.injEq] at e; omega
  · simp only [Value.slice.injEq] at e; omega
theorem row_nine {w : World} {base n : Nat} {a : Option Addr} {l c : Nat} {MS : List Nv} (h : w.ownsRow base 25 9 (.slice a l c) n (MS.flatMap Nv.cs)) (hn : n = MS.length) (hp : 0 < n) : ∃ b, a = some ⟨b, 0, none⟩ ∧ (Value.slice a l c).ownBlock = some b ∧ ∀ i (hi : i < MS.length), N9 w b 0 i MS[i] := by
  rcases h.2 with ⟨e, h0⟩ | ⟨b, cap, cur, e, _⟩
  · omega
  · rw [e] at h
    simp only [Value.slice.injEq] at e
    refine ⟨b, e.1, by rw [e.1]; rfl, fun i hi => ?_⟩
    have c : ∀ k, k < 9 → w.cell? ⟨b, 0 + i * 9 + k, none⟩ = (Nv.cs MS[i])[k]? := fun k hk => by
      rw [Nat.zero_add, h.cellAt (i * 9 + k) (by omega), flat9 MS i k hi hk]
    exact ⟨c 0 (by omega), c 1 (by omega), c 2 (by omega), c 3 (by omega), c 4 (by omega), c 5 (by omega), c 6 (by omega), c 7 (by omega), c 8 (by omega)⟩
theorem TO.tp {w : World} {N : Nv} {t : Tn} {A : Nat → Prop} (h : TO w N t A) : TP w A N t := by
  induction h with
  | @mk N R ts ND AS ok hRk rr sr hkk d1 d2 d3 ih =>
    refine .mk (ND := ND) ok (row_len rr) (fun hn => ?_) hRk (row_len sr) (fun hp => ?_) (fun i hi => (ih i hi).kept (fun _ _ => rfl) fun b hb => .inr (.inr ⟨i, hi, hb⟩))
    · rcases rr.2 with ⟨e, h0⟩ | ⟨b, cap, cur, e, _⟩
      · exact absurd (List.length_eq_zero_iff.1 h0) hn
      · have hrow := rr
        rw [e] at hrow
        have e' := e
        simp only [Value.slice.injEq] at e
        refine ⟨b, 0, e.1, .inl (by show (Value.slice N.r1 N.r2 N.r3).ownBlock = some b; rw [e']; rfl), fun i hi => ?_⟩
        have := O2_at R i hi
        rw [Nat.zero_add, hrow.cellAt (i * 2) (by omega), hrow.cellAt (i * 2 + 1) (by omega)]
        exact this
    · obtain ⟨b, e1, e2, h9⟩ := row_nine sr (by simp) hp
      refine ⟨b, 0, e1, .inr (.inl e2), fun i hi => ?_⟩
      have := h9 i (by simpa using hi)
      simpa using this
theorem TO.ti {w : World} {N : Nv} {t : Tn} {A : Nat → Prop} (h : TO w N t A) : TI w w.heap.size N t := h.tp.ti h.low
theorem store25 {ops : Array Oper} {rest : List Oper} {op : Oper} {a : Act} {w : World} {Q : Exit → Act → World → Prop} (hgd : op.guard = none) (x y : Operand) (ho : op.op = .store 25 x y)
    (b i : Nat) (M : Nv) (hx : a.eval x = .pointer (some ⟨b, i * 9, none⟩)) (hy : a.eval y = M.v) (ht : w.there b (i * 9) 9)
    (h : wpList Try.prog ops Q rest (a.put op.dst undef) (w.setCells b (i * 9) (Nv.cs M))) : wpList Try.prog ops Q (op :: rest) a w :=
  wpList_store_mid hgd 25 x y ho b (i * 9) #[.int .i64 M.k, .slice M.r1 M.r2 M.r3, .int .i64 M.a2, .slice M.s1 M.s2 M.s3, .int .i64 M.a4, .int .i64 M.a5, .bool M.a6, .int .i64 M.a7, .string M.a8] hx hy ht size25 (one9a M) h
set_option maxRecDepth 100000 in
set_option maxHeartbeats 4000000 in
theorem turned35 (n : Nat) (NS : Nat → Nv) (ad : Option Addr) (cap : Nat) (w : World) (hn : n ≤ 200000) (hs : 0 < n → ∃ b o, ad = some ⟨b, o, none⟩ ∧ b < w.heap.size ∧ ∀ i, i < n → N9 w b o i (NS i)) :
    Calls Try.prog 35 #[.slice ad n cap] w fun e w' => e = .returned (.slice (some ⟨w.heap.size, 0, none⟩) n n) ∧ FR w' w.heap.size n (fun i => NS (n - 1 - i)) ∧ Below w.heap.size w w' := by
  have hmk := make9 n (by omega) w
  have h0 := FR.made w n
  have hB0 := Joins.below_alloc1 w (.cells (madeCells Z9.cells (n * 9)) 25)
  obtain ⟨V0, hV0⟩ : ∃ V, V = w.alloc (.cells (madeCells Z9.cells (n * 9)) 25) := ⟨_, rfl⟩
  rw [← hV0] at h0 hB0 hmk
  obtain ⟨x, hx⟩ : ∃ x, x = w.heap.size := ⟨_, rfl⟩
  rw [← hx] at h0 hB0 hmk hs ⊢
  have H0 := hid h0
  have HB0 := hid hB0
  have HS := hid hs
  have HX := hid hx
  clear h0 hB0 hV0 hs hx
  go_enter Try.func35, Try.ntmps35
  go_wp2_with fail
  go_loopw [10] (fun y wq => ∃ i : Nat, y = .int .i64 (i : Int) ∧ i ≤ n ∧ Hid (∃ f, FR wq x n f ∧ ∀ j, j < i → f (n - 1 - j) = NS j) ∧ Hid (Below x w wq)) (fun y _ => n - (intOf y).toNat)
  case atStart => exact ⟨0, rfl, by omega, ⟨_, H0.out, fun j hj => by omega⟩, HB0.out⟩
  case round =>
    obtain ⟨i, rfl, hi, HF, BK⟩ := hrel
    by_cases hil : i < n
    · have b1 : decide ((i : Int) < (n : Int)) = true := by simp; omega
      have b2 : (i : Int) < (n : Int) := by omega
      have s1 : IntKind.i64.wrap ((n : Int) - 1) = ((n - 1 : Nat) : Int) := by simp [IntKind.wrap, IntKind.bits, IntKind.signed]; omega
      have s2 : IntKind.i64.wrap (((n - 1 : Nat) : Int) - (i : Int)) = ((n - 1 - i : Nat) : Int) := by simp [IntKind.wrap, IntKind.bits, IntKind.signed]; omega
      have b3 : ((n - 1 - i : Nat) : Int) < (n : Int) := by omega
      have ad1 : IntKind.i64.wrap ((i : Int) + 1) = (i : Int) + 1 := by simp [IntKind.wrap, IntKind.bits, IntKind.signed]; omega
      obtain ⟨b, o, rfl, hb, hc⟩ := HS.out (by omega)
      obtain ⟨f, hF, hf⟩ := HF.out
      obtain ⟨n0, n1, n2, n3, n4, n5, n6, n7, n8⟩ := (hc i hil).kept (BK.out.block b hb)
      have ht := hF.there (i := n - 1 - i) (by omega)
      have hst := hF.set (i := n - 1 - i) (by omega) (NS i)
      obtain ⟨M, hM⟩ : ∃ M, M = NS i := ⟨_, rfl⟩
      rw [← hM] at n0 n1 n2 n3 n4 n5 n6 n7 n8 hst
      obtain ⟨q, hq⟩ : ∃ q, q = n - 1 - i := ⟨_, rfl⟩
      rw [← hq] at s2 b3 ht hst
      have HQ := hid hq
      have HM := hid hM
      have HST := hid hst
      have HFF := hid hf
      clear hc hF hf hM hq hst HF
      go_wp2_with ((with_reducible refine store25 rfl (.tmp 23) (.tmp 22) rfl x q M ?_ ?_ ht ?_); (rfl); (rfl))
      refine ⟨⟨i + 1, by push_cast; rfl, by omega, ⟨_, HST.out, fun j hj => ?_⟩, Below.setCells (Nat.le_refl _) _ _ _ _ BK.out⟩, by simp [intOf]; omega⟩
      by_cases e : j = i
      · subst e; simp [HQ.out, HM.out]
      · rw [if_neg (by rw [HQ.out]; omega)]; exact HFF.out j (by omega)
    · have b1 : decide ((i : Int) < (n : Int)) = false := by simp; omega
      go_wp2
      go_ret
      obtain ⟨f, hF, hf⟩ := HF.out
      refine ⟨rfl, hF.as fun j hj => ?_, BK.out⟩
      have := hf (n - 1 - j) (by omega)
      rwa [show n - 1 - (n - 1 - j) = j by omega] at this
set_option maxRecDepth 100000 in
set_option maxHeartbeats 4000000 in
theorem mirrors34 (n : Nat) (NS : Nat → Nv) (us : Nat → Tn) (ad : Option Addr) (cap : Nat) (w : World) (hn : n ≤ 200000) (hs : 0 < n → ∃ b o, ad = some ⟨b, o, none⟩ ∧ b < w.heap.size ∧ ∀ i, i < n → N9 w b o i (NS i))
    (IH : Hid (∀ i, i < n → ∀ w1 : World, w.heap.size ≤ w1.heap.size → (∀ b, b < w.heap.size → w1.heap[b]? = w.heap[b]?) → Calls Try.prog 27 #[(NS i).v] w1 fun e w' => ∃ M A, e = .returned (Nv.v M) ∧ TO w' M (us i) A ∧ (∀ b, A b → w1.heap.size ≤ b) ∧ Below w1.heap.size w1 w')) :
    Calls Try.prog 34 #[.slice ad n cap] w fun e w' => ∃ (MS : Nat → Nv) (AS : Nat → Nat → Prop), e = .returned (.slice (some ⟨w.heap.size, 0, none⟩) n n) ∧ FR w' w.heap.size n MS ∧ (∀ i, i < n → TO w' (MS i) (us i) (AS i)) ∧ (∀ i b, i < n → AS i b → w.heap.size < b) ∧
      (∀ i j b, i < n → j < n → i ≠ j → AS i b → ¬ AS j b) ∧ Below w.heap.size w w' := by
  have hmk := make9 n (by omega) w
  have h0 := FR.made w n
  have hB0 := Joins.below_alloc1 w (.cells (madeCells Z9.cells (n * 9)) 25)
  obtain ⟨V0, hV0⟩ : ∃ V, V = w.alloc (.cells (madeCells Z9.cells (n * 9)) 25) := ⟨_, rfl⟩
  rw [← hV0] at h0 hB0 hmk
  obtain ⟨x, hx⟩ : ∃ x, x = w.heap.size := ⟨_, rfl⟩
  rw [← hx] at h0 hB0 hmk hs IH ⊢
  have H0 := hid h0
  have HB0 := hid hB0
  have HS := hid hs
  have HX := hid hx
  clear h0 hB0 hV0 hs hx
  go_enter Try.func34, Try.ntmps34
  go_wp2_with fail
  go_loopw [11] (fun y wq => ∃ i : Nat, y = .int .i64 (i : Int) ∧ i ≤ n ∧ Hid (∃ (MS : Nat → Nv) (AS : Nat → Nat → Prop), FR wq x n MS ∧ (∀ j, j < i → TO wq (MS j) (us j) (AS j)) ∧ (∀ j b, j < i → AS j b → x < b) ∧ (∀ j k b, j < i → k < i → j ≠ k → AS j b → ¬ AS k b)) ∧ Hid (Below x w wq)) (fun y _ => n - (intOf y).toNat)
  case atStart => exact ⟨0, rfl, by omega, ⟨_, fun _ _ => False, H0.out, fun j hj => by omega, fun j b hj => by omega, fun j k b hj => by omega⟩, HB0.out⟩
  case round =>
    obtain ⟨i, rfl, hi, HF, BK⟩ := hrel
    by_cases hil : i < n
    · have b1 : decide ((i : Int) < (n : Int)) = true := by simp; omega
      have b2 : (i : Int) < (n : Int) := by omega
      have ad1 : IntKind.i64.wrap ((i : Int) + 1) = (i : Int) + 1 := by simp [IntKind.wrap, IntKind.bits, IntKind.signed]; omega
      obtain ⟨b, o, rfl, hb, hc⟩ := HS.out (by omega)
      obtain ⟨MS, AS, hF, hT, hA, hD⟩ := HF.out
      obtain ⟨n0, n1, n2, n3, n4, n5, n6, n7, n8⟩ := (hc i hil).kept (BK.out.block b hb)
      have hxl := hF.lt
      have HC := IH.out i hil (wr.alloc (.cells #[.int .i64 (NS i).k, .slice (NS i).r1 (NS i).r2 (NS i).r3, .int .i64 (NS i).a2, .slice (NS i).s1 (NS i).s2 (NS i).s3, .int .i64 (NS i).a4, .int .i64 (NS i).a5, .bool (NS i).a6, .int .i64 (NS i).a7, .string (NS i).a8] 25)) (by simp; omega) (fun b hb => (heap_alloc_old _ _ (by omega)).trans (BK.out.block b hb))
      obtain ⟨P, hP⟩ : ∃ P, P = NS i := ⟨_, rfl⟩
      rw [← hP] at HC n0 n1 n2 n3 n4 n5 n6 n7 n8
      have HFF := hid hF
      have HTT := hid hT
      have HAA := hid hA
      have HDD := hid hD
      clear hc hF hT hA hD hP HF
      go_wp2_with (first | (go_at_call 27; (with_reducible refine HC.mono ?_); rintro e w2 ⟨M, A, rfl, hM, hA2, hb2⟩; have ht := (HFF.out.kept (w' := w2) ((hb2.block x (by simp; omega)).trans (heap_alloc_old _ _ hxl))).there (i := i) hil; have HM := hid hM; have HA2 := hid hA2; have HB2 := hid hb2; clear hM hA2 hb2 HC) | ((with_reducible refine store25 rfl (.tmp 20) (.tmp 19) rfl x i M ?_ ?_ ht ?_); (rfl); (rfl)))
      have hold : ∀ k, k < wr.heap.size → w2.heap[k]? = wr.heap[k]? := fun k hk => (HB2.out.block k (by simp; omega)).trans (heap_alloc_old _ _ hk)
      have hs2 : wr.heap.size + 1 ≤ w2.heap.size := by have := HB2.out.size; simpa using this
      have hA2 : ∀ b, A b → wr.heap.size + 1 ≤ b := fun b hb => by have := HA2.out b hb; simpa using this
      have hb3 : Below x w w2 := ⟨HB2.out.os.trans BK.out.os, HB2.out.tape.trans BK.out.tape, HB2.out.output.trans BK.out.output, by have := BK.out.size; omega, fun k hk => (hold k (by omega)).trans (BK.out.block k hk)⟩
      have hFR := (HFF.out.kept (hold x hxl)).set (i := i) hil M
      refine ⟨⟨i + 1, by push_cast; rfl, by omega, ⟨_, fun j b => if j = i then A b else AS j b, hFR, fun j hj => ?_, fun j b hj h => ?_, fun j k b hj hk hne h h' => ?_⟩, Below.setCells (Nat.le_refl _) _ _ _ _ hb3⟩, by simp [intOf]; omega⟩
      · by_cases e : j = i
        · subst e
          simp only [if_pos]
          exact HM.out.kept fun b hb => setCells_old x _ _ _ b (by have := hA2 b hb; omega)
        · simp only [if_neg e]
          exact (HTT.out j (by omega)).kept fun b hb => (setCells_old x _ _ _ b (by have := HAA.out j b (by omega) hb; omega)).trans (hold b ((HTT.out j (by omega)).low b hb))
      · by_cases e : j = i
        · simp only [if_pos e] at h; have := hA2 b h; omega
        · simp only [if_neg e] at h; exact HAA.out j b (by omega) h
      · by_cases e : j = i
        · simp only [if_pos e] at h
          have e' : k ≠ i := by omega
          simp only [if_neg e'] at h'
          have := hA2 b h
          have := (HTT.out k (by omega)).low b h'
          omega
        · simp only [if_neg e] at h
          by_cases e' : k = i
          · simp only [if_pos e'] at h'
            have := hA2 b h'
            have := (HTT.out j (by omega)).low b h
            omega
          · simp only [if_neg e'] at h'
            exact HDD.out j k b (by omega) (by omega) hne h h'
    · have b1 : decide ((i : Int) < (n : Int)) = false := by simp; omega
      obtain rfl : i = n := by omega
      go_wp2
      go_ret
      obtain ⟨MS, AS, hF, hT, hA, hD⟩ := HF.out
      exact ⟨MS, AS, rfl, hF, hT, hA, hD, BK.out⟩
end Go.Proofs.Ytilpkeipjlnogaa
