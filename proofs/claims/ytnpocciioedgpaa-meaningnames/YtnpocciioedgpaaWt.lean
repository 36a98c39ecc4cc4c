/- HELPERS: coming through. -/
import Derived.Test.YtnpocciioedgpaaWi
import Derived.WalkLawsBesides
import Derived.Lib.LazyBuf
import Derived.Deep.Cut
namespace Go.Proofs.Ytnpocciioedgpaa
open Go.RowKit
set_option linter.unusedVariables false
set_option linter.unusedSimpArgs false
/-- what List answers: nothing, or a row of its own -/
def Cloned (w w' : World) (e : Ending) (l : List Int) : Prop := ∃ v, e = .returned v ∧ w'.ownsRow w.heap.size 3 1 v l.length (I64 l) ∧ Below w.heap.size w w'
theorem eql_nil (t e : TypeId) (a : Option Addr) (l c : Nat) (h : Try.prog.underlying t = some (.slice e)) (w : World) : (binOp .eql t (.slice a l c) (.slice none 0 0)).run Try.prog w = .ok (.bool a.isNone) w := by
  simp only [binOp]
  simp [run_equal_slice_nil w t e a l c h]
set_option maxHeartbeats 1000000 in
theorem clone71 (N : Nat) (ov : Value) (l : List Int) (w : World) (ho : Hid (w.ownsRow N 3 1 ov l.length (I64 l))) (hl : l.length ≤ 1048576) :
    Calls Try.prog 71 #[ov] w fun e w' => Cloned w w' e l := by
  rcases Joins.ownsRow_forms ho.out with ⟨rfl, h0⟩ | ⟨b, cap, rfl⟩
  · have hl0 : l = [] := List.eq_nil_of_length_eq_zero h0
    subst hl0
    have hq := eql_nil 29 3 none 0 0 Try.underlying29
    simp only [Option.isNone_none] at hq
    go_enter Try.func71, Try.ntmps71
    go_wp2
    go_ret
    exact ⟨_, rfl, World.ownsRow_nil _ _ _ _, Below.refl _ _⟩
  · have hblt := (ho.out.lt b rfl).2
    have hcell : ∀ j u, (I64 l)[j]? = some u → (w.alloc (.cells #[] 3)).cell? ((⟨b, 0, none⟩ : Addr).add j) = some u := ((ho.out.alloc _).cells (g := b) rfl)
    have HC : Hid (∀ j u, (I64 l)[j]? = some u → (w.alloc (.cells #[] 3)).cell? ((⟨b, 0, none⟩ : Addr).add j) = some u) := hcell
    have HO0 : Hid ((w.alloc (.cells #[] 3)).ownsRow w.heap.size 3 1 (.slice (some ⟨w.heap.size, 0, none⟩) 0 0) 0 []) := by
      have := World.ownsRow_lit (base := w.heap.size) (e := 3) (size := 1) w #[] 0 (Nat.le_refl _) (by unfold maxLen; omega) rfl
      have t : (w.alloc (.cells #[] 3)).ownsRow w.heap.size 3 1 (.slice (some ⟨w.heap.size, 0, none⟩) 0 0) 0 [] := by simpa using this
      exact t
    obtain ⟨i0, hi, hz0, hz1, hz2⟩ := info_parts info3
    have hq := eql_nil 29 3 (some ⟨b, 0, none⟩) l.length cap Try.underlying29
    simp only [Option.isNone_some] at hq
    clear hcell ho
    go_enter Try.func71, Try.ntmps71
    go_wp2_with (at_builtin; refine wpList_append_own _ rfl (.tmp 5) (.tmp 6) 29 rfl w.heap.size 3 i0 (.int .i64 0) 1 8 Try.underlying29 hi hz0 hz1 hz2 rfl (by decide) _ 0 [] rfl HO0.out ⟨b, 0, none⟩ l.length cap (I64 l) rfl (by simp) HC.out (one_cell_ints l) (by unfold maxLen; omega) (by omega) (by simp) ?_)
    intro v' w1 ho1 hg1 _
    go_wp2
    go_ret
    refine ⟨_, rfl, by simpa using ho1, ?_⟩
    exact ((Below.refl _ _).alloc (Nat.le_refl _) _).grown hg1 (by simp) (fun k hk => by simp [Value.ownBlock] at hk; omega)
theorem run_append_moveN {P : Program} (w : World) (base : Nat) (t ty e : TypeId) (i : TypeInfo) (z : Value) (size bytes : Nat) (ht : P.underlying t = some (.slice e)) (hi : P.info? e = some i) (hz : i.zero = some z)
    (hsize : i.size = size) (hby : i.bytes = bytes) (hzs : z.cells.size = size) (hpos : 0 < size)
    (v : Value) (n : Nat) (xs : List Value) (hown : w.ownsRow base e size v n xs)
    (a : Addr) (m c : Nat) (news : List Value) (hl : news.length = m * size) (hm : 0 < m) (hnews : ∀ j u, news[j]? = some u → w.cell? (a.add j) = some u) (h1 : ∀ u ∈ news, u.oneCell' = true)
    (h63 : n + m ≤ maxLen) (hbytes : (n + m) * bytes ≤ 140737488355328) (hbase : base ≤ w.heap.size) :
    ∃ v' w', (Builtin.append_ #[t, t] ty #[v, .slice (some a) m c]).run P w = .ok v' w' ∧ w'.ownsRow base e size v' (n + m) (xs ++ news) ∧ Moved w w' v v' := by
  obtain ⟨v', w', hrun, h2, h3, h4, h5⟩ := run_append_own_at (P := P) w base t ty e i z size bytes ht hi hz hsize hby hzs hpos v n xs hown a m c news hl hnews h1 h63 hbytes hbase
  refine ⟨v', w', hrun, h2, ?_⟩
  rcases hown.2 with ⟨rfl, rfl⟩ | ⟨g, cap, cur, rfl, hbg, hg, hnc, hcm, hcs, htake⟩
  · rcases h5 with h5 | h5
    · exact .inl ⟨h5, h3⟩
    · exact .inr ⟨h5, h3⟩
  · by_cases hroom : n + m ≤ cap
    · have hr := run_append_room (P := P) w t ty e i ht hi g n cap cur hg a m c news (by rw [hsize]; omega) hnews h1 hroom (by rw [hsize, hcs, hl, ← Nat.add_mul]; exact Nat.mul_le_mul_right _ hroom)
      have he := hrun.symm.trans hr
      injection he with e1 e2
      left
      exact ⟨by rw [e1]; rfl, h3⟩
    · have holds : ∀ j u, xs[j]? = some u → w.cell? ((⟨g, 0, none⟩ : Addr).add j) = some u := hown.cells (g := g) rfl
      have hr := run_append_grow (P := P) w t ty e i z ht hi hz ⟨g, 0, none⟩ n cap xs (by rw [hsize]; exact hown.1) holds a m c news (by rw [hsize]; omega) hnews (by omega) (by unfold maxLen at h63; omega) (growslice_fits (by omega) (by rw [hby]; exact hbytes))
      have he := hrun.symm.trans hr
      injection he with e1 e2
      right
      refine ⟨by rw [e1]; rfl, ?_⟩
      rw [e2]
      exact ⟨rfl, rfl, rfl, by simp, fun k hk _ => heap_alloc_old w.drew _ hk⟩
theorem wpList_append_moveN {P : Program} {w : World} {ops : Array Oper} {rest : List Oper} {o : Oper} {a : Act} {Q : Exit → Act → World → Prop} (hgd : o.guard = none) (s x : Operand) (t : TypeId)
    (ho : o.op = .call { callee := .builtin .append, args := #[s, x], argTypes := #[t, t] })
    (base : Nat) (e : TypeId) (i : TypeInfo) (z : Value) (size bytes : Nat) (ht : P.underlying t = some (.slice e)) (hi : P.info? e = some i) (hz : i.zero = some z)
    (hsize : i.size = size) (hby : i.bytes = bytes) (hzs : z.cells.size = size) (hpos : 0 < size)
    (v : Value) (n : Nat) (xs : List Value) (hs : a.eval s = v) (hown : w.ownsRow base e size v n xs)
    (ad : Addr) (m c : Nat) (news : List Value) (hx : a.eval x = .slice (some ad) m c) (hl : news.length = m * size) (hm : 0 < m) (hnews : ∀ j u, news[j]? = some u → w.cell? (ad.add j) = some u) (h1 : ∀ u ∈ news, u.oneCell' = true)
    (h63 : n + m ≤ maxLen) (hbytes : (n + m) * bytes ≤ 140737488355328) (hbase : base ≤ w.heap.size)
    (h : ∀ v' w', Hid (w'.ownsRow base e size v' (n + m) (xs ++ news)) → Hid (Moved w w' v v') → wpList P ops Q rest (a.put o.dst v') w') : wpList P ops Q (o :: rest) a w := by
  refine wpList_plain hgd fun K hK => ?_
  obtain ⟨v', w', hr, h2, h3⟩ := run_append_moveN (P := P) w base t o.type e i z size bytes ht hi hz hsize hby hzs hpos v n xs hown ad m c news hl hm hnews h1 h63 hbytes hbase
  unfold Oper.wp execOp
  simp only [ho, resolve, invoke, builtin, Sem.run_bind, Sem.run_pure, Result.andThen_ok, List.map_toArray, List.map_cons, List.map_nil, hs, hx, hr]
  exact hK _ _ (h v' w' h2 h3)
theorem info53 : (Try.prog.info? 53).map (fun i => (i.zero, i.size, i.bytes)) = some (some (.agg #[.int .i64 0, .slice none 0 0]), 2, 32) := by kernel_rfl
theorem PR.typ {N : Nat} {w : World} {cs : List Value} {l : List (Int × List Int)} {F : List Nat} (h : PR N w cs l F) : ∀ k ∈ F, ∃ cur, w.heap[k]? = some (.cells cur 3 (0, 0)) := by
  induction h with
  | nil => intro k hk; cases hk
  | cons h hl ih =>
    intro k hk
    rcases List.mem_append.1 hk with hk | hk
    · rcases h.2 with ⟨rfl, _⟩ | ⟨b2, cap, cur, rfl, _, hgg, _⟩
      · simp [Value.ownBlock] at hk
      · simp [Value.ownBlock] at hk
        subst hk
        exact ⟨cur, hgg⟩
    · exact ih k hk
theorem row_cells {w : World} {base e n b cap : Nat} {xs : List Value} (h : w.ownsRow base e 1 (.slice (some ⟨b, 0, none⟩) n cap) n xs) : ∃ cur, w.heap[b]? = some (.cells cur e (0, 0)) := by
  rcases h.2 with ⟨h, _⟩ | ⟨g, cap', cur, he, hb, hgg, h1, h2, h3, h4⟩
  · cases h
  · simp only [Value.slice.injEq, Option.some.injEq, Addr.mk.injEq] at he
    obtain ⟨⟨rfl, _⟩, _, rfl⟩ := he
    exact ⟨cur, hgg⟩
set_option maxRecDepth 100000 in
set_option maxHeartbeats 2000000 in
theorem through55 (N g : Nat) (C : Cx) (s : Sg) (B : List Nat) (w : World) (hW : Hid (WS N w g C s B)) (p : Nat) (hN : N ≤ w.heap.size) (hpl : s.parses.length < 1000000) :
    Calls Try.prog 55 #[pt g, .int .i64 (p : Int)] w fun e w2 => e = .returned (.tuple #[]) ∧ ∃ B', WS N w2 g C { s with parses := s.parses ++ [((p : Int), s.notes.set 1 (p : Int))] } B' ∧ Chg w w2 B B' := by
  obtain ⟨pv, cs, F, hg, hpv, hPR, hnF, rfl⟩ := hW.out.ex
  have two := hW.out.two
  have few := hW.out.few
  have len := hW.out.len
  have g5 : w.cell? ⟨g, 5, none⟩ = some (.slice (some ⟨C.nb, 0, none⟩) C.K C.ncap) := Joins.cell_of_block hg 5
  have hcl := clone71 N C.nv s.notes w (by exact hW.out.notes) (by omega)
  have hgl := (Array.getElem?_eq_some_iff.1 hg).1
  have HG := hid hg
  have HPV := hid hpv
  have HPR := hid hPR
  clear hg hpv hPR
  rw [show C.nv = .slice (some ⟨C.nb, 0, none⟩) C.K C.ncap from rfl] at hcl
  obtain ⟨i0, hi0, hz0, hz1, hz2⟩ := info_parts info53
  have HCL := hid hcl
  clear hcl
  go_enter Try.func55, Try.ntmps55
  go_wp2_with fail
  refine HCL.out.mono ?_
  rintro e w1 ⟨cv, rfl, hc1, hb1⟩
  obtain ⟨cb, ccap, rfl⟩ := Joins.ownsRow_form hc1 (by omega)
  rw [len] at hc1 ⊢
  have hcb := (hc1.lt cb rfl)
  have hcc := row_cap2 hc1
  have k1 := hc1.cellAt 1 (by omega)
  obtain ⟨old, hold⟩ : ∃ old, (I64 s.notes)[1]? = some (.int .i64 old) := ⟨s.notes.getD 1 0, by simp [I64, List.getD, List.getElem?_eq_getElem (show 1 < s.notes.length by omega)]⟩
  rw [hold] at k1
  obtain ⟨cur, hcur⟩ := row_cells hc1
  have u1 := Joins.unfrozen_of_block hcur 1
  have i1 : (1 : Int) < (C.K : Int) := by omega
  have HC1 := hid hc1
  have HB1 := hid hb1
  have HCB := hid hcb
  clear hc1 hb1 hold hcur hcb
  go_upto_region 2 with fail
  obtain ⟨X, hX⟩ : ∃ X, X = w1.setCell ⟨cb, 1, none⟩ (.int .i64 (p : Int)) := ⟨_, rfl⟩
  rw [← hX]
  have HX := hid hX
  have bX : ∀ k, k < w.heap.size → X.heap[k]? = w.heap[k]? := fun k hk => by rw [hX]; exact (Below.heap_setCell _ _ _ _ (by have := HCB.out.1; show k ≠ cb; omega)).trans (HB1.out.block k hk)
  have sX : w.heap.size ≤ X.heap.size := by rw [hX]; have := HB1.out.size; simpa [World.setCell] using this
  have hgX := (bX g hgl).trans HG.out
  have x6 : X.cell? ⟨g, 6, none⟩ = some pv := Joins.cell_of_block hgX 6
  have hpX : X.ownsRow N 53 2 pv s.parses.length cs := row_kept HPV.out fun b hb => bX b (HPV.out.lt b hb).2
  have hcX : X.ownsRow w.heap.size 3 1 (.slice (some ⟨cb, 0, none⟩) C.K ccap) C.K (I64 (s.notes.set 1 (p : Int))) := by
    rw [hX, show I64 (s.notes.set 1 (p : Int)) = (I64 s.notes).set 1 (.int .i64 (p : Int)) by simp [I64, List.map_set]]
    exact row_set HC1.out (by omega)
  have gX : g < X.heap.size := by omega
  have HPX := hid hpX
  have HCX := hid hcX
  have HBX := hid bX
  have HGX := hid hgX
  clear hX bX hgX hpX hcX k1 u1
  go_wp2_with (at_builtin; refine wpList_append_moveN rfl (.tmp 17) (.tmp 21) 35 rfl N 53 i0 (.agg #[.int .i64 0, .slice none 0 0]) 2 32 Try.underlying35 hi0 hz0 hz1 hz2 rfl (by decide) pv s.parses.length cs rfl (HPX.out.alloc _) ⟨X.heap.size, 0, none⟩ 1 1 [.int .i64 (p : Int), .slice (some ⟨cb, 0, none⟩) C.K ccap] rfl rfl (by decide) ?_ ?_ (by unfold maxLen; omega) (by omega) (by simp; omega) ?_)
  · intro j u hj
    match j, hj with
    | 0, hj => simp at hj; subst hj; simp [Addr.add]
    | 1, hj => simp at hj; subst hj; simp [Addr.add]
  · intro u hu
    simp at hu
    rcases hu with rfl | rfl <;> rfl
  intro v' w3 ho3 hm3
  have hg3 : w3.heap[g]? = some (.cells #[C.tv, C.hv, C.wh, .int .i64 C.n, .map (some C.mb), C.nv, pv] 86 (0, 0)) := by
    have e : (X.alloc (.cells #[.int .i64 (p : Int), .slice (some ⟨cb, 0, none⟩) C.K ccap] 53)).heap[g]? = X.heap[g]? := heap_alloc_old X _ gX
    rcases hm3.out with ⟨_, h⟩ | ⟨_, h⟩
    · exact (h.block g (by simp; omega) (fun h => own_ne HPV.out HG.out (by decide) h.symm)).trans (e.trans HGX.out)
    · exact (h.block g (by simp; omega) (by simp)).trans (e.trans HGX.out)
  have y6 : w3.cell? ⟨g, 6, none⟩ = some pv := Joins.cell_of_block hg3 6
  have f6 := Joins.unfrozen_of_block hg3 6
  have HG3 := hid hg3
  clear hg3
  obtain ⟨vb, vcap, rfl⟩ := Joins.ownsRow_form ho3.out (by omega)
  go_wp2
  go_end0
  obtain ⟨Y, hY⟩ : ∃ Y, Y = w3.setCell ⟨g, 6, none⟩ (.slice (some ⟨vb, 0, none⟩) (s.parses.length + 1) vcap) := ⟨_, rfl⟩
  rw [← hY]
  have e3 : ∀ k, k < X.heap.size → pv.ownBlock ≠ some k → w3.heap[k]? = X.heap[k]? := fun k hk hne => by
    have e : (X.alloc (.cells #[.int .i64 (p : Int), .slice (some ⟨cb, 0, none⟩) C.K ccap] 53)).heap[k]? = X.heap[k]? := heap_alloc_old X _ hk
    rcases hm3.out with ⟨_, h⟩ | ⟨_, h⟩
    · exact (h.block k (by simp; omega) (fun h => hne h.symm)).trans e
    · exact (h.block k (by simp; omega) (by simp)).trans e
  have eY : ∀ k, k < w.heap.size → k ≠ g → pv.ownBlock ≠ some k → Y.heap[k]? = w.heap[k]? := fun k hk h1 h2 => by
    rw [hY]
    exact (Below.heap_setCell _ _ _ _ h1).trans ((e3 k (by omega) h2).trans (HBX.out k hk))
  have hs3 : X.heap.size ≤ w3.heap.size := by
    rcases hm3.out with ⟨_, h⟩ | ⟨_, h⟩ <;> (have := h.size; simp at this; omega)
  have hcb1 := HCB.out.1
  have hnb : C.nb < w.heap.size := by obtain ⟨cur, h⟩ := hW.out.nblk; exact (Array.getElem?_eq_some_iff.1 h).1
  have hcY : Y.ownsRow N 3 1 (.slice (some ⟨cb, 0, none⟩) C.K ccap) C.K (I64 (s.notes.set 1 (p : Int))) := by
    refine row_kept (Joins.ownsRow_le HCX.out hN) fun b hb => ?_
    simp [Value.ownBlock] at hb
    subst hb
    rw [hY]
    refine (Below.heap_setCell _ _ _ _ (by show cb ≠ g; omega)).trans (e3 cb ((HCX.out.lt cb rfl).2) (fun e => ?_))
    have := (HPV.out.lt cb e).2
    omega
  have hty : ∀ k ∈ F, k ≠ g ∧ pv.ownBlock ≠ some k := fun k hk => by
    obtain ⟨cur, hc⟩ := HPR.out.typ k hk
    refine ⟨fun e => ?_, fun e => own_ne HPV.out hc (by decide) e⟩
    subst e
    have hgg := HG.out
    rw [hc] at hgg
    simp at hgg
  have hgw := HG.out
  obtain ⟨curn, hcn⟩ := hW.out.nblk
  obtain ⟨es, cl, hm0, hmr⟩ := hW.out.map
  refine ⟨rfl, g :: C.mb :: C.nb :: ((Value.slice (some ⟨vb, 0, none⟩) (s.parses.length + 1) vcap).ownBlock.toList ++ (F ++ [cb])), ?_, ?_⟩
  · refine ⟨⟨_, _, _, ?_, ?_, (HPR.out.kept fun k hk => eY k (HPR.out.low k hk).2 (hty k hk).1 (hty k hk).2).snoc (e := (p : Int)) (cp := s.notes.set 1 (p : Int)) (cv := .slice (some ⟨cb, 0, none⟩) C.K ccap) (by rw [List.length_set, len]; exact hcY), ?_, rfl⟩, ?_, ?_, len, two, few, hW.out.low⟩
    · rw [hY]
      exact Joins.block_setCell (i := 6) HG3.out _
    · rw [hY, List.length_append]
      exact own_setCell ho3.out (own_ne ho3.out HG3.out (by decide))
    · simp [Value.ownBlock]
      exact ⟨hnF, by omega⟩
    · refine ⟨es, cl, (eY _ (Array.getElem?_eq_some_iff.1 hm0).1 (fun e => ?_) (fun e => ?_)).trans hm0, hmr⟩
      · rw [e, hgw] at hm0; cases hm0
      · rcases HPV.out.2 with ⟨rfl, _⟩ | ⟨b2, cap, cur, rfl, _, hgg, _⟩
        · simp [Value.ownBlock] at e
        · simp [Value.ownBlock] at e
          rw [e, hm0] at hgg
          cases hgg
    · refine row_kept hW.out.notes fun b hb => ?_
      simp [Cx.nv, Value.ownBlock] at hb
      subst hb
      refine eY _ hnb (fun e => ?_) (fun e => own_ne HPV.out hcn (by decide) e)
      rw [e, hgw] at hcn
      simp at hcn
  · refine ⟨?_, ?_, ?_, ?_, fun k hk hn => ?_, fun k hk => ?_⟩
    · rw [hY]
      rcases hm3.out with ⟨_, h⟩ | ⟨_, h⟩ <;> exact h.os.trans (by rw [HX.out]; exact HB1.out.os)
    · rw [hY]
      rcases hm3.out with ⟨_, h⟩ | ⟨_, h⟩ <;> exact h.tape.trans (by rw [HX.out]; exact HB1.out.tape)
    · rw [hY]
      rcases hm3.out with ⟨_, h⟩ | ⟨_, h⟩ <;> exact h.output.trans (by rw [HX.out]; exact HB1.out.output)
    · rw [hY]; simp [World.setCell]; omega
    · simp only [List.mem_cons, List.mem_append, Option.mem_toList, not_or] at hn
      exact eY k hk hn.1 (fun e => hn.2.2.2.1 e)
    · simp only [List.mem_cons, List.mem_append, Option.mem_toList, List.not_mem_nil, or_false] at hk ⊢
      rcases hk with h | h | h | h | h | h
      · exact .inl (.inl h)
      · exact .inl (.inr (.inl h))
      · exact .inl (.inr (.inr (.inl h)))
      · rcases hm3.out with ⟨h0, _⟩ | ⟨h0, _⟩
        · rw [h0] at h
          exact .inl (.inr (.inr (.inr (.inl h))))
        · rw [h0] at h
          right
          simp at h
          omega
      · exact .inl (.inr (.inr (.inr (.inr h))))
      · right; omega
end Go.Proofs.Ytnpocciioedgpaa
