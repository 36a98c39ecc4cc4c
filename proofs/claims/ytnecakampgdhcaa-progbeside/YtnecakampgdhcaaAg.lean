/- HELPERS: for awake: Simplify of a class. -/
import Derived.Test.YtnecakampgdhcaaAe
import Derived.Test.YtnecakampgdhcaaAf
import Derived.Test.YtnecakampgdhcaaTk
namespace Go.Proofs.Ytnecakampgdhcaa
open Go.RowKit
set_option linter.unusedVariables false
set_option linter.unusedSimpArgs false
/-- the tree of a class of one rune -/
abbrev CT : Tn := .mk 2 [(97, 97)] 0 [] 0 0 false 0 ⟨#[]⟩
theorem ct_sound : CT.sound = true := by kernel_rfl
theorem ct_ti {w : World} {r1 : Option Addr} {r3 : Nat} (h : RowAt w.heap.size w (.slice r1 1 r3) [(97, 97)]) (h3 : 1 ≤ r3 ∧ r3 ≤ maxLen) : TI w w.heap.size (CN r1 1 r3) CT := by
  refine .mk (N := CN r1 1 r3) (R := [(97, 97)]) (ts := []) (ND := fun _ => default) ⟨(by show I64ok 2; decide), (by show I64ok 0; decide), (by show I64ok 0; decide), (by show I64ok 0; decide), (by show I64ok 0; decide), (by show (ByteArray.mk #[]).size ≤ maxLen; decide), h3, (by show 0 ≤ 0 ∧ 0 ≤ maxLen; decide)⟩ rfl (fun hn => ?_) (fun x hx => by simp at hx; subst hx; decide) rfl (fun hp => absurd hp (by simp)) (fun i hi => absurd hi (by simp))
  obtain ⟨ad, cap, e, h1⟩ := h
  simp only [Value.slice.injEq] at e
  obtain ⟨rfl, _, rfl⟩ := e
  rcases h1 with h0 | ⟨b, o, e1, h2, h4, h5⟩
  · simp at h0
  · refine ⟨b, o, e1, h2, fun i hi => ?_⟩
    have hi0 : i = 0 := by simpa using hi
    subst hi0
    exact ⟨h4 0 (by simp), h5 0 (by simp)⟩
theorem results_cell_tmp {P : Program} {fn : Func} {p u : Tmp} {ty : TypeId} (h : fn.results = #[.cell p ty, .tmp u]) (tmps : Array Value) (w : World) (g : Nat) (t : TypeId) (cs : Array Value) (fr : Nat × Nat) (d : TypeDesc)
    (hp : tmps.getD p undef = .pointer (some ⟨g, 0, none⟩)) (hg : w.heap[g]? = some (.cells cs t fr))
    (hu : P.underlying ty = some d) (hd : (match d with | .struct _ | .array _ _ => true | _ => false) = true) (hi : (P.info? ty).map (·.size) = some cs.size) :
    (results fn tmps).run P w = .ok (.tuple #[.agg cs, tmps.getD u undef]) w := by
  have hp' : tmps[p]?.getD undef = .pointer (some ⟨g, 0, none⟩) := by simpa using hp
  simp [results, h, hp', asAddr, run_loadVar_row w g t ty cs fr d hg hu hd hi]
abbrev Bz9 (w : World) (b : Nat) : Prop := w.heap[b]? = some (.cells #[.int .i64 0, .slice none 0 0, .int .i64 0, .slice none 0 0, .int .i64 0, .int .i64 0, .bool false, .int .i64 0, .string ⟨#[]⟩] 39 (0, 0))
set_option maxRecDepth 100000 in
set_option maxHeartbeats 8000000 in
theorem simplify30 {w : World} {r1 : Option Addr} {r3 : Nat} (hr : RowAt w.heap.size w (.slice r1 1 r3) [(97, 97)]) (h3 : 1 ≤ r3 ∧ r3 ≤ maxLen) :
    Calls Try.prog 30 #[(CN r1 1 r3).v] w fun e w' => ∃ c1 c3, e = .returned (.tuple #[(CN c1 1 c3).v, .int .i64 0]) ∧ w'.ownsRow w.heap.size 49 2 (.slice c1 1 c3) 1 (O2 [(97, 97)]) ∧ Below w.heap.size w w' := by
  obtain ⟨U, hU⟩ : ∃ U, U = (w.alloc (.cells (Array.mk (CN r1 1 r3).cs) 39)).alloc (.cells #[.int .i64 0, .slice none 0 0, .int .i64 0, .slice none 0 0, .int .i64 0, .int .i64 0, .bool false, .int .i64 0, .string ⟨#[]⟩] 39) := ⟨_, rfl⟩
  have hbU : Below w.heap.size w U := by rw [hU]; exact below_two' w _ _
  have hX : BxC U w.heap.size r1 1 r3 := by rw [hU]; exact (heap_alloc_old _ _ (by simp)).trans (heap_alloc_new w _)
  have hY : Bz9 U (w.heap.size + 1) := by rw [hU]; exact two_new w _ _ _
  have hyU : w.heap.size + 1 < U.heap.size := (Array.getElem?_eq_some_iff.1 hY).1
  have HRU := hid (hr.below hbU (Nat.le_refl _) hbU.size)
  have HS := sound29g (ct_ti HRU.out h3)
  rw [if_pos ct_sound] at HS
  have HBU := hid hbU
  have HX := hid hX
  have HY := hid hY
  obtain ⟨y, hy⟩ : ∃ y, y = w.heap.size + 1 := ⟨_, rfl⟩
  obtain ⟨x, hx⟩ : ∃ x, x = w.heap.size := ⟨_, rfl⟩
  clear hr hbU hX hY
  go_enter Try.func30, Try.ntmps30
  go_upto_region 1 with fail
  rw [← hU, ← hy, ← hx]
  rw [← hy] at HY hyU
  rw [← hx] at HX HBU hy
  have HXE := hid hx
  have hxy : x < y := by omega
  clear hU hy hx
  obtain ⟨c0, c1, c2, c3, c4, c5, c6, c7, c8⟩ := ninec HX.out
  go_upto_region 3 with (go_at_call 28; (with_reducible refine HS.mono ?_); rintro e U1 ⟨rfl, hb⟩; have HB1 := hid hb; clear hb HS)
  clear c0 c1 c2 c3 c4 c5 c6 c7 c8
  have HX1 : Hid (BxC U1 x r1 1 r3) := (HB1.out.block x (by omega)).trans HX.out
  have HF := form46c r1 1 r3 U1
  obtain ⟨c0, c1, c2, c3, c4, c5, c6, c7, c8⟩ := ninec HX1.out
  go_upto_region 4 with (go_at_call 46; (with_reducible refine HF.mono ?_); rintro e U2 ⟨f, rfl, hf, hl, hb⟩; have HB2 := hid hb; have HFF := hid hf; clear hb hf hl HF)
  clear c0 c1 c2 c3 c4 c5 c6 c7 c8
  have a10 : U2.cell? ⟨f, 10, none⟩ = some (.int .i64 1) := Joins.cell_of_block HFF.out 10
  have a11 : U2.cell? ⟨f, 11, none⟩ = some (.int .i64 1) := Joins.cell_of_block HFF.out 11
  have HR2 := hid ((HRU.out.below HB1.out (Nat.le_refl _) HB1.out.size).below HB2.out (Nat.le_refl _) HB2.out.size)
  have HC := built47 HFF.out HR2.out
  have hy2 : y < U2.heap.size := by have := HB1.out.size; have := HB2.out.size; omega
  have HY2 : Hid (Bz9 U2 y) := (HB2.out.block y (by have := HB1.out.size; omega)).trans ((HB1.out.block y hyU).trans HY.out)
  have HBx : Hid (Below x w U2) := (HBU.out.trans (Joins.below_le HB1.out (by omega))).trans (Joins.below_le HB2.out (by have := HB1.out.size; omega))
  go_wp2_with (first | (go_at_call 47; (with_reducible refine HC.mono ?_); rintro e U3 ⟨q1, q3, rfl, hrow, hb⟩; have hY3 := (hb.block y hy2).trans HY2.out; have y0 := Joins.unfrozen_of_block hY3 0; have y1 := Joins.unfrozen_of_block hY3 1; have y2 := Joins.unfrozen_of_block hY3 2; have y3 := Joins.unfrozen_of_block hY3 3; have y4 := Joins.unfrozen_of_block hY3 4; have y5 := Joins.unfrozen_of_block hY3 5; have y6 := Joins.unfrozen_of_block hY3 6; have y7 := Joins.unfrozen_of_block hY3 7; have y8 := Joins.unfrozen_of_block hY3 8; have s0 := Joins.cell_of_block hY3 0; have s1 := Joins.cell_of_block hY3 1; have s2 := Joins.cell_of_block hY3 2; have s3 := Joins.cell_of_block hY3 3; have s4 := Joins.cell_of_block hY3 4; have s5 := Joins.cell_of_block hY3 5; have s6 := Joins.cell_of_block hY3 6; have s7 := Joins.cell_of_block hY3 7; have s8 := Joins.cell_of_block hY3 8; have HY3 := hid hY3; have HROW := hid hrow; have HB3 := hid hb; clear hY3 hrow hb HC))
  have hfin := nineSet U3 y (.int .i64 2) (.slice q1 1 q3) (.int .i64 0) (.slice none 0 0) (.int .i64 0) (.int .i64 0) (.bool false) (.int .i64 0) (.string ⟨#[]⟩) HY3.out
  refine bodyPost_ret (results_cell_tmp rfl _ _ y 39 _ (0, 0) _ rfl hfin Try.underlying39 rfl (by kernel_rfl)) rfl ?_
  have hcy : (Value.slice q1 1 q3).ownBlock ≠ some y := fun e => by have := (HROW.out.lt y e).1; omega
  refine ⟨q1, q3, rfl, ?_, ?_⟩
  · rw [← HXE.out]
    iterate 9 refine own_setCell ?_ hcy
    exact HROW.out.mono (base' := x) (by omega)
  · rw [← HXE.out]
    iterate 9 refine Below.setCell ?_ (by show x ≤ y; omega) _
    exact HBx.out.trans (Joins.below_le HB3.out (by omega))
end Go.Proofs.Ytnecakampgdhcaa
