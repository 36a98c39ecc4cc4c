/- PROVED: the law MeaningTurned of layer 6 answers true for every tree, text, place and row of numbers, and the three read afterwards as they read before: lazy or not, in whatever order alternatives stand, the parses have the same ends; without groups the same ends in the same order.
   CONDITIONS: none but the form's own (each slice and string at most 2^47 - 4096 bytes). -/
import Derived.Test.YtnpocciioedgpaaK07
import Derived.Test.YtnpocciioedgpaaRows
import Derived.OpenShut
import Derived.SizedLaws
import Derived.Lib.SmallJoins
/- HELPERS: trees, and texts with a place, that come in as arguments. -/
namespace Go.Proofs.Ytnpocciioedgpaa
open Go.ChangeShapes Go.WideShapes Go.ChangeAt Go.RowKit
set_option linter.unusedVariables false
set_option linter.unusedSimpArgs false
theorem ownB : ownKnob Try.prog.godebug = none := by kernel_rfl
theorem laidOut : laidOutB Try.prog = true := by kernel_rfl
theorem bytesOf3 : Try.prog.bytesOf 3 = 8 := by kernel_rfl
theorem cells3a : Try.prog.cellsOf 3 = 1 := by kernel_rfl
theorem lt_of_cell {w : World} {b o : Nat} {v : Value} (h : w.cell? ⟨b, o, none⟩ = some v) : b < w.heap.size := by
  rcases Nat.lt_or_ge b w.heap.size with h1 | h1
  · exact h1
  · have : w.heap[b]? = none := Array.getElem?_eq_none h1
    simp [World.cell?, this] at h
/-- the fields of a node -/
def nf : Nat → Field
  | 0 => { name := "Kind", type := 3, offset := 0, embedded := false, tag := "", pkgPath := "", byteOffset := 0 }
  | 1 => { name := "Ranges", type := 25, offset := 1, embedded := false, tag := "", pkgPath := "", byteOffset := 8 }
  | 2 => { name := "Assert", type := 3, offset := 2, embedded := false, tag := "", pkgPath := "", byteOffset := 32 }
  | 3 => { name := "Subs", type := 26, offset := 3, embedded := false, tag := "", pkgPath := "", byteOffset := 40 }
  | 4 => { name := "Min", type := 3, offset := 4, embedded := false, tag := "", pkgPath := "", byteOffset := 64 }
  | 5 => { name := "Max", type := 3, offset := 5, embedded := false, tag := "", pkgPath := "", byteOffset := 72 }
  | 6 => { name := "Lazy", type := 4, offset := 6, embedded := false, tag := "", pkgPath := "", byteOffset := 80 }
  | 7 => { name := "Index", type := 3, offset := 7, embedded := false, tag := "", pkgPath := "", byteOffset := 88 }
  | _ => { name := "Name", type := 9, offset := 8, embedded := false, tag := "", pkgPath := "", byteOffset := 96 }
theorem nodeTy : NodeTy Try.prog 28 26 25 70 3 4 9 nf { name := "Lo", type := 3, offset := 0, embedded := false, tag := "", pkgPath := "", byteOffset := 0 } { name := "Hi", type := 3, offset := 1, embedded := false, tag := "", pkgPath := "", byteOffset := 8 } where
  hn := Try.underlying28
  cn := by kernel_rfl
  ty := ⟨rfl, rfl, rfl, rfl, rfl, rfl, rfl, rfl, rfl⟩
  of := fun i hi => by
    match i, hi with
    | 0, _ => rfl
    | 1, _ => rfl
    | 2, _ => rfl
    | 3, _ => rfl
    | 4, _ => rfl
    | 5, _ => rfl
    | 6, _ => rfl
    | 7, _ => rfl
    | 8, _ => rfl
  ci := by kernel_rfl
  cr := by kernel_rfl
  cs := by kernel_rfl
  cb := by kernel_rfl
  cg := by kernel_rfl
  hi := Try.underlying3
  hb := Try.underlying4
  hg := Try.underlying9
  hs := Try.underlying26
  hr := Try.underlying25
  he := Try.underlying70
  ce := by kernel_rfl
  og := ⟨rfl, rfl, rfl, rfl⟩
set_option maxRecDepth 100000
section
variable {H : Type} {enc : TypeId × Value → H} {W : World} {base : Nat} {v : Value} {d : DataW H} {p : List MemPlace}
/-- a tree that came in -/
theorem node_arg (hok : Value.okWide Try.prog W .any base 28 v) (h0 : DataW.Trod enc Try.prog W 0 (fun _ => true) true 28 v d p) : ∃ N t, v = Nv.v N ∧ TI W W.heap.size N t := by
  obtain ⟨cs, rfl, hsz⟩ := okWide_struct Try.underlying28 hok
  obtain ⟨fuel, hf⟩ := h0
  obtain ⟨N, t, h1, h2⟩ := open_node nodeTy fuel _ _ hf
  have h1' : cs.toList = Nv.cs N := h1
  refine ⟨N, t, ?_, h2⟩
  have : cs = (Nv.cs N).toArray := by rw [← h1']
  rw [this]
/-- a []int whose cells are given -/
theorem text_cells {fuel : Nat} {a0 : Option Addr} {len cap : Nat} (hf : DataW.trod enc Try.prog W 0 (fun _ => true) true fuel 29 [.slice a0 len cap] = some (d, p)) (hsz : ∀ elems spare, d = .slice elems spare → (elems.length + spare.length) * 8 ≤ 140737488351232) :
    ∃ l : List Int, len ≤ cap ∧ Look.TextAt W.heap.size W a0 len l := by
  rcases open_ints Try.underlying29 Try.underlying3 cells3a hf with ⟨hcs, hx⟩ | ⟨a, len', cap', zs, hcs, _, hl, hm, hz, hx, hcell, hwz⟩
  · simp at hcs
    obtain ⟨rfl, rfl, rfl⟩ := hcs
    exact ⟨[], Nat.le_refl _, rfl, by omega, .inl rfl⟩
  · simp at hcs
    obtain ⟨rfl, rfl, rfl⟩ := hcs
    simp only [if_true] at hz
    obtain ⟨rfl, rfl⟩ := Prod.mk.inj hx
    have hs := hsz _ _ rfl
    simp only [lits, List.length_map, List.length_take, List.length_drop] at hs
    have htl : (zs.take len).length = len := by rw [List.length_take]; omega
    refine ⟨zs.take len, by omega, htl.symm, by omega, ?_⟩
    by_cases h0 : len = 0
    · left; omega
    · right
      obtain ⟨b, off, rfl, hc⟩ := ints_at hcell (by omega)
      refine ⟨b, off, rfl, lt_of_cell (hc 0 (by omega)), fun k hk => ?_⟩
      rw [hc k (by omega)]
      simp [List.getD_eq_getElem?_getD, List.getElem?_take, hk]
theorem text_arg (hok : Value.okWide Try.prog W .any base 29 v) (h0 : DataW.Trod enc Try.prog W 0 (fun _ => true) true 29 v d p) (hsz : ∀ elems spare, d = .slice elems spare → (elems.length + spare.length) * 8 ≤ 140737488351232) :
    ∃ (l : List Int) (ad : Option Addr) (n cap : Nat), v = .slice ad n cap ∧ n ≤ cap ∧ Look.TextAt W.heap.size W ad n l := by
  obtain ⟨a0, len, cap, rfl⟩ := okWide_slice Try.underlying29 hok
  obtain ⟨fuel, hf⟩ := h0
  obtain ⟨l, h1, h2⟩ := text_cells hf hsz
  exact ⟨l, a0, len, cap, rfl, h1, h2⟩
/-- a text with a place that came in -/
theorem asked_arg (hok : Value.okWide Try.prog W .any base 31 v) (h0 : DataW.Trod enc Try.prog W 0 (fun _ => true) true 31 v d p) (hsz : ∀ elems spare rest, d = .agg (.slice elems spare :: rest) → (elems.length + spare.length) * 8 ≤ 140737488351232) :
    ∃ (l : List Int) (ad : Option Addr) (n cap : Nat) (at_ : Int), v = .agg #[.slice ad n cap, .int .i64 at_] ∧ n ≤ cap ∧ Look.TextAt W.heap.size W ad n l := by
  obtain ⟨v0, v1, y0, y1, n, rfl, rfl, rfl, h1, h2⟩ := Go.Joins.open_agg2 Try.underlying31 (by kernel_rfl) (by kernel_rfl) hok h0
  obtain ⟨x, e1, _, _⟩ := DataW.trod_int Try.underlying3 h2
  simp only [List.cons.injEq, and_true] at e1
  subst e1
  rcases DataW.trod_slice Try.underlying29 h1 with ⟨e0, _⟩ | ⟨a, len, cap, elems, rest, n', hn', e0, _⟩
  · simp only [List.cons.injEq, and_true] at e0
    subst e0
    exact ⟨[], none, 0, 0, x, rfl, Nat.le_refl _, rfl, by omega, .inl rfl⟩
  · simp only [List.cons.injEq, and_true] at e0
    subst e0
    obtain ⟨l, q1, q2⟩ := text_cells (d := y0.1) (p := y0.2) h1 (fun elems spare he => hsz elems spare [y1.1] (by rw [he]))
    exact ⟨l, some a, len, cap, x, rfl, q1, q2⟩
end
theorem sized_asked {H : Type} {ts : List TypeId} {ds : List (DataW H)} (h : (DataW.weightsEach Try.prog ts ds).all (· ≤ reachBytes) = true) {j : Nat} {elems spare rest : List (DataW H)} (ht : ts[j]? = some 31) (hd : ds[j]? = some (.agg (.slice elems spare :: rest))) : (elems.length + spare.length) * 8 ≤ 140737488351232 := by
  have := List.all_eq_true.1 h _ (DataW.weights_mem_each ht hd ((elems.length + spare.length) * Try.prog.bytesOf 3) (by simp [DataW.weights, Try.underlying31, DataW.weightsEach, Try.underlying29]))
  rw [bytesOf3] at this
  exact of_decide_eq_true this
end Go.Proofs.Ytnpocciioedgpaa
namespace Go.Proofs.Ytnpocciioedgpaa
open Go.ChangeShapes Go.WideShapes Go.ChangeAt Go.RowKit
set_option linter.unusedVariables false
set_option linter.unusedSimpArgs false
set_option maxRecDepth 100000 in
theorem turnedLifted (os : Os) (started : os.Started) (H : Type) (enc : TypeId × Value → H) :
    ReturnsInHanded {} Try.checked os 6 .any (Rows.meaningTurnedSpec.pre6 enc Try.prog Try.f6 Rows.meaningTurnedRow.domain false) (Rows.meaningTurnedSpec.post enc Try.prog Try.f6 false true false false) := by
  refine returnsInHanded_of_change_sized (C := Try.checked) ownB started (by kernel_rfl) Try.func6
    (ChangeSpec.witness6 (enc := enc) (C := Try.checked) false ⟨#[], #[.agg #[.int .i64 0, .slice none 0 0, .int .i64 0, .slice none 0 0, .int .i64 0, .int .i64 0, .bool false, .int .i64 0, .string ⟨#[]⟩], .agg #[.slice none 0 0, .int .i64 0], .slice none 0 0], []⟩ 8 (by kernel_rfl) (by kernel_rfl) (by kernel_rfl) (by kernel_rfl)) ?_
  intro W base args ds gs before hval0 hW hcnd0 hsz0 hholds
  have hval : ∀ (j : Nat) t v, Try.f6.params[j]? = some t → args[j]? = some v → Value.okWide Try.prog W .any base t v := hval0
  have hsz : (DataW.weightsEach Try.prog (Try.f6.params.toList ++ Rows.meaningTurnedSpec.plain.varTypes Try.prog) (ds ++ gs)).all (· ≤ reachBytes) = true := hsz0
  have hW' := hW
  obtain ⟨p, q, hA0, hV, rfl, hfz, hnd⟩ := hW
  have hA : DataW.TrodAll enc Try.prog W 0 (fun _ => true) true Try.f6.params.toList args.toList ds p := hA0
  rw [Try.params6] at hA hval hsz
  obtain ⟨v0, vs0, d0, ds0, p0, q0, hargs, rfl, rfl, h0, r0⟩ := trodAll_cons hA
  obtain ⟨v1, vs1, d1, ds1, p1, q1, rfl, rfl, rfl, h1, r1⟩ := trodAll_cons r0
  obtain ⟨v2, vs2, d2, ds2, p2, q2, rfl, rfl, rfl, h2, r2⟩ := trodAll_cons r1
  obtain ⟨rfl, rfl, rfl⟩ := trodAll_nil r2
  obtain rfl : args = #[v0, v1, v2] := by cases args; simp_all
  obtain ⟨rfl, rfl⟩ := trodVars_none hV
  have hlt0 : ∀ x ∈ p0, x.block < W.heap.size := fun x hx => by have := hW'.lt x (by simp [hx]); simpa using this
  have hlt1 : ∀ x ∈ p1, x.block < W.heap.size := fun x hx => by have := hW'.lt x (by simp [hx]); simpa using this
  have hlt2 : ∀ x ∈ p2, x.block < W.heap.size := fun x hx => by have := hW'.lt x (by simp [hx]); simpa using this
  obtain ⟨N, t, rfl, hT⟩ := node_arg (hval 0 28 v0 rfl rfl) h0
  obtain ⟨tx, ad, tn, tcap, at_, rfl, htc, hX⟩ := asked_arg (hval 1 31 v1 rfl rfl) h1 (fun elems spare rest hd => sized_asked hsz (j := 1) rfl (by rw [hd]; rfl))
  obtain ⟨raw, rad, rn, rcap, rfl, _, hR⟩ := text_arg (hval 2 29 v2 rfl rfl) h2 (fun elems spare hd => by
    have := sized_slice hsz (j := 2) (t := 29) (e := 3) (elems := elems) (spare := spare) rfl (by rw [hd]; rfl) Try.underlying29
    rw [bytesOf3] at this
    simpa [reachBytes] using this)
  clear hA0 hval0
  have HL : Calls Try.prog 6 #[N.v, .agg #[.slice ad tn tcap, .int .i64 at_], .slice rad rn rcap] W fun e w' => e = .returned (.bool true) ∧ Below W.heap.size W w' := by
    cases hm : mayB t tn at_ with
    | false => exact turned6_out N t tx raw ad rad tn tcap rn rcap at_ W hT hX htc hR hm
    | true => exact turned6_in N t tx raw ad rad tn tcap rn rcap at_ W hT hX htc hR hm
  refine HL.mono fun e W' ⟨he, hb⟩ => ?_
  subst he
  exact ⟨_, rfl, _, _, _, [], p0 ++ (p1 ++ (p2 ++ [])), [], hW', trodAll_cons_mk (shut_bool Try.underlying4 _) trodAll_mk0, trodAll_cons_mk (Below.trod laidOut (by kernel_rfl) (of_decide_eq_true (by kernel_rfl)) h0 hb hlt0) (trodAll_cons_mk (Below.trod laidOut (by kernel_rfl) (of_decide_eq_true (by kernel_rfl)) h1 hb hlt1) (trodAll_cons_mk (Below.trod laidOut (by kernel_rfl) (of_decide_eq_true (by kernel_rfl)) h2 hb hlt2) trodAll_mk0)), rfl, hb.frame _, fun h => by cases h⟩
theorem meaningTurned_holds : Rows.MeaningTurnedSaid :=
  OpenClaim.holds_of_wide 6 Try.f6 rfl rfl rfl rfl rfl rfl rfl ⟨rfl, rfl, rfl, rfl, rfl⟩ rfl rfl rfl rfl rfl (by kernel_rfl) Try.func6 (by kernel_rfl)
    (of_decide_eq_true (by kernel_rfl)) (by unfold Func.isWrapper; first | (rw [if_pos (by decide +kernel)]; kernel_rfl) | (rw [if_neg (by decide +kernel)]; exact ⟨rfl, rfl⟩))
    (fun os started H enc _ => turnedLifted os started H enc)
end Go.Proofs.Ytnpocciioedgpaa
