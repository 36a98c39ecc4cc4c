/- PROVED: the law MeaningWalks of layer 6 answers true for every tree, text and place, and both read afterwards as they read before: all walks through a tree's unfolded form, one by one in their order, none of which does one thing twice, have of each end as the first what Parses tells.
   CONDITIONS: none but the form's own (each slice and string at most 2^47 - 4096 bytes). -/
import Derived.Test.YtnpocciioedgpaaK11
import Derived.Test.YtnpocciioedgpaaRows
import Derived.OpenShut
import Derived.SizedLaws
import Derived.Lib.SmallJoins
/- HELPERS: trees, and texts with a place, that come in as arguments. -/
namespace Go.Proofs.Ytnpocciioedgpaa
open Go.ChangeShapes Go.WideShapes Go.ChangeAt Go.RowKit
set_option linter.unusedVariables false
set_option linter.unusedSimpArgs false
theorem ownB : ownKnob Try.prog.godebug = none := by kernel_rfl
theorem laidOut : laidOutB Try.prog = true := by kernel_rfl
theorem bytesOf3 : Try.prog.bytesOf 3 = 8 := by kernel_rfl
theorem cells3a : Try.prog.cellsOf 3 = 1 := by kernel_rfl
theorem lt_of_cell {w : World} {b o : Nat} {v : Value} (h : w.cell? ⟨b, o, none⟩ = some v) : b < w.heap.size := by
  rcases Nat.lt_or_ge b w.heap.size with h1 | h1
  · exact h1
  · have : w.heap[b]? = none := Array.getElem?_eq_none h1
    simp [World.cell?, this] at h
/-- the fields of a node -/
def nf : Nat → Field
  | 0 => { name := "Kind", type := 3, offset := 0, embedded := false, tag := "", pkgPath := "", byteOffset := 0 }
  | 1 => { name := "Ranges", type := 25, offset := 1, embedded := false, tag := "", pkgPath := "", byteOffset := 8 }
  | 2 => { name := "Assert", type := 3, offset := 2, embedded := false, tag := "", pkgPath := "", byteOffset := 32 }
  | 3 => { name := "Subs", type := 26, offset := 3, embedded := false, tag := "", pkgPath := "", byteOffset := 40 }
  | 4 => { name := "Min", type := 3, offset := 4, embedded := false, tag := "", pkgPath := "", byteOffset := 64 }
  | 5 => { name := "Max", type := 3, offset := 5, embedded := false, tag := "", pkgPath := "", byteOffset := 72 }
  | 6 => { name := "Lazy", type := 4, offset := 6, embedded := false, tag := "", pkgPath := "", byteOffset := 80 }
  | 7 => { name := "Index", type := 3, offset := 7, embedded := false, tag := "", pkgPath := "", byteOffset := 88 }
  | _ => { name := "Name", type := 9, offset := 8, embedded := false, tag := "", pkgPath := "", byteOffset := 96 }
theorem nodeTy : NodeTy Try.prog 28 26 25 70 3 4 9 nf { name := "Lo", type := 3, offset := 0, embedded := false, tag := "", pkgPath := "", byteOffset := 0 } { name := "Hi", type := 3, offset := 1, embedded := false, tag := "", pkgPath := "", byteOffset := 8 } where
  hn := Try.underlying28
  cn := by kernel_rfl
  ty := ⟨rfl, rfl, rfl, rfl, rfl, rfl, rfl, rfl, rfl⟩
  of := fun i hi => by
    match i, hi with
    | 0, _ => rfl
    | 1, _ => rfl
    | 2, _ => rfl
    | 3, _ => rfl
    | 4, _ => rfl
    | 5, _ => rfl
    | 6, _ => rfl
    | 7, _ => rfl
    | 8, _ => rfl
  ci := by kernel_rfl
  cr := by kernel_rfl
  cs := by kernel_rfl
  cb := by kernel_rfl
  cg := by kernel_rfl
  hi := Try.underlying3
  hb := Try.underlying4
  hg := Try.underlying9
  hs := Try.underlying26
  hr := Try.underlying25
  he := Try.underlying70
  ce := by kernel_rfl
  og := ⟨rfl, rfl, rfl, rfl⟩
set_option maxRecDepth 100000
section
variable {H : Type} {enc : TypeId × Value → H} {W : World} {base : Nat} {v : Value} {d : DataW H} {p : List MemPlace}
/-- a tree that came in -/
theorem node_arg (hok : Value.okWide Try.prog W .any base 28 v) (h0 : DataW.Trod enc Try.prog W 0 (fun _ => true) true 28 v d p) : ∃ N t, v = Nv.v N ∧ TI W W.heap.size N t := by
  obtain ⟨cs, rfl, hsz⟩ := okWide_struct Try.underlying28 hok
  obtain ⟨fuel, hf⟩ := h0
  obtain ⟨N, t, h1, h2⟩ := open_node nodeTy fuel _ _ hf
  have h1' : cs.toList = Nv.cs N := h1
  refine ⟨N, t, ?_, h2⟩
  have : cs = (Nv.cs N).toArray := by rw [← h1']
  rw [this]
/-- a []int whose cells are given -/
theorem text_cells {fuel : Nat} {a0 : Option Addr} {len cap : Nat} (hf : DataW.trod enc Try.prog W 0 (fun _ => true) true fuel 29 [.slice a0 len cap] = some (d, p)) (hsz : ∀ elems spare, d = .slice elems spare → (elems.length + spare.length) * 8 ≤ 140737488351232) :
    ∃ l : List Int, len ≤ cap ∧ Look.TextAt W.heap.size W a0 len l := by
  rcases open_ints Try.underlying29 Try.underlying3 cells3a hf with ⟨hcs, hx⟩ | ⟨a, len', cap', zs, hcs, _, hl, hm, hz, hx, hcell, hwz⟩
  · simp at hcs
    obtain ⟨rfl, rfl, rfl⟩ := hcs
    exact ⟨[], Nat.le_refl _, rfl, by omega, .inl rfl⟩
  · simp at hcs
    obtain ⟨rfl, rfl, rfl⟩ := hcs
    simp only [if_true] at hz
    obtain ⟨rfl, rfl⟩ := Prod.mk.inj hx
    have hs := hsz _ _ rfl
    simp only [lits, List.length_map, List.length_take, List.length_drop] at hs
    have htl : (zs.take len).length = len := by rw [List.length_take]; omega
    refine ⟨zs.take len, by omega, htl.symm, by omega, ?_⟩
    by_cases h0 : len = 0
    · left; omega
    · right
      obtain ⟨b, off, rfl, hc⟩ := ints_at hcell (by omega)
      refine ⟨b, off, rfl, lt_of_cell (hc 0 (by omega)), fun k hk => ?_⟩
      rw [hc k (by omega)]
      simp [List.getD_eq_getElem?_getD, List.getElem?_take, hk]
theorem text_arg (hok : Value.okWide Try.prog W .any base 29 v) (h0 : DataW.Trod enc Try.prog W 0 (fun _ => true) true 29 v d p) (hsz : ∀ elems spare, d = .slice elems spare → (elems.length + spare.length) * 8 ≤ 140737488351232) :
    ∃ (l : List Int) (ad : Option Addr) (n cap : Nat), v = .slice ad n cap ∧ n ≤ cap ∧ Look.TextAt W.heap.size W ad n l := by
  obtain ⟨a0, len, cap, rfl⟩ := okWide_slice Try.underlying29 hok
  obtain ⟨fuel, hf⟩ := h0
  obtain ⟨l, h1, h2⟩ := text_cells hf hsz
  exact ⟨l, a0, len, cap, rfl, h1, h2⟩
/-- a text with a place that came in -/
theorem asked_arg (hok : Value.okWide Try.prog W .any base 31 v) (h0 : DataW.Trod enc Try.prog W 0 (fun _ => true) true 31 v d p) (hsz : ∀ elems spare rest, d = .agg (.slice elems spare :: rest) → (elems.length + spare.length) * 8 ≤ 140737488351232) :
    ∃ (l : List Int) (ad : Option Addr) (n cap : Nat) (at_ : Int), v = .agg #[.slice ad n cap, .int .i64 at_] ∧ n ≤ cap ∧ Look.TextAt W.heap.size W ad n l := by
  obtain ⟨v0, v1, y0, y1, n, rfl, rfl, rfl, h1, h2⟩ := Go.Joins.open_agg2 Try.underlying31 (by kernel_rfl) (by kernel_rfl) hok h0
  obtain ⟨x, e1, _, _⟩ := DataW.trod_int Try.underlying3 h2
  simp only [List.cons.injEq, and_true] at e1
  subst e1
  rcases DataW.trod_slice Try.underlying29 h1 with ⟨e0, _⟩ | ⟨a, len, cap, elems, rest, n', hn', e0, _⟩
  · simp only [List.cons.injEq, and_true] at e0
    subst e0
    exact ⟨[], none, 0, 0, x, rfl, Nat.le_refl _, rfl, by omega, .inl rfl⟩
  · simp only [List.cons.injEq, and_true] at e0
    subst e0
    obtain ⟨l, q1, q2⟩ := text_cells (d := y0.1) (p := y0.2) h1 (fun elems spare he => hsz elems spare [y1.1] (by rw [he]))
    exact ⟨l, some a, len, cap, x, rfl, q1, q2⟩
end
theorem sized_asked {H : Type} {ts : List TypeId} {ds : List (DataW H)} (h : (DataW.weightsEach Try.prog ts ds).all (· ≤ reachBytes) = true) {j : Nat} {elems spare rest : List (DataW H)} (ht : ts[j]? = some 31) (hd : ds[j]? = some (.agg (.slice elems spare :: rest))) : (elems.length + spare.length) * 8 ≤ 140737488351232 := by
  have := List.all_eq_true.1 h _ (DataW.weights_mem_each ht hd ((elems.length + spare.length) * Try.prog.bytesOf 3) (by simp [DataW.weights, Try.underlying31, DataW.weightsEach, Try.underlying29]))
  rw [bytesOf3] at this
  exact of_decide_eq_true this
end Go.Proofs.Ytnpocciioedgpaa
/- HELPERS: the law MeaningWalks: its walk. -/
namespace Go.Proofs.Ytnpocciioedgpaa
open Go.RowKit
set_option linter.unusedVariables false
set_option linter.unusedSimpArgs false
theorem ri_rw {cb K : Nat} {w : World} (h : RI cb K K w) (h0 : 0 < K ∧ K ≤ 10000) : Rw w (.slice (some ⟨cb, 0, none⟩) K K) (List.replicate K (-1)) := by
  obtain ⟨arr, h1, h2, h3⟩ := h
  refine .inr ⟨by simpa using h0.1, by simp, .inr ⟨cb, K, arr, by simp, Nat.zero_le _, h1, by simp, by simp [maxLen]; omega, by simpa using h2, ?_⟩⟩
  refine List.ext_getElem? fun j => ?_
  simp only [List.length_replicate, Nat.mul_one]
  rw [List.take_of_length_le (by simp [h2])]
  by_cases hj : j < K
  · have := h3 j hj
    simp [I64, List.getElem?_replicate, hj, M1] at this ⊢
    exact this
  · simp [I64, List.getElem?_replicate, hj, h2]
set_option maxRecDepth 100000 in
set_option maxHeartbeats 4000000 in
theorem walks4_out (N : Nv) (t : Tn) (tx : List Int) (ad : Option Addr) (tn tcap : Nat) (at_ : Int) (w : World) (hTI : TI w w.heap.size N t) (htx : Look.TextAt w.heap.size w ad tn tx) (htc : tn ≤ tcap) (hout : mayB t tn at_ = false) :
    Calls Try.prog 4 #[N.v, .agg #[.slice ad tn tcap, .int .i64 at_]] w fun e w' => e = .returned (.bool true) ∧ Below w.heap.size w w' := by
  obtain ⟨W0, hW0⟩ : ∃ W0, W0 = (w.alloc N.ob).alloc (Xob ad tn tcap at_) := ⟨_, rfl⟩
  have hq := boxes (tcap := tcap) (at_ := at_) hTI htx
  rw [← hW0] at hq
  have hs0 : W0.heap.size = w.heap.size + 1 + 1 := by rw [hW0]; simp
  have HB0 : Hid (Below (w.heap.size + 1 + 1) W0 W0) := Below.refl _ _
  have htm : tn ≤ 35184372088832 := htx.2.1
  have c10 : ∀ W, Below (w.heap.size + 1 + 1) W0 W → Calls Try.prog 10 #[N.v] W fun e w' => e = .returned (.bool (decide (4194304 < t.nodes))) ∧ Below W.heap.size W w' := fun W hB => deep10 (hq W hB).2.2.1
  have c11 : ∀ W, Below (w.heap.size + 1 + 1) W0 W → Calls Try.prog 11 #[N.v, .slice ad tn tcap] W fun e w' => e = .returned (.bool (muchB t tn)) ∧ Below W.heap.size W w' := fun W hB => much11 N t ad tn tcap W (hq W hB).2.2.1 htm
  have c12 : ∀ W, Below (w.heap.size + 1 + 1) W0 W → Calls Try.prog 12 #[N.v, .agg #[.slice ad tn tcap, .int .i64 at_]] W fun e w' => e = .returned (.bool (mayB t tn at_)) ∧ Below W.heap.size W w' := fun W hB => may12 N t ad tn tcap at_ W (hq W hB).2.2.1 htm
  rw [hout] at c12
  obtain ⟨f, hf⟩ : ∃ f, f = errP t tn at_ := ⟨_, rfl⟩
  have hf0 : f ≠ 0 := by
    rw [hf]
    intro h
    unfold errP at h
    split at h
    · cases h
    · split at h
      · cases h
      · split at h
        · cases h
        · split at h
          · cases h
          · rename_i g1 g2 g3 g4
            have : mayB t tn at_ = true := by simp only [mayB, Bool.and_eq_true, decide_eq_true_eq]; exact ⟨⟨⟨by omega, by omega, by omega⟩, by simpa using g2⟩, by omega⟩
            rw [this] at hout
            cases hout
  have c13 : ∀ W, Below (w.heap.size + 1 + 1) W0 W → Calls Try.prog 13 #[N.v, .slice ad tn tcap, .int .i64 at_] W fun e w' => e = .returned (.tuple #[.slice none 0 0, .int .i64 f]) ∧ Below W.heap.size W w' := fun W hB => by
    refine (parses13g N t tx ad tn tcap at_ W (hq W hB).2.2.1 (hq W hB).2.2.2.1 htc).mono ?_
    rintro e w' ⟨pv, l, rfl, _, _, h2, hb⟩
    obtain ⟨rfl, _⟩ := h2 (by rw [← hf]; exact hf0)
    exact ⟨by rw [hf], hb⟩
  have c14 : ∀ W, Below (w.heap.size + 1 + 1) W0 W → Calls Try.prog 14 #[N.v] W fun e w' => e = .returned (.bool (decide (200000 < t.nodes))) ∧ Below W.heap.size W w' := fun W hB => great14 (hq W hB).2.2.1
  obtain ⟨gr, hgr⟩ : ∃ gr, gr = decide (200000 < t.nodes) := ⟨_, rfl⟩
  rw [← hgr] at c14
  have e1 : (f != 0) = true := by simpa using hf0
  clear hgr hf hf0
  obtain ⟨dp, hdp⟩ : ∃ dp, dp = decide (4194304 < t.nodes) := ⟨_, rfl⟩
  obtain ⟨mu, hmu⟩ : ∃ mu, mu = muchB t tn := ⟨_, rfl⟩
  rw [← hdp] at c10
  rw [← hmu] at c11
  clear hdp hmu hout
  obtain ⟨k, r1, r2, r3, a2, s1, s2, s3, a4, a5, a6, a7, a8⟩ := N
  dsimp only at hq c10 c11 c12 c13 c14
  have hx : ∀ W, Below (w.heap.size + 1 + 1) W0 W → Below w.heap.size w W := fun W hB => (hq W hB).2.2.2.2
  have HX := hid hx
  have HQ := hid hq
  have HC10 := hid c10
  have HC11 := hid c11
  have HC12 := hid c12
  have HC13 := hid c13
  have HC14 := hid c14
  clear hTI htx hq c10 c11 c12 c13 c14 hx
  go_enter Try.func4, Try.ntmps4
  go_upto_region 1 with fail
  rw [← hW0]
  clear hW0
  obtain ⟨⟨o0, o1, o2, o3, o4, o5, o6, o7, o8⟩, ⟨y0, y1⟩, _⟩ := HQ.out W0 HB0.out
  have HC := HC10.out W0 HB0.out
  cases dp with
  | true =>
    go_wp2_with (first | (go_at_call 10; (with_reducible refine HC.mono ?_); rintro e w1 ⟨rfl, hb1⟩; have HB1 : Hid (Below (w.heap.size + 1 + 1) W0 w1) := HB0.out.trans (Joins.below_le hb1 (by omega)); clear hb1 HC))
    go_ret
    exact ⟨rfl, HX.out _ HB1.out⟩
  | false =>
  go_upto_region 4 with (first | (go_at_call 10; (with_reducible refine HC.mono ?_); rintro e w1 ⟨rfl, hb1⟩; have HB1 : Hid (Below (w.heap.size + 1 + 1) W0 w1) := HB0.out.trans (Joins.below_le hb1 (by omega)); clear hb1 HC o0 o1 o2 o3 o4 o5 o6 o7 o8 y0 y1))
  have hs1' : W0.heap.size ≤ w1.heap.size := HB1.out.size
  obtain ⟨⟨o0, o1, o2, o3, o4, o5, o6, o7, o8⟩, ⟨y0, y1⟩, _⟩ := HQ.out w1 HB1.out
  have HC := HC11.out w1 HB1.out
  cases mu with
  | true =>
    go_wp2_with (first | (go_at_call 11; (with_reducible refine HC.mono ?_); rintro e w2 ⟨rfl, hb2⟩; have HB2 : Hid (Below (w.heap.size + 1 + 1) W0 w2) := HB1.out.trans (Joins.below_le hb2 (by omega)); clear hb2 HC))
    go_ret
    exact ⟨rfl, HX.out _ HB2.out⟩
  | false =>
  go_upto_region 7 with (first | (go_at_call 11; (with_reducible refine HC.mono ?_); rintro e w2 ⟨rfl, hb2⟩; have HB2 : Hid (Below (w.heap.size + 1 + 1) W0 w2) := HB1.out.trans (Joins.below_le hb2 (by omega)); clear hb2 HC o0 o1 o2 o3 o4 o5 o6 o7 o8 y0 y1))
  have hs2' : W0.heap.size ≤ w2.heap.size := HB2.out.size
  obtain ⟨⟨o0, o1, o2, o3, o4, o5, o6, o7, o8⟩, ⟨y0, y1⟩, _⟩ := HQ.out w2 HB2.out
  have HC := awake8 w2
  go_upto_region 8 with (first | (go_at_call 8; (with_reducible refine HC.mono ?_); rintro e w3 ⟨rfl, hb3⟩; have HB3 : Hid (Below (w.heap.size + 1 + 1) W0 w3) := HB2.out.trans (Joins.below_le hb3 (by omega)); clear hb3 HC o0 o1 o2 o3 o4 o5 o6 o7 o8 y0 y1))
  have hs3' : W0.heap.size ≤ w3.heap.size := HB3.out.size
  obtain ⟨⟨o0, o1, o2, o3, o4, o5, o6, o7, o8⟩, ⟨y0, y1⟩, _⟩ := HQ.out w3 HB3.out
  have HC := HC12.out w3 HB3.out
  go_upto_region 9 with (first | (go_at_call 12; (with_reducible refine HC.mono ?_); rintro e w4 ⟨rfl, hb4⟩; have HB4 : Hid (Below (w.heap.size + 1 + 1) W0 w4) := HB3.out.trans (Joins.below_le hb4 (by omega)); clear hb4 HC o0 o1 o2 o3 o4 o5 o6 o7 o8 y0 y1))
  have hs4' : W0.heap.size ≤ w4.heap.size := HB4.out.size
  obtain ⟨⟨o0, o1, o2, o3, o4, o5, o6, o7, o8⟩, ⟨y0, y1⟩, _⟩ := HQ.out w4 HB4.out
  have HC := HC13.out w4 HB4.out
  go_upto_region 11 with (first | (go_at_call 13; (with_reducible refine HC.mono ?_); rintro e w5 ⟨rfl, hb5⟩; have HB5 : Hid (Below (w.heap.size + 1 + 1) W0 w5) := HB4.out.trans (Joins.below_le hb5 (by omega)); clear hb5 HC o0 o1 o2 o3 o4 o5 o6 o7 o8 y0 y1))
  have hs5' : W0.heap.size ≤ w5.heap.size := HB5.out.size
  obtain ⟨⟨o0, o1, o2, o3, o4, o5, o6, o7, o8⟩, ⟨y0, y1⟩, _⟩ := HQ.out w5 HB5.out
  have HC := HC14.out w5 HB5.out
  go_wp2_with (first | (go_at_call 14; (with_reducible refine HC.mono ?_); rintro e w6 ⟨rfl, hb6⟩; have HB6 : Hid (Below (w.heap.size + 1 + 1) W0 w6) := HB5.out.trans (Joins.below_le hb6 (by omega)); clear hb6 HC o0 o1 o2 o3 o4 o5 o6 o7 o8 y0 y1))
  go_ret
  exact ⟨by first | rfl | simp, HX.out _ HB6.out⟩
set_option maxRecDepth 100000 in
set_option maxHeartbeats 8000000 in
theorem walks4_in (N : Nv) (t : Tn) (tx : List Int) (ad : Option Addr) (tn tcap : Nat) (at_ : Int) (w : World) (hTI : TI w w.heap.size N t) (htx : Look.TextAt w.heap.size w ad tn tx) (htc : tn ≤ tcap) (hin : mayB t tn at_ = true) :
    Calls Try.prog 4 #[N.v, .agg #[.slice ad tn tcap, .int .i64 at_]] w fun e w' => e = .returned (.bool true) ∧ Below w.heap.size w w' := by
  obtain ⟨hsd, hsz, htn, ha0, ha1⟩ := mayB_parts hin
  obtain ⟨hfine, _, hnod⟩ := sound_parts hsd
  obtain ⟨W0, hW0⟩ : ∃ W0, W0 = (w.alloc N.ob).alloc (Xob ad tn tcap at_) := ⟨_, rfl⟩
  have hq := boxes (tcap := tcap) (at_ := at_) hTI htx
  rw [← hW0] at hq
  have hs0 : W0.heap.size = w.heap.size + 1 + 1 := by rw [hW0]; simp
  have HB0 : Hid (Below (w.heap.size + 1 + 1) W0 W0) := Below.refl _ _
  have htm : tn ≤ 35184372088832 := htx.2.1
  have c10 : ∀ W, Below (w.heap.size + 1 + 1) W0 W → Calls Try.prog 10 #[N.v] W fun e w' => e = .returned (.bool false) ∧ Below W.heap.size W w' := fun W hB => by have h := deep10 (hq W hB).2.2.1; rw [decide_eq_false (by omega)] at h; exact h
  have c11 : ∀ W, Below (w.heap.size + 1 + 1) W0 W → Calls Try.prog 11 #[N.v, .slice ad tn tcap] W fun e w' => e = .returned (.bool (muchB t tn)) ∧ Below W.heap.size W w' := fun W hB => much11 N t ad tn tcap W (hq W hB).2.2.1 htm
  have c12 : ∀ W, Below (w.heap.size + 1 + 1) W0 W → Calls Try.prog 12 #[N.v, .agg #[.slice ad tn tcap, .int .i64 at_]] W fun e w' => e = .returned (.bool true) ∧ Below W.heap.size W w' := fun W hB => by have h := may12 N t ad tn tcap at_ W (hq W hB).2.2.1 htm; rw [hin] at h; exact h
  have c13t : ∀ W, Below (w.heap.size + 1 + 1) W0 W → Calls Try.prog 13 #[N.v, .slice ad tn tcap, .int .i64 at_] W fun e w' => ∃ (a : Option Addr) (c : Nat) (l : List (Int × List Int)), e = .returned (.tuple #[.slice a l.length c, .int .i64 0]) ∧ Parsed W.heap.size w' (.slice a l.length c) l ∧ PS t t.notes tx at_.toNat l ∧ l.length ≤ 65 ∧ Below W.heap.size W w' := fun W hB => parses13ok (hq W hB).2.2.1 (hq W hB).2.2.2.1 htc (errP_zero hin hsd (Nat.le_refl _))
  obtain ⟨p, hpp⟩ : ∃ p : Nat, at_ = (p : Int) := ⟨at_.toNat, by omega⟩
  subst hpp
  obtain ⟨hg0, hg1⟩ := fine_gi t hfine
  obtain ⟨G, hG⟩ : ∃ G : Nat, t.gi = (G : Int) := ⟨t.gi.toNat, by omega⟩
  have hK : t.notes = 2 * G + 2 := by simp only [Tn.notes, hG]; omega
  have c15 : ∀ W, Below (w.heap.size + 1 + 1) W0 W → Calls Try.prog 15 #[N.v] W fun e w' => e = .returned (.int .i64 (G : Int)) ∧ Below W.heap.size W w' := fun W hB => by
    have h0 := (hq W hB).2.2.2.2
    have := greatest15 hTI W h0.size (fun b hb => h0.block b hb)
    rw [hG] at this
    exact this
  have hpl : p < tx.length + 1 := by have := htx.1; omega
  rw [hK] at c13t
  have hG5 : G ≤ 500 := by omega
  obtain ⟨mu, hmu⟩ : ∃ mu, mu = muchB t tn := ⟨_, rfl⟩
  rw [← hmu] at c11
  have htl : tx.length = tn := htx.1.symm
  clear hmu
  obtain ⟨k, r1, r2, r3, a2, s1, s2, s3, a4, a5, a6, a7, a8⟩ := N
  dsimp only at hq c10 c11 c12 c13t c15
  have hx : ∀ W, Below (w.heap.size + 1 + 1) W0 W → Below w.heap.size w W := fun W hB => (hq W hB).2.2.2.2
  have hsx : ∀ W, Below (w.heap.size + 1 + 1) W0 W → W.cell? ⟨w.heap.size, 0, none⟩ = some (.int .i64 k) ∧ W.cell? ⟨w.heap.size, 1, none⟩ = some (.slice r1 r2 r3) ∧ W.cell? ⟨w.heap.size, 2, none⟩ = some (.int .i64 a2) ∧ W.cell? ⟨w.heap.size, 3, none⟩ = some (.slice s1 s2 s3) ∧ W.cell? ⟨w.heap.size, 4, none⟩ = some (.int .i64 a4) ∧ W.cell? ⟨w.heap.size, 5, none⟩ = some (.int .i64 a5) ∧ W.cell? ⟨w.heap.size, 6, none⟩ = some (.bool a6) ∧ W.cell? ⟨w.heap.size, 7, none⟩ = some (.int .i64 a7) ∧ W.cell? ⟨w.heap.size, 8, none⟩ = some (.string a8) ∧ W.cell? ⟨w.heap.size + 1, 0, none⟩ = some (.slice ad tn tcap) ∧ W.cell? ⟨w.heap.size + 1, 1, none⟩ = some (.int .i64 (p : Int)) := fun W hB => by obtain ⟨⟨o0, o1, o2, o3, o4, o5, o6, o7, o8⟩, ⟨y0, y1⟩, _⟩ := hq W hB; exact ⟨o0, o1, o2, o3, o4, o5, o6, o7, o8, y0, y1⟩
  have HX := hid hx
  have HSX := hid hsx
  have HQ := hid hq
  have HC10 := hid c10
  have HC11 := hid c11
  have HC12 := hid c12
  have HC13t := hid c13t
  have HF := hid hfine
  have HTL := hid htl
  have HC15 := hid c15
  have HPL := hid hpl
  have hf1 := t.fine_from1 HF.out
  have HF1 := hid hf1
  have HSZ := hid hsz
  have HTI := hid hTI
  have HTX := hid htx
  have HNOD := hid hnod
  have HGI := hid hG
  clear hTI htx hq c10 c11 c12 c13t hx hsx hfine htl hsd hsz hnod hin c15 hpl hK hG hg0 hg1 hf1
  go_enter Try.func4, Try.ntmps4
  go_upto_region 1 with fail
  rw [← hW0]
  clear hW0
  obtain ⟨⟨o0, o1, o2, o3, o4, o5, o6, o7, o8⟩, ⟨y0, y1⟩, _⟩ := HQ.out W0 HB0.out
  have HC := HC10.out W0 HB0.out
  go_upto_region 4 with (first | (go_at_call 10; (with_reducible refine HC.mono ?_); rintro e w1 ⟨rfl, hb1⟩; have HB1 : Hid (Below (w.heap.size + 1 + 1) W0 w1) := HB0.out.trans (Joins.below_le hb1 (by omega)); clear hb1 HC o0 o1 o2 o3 o4 o5 o6 o7 o8 y0 y1))
  have hs1' : W0.heap.size ≤ w1.heap.size := HB1.out.size
  obtain ⟨⟨o0, o1, o2, o3, o4, o5, o6, o7, o8⟩, ⟨y0, y1⟩, _⟩ := HQ.out w1 HB1.out
  have HC := HC11.out w1 HB1.out
  cases mu with
  | true =>
    go_wp2_with (first | (go_at_call 11; (with_reducible refine HC.mono ?_); rintro e w2 ⟨rfl, hb2⟩; have HB2 : Hid (Below (w.heap.size + 1 + 1) W0 w2) := HB1.out.trans (Joins.below_le hb2 (by omega)); clear hb2 HC))
    go_ret
    exact ⟨rfl, HX.out _ HB2.out⟩
  | false =>
  go_upto_region 7 with (first | (go_at_call 11; (with_reducible refine HC.mono ?_); rintro e w2 ⟨rfl, hb2⟩; have HB2 : Hid (Below (w.heap.size + 1 + 1) W0 w2) := HB1.out.trans (Joins.below_le hb2 (by omega)); clear hb2 HC o0 o1 o2 o3 o4 o5 o6 o7 o8 y0 y1))
  have hs2' : W0.heap.size ≤ w2.heap.size := HB2.out.size
  obtain ⟨⟨o0, o1, o2, o3, o4, o5, o6, o7, o8⟩, ⟨y0, y1⟩, _⟩ := HQ.out w2 HB2.out
  have HC := awake8 w2
  go_upto_region 8 with (first | (go_at_call 8; (with_reducible refine HC.mono ?_); rintro e w3 ⟨rfl, hb3⟩; have HB3 : Hid (Below (w.heap.size + 1 + 1) W0 w3) := HB2.out.trans (Joins.below_le hb3 (by omega)); clear hb3 HC o0 o1 o2 o3 o4 o5 o6 o7 o8 y0 y1))
  have hs3' : W0.heap.size ≤ w3.heap.size := HB3.out.size
  obtain ⟨⟨o0, o1, o2, o3, o4, o5, o6, o7, o8⟩, ⟨y0, y1⟩, _⟩ := HQ.out w3 HB3.out
  have HC := HC12.out w3 HB3.out
  go_upto_region 9 with (first | (go_at_call 12; (with_reducible refine HC.mono ?_); rintro e w4 ⟨rfl, hb4⟩; have HB4 : Hid (Below (w.heap.size + 1 + 1) W0 w4) := HB3.out.trans (Joins.below_le hb4 (by omega)); clear hb4 HC o0 o1 o2 o3 o4 o5 o6 o7 o8 y0 y1))
  have hs4' : W0.heap.size ≤ w4.heap.size := HB4.out.size
  obtain ⟨⟨o0, o1, o2, o3, o4, o5, o6, o7, o8⟩, ⟨y0, y1⟩, _⟩ := HQ.out w4 HB4.out
  have HC := HC13t.out w4 HB4.out
  go_upto_region 13 with (first | (go_at_call 13; (with_reducible refine HC.mono ?_); rintro e w5 ⟨la, lc, l, rfl, hPl, hSl, hLl, hb5⟩; have HB5 : Hid (Below (w.heap.size + 1 + 1) W0 w5) := HB4.out.trans (Joins.below_le hb5 (by omega)); have HPl := hid hPl; have HSl := hid hSl; clear hPl hSl; clear hb5 HC o0 o1 o2 o3 o4 o5 o6 o7 o8 y0 y1))
  have hs5' : W0.heap.size ≤ w5.heap.size := HB5.out.size
  obtain ⟨⟨o0, o1, o2, o3, o4, o5, o6, o7, o8⟩, ⟨y0, y1⟩, _⟩ := HQ.out w5 HB5.out
  have HC := HC15.out w5 HB5.out
  have hwithin := HSl.out.within (by omega) HF1.out
  have HWI := hid hwithin
  obtain ⟨K, hK⟩ : ∃ K, K = 2 * G + 2 := ⟨_, rfl⟩
  have hmk := fun W => makeN K (by omega) W
  have m1 : IntKind.i64.wrap (2 * (G : Int)) = 2 * (G : Int) := by simp [IntKind.wrap, IntKind.bits, IntKind.signed]; omega
  have m2 : IntKind.i64.wrap (2 * (G : Int) + 2) = (K : Int) := by simp [IntKind.wrap, IntKind.bits, IntKind.signed]; omega
  have hK2 : 2 ≤ K ∧ K ≤ 1002 := by omega
  have HK := hid hK
  clear hwithin hK
  go_upto_region 14 with (first | (go_at_call 15; (with_reducible refine HC.mono ?_); rintro e w6 ⟨rfl, hb6⟩; have HB6 : Hid (Below (w.heap.size + 1 + 1) W0 w6) := HB5.out.trans (Joins.below_le hb6 (by omega)); have HF6 := hid hb6; have hmk6 := hmk w6; clear hb6 HC hmk o0 o1 o2 o3 o4 o5 o6 o7 o8 y0 y1))
  obtain ⟨cb, hcb⟩ : ∃ cb, cb = w6.heap.size := ⟨_, rfl⟩
  obtain ⟨V6, hV6⟩ : ∃ V6, V6 = w6.alloc (.cells (madeCells #[.int .i64 0] K) 3) := ⟨_, rfl⟩
  rw [← hV6, ← hcb]
  have h0 : RI cb K 0 V6 := by rw [hV6, hcb]; exact ⟨_, heap_alloc_new w6 _, by simp [madeCells], fun i hi => by omega⟩
  have h5c : w5.heap.size ≤ cb := by rw [hcb]; exact HF6.out.size
  have hV5 : Below w5.heap.size w5 V6 := by rw [hV6]; exact HF6.out.trans (Joins.below_le (Joins.below_alloc1 w6 _) HF6.out.size)
  have H0 := hid h0
  have HV5 := hid hV5
  clear h0 hV5 hV6 hcb hmk6 HF6 HB6
  go_wp2_with fail
  go_loopw [13] (fun y wq => ∃ i : Nat, y = .int .i64 (i : Int) ∧ i ≤ K ∧ Hid (RI cb K i wq) ∧ Hid (Below w5.heap.size w5 wq)) (fun y _ => K - (intOf y).toNat)
  case atStart => exact ⟨0, rfl, by omega, H0, HV5⟩
  case round =>
    clear H0 HV5
    obtain ⟨i, rfl, hi, HR, HB⟩ := hrel
    by_cases hlt : i < K
    · have b1 : decide ((i : Int) < (K : Int)) = true := by simp; omega
      have b2 : (i : Int) < (K : Int) := by omega
      have ad1 : IntKind.i64.wrap ((i : Int) + 1) = (i : Int) + 1 := by simp [IntKind.wrap, IntKind.bits, IntKind.signed]; omega
      obtain ⟨x0, hx0⟩ := Option.isSome_iff_exists.1 (HR.out.some hlt)
      have fz := HR.out.free i
      go_wp2_with fail
      exact ⟨⟨i + 1, by push_cast; rfl, by omega, HR.out.next hlt, HB.out.setCell h5c _⟩, by simp [intOf]; omega⟩
    · have b1 : decide ((i : Int) < (K : Int)) = false := by simp; omega
      obtain rfl : i = K := by omega
      have HBW : Hid (Below (w.heap.size + 1 + 1) W0 wr) := HB5.out.trans (Joins.below_le HB.out (by omega))
      obtain ⟨⟨o0, o1, o2, o3, o4, o5, o6, o7, o8⟩, ⟨y0, y1⟩, _⟩ := HQ.out wr HBW.out
      go_upto_region 19 with fail
      obtain ⟨Wh, hWh⟩ : ∃ Wh, Wh = wr.alloc (.cells #[.slice none 0 0, .slice ad tn tcap, .int .i64 (p : Int), .int .i64 4000, .slice none 0 0] 42) := ⟨_, rfl⟩
      obtain ⟨hb, hhb⟩ : ∃ hb, hb = wr.heap.size := ⟨_, rfl⟩
      rw [← hWh, ← hhb]
      have hWb : Below wr.heap.size wr Wh := by rw [hWh]; exact Joins.below_alloc1 wr _
      have hWs : Wh.heap.size = hb + 1 := by rw [hWh, hhb]; simp
      have hWn : Wh.heap[hb]? = some (.cells #[.slice none 0 0, .slice ad tn tcap, .int .i64 (p : Int), .int .i64 4000, .slice none 0 0] 42 (0, 0)) := by rw [hWh, hhb]; exact heap_alloc_new wr _
      have h5h : w5.heap.size ≤ hb := by rw [hhb]; exact HB.out.size
      have h5W : Below w5.heap.size w5 Wh := HB.out.trans (Joins.below_le hWb HB.out.size)
      have hwW : Below w.heap.size w Wh := HX.out _ (HB5.out.trans (Joins.below_le h5W (by omega)))
      have hRIh : RI cb i i Wh := by
        obtain ⟨arr, r1, r2, r3⟩ := HR.out
        exact ⟨arr, (hWb.block cb (Array.getElem?_eq_some_iff.1 r1).1).trans r1, r2, r3⟩
      have hcbl : cb < hb := by
        obtain ⟨arr, r1, r2, r3⟩ := HR.out
        rw [hhb]
        exact (Array.getElem?_eq_some_iff.1 r1).1
      have HC := spread17 HTI.out HF.out HNOD.out Wh hwW.size (fun b hb => hwW.block b hb)
      obtain ⟨⟨o0, o1, o2, o3, o4, o5, o6, o7, o8⟩, ⟨y0, y1⟩, _⟩ := HQ.out Wh (HB5.out.trans (Joins.below_le h5W (by omega)))
      have hwh : w.heap.size ≤ hb := by have := HB5.out.size; omega
      have HLAY : Hid (∀ (M : Nv) (w7 : World), TP w7 (fun b => b < w.heap.size ∨ Wh.heap.size ≤ b ∧ b < w7.heap.size) M t.spread → Below Wh.heap.size Wh w7 → Calls Try.prog 16 #[.pointer (some ⟨hb, 0, none⟩), M.v, .int .i64 (-1), .int .i64 0] w7 fun e w8 => e = .returned (.tuple #[]) ∧ Below w5.heap.size w5 w8 ∧ ∃ v QS, LM hb w7.heap.size (.slice ad tn tcap) (.int .i64 (p : Int)) (.int .i64 4000) (.slice none 0 0) w8 v QS ∧ RI cb i i w8 ∧ A2 (Lq (fun b => b < w.heap.size ∨ Wh.heap.size ≤ b ∧ b < w7.heap.size) w8) QS ((t.spread.num 0).ents (.once 1 .through) (-1) 0) ∧ ∀ b, (b < w.heap.size ∨ Wh.heap.size ≤ b ∧ b < w7.heap.size) → b < w7.heap.size ∧ b ≠ hb) := fun M w7 hT h7 => by
        have hs7 := h7.size
        have hAA : ∀ b, (b < w.heap.size ∨ Wh.heap.size ≤ b ∧ b < w7.heap.size) → b < w7.heap.size ∧ b ≠ hb := fun b h => by rcases h with h | h <;> constructor <;> omega
        have hL0 : LM hb w7.heap.size (.slice ad tn tcap) (.int .i64 (p : Int)) (.int .i64 4000) (.slice none 0 0) w7 (.slice none 0 0) [] := ⟨(h7.block hb (by omega)).trans hWn, World.ownsRow_nil _ _ _ _, by omega, Nat.le_refl _⟩
        have hnd := spread_nodes t HF.out
        have hsz := HSZ.out
        refine (lay16 hAA hT w7 (.slice none 0 0) [] (-1) 0 (fun _ _ => rfl) hL0 (by simp; omega) (by omega) (by omega) (by omega)).mono ?_
        rintro e w8 ⟨rfl, v, QS, g1, g2, g3⟩
        have h57 : Below w5.heap.size w5 w7 := h5W.trans (Joins.below_le h7 (by omega))
        refine ⟨rfl, ⟨g2.os.trans h57.os, g2.tape.trans h57.tape, g2.output.trans h57.output, by have := g2.size; have := h57.size; omega, fun b hb' => (g2.low b (by have := h57.size; omega) (by omega)).trans (h57.block b hb')⟩, v, QS, g1, ?_, g3 _ w8 (Rob.refl _ _ _ _ _), hAA⟩
        obtain ⟨arr, r1, r2, r3⟩ := hRIh
        exact ⟨arr, (g2.low cb (by omega) (by omega)).trans ((h7.block cb (by omega)).trans r1), r2, r3⟩
      have H5W := hid h5W
      have HWS := hid hWs
      have HHB := hid hhb
      clear hWh hhb hWb hWn h5W hwW hRIh hWs HR HB HBW
      go_upto_region 20 with (first | (go_at_call 17; (with_reducible refine HC.mono ?_); rintro e w7 ⟨M, rfl, hTM, hb7⟩; have HC := HLAY.out M w7 hTM hb7; clear hTM hb7) | (go_at_call 16; (with_reducible refine HC.mono ?_); rintro e w8 ⟨rfl, hb8, v8, QS, hL8, hR8, hQ8, hA8⟩; have HB8 := hid hb8; have HL8 := hid hL8; have HR8 := hid hR8; have HQ8 := hid hQ8; have HA8 := hid hA8; clear hb8 hL8 hR8 hQ8 hA8))
      obtain ⟨_, ⟨y0, y1⟩, _⟩ := HQ.out w8 (HB5.out.trans (Joins.below_le HB8.out (by omega)))
      have hwW8 : Below w.heap.size w w8 := HX.out _ (HB5.out.trans (Joins.below_le HB8.out (by omega)))
      have htx8 : Look.TextAt hb w8 ad tn tx := text_below HTX.out hwW8 hwh
      have hPS : PS t i tx p l := by have h := HSl.out; rw [Int.toNat_natCast] at h; rw [HK.out]; exact h
      have HC := hunt_done (cv := .slice (some ⟨cb, 0, none⟩) i i) HF.out HSZ.out HL8.out HA8.out HQ8.out htx8 htn (by rw [HGI.out]; have := HK.out; omega) (by omega) (ri_rw HR8.out (by omega)) hPS
      have hbl8 := (Array.getElem?_eq_some_iff.1 HL8.out.box).1
      have HBL8 := hid hbl8
      clear hwW8 htx8 hPS hbl8 HL8 HR8 HQ8 HA8
      go_upto_region 21 with (first | (go_at_call 18; (with_reducible refine HC.mono ?_); rintro e w9 ⟨rfl, x0, x1, x2, left, v9, out, hbx, hPo, hol, hlf, q1, q2, q3, q4, q5⟩; have HBX := hid hbx; have HPO := hid hPo; have HOL := hid hol; have HB9 : Hid (Below w5.heap.size w5 w9) := (⟨q1.trans HB8.out.os, q2.trans HB8.out.tape, q3.trans HB8.out.output, (by have := HB8.out.size; omega), fun b hb' => (q5 b (by have := HB8.out.size; omega) (by omega)).trans (HB8.out.block b hb')⟩ : Below w5.heap.size w5 w9); clear hbx hPo hol q1 q2 q3 q4 q5 HC y0 y1))
      have k3 := Joins.cell_of_block HBX.out 3
      have k4 := Joins.cell_of_block HBX.out 4
      simp only [List.getElem?_toArray, List.getElem?_cons_succ, List.getElem?_cons_zero] at k3 k4
      have HBF : Hid (Below w.heap.size w w9) := HX.out _ (HB5.out.trans (Joins.below_le HB9.out (by omega)))
      by_cases hlt : left < 0
      · have b1' : decide (left < 0) = true := by simpa using hlt
        clear k4
        go_wp2_with fail
        go_ret
        exact ⟨by first | rfl | simp, HBF.out⟩
      · have b1' : decide (left < 0) = false := by simpa using hlt
        have eo := HOL.out (by omega)
        subst eo
        obtain ⟨a9, c9, rfl⟩ := HPO.out.form
        have HC := same19 out (.slice la out.length lc) (.slice a9 out.length c9) w9 (HPl.out.kept HB9.out) HPO.out (by omega) (fun x hx => by have := (HWI.out x hx).len; omega)
        go_wp2_with (first | (go_at_call 19; (with_reducible refine HC.mono ?_); rintro e w10 ⟨rfl, hb10⟩; have HB10 := hid hb10; clear hb10 HC))
        go_ret
        exact ⟨by first | rfl | simp, HBF.out.trans (Joins.below_le HB10.out (by have := HBF.out.size; omega))⟩
end Go.Proofs.Ytnpocciioedgpaa
namespace Go.Proofs.Ytnpocciioedgpaa
open Go.ChangeShapes Go.WideShapes Go.ChangeAt Go.RowKit
set_option linter.unusedVariables false
set_option linter.unusedSimpArgs false
set_option maxRecDepth 100000 in
theorem meaningWalksLifted (os : Os) (started : os.Started) (H : Type) (enc : TypeId × Value → H) :
    ReturnsInHanded {} Try.checked os 4 .any (Rows.meaningWalksSpec.pre6 enc Try.prog Try.f4 Rows.meaningWalksRow.domain false) (Rows.meaningWalksSpec.post enc Try.prog Try.f4 false true false false) := by
  refine returnsInHanded_of_change_sized (C := Try.checked) ownB started (by kernel_rfl) Try.func4
    (ChangeSpec.witness6 (enc := enc) (C := Try.checked) false ⟨#[], #[.agg #[.int .i64 0, .slice none 0 0, .int .i64 0, .slice none 0 0, .int .i64 0, .int .i64 0, .bool false, .int .i64 0, .string ⟨#[]⟩], .agg #[.slice none 0 0, .int .i64 0]], []⟩ 8 (by kernel_rfl) (by kernel_rfl) (by kernel_rfl) (by kernel_rfl)) ?_
  intro W base args ds gs before hval0 hW hcnd0 hsz0 hholds
  have hval : ∀ (j : Nat) t v, Try.f4.params[j]? = some t → args[j]? = some v → Value.okWide Try.prog W .any base t v := hval0
  have hsz : (DataW.weightsEach Try.prog (Try.f4.params.toList ++ Rows.meaningWalksSpec.plain.varTypes Try.prog) (ds ++ gs)).all (· ≤ reachBytes) = true := hsz0
  have hW' := hW
  obtain ⟨p, q, hA0, hV, rfl, hfz, hnd⟩ := hW
  have hA : DataW.TrodAll enc Try.prog W 0 (fun _ => true) true Try.f4.params.toList args.toList ds p := hA0
  rw [Try.params4] at hA hval hsz
  obtain ⟨v0, vs0, d0, ds0, p0, q0, hargs, rfl, rfl, h0, r0⟩ := trodAll_cons hA
  obtain ⟨v1, vs1, d1, ds1, p1, q1, rfl, rfl, rfl, h1, r1⟩ := trodAll_cons r0
  obtain ⟨rfl, rfl, rfl⟩ := trodAll_nil r1
  obtain rfl : args = #[v0, v1] := by cases args; simp_all
  obtain ⟨rfl, rfl⟩ := trodVars_none hV
  have hlt0 : ∀ x ∈ p0, x.block < W.heap.size := fun x hx => by have := hW'.lt x (by simp [hx]); simpa using this
  have hlt1 : ∀ x ∈ p1, x.block < W.heap.size := fun x hx => by have := hW'.lt x (by simp [hx]); simpa using this
  obtain ⟨N, t, rfl, hT⟩ := node_arg (hval 0 28 v0 rfl rfl) h0
  obtain ⟨tx, ad, tn, tcap, at_, rfl, htc, hX⟩ := asked_arg (hval 1 31 v1 rfl rfl) h1 (fun elems spare rest hd => sized_asked hsz (j := 1) rfl (by rw [hd]; rfl))
  clear hA0 hval0
  have HL : Calls Try.prog 4 #[N.v, .agg #[.slice ad tn tcap, .int .i64 at_]] W fun e w' => e = .returned (.bool true) ∧ Below W.heap.size W w' := by
    cases hm : mayB t tn at_ with
    | false => exact walks4_out N t tx ad tn tcap at_ W hT hX htc hm
    | true => exact walks4_in N t tx ad tn tcap at_ W hT hX htc hm
  refine HL.mono fun e W' ⟨he, hb⟩ => ?_
  subst he
  exact ⟨_, rfl, _, _, _, [], p0 ++ (p1 ++ []), [], hW', trodAll_cons_mk (shut_bool Try.underlying4 _) trodAll_mk0, trodAll_cons_mk (Below.trod laidOut (by kernel_rfl) (of_decide_eq_true (by kernel_rfl)) h0 hb hlt0) (trodAll_cons_mk (Below.trod laidOut (by kernel_rfl) (of_decide_eq_true (by kernel_rfl)) h1 hb hlt1) trodAll_mk0), rfl, hb.frame _, fun h => by cases h⟩
theorem meaningWalks_holds : Rows.MeaningWalksSaid :=
  OpenClaim.holds_of_wide 4 Try.f4 rfl rfl rfl rfl rfl rfl rfl ⟨rfl, rfl, rfl, rfl, rfl⟩ rfl rfl rfl rfl rfl (by kernel_rfl) Try.func4 (by kernel_rfl)
    (of_decide_eq_true (by kernel_rfl)) (by unfold Func.isWrapper; first | (rw [if_pos (by decide +kernel)]; kernel_rfl) | (rw [if_neg (by decide +kernel)]; exact ⟨rfl, rfl⟩))
    (fun os started H enc _ => meaningWalksLifted os started H enc)
end Go.Proofs.Ytnpocciioedgpaa
