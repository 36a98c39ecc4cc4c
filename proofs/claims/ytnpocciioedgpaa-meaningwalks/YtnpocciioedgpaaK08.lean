/- HELPERS: the table of every fine tree, in memory. -/
import Derived.Test.YtnpocciioedgpaaK07
import Derived.BigRegion
import Derived.Deep.RegionHeld2
/- HELPERS: tables from place to place in memory. -/
namespace Go.Proofs.Ytnpocciioedgpaa
open Go.RowKit
set_option linter.unusedVariables false
set_option linter.unusedSimpArgs false
/-- the value of a row of n bools at a block -/
abbrev rowV (n b : Nat) : Value := .slice (some ⟨b, 0, none⟩) n n
/-- a table in memory: its rows' blocks, what it says -/
structure TB (N : Nat) (w : World) (g cap n : Nat) (rs : List Nat) (f : Tb) : Prop where
  row : w.ownsRow N 47 1 (.slice (some ⟨g, 0, none⟩) n cap) n (rs.map (rowV n))
  len : rs.length = n
  nd : rs.Nodup
  br : ∀ i, i < n → BR w (rs.getD i 0) n (f i)
  low : ∀ b ∈ rs, N ≤ b ∧ b ≠ g
theorem getD_mem {rs : List Nat} {i : Nat} (h : i < rs.length) : rs.getD i 0 ∈ rs := by
  rw [List.getD_eq_getElem?_getD, List.getElem?_eq_getElem h]
  exact List.getElem_mem h
theorem TB.outer {N : Nat} {w : World} {g cap n : Nat} {rs : List Nat} {f : Tb} (h : TB N w g cap n rs f) {i : Nat} (hi : i < n) : w.cell? ⟨g, i, none⟩ = some (rowV n (rs.getD i 0)) := by
  have hl := h.len
  rw [h.row.cellAt i (by simp; omega)]
  simp [List.getD_eq_getElem?_getD, List.getElem?_eq_getElem (show i < rs.length by omega)]
theorem TB.cell {N : Nat} {w : World} {g cap n : Nat} {rs : List Nat} {f : Tb} (h : TB N w g cap n rs f) {i k : Nat} (hi : i < n) (hk : k < n) : w.cell? ⟨rs.getD i 0, k, none⟩ = some (.bool (f i k)) := (h.br i hi).cell hk
theorem TB.free {N : Nat} {w : World} {g cap n : Nat} {rs : List Nat} {f : Tb} (h : TB N w g cap n rs f) {i : Nat} (hi : i < n) (k : Nat) : w.frozen? ⟨rs.getD i 0, k, none⟩ = false := (h.br i hi).free k
theorem TB.lt {N : Nat} {w : World} {g cap n : Nat} {rs : List Nat} {f : Tb} (h : TB N w g cap n rs f) : N ≤ g ∧ g < w.heap.size := h.row.lt g rfl
theorem TB.rlt {N : Nat} {w : World} {g cap n : Nat} {rs : List Nat} {f : Tb} (h : TB N w g cap n rs f) {i : Nat} (hi : i < n) : N ≤ rs.getD i 0 ∧ rs.getD i 0 < w.heap.size := ⟨(h.low _ (getD_mem (by have := h.len; omega))).1, (h.br i hi).lt⟩
theorem TB.as {N : Nat} {w : World} {g cap n : Nat} {rs : List Nat} {f f' : Tb} (h : TB N w g cap n rs f) (he : ∀ i k, i < n → k < n → f i k = f' i k) : TB N w g cap n rs f' := ⟨h.row, h.len, h.nd, fun i hi => (h.br i hi).as (fun k hk => he i k hi hk), h.low⟩
theorem TB.le {N N' : Nat} {w : World} {g cap n : Nat} {rs : List Nat} {f : Tb} (h : TB N w g cap n rs f) (hN : N' ≤ N) : TB N' w g cap n rs f := ⟨Joins.ownsRow_le h.row hN, h.len, h.nd, h.br, fun b hb => ⟨by have := (h.low b hb).1; omega, (h.low b hb).2⟩⟩
theorem TB.kept {N : Nat} {w w' : World} {g cap n : Nat} {rs : List Nat} {f : Tb} (h : TB N w g cap n rs f) (hk : ∀ b, N ≤ b → b < w.heap.size → w'.heap[b]? = w.heap[b]?) : TB N w' g cap n rs f :=
  ⟨row_kept h.row (fun b hb => hk b (h.row.lt b hb).1 (h.row.lt b hb).2), h.len, h.nd, fun i hi => (h.br i hi).kept (hk _ (h.rlt hi).1 (h.rlt hi).2), h.low⟩
theorem TB.below {N : Nat} {w w' : World} {g cap n : Nat} {rs : List Nat} {f : Tb} (h : TB N w g cap n rs f) (hb : Below w.heap.size w w') : TB N w' g cap n rs f := h.kept fun b _ h2 => hb.block b h2
theorem TB.drew {N : Nat} {w : World} {g cap n : Nat} {rs : List Nat} {f : Tb} (h : TB N w g cap n rs f) : TB N w.drew g cap n rs f := h.kept fun b _ h2 => rfl
theorem nodup_getD {rs : List Nat} (h : rs.Nodup) {i j : Nat} (hi : i < rs.length) (hj : j < rs.length) (he : rs.getD i 0 = rs.getD j 0) : i = j := by
  simp only [List.getD_eq_getElem?_getD, List.getElem?_eq_getElem hi, List.getElem?_eq_getElem hj, Option.getD_some] at he
  have hp := List.pairwise_iff_getElem.1 h
  rcases Nat.lt_trichotomy i j with h1 | h1 | h1
  · exact absurd he (hp i j hi hj h1)
  · exact h1
  · exact absurd he.symm (hp j i hj hi h1)
/-- one place of a table written -/
theorem TB.set {N : Nat} {w : World} {g cap n : Nat} {rs : List Nat} {f : Tb} (h : TB N w g cap n rs f) {i k : Nat} (hi : i < n) (x : Bool) : TB N (w.setCell ⟨rs.getD i 0, k, none⟩ (.bool x)) g cap n rs (fun p q => if p = i ∧ q = k then x else f p q) := by
  have hl := h.len
  refine ⟨own_setCell h.row (fun e => ?_), h.len, h.nd, fun p hp => ?_, h.low⟩
  · have := (h.low _ (getD_mem (rs := rs) (i := i) (by omega))).2
    simp [Value.ownBlock] at e
    simp only [List.getD_eq_getElem?_getD] at this
    exact this e.symm
  · by_cases e : p = i
    · subst e
      exact ((h.br p hp).set k x).as (fun q hq => by by_cases e2 : q = k <;> simp [e2])
    · have hne : rs.getD p 0 ≠ rs.getD i 0 := fun he => e (nodup_getD h.nd (by omega) (by omega) he)
      exact ((h.br p hp).kept (Below.heap_setCell _ _ _ _ hne)).as (fun q hq => by simp [e])
/-- another table, apart, when a place is written -/
theorem TB.apart {N M w0 : Nat} {w : World} {g cap n g' cap' n' : Nat} {rs rs' : List Nat} {f f' : Tb} (h : TB N w g cap n rs f) (h' : TB M w g' cap' n' rs' f') (hM : w0 ≤ M) (hg : g < w0) (hr : ∀ b ∈ rs, b < w0) {i k : Nat} (hi : i < n') (x : Bool) : TB N (w.setCell ⟨rs'.getD i 0, k, none⟩ (.bool x)) g cap n rs f := by
  have hb := (h'.rlt hi).1
  refine ⟨own_setCell h.row (fun e => ?_), h.len, h.nd, fun p hp => (h.br p hp).kept (Below.heap_setCell _ _ _ _ ?_), h.low⟩
  · simp [Value.ownBlock] at e
    simp only [List.getD_eq_getElem?_getD] at hb
    omega
  · have := hr _ (getD_mem (rs := rs) (i := p) (by have := h.len; omega))
    show rs.getD p 0 ≠ rs'.getD i 0
    omega
theorem info47 : (Try.prog.info? 47).map (fun i => (i.zero, i.size, i.bytes)) = some (some (.slice none 0 0), 1, 24) := by kernel_rfl
set_option maxRecDepth 100000 in
set_option maxHeartbeats 4000000 in
theorem lines42 (n : Nat) (hn : n ≤ 65) (h1 : 1 ≤ n) (w : World) :
    Calls Try.prog 42 #[.int .i64 (n : Int)] w fun e w' => ∃ g cap rs, e = .returned (.slice (some ⟨g, 0, none⟩) n cap) ∧ TB w.heap.size w' g cap n rs (fun _ _ => false) ∧ Below w.heap.size w w' := by
  have hmk := fun W => makeB n (by omega) W
  obtain ⟨i0, hi0, hz0, hz1, hz2⟩ := info_parts info47
  go_enter Try.func42, Try.ntmps42
  go_wp2
  go_loopw [3, 4] (fun u x wq => ∃ (i : Nat) (u1 : Option Addr) (u3 : Nat), u = .slice u1 i u3 ∧ x = .int .i64 (i : Int) ∧ i ≤ n ∧ Hid (∃ rs : List Nat, wq.ownsRow w.heap.size 47 1 (.slice u1 i u3) i (rs.map (rowV n)) ∧ rs.length = i ∧ rs.Nodup ∧ (∀ b ∈ rs, BR wq b n (fun _ => false) ∧ w.heap.size ≤ b ∧ (Value.slice u1 i u3).ownBlock ≠ some b)) ∧ Hid (Below w.heap.size w wq)) (fun _ x _ => n - (intOf x).toNat)
  case atStart => exact ⟨0, none, 0, rfl, rfl, by omega, by exact ⟨[], World.ownsRow_nil _ _ _ _, rfl, List.nodup_nil, fun b hb => by cases hb⟩, by exact Below.refl _ _⟩
  case round =>
    obtain ⟨i, u1, u3, rfl, rfl, hi, HI, BK⟩ := hrel
    by_cases hlt : i < n
    · have b1 : decide ((i : Int) < (n : Int)) = true := by simp; omega
      have ad1 : IntKind.i64.wrap ((i : Int) + 1) = (i : Int) + 1 := by simp [IntKind.wrap, IntKind.bits, IntKind.signed]; omega
      have hm1 := hmk wr
      obtain ⟨rs, hrow, hlen, hnd, hbr⟩ := HI.out
      have h0 := BR.made wr n
      obtain ⟨V, hV⟩ : ∃ V, V = wr.alloc (.cells (madeCells #[.bool false] n) 4) := ⟨_, rfl⟩
      rw [← hV] at hm1 h0
      have hVb : Below wr.heap.size wr V := by rw [hV]; exact Joins.below_alloc1 wr _
      have hVs : V.heap.size = wr.heap.size + 1 := by rw [hV]; simp
      have hrowV : V.ownsRow w.heap.size 47 1 (.slice u1 i u3) i (rs.map (rowV n)) := row_kept hrow (fun b hb => hVb.block b (hrow.lt b hb).2)
      have hs0 := BK.out.size
      have HROW := hid hrow
      have HRV := hid hrowV
      have HLEN := hid hlen
      have HND := hid hnd
      have HBR := hid hbr
      have H0 := hid h0
      have HVB := hid hVb
      have HVS := hid hVs
      clear hrow hrowV hlen hnd hbr h0 hVb hVs hV HI hmk
      have hsV : w.heap.size ≤ V.heap.size := by have := HVS.out; omega
      go_wp2_with (first | (at_builtin; refine wpList_append_move rfl (.tmp 10) (.tmp 13) 48 rfl w.heap.size 47 i0 (.slice none 0 0) 24 Try.underlying48 hi0 hz0 hz1 hz2 rfl (.slice u1 i u3) i (rs.map (rowV n)) rfl (HRV.out.alloc _) ⟨V.heap.size, 0, none⟩ 1 1 [rowV n wr.heap.size] rfl rfl (by decide) (by intro j y hj; match j, hj with | 0, hj => (simp at hj; subst hj; simp [Addr.add])) (by intro y hy; simp at hy; subst hy; rfl) (by unfold maxLen; omega) (by omega) (by simp; omega) ?_; intro v' w3 ho3 hm3; obtain ⟨vb, vc, rfl⟩ := Joins.ownsRow_form ho3.out (by omega)))
      have hold : ∀ k, k < V.heap.size → (Value.slice u1 i u3).ownBlock ≠ some k → w3.heap[k]? = V.heap[k]? := fun k hk hne => (moved_old' hm3.out (by simp; omega) hne).trans (heap_alloc_old V _ hk)
      have hs3 : V.heap.size ≤ w3.heap.size := by rcases hm3.out with ⟨_, h⟩ | ⟨_, h⟩ <;> (have := h.size; simp at this; omega)
      have hvs := HVS.out
      have hnew : ∀ b, b < V.heap.size → (Value.slice u1 i u3).ownBlock ≠ some b → (Value.slice (some ⟨vb, 0, none⟩) (i + 1) vc).ownBlock ≠ some b := fun b hb hne => by
        rcases hm3.out with ⟨e, _⟩ | ⟨e, _⟩
        · rw [e]; exact hne
        · rw [e]; simp; omega
      have hne0 : (Value.slice u1 i u3).ownBlock ≠ some wr.heap.size := fun e => by have := (HROW.out.lt _ e).2; omega
      have hbel : Below w.heap.size w w3 := by
        refine ⟨?_, ?_, ?_, by omega, fun k hk => (hold k (by omega) (fun e => by have := (HROW.out.lt k e).1; omega)).trans ((HVB.out.block k (by omega)).trans (BK.out.block k hk))⟩
        · rcases hm3.out with ⟨_, h⟩ | ⟨_, h⟩ <;> exact h.os.trans (HVB.out.os.trans BK.out.os)
        · rcases hm3.out with ⟨_, h⟩ | ⟨_, h⟩ <;> exact h.tape.trans (HVB.out.tape.trans BK.out.tape)
        · rcases hm3.out with ⟨_, h⟩ | ⟨_, h⟩ <;> exact h.output.trans (HVB.out.output.trans BK.out.output)
      have hex : ∃ rs : List Nat, w3.ownsRow w.heap.size 47 1 (.slice (some ⟨vb, 0, none⟩) (i + 1) vc) (i + 1) (rs.map (rowV n)) ∧ rs.length = i + 1 ∧ rs.Nodup ∧ (∀ b ∈ rs, BR w3 b n (fun _ => false) ∧ w.heap.size ≤ b ∧ (Value.slice (some ⟨vb, 0, none⟩) (i + 1) vc).ownBlock ≠ some b) := by
        refine ⟨rs ++ [wr.heap.size], by rw [List.map_append]; exact ho3.out, by simp [HLEN.out], ?_, fun b hb => ?_⟩
        · rw [List.nodup_append]
          refine ⟨HND.out, by simp, fun a ha b hb => ?_⟩
          simp at hb
          subst hb
          have := (HBR.out a ha).1.lt
          omega
        · simp only [List.mem_append, List.mem_singleton] at hb
          rcases hb with hb | rfl
          · obtain ⟨q1, q2, q3⟩ := HBR.out b hb
            have := q1.lt
            exact ⟨q1.kept ((hold b (by omega) q3).trans (HVB.out.block b q1.lt)), q2, hnew b (by omega) q3⟩
          · exact ⟨H0.out.kept (hold _ (by omega) hne0), hs0, hnew _ (by omega) hne0⟩
      exact ⟨⟨i + 1, _, _, rfl, by push_cast; rfl, by omega, hex, hbel⟩, by simp [intOf]; omega⟩
    · have b1 : decide ((i : Int) < (n : Int)) = false := by simp; omega
      obtain rfl : i = n := by omega
      obtain ⟨rs, hrow, hlen, hnd, hbr⟩ := HI.out
      obtain ⟨vb, vc, hf⟩ := Joins.ownsRow_form hrow (by omega)
      simp only [Value.slice.injEq] at hf
      obtain ⟨rfl, _, rfl⟩ := hf
      have hfin : TB w.heap.size wr vb u3 i rs (fun _ _ => false) := ⟨hrow, hlen, hnd, fun j hj => (hbr _ (getD_mem (by omega))).1, fun b hb => ⟨(hbr b hb).2.1, fun e => (hbr b hb).2.2 (by rw [e]; rfl)⟩⟩
      have HFIN := hid hfin
      clear hrow hlen hnd hbr hfin HI hmk
      go_wp2
      go_ret
      exact ⟨_, _, rs, rfl, HFIN.out, BK.out⟩
end Go.Proofs.Ytnpocciioedgpaa
/- HELPERS: tables: each place to itself; by one of both. -/
namespace Go.Proofs.Ytnpocciioedgpaa
open Go.RowKit
set_option linter.unusedVariables false
set_option linter.unusedSimpArgs false
theorem TB.bnd {N : Nat} {w : World} {g cap n : Nat} {rs : List Nat} {f : Tb} (h : TB N w g cap n rs f) : ∀ b ∈ rs, b < w.heap.size := fun b hb => by
  obtain ⟨i, hi, rfl⟩ := List.mem_iff_getElem.1 hb
  have := (h.br i (by have := h.len; omega)).lt
  rwa [List.getD_eq_getElem?_getD, List.getElem?_eq_getElem hi] at this
theorem below_set {w wq : World} {N g cap n : Nat} {rs : List Nat} {f : Tb} (hB : Below w.heap.size w wq) (h : TB w.heap.size wq g cap n rs f) {i : Nat} (hi : i < n) (k : Nat) (x : Value) : Below w.heap.size w (wq.setCell ⟨rs.getD i 0, k, none⟩ x) := hB.setCell (by exact (h.rlt hi).1) _
set_option maxRecDepth 100000 in
set_option maxHeartbeats 4000000 in
theorem stays43 (n : Nat) (hn : n ≤ 65) (h1 : 1 ≤ n) (w : World) :
    Calls Try.prog 43 #[.int .i64 (n : Int)] w fun e w' => ∃ g cap rs, e = .returned (.slice (some ⟨g, 0, none⟩) n cap) ∧ TB w.heap.size w' g cap n rs Tb.stays ∧ Below w.heap.size w w' := by
  have HC := lines42 n hn h1 w
  go_enter Try.func43, Try.ntmps43
  go_wp2_with (first | (go_at_call 42; (with_reducible refine HC.mono ?_); rintro e w1 ⟨g, cap, rs, rfl, hT, hb1⟩; have HT := hid hT; have HB1 := hid hb1; clear hT hb1 HC))
  go_loopw [4] (fun x wq => ∃ (i : Nat), x = .int .i64 (i : Int) ∧ i ≤ n ∧ Hid (TB w.heap.size wq g cap n rs (fun p q => decide (q = p ∧ p < i))) ∧ Hid (Below w.heap.size w wq)) (fun x _ => n - (intOf x).toNat)
  case atStart => exact ⟨0, rfl, by omega, by exact HT.out.as (fun i k _ _ => by simp), HB1⟩
  case round =>
    obtain ⟨i, rfl, hi, HI, BK⟩ := hrel
    by_cases hlt : i < n
    · have b1 : decide ((i : Int) < (n : Int)) = true := by simp; omega
      have b2 : (i : Int) < (n : Int) := by omega
      have ad1 : IntKind.i64.wrap ((i : Int) + 1) = (i : Int) + 1 := by simp [IntKind.wrap, IntKind.bits, IntKind.signed]; omega
      have o1 := HI.out.outer hlt
      have o2 := HI.out.cell hlt hlt
      have o3 := HI.out.free hlt i
      have hfin : TB w.heap.size (wr.setCell ⟨rs.getD i 0, i, none⟩ (.bool true)) g cap n rs (fun p q => decide (q = p ∧ p < i + 1)) := (HI.out.set (k := i) hlt true).as (fun p q _ _ => by
        by_cases e : p = i ∧ q = i
        · obtain ⟨rfl, rfl⟩ := e; simp
        · rw [if_neg e]
          rw [Bool.eq_iff_iff, decide_eq_true_eq, decide_eq_true_eq]
          constructor
          · rintro ⟨h1, h2⟩; exact ⟨h1, by omega⟩
          · rintro ⟨h1, h2⟩; exact ⟨h1, by omega⟩)
      have hbel := below_set (N := 0) BK.out HI.out hlt i (.bool true)
      obtain ⟨r, hr⟩ : ∃ r, r = rs.getD i 0 := ⟨_, rfl⟩
      obtain ⟨z, hz⟩ : ∃ z, z = decide (i = i ∧ i < i) := ⟨_, rfl⟩
      rw [← hr] at o1 o2 o3 hfin hbel
      rw [← hz] at o2
      have HF := hid hfin
      have HB := hid hbel
      clear hfin hbel hr hz HI
      go_wp2
      exact ⟨⟨i + 1, by push_cast; rfl, by omega, HF, HB⟩, by simp [intOf]; omega⟩
    · have b1 : decide ((i : Int) < (n : Int)) = false := by simp; omega
      obtain rfl : i = n := by omega
      go_wp2
      go_ret
      exact ⟨g, cap, rs, rfl, HI.out.as (fun p q hp _ => by simp [Tb.stays, hp]), BK.out⟩
set_option maxRecDepth 100000 in
set_option maxHeartbeats 8000000 in
theorem or45 (n : Nat) (hn : n ≤ 65) (h1 : 1 ≤ n) (w : World) {Na Nb ga ca gb cb : Nat} {ra rb : List Nat} {fa fb : Tb} (ha : TB Na w ga ca n ra fa) (hb : TB Nb w gb cb n rb fb) :
    Calls Try.prog 45 #[.slice (some ⟨ga, 0, none⟩) n ca, .slice (some ⟨gb, 0, none⟩) n cb] w fun e w' => ∃ g cap rs, e = .returned (.slice (some ⟨g, 0, none⟩) n cap) ∧ TB w.heap.size w' g cap n rs (Tb.or fa fb) ∧ Below w.heap.size w w' := by
  have HC := lines42 n hn h1 w
  have HA := hid ha
  have HB := hid hb
  clear ha hb
  go_enter Try.func45, Try.ntmps45
  go_wp2_with (first | (go_at_call 42; (with_reducible refine HC.mono ?_); rintro e w1 ⟨g, cap, rs, rfl, hT, hb1⟩; have HT := hid hT; have HB1 := hid hb1; clear hT hb1 HC))
  go_loopw [6] (fun x wq => ∃ (i : Nat), x = .int .i64 (i : Int) ∧ i ≤ n ∧ Hid (TB w.heap.size wq g cap n rs (fun p q => decide (p < i) && (fa p q || fb p q))) ∧ Hid (Below w.heap.size w wq)) (fun x _ => n - (intOf x).toNat)
  case atStart => exact ⟨0, rfl, by omega, by exact HT.out.as (fun i k _ _ => by simp), HB1⟩
  case round =>
    obtain ⟨i, rfl, hi, HI, BK⟩ := hrel
    clear HT HB1
    by_cases hlt : i < n
    · have b1 : decide ((i : Int) < (n : Int)) = true := by simp; omega
      have b2 : (i : Int) < (n : Int) := by omega
      have ad1 : IntKind.i64.wrap ((i : Int) + 1) = (i : Int) + 1 := by simp [IntKind.wrap, IntKind.bits, IntKind.signed]; omega
      go_wp2_with fail
      go_loopw [7] (fun x wq => ∃ (k : Nat), x = .int .i64 (k : Int) ∧ k ≤ n ∧ Hid (TB w.heap.size wq g cap n rs (fun p q => decide (p < i ∨ p = i ∧ q < k) && (fa p q || fb p q))) ∧ Hid (Below w.heap.size w wq)) (fun x _ => n - (intOf x).toNat)
      case atStart => exact ⟨0, rfl, by omega, by exact HI.out.as (fun p q _ _ => by simp), BK⟩
      case round =>
        obtain ⟨k, rfl, hk, HI2, BK2⟩ := hrel
        clear HI BK
        by_cases hlk : k < n
        · have c1 : decide ((k : Int) < (n : Int)) = true := by simp; omega
          have c2 : (k : Int) < (n : Int) := by omega
          have ad2 : IntKind.i64.wrap ((k : Int) + 1) = (k : Int) + 1 := by simp [IntKind.wrap, IntKind.bits, IntKind.signed]; omega
          have hA := HA.out.below BK2.out
          have hB := HB.out.below BK2.out
          have o1 := HI2.out.outer hlt
          have o2 := HI2.out.cell hlt hlk
          have o3 := HI2.out.free hlt k
          have a1 := hA.outer hlt
          have a2 := hA.cell hlt hlk
          have d1 := hB.outer hlt
          have d2 := hB.cell hlt hlk
          have hfin : TB w.heap.size (wr.drew.setCell ⟨rs.getD i 0, k, none⟩ (.bool (fa i k || fb i k))) g cap n rs (fun p q => decide (p < i ∨ p = i ∧ q < k + 1) && (fa p q || fb p q)) := (HI2.out.drew.set (k := k) hlt (fa i k || fb i k)).as (fun p q _ _ => by
            by_cases e : p = i ∧ q = k
            · obtain ⟨rfl, rfl⟩ := e; simp
            · rw [if_neg e]
              congr 1
              rw [Bool.eq_iff_iff, decide_eq_true_eq, decide_eq_true_eq]
              omega)
          have hbel := below_set (N := 0) (wq := wr.drew) BK2.out.drew HI2.out.drew hlt k (.bool (fa i k || fb i k))
          obtain ⟨r, hr⟩ : ∃ r, r = rs.getD i 0 := ⟨_, rfl⟩
          obtain ⟨sa, hsa⟩ : ∃ r, r = ra.getD i 0 := ⟨_, rfl⟩
          obtain ⟨sb, hsb⟩ : ∃ r, r = rb.getD i 0 := ⟨_, rfl⟩
          obtain ⟨x, hx⟩ : ∃ x, x = fa i k := ⟨_, rfl⟩
          obtain ⟨y, hy⟩ : ∃ y, y = fb i k := ⟨_, rfl⟩
          obtain ⟨z, hz⟩ : ∃ z, z = (decide (i < i ∨ i = i ∧ k < k) && (fa i k || fb i k)) := ⟨_, rfl⟩
          rw [← hz] at o2
          rw [← hr] at o1 o2 o3 hfin hbel
          rw [← hsa] at a1 a2
          rw [← hsb] at d1 d2
          rw [← hx] at a2 hfin hbel
          rw [← hy] at d2 hfin hbel
          have HF := hid hfin
          have HBE := hid hbel
          clear hfin hbel hr hsa hsb hx hy hz hA hB HI2 BK2
          cases x with
          | true =>
            simp only [Bool.true_or] at HF HBE
            go_wp2_with fail
            go_region
            all_goals
              go_wp2
              exact ⟨⟨k + 1, by push_cast; rfl, by omega, HF, HBE⟩, by simp [intOf]; omega⟩
          | false =>
            simp only [Bool.false_or] at HF HBE
            go_wp2_with fail
            go_region
            all_goals
              go_wp2
              exact ⟨⟨k + 1, by push_cast; rfl, by omega, HF, HBE⟩, by simp [intOf]; omega⟩
        · have c1 : decide ((k : Int) < (n : Int)) = false := by simp; omega
          obtain rfl : k = n := by omega
          have hfin : TB w.heap.size wr g cap k rs (fun p q => decide (p < i + 1) && (fa p q || fb p q)) := HI2.out.as (fun p q _ hq => by
            congr 1
            rw [Bool.eq_iff_iff, decide_eq_true_eq, decide_eq_true_eq]
            omega)
          have HF := hid hfin
          clear hfin HI2
          go_wp2
          exact ⟨⟨i + 1, by push_cast; rfl, by omega, HF, BK2⟩, by simp [intOf]; omega⟩
    · have b1 : decide ((i : Int) < (n : Int)) = false := by simp; omega
      obtain rfl : i = n := by omega
      go_wp2
      go_ret
      exact ⟨g, cap, rs, rfl, HI.out.as (fun p q hp _ => by simp [Tb.or, hp]), BK.out⟩
end Go.Proofs.Ytnpocciioedgpaa
/- HELPERS: tables: by the one and then by the other one; as often as one likes. -/
namespace Go.Proofs.Ytnpocciioedgpaa
open Go.RowKit
set_option linter.unusedVariables false
set_option linter.unusedSimpArgs false
/-- through, so far -/
def thrS (n : Nat) (a b : Tb) (i j k : Nat) : Tb := fun p q => if p < i then Tb.thr n a b p q else if p = i then ((List.range j).any fun m => a p m && b m q) || (decide (q < k) && a p j && b j q) else false
theorem thrS_step {n : Nat} {a b : Tb} {i j k : Nat} (ha : a i j = true) (p q : Nat) : (if p = i ∧ q = k then (thrS n a b i j k i k || b j k) else thrS n a b i j k p q) = thrS n a b i j (k + 1) p q := by
  by_cases e : p = i ∧ q = k
  · obtain ⟨rfl, rfl⟩ := e
    simp [thrS, ha]
  · rw [if_neg e]
    simp only [thrS]
    by_cases h1 : p < i
    · simp [h1]
    · by_cases h2 : p = i
      · subst h2
        have hq : q ≠ k := fun h => e ⟨rfl, h⟩
        have : decide (q < k) = decide (q < k + 1) := by rw [Bool.eq_iff_iff, decide_eq_true_eq, decide_eq_true_eq]; omega
        simp [this]
      · simp [h1, h2]
theorem thrS_nextj {n : Nat} {a b : Tb} {i j k : Nat} (hk : a i j = false ∨ n ≤ k) (p q : Nat) (hq : q < n) : thrS n a b i j k p q = thrS n a b i (j + 1) 0 p q := by
  simp only [thrS]
  by_cases h1 : p < i
  · simp [h1]
  · by_cases h2 : p = i
    · subst h2
      rw [List.range_succ, List.any_append]
      rcases hk with hk | hk
      · simp [hk]
      · simp [show q < k by omega]
    · simp [h1, h2]
theorem thrS_nexti {n : Nat} {a b : Tb} {i : Nat} (p q : Nat) : thrS n a b i n 0 p q = thrS n a b (i + 1) 0 0 p q := by
  simp only [thrS]
  by_cases h1 : p < i
  · simp [h1, show p < i + 1 by omega]
  · by_cases h2 : p = i
    · subst h2
      simp [Tb.thr]
    · by_cases h3 : p = i + 1
      · subst h3; simp [show ¬ i + 1 < i by omega]
      · simp [h1, h2, h3, show ¬ p < i + 1 by omega]
/-- often, so far -/
def oftS (a : Tb) (j i k : Nat) : Tb := fun p q => if p < i ∨ p = i ∧ q < k then Tb.oft a (j + 1) p q else Tb.oft a j p q
theorem oft_own (a : Tb) (j i : Nat) : Tb.oft a (j + 1) i j = Tb.oft a j i j := by
  simp only [Tb.oft]
  cases Tb.oft a j i j <;> simp
theorem oft_row (a : Tb) (j k : Nat) : Tb.oft a (j + 1) j k = Tb.oft a j j k := by
  simp only [Tb.oft]
  cases Tb.oft a j j k <;> simp
theorem oftS_ij (a : Tb) (j i k : Nat) : oftS a j i k i j = Tb.oft a j i j := by
  simp only [oftS]
  split
  · exact oft_own a j i
  · rfl
theorem oftS_jk (a : Tb) (j i k q : Nat) : oftS a j i k j q = Tb.oft a j j q := by
  simp only [oftS]
  split
  · exact oft_row a j q
  · rfl
theorem oftS_ik (a : Tb) (j i k : Nat) : oftS a j i k i k = Tb.oft a j i k := by
  simp [oftS]
theorem oftS_step {a : Tb} {j i k : Nat} (h : Tb.oft a j i j = true) (p q : Nat) : (if p = i ∧ q = k then (oftS a j i k i k || oftS a j i k j k) else oftS a j i k p q) = oftS a j i (k + 1) p q := by
  by_cases e : p = i ∧ q = k
  · obtain ⟨rfl, rfl⟩ := e
    rw [if_pos ⟨rfl, rfl⟩, oftS_ik, oftS_jk]
    simp [oftS, Tb.oft, h]
  · rw [if_neg e]
    simp only [oftS]
    have : (p < i ∨ p = i ∧ q < k) ↔ (p < i ∨ p = i ∧ q < k + 1) := by omega
    simp only [this]
theorem oftS_nexti {n : Nat} {a : Tb} {j i k : Nat} (h : Tb.oft a j i j = false ∨ n ≤ k) (p q : Nat) (hq : q < n) : oftS a j i k p q = oftS a j (i + 1) 0 p q := by
  simp only [oftS]
  by_cases h1 : p < i
  · simp [h1, show p < i + 1 by omega]
  · by_cases h2 : p = i
    · subst h2
      rcases h with h | h
      · have : Tb.oft a (j + 1) p q = Tb.oft a j p q := by simp [Tb.oft, h]
        simp [this]
      · simp [show q < k by omega]
    · have e1 : ¬ (p < i ∨ p = i ∧ q < k) := by omega
      have e2 : ¬ (p < i + 1 ∨ p = i + 1 ∧ q < 0) := by omega
      rw [if_neg e1, if_neg e2]
theorem oftS_nextj {n : Nat} {a : Tb} {j : Nat} (p q : Nat) (hp : p < n) : oftS a j n 0 p q = oftS a (j + 1) 0 0 p q := by
  simp [oftS, hp]
set_option maxRecDepth 100000 in
set_option maxHeartbeats 8000000 in
theorem through44 (n : Nat) (hn : n ≤ 65) (h1 : 1 ≤ n) (w : World) {Na Nb ga ca gb cb : Nat} {ra rb : List Nat} {fa fb : Tb} (ha : TB Na w ga ca n ra fa) (hb : TB Nb w gb cb n rb fb) :
    Calls Try.prog 44 #[.slice (some ⟨ga, 0, none⟩) n ca, .slice (some ⟨gb, 0, none⟩) n cb] w fun e w' => ∃ g cap rs, e = .returned (.slice (some ⟨g, 0, none⟩) n cap) ∧ TB w.heap.size w' g cap n rs (Tb.thr n fa fb) ∧ Below w.heap.size w w' := by
  have HC := lines42 n hn h1 w
  have HA := hid ha
  have HB := hid hb
  clear ha hb
  go_enter Try.func44, Try.ntmps44
  go_wp2_with (first | (go_at_call 42; (with_reducible refine HC.mono ?_); rintro e w1 ⟨g, cap, rs, rfl, hT, hb1⟩; have HT := hid hT; have HB1 := hid hb1; clear hT hb1 HC))
  go_loopw [6] (fun x wq => ∃ (i : Nat), x = .int .i64 (i : Int) ∧ i ≤ n ∧ Hid (TB w.heap.size wq g cap n rs (thrS n fa fb i 0 0)) ∧ Hid (Below w.heap.size w wq)) (fun x _ => n - (intOf x).toNat)
  case atStart => exact ⟨0, rfl, by omega, by exact HT.out.as (fun i k _ _ => by simp [thrS]), HB1⟩
  case round =>
    obtain ⟨i, rfl, hi, HI, BK⟩ := hrel
    clear HT HB1
    by_cases hlt : i < n
    · have b1 : decide ((i : Int) < (n : Int)) = true := by simp; omega
      have b2 : (i : Int) < (n : Int) := by omega
      have ad1 : IntKind.i64.wrap ((i : Int) + 1) = (i : Int) + 1 := by simp [IntKind.wrap, IntKind.bits, IntKind.signed]; omega
      go_wp2_with fail
      go_loopw [7] (fun x wq => ∃ (j : Nat), x = .int .i64 (j : Int) ∧ j ≤ n ∧ Hid (TB w.heap.size wq g cap n rs (thrS n fa fb i j 0)) ∧ Hid (Below w.heap.size w wq)) (fun x _ => n - (intOf x).toNat)
      case atStart => exact ⟨0, rfl, by omega, HI, BK⟩
      case round =>
        obtain ⟨j, rfl, hj, HI2, BK2⟩ := hrel
        clear HI BK
        by_cases hlj : j < n
        · have j1 : decide ((j : Int) < (n : Int)) = true := by simp; omega
          have j2 : (j : Int) < (n : Int) := by omega
          have ad3 : IntKind.i64.wrap ((j : Int) + 1) = (j : Int) + 1 := by simp [IntKind.wrap, IntKind.bits, IntKind.signed]; omega
          obtain ⟨t, ht⟩ : ∃ t, t = fa i j := ⟨_, rfl⟩
          have HTT := hid ht
          go_wp2_with fail
          go_loopw [8] (fun x wq => ∃ (k : Nat), x = .int .i64 (k : Int) ∧ k ≤ n ∧ Hid (t = false → k = 0) ∧ Hid (TB w.heap.size wq g cap n rs (thrS n fa fb i j k)) ∧ Hid (Below w.heap.size w wq)) (fun x _ => n - (intOf x).toNat)
          case atStart => exact ⟨0, rfl, by omega, by exact fun _ => rfl, HI2, BK2⟩
          case round =>
            obtain ⟨k, rfl, hk, HT0, HI3, BK3⟩ := hrel
            clear HI2 BK2 ht
            have hA := HA.out.below BK3.out
            have a1 := hA.outer hlt
            have a2 := hA.cell hlt hlj
            rw [← HTT.out] at a2
            obtain ⟨sa, hsa⟩ : ∃ r, r = ra.getD i 0 := ⟨_, rfl⟩
            rw [← hsa] at a1 a2
            by_cases hlk : k < n
            · have c1 : decide ((k : Int) < (n : Int)) = true := by simp; omega
              have c2 : (k : Int) < (n : Int) := by omega
              have ad2 : IntKind.i64.wrap ((k : Int) + 1) = (k : Int) + 1 := by simp [IntKind.wrap, IntKind.bits, IntKind.signed]; omega
              cases t with
              | true =>
                have hB := HB.out.below BK3.out
                have o1 := HI3.out.outer hlt
                have o2 := HI3.out.cell hlt hlk
                have o3 := HI3.out.free hlt k
                have d1 := hB.outer hlj
                have d2 := hB.cell hlj hlk
                have hfin : TB w.heap.size (wr.drew.setCell ⟨rs.getD i 0, k, none⟩ (.bool (thrS n fa fb i j k i k || fb j k))) g cap n rs (thrS n fa fb i j (k + 1)) := (HI3.out.drew.set (k := k) hlt _).as (fun p q _ _ => thrS_step HTT.out.symm p q)
                have hbel := below_set (N := 0) (wq := wr.drew) BK3.out.drew HI3.out.drew hlt k (.bool (thrS n fa fb i j k i k || fb j k))
                obtain ⟨r, hr⟩ : ∃ r, r = rs.getD i 0 := ⟨_, rfl⟩
                obtain ⟨sb, hsb⟩ : ∃ r, r = rb.getD j 0 := ⟨_, rfl⟩
                obtain ⟨x, hx⟩ : ∃ x, x = thrS n fa fb i j k i k := ⟨_, rfl⟩
                obtain ⟨y, hy⟩ : ∃ y, y = fb j k := ⟨_, rfl⟩
                rw [← hr] at o1 o2 o3 hfin hbel
                rw [← hsb] at d1 d2
                rw [← hx] at o2 hfin hbel
                rw [← hy] at d2 hfin hbel
                have HF := hid hfin
                have HBE := hid hbel
                clear hfin hbel hr hsa hsb hx hy hA hB HI3 BK3 HT0
                cases x with
                | true =>
                  simp only [Bool.true_or] at HF HBE
                  go_wp2_with fail
                  go_region
                  all_goals
                    go_wp2
                    exact ⟨⟨k + 1, by push_cast; rfl, by omega, (by exact fun h => absurd h (by decide)), HF, HBE⟩, by simp [intOf]; omega⟩
                | false =>
                  simp only [Bool.false_or] at HF HBE
                  go_wp2_with fail
                  go_region
                  all_goals
                    go_wp2
                    exact ⟨⟨k + 1, by push_cast; rfl, by omega, (by exact fun h => absurd h (by decide)), HF, HBE⟩, by simp [intOf]; omega⟩
              | false =>
                have hfin : TB w.heap.size wr g cap n rs (thrS n fa fb i (j + 1) 0) := HI3.out.as (fun p q _ hq => thrS_nextj (.inl HTT.out.symm) p q hq)
                have HF := hid hfin
                clear hfin HI3 hA hsa
                go_wp2
                exact ⟨⟨j + 1, by push_cast; rfl, by omega, HF, BK3⟩, by simp [intOf]; omega⟩
            · have c1 : decide ((k : Int) < (n : Int)) = false := by simp; omega
              have hfin : TB w.heap.size wr g cap n rs (thrS n fa fb i (j + 1) 0) := HI3.out.as (fun p q _ hq => thrS_nextj (.inr (by omega)) p q hq)
              have HF := hid hfin
              clear hfin HI3 hA hsa
              go_wp2
              exact ⟨⟨j + 1, by push_cast; rfl, by omega, HF, BK3⟩, by simp [intOf]; omega⟩
        · have j1 : decide ((j : Int) < (n : Int)) = false := by simp; omega
          obtain rfl : j = n := by omega
          have hfin : TB w.heap.size wr g cap j rs (thrS j fa fb (i + 1) 0 0) := HI2.out.as (fun p q _ _ => thrS_nexti p q)
          have HF := hid hfin
          clear hfin HI2
          go_wp2
          exact ⟨⟨i + 1, by push_cast; rfl, by omega, HF, BK2⟩, by simp [intOf]; omega⟩
    · have b1 : decide ((i : Int) < (n : Int)) = false := by simp; omega
      obtain rfl : i = n := by omega
      go_wp2
      go_ret
      exact ⟨g, cap, rs, rfl, HI.out.as (fun p q hp _ => by simp [thrS, hp]), BK.out⟩
set_option maxRecDepth 100000 in
set_option maxHeartbeats 8000000 in
theorem often59 (n : Nat) (hn : n ≤ 65) (h1 : 1 ≤ n) (w : World) {Na ga ca : Nat} {ra : List Nat} {fa : Tb} (ha : TB Na w ga ca n ra fa) :
    Calls Try.prog 59 #[.slice (some ⟨ga, 0, none⟩) n ca] w fun e w' => ∃ g cap rs, e = .returned (.slice (some ⟨g, 0, none⟩) n cap) ∧ TB w.heap.size w' g cap n rs (Tb.oft fa n) ∧ Below w.heap.size w w' := by
  have HC := stays43 n hn h1 w
  have HA := hid ha
  clear ha
  go_enter Try.func59, Try.ntmps59
  go_wp2_with (first | (go_at_call 43; (with_reducible refine HC.mono ?_); rintro e w0 ⟨gs, caps, rss, rfl, hT, hb1⟩; have HC2 := or45 n hn h1 w0 (HA.out.below hb1) hT; have HB1 := hid hb1; have hs1 := hb1.size; clear hT hb1 HC) | (go_at_call 45; (with_reducible refine HC2.mono ?_); rintro e w1 ⟨g, cap, rs, rfl, hT, hb2⟩; have HT : Hid (TB w.heap.size w1 g cap n rs (Tb.or fa Tb.stays)) := hT.le hs1; have HB2 : Hid (Below w.heap.size w w1) := HB1.out.trans (Joins.below_le hb2 hs1); clear hT hb2 HC2))
  go_loopw [4] (fun x wq => ∃ (j : Nat), x = .int .i64 (j : Int) ∧ j ≤ n ∧ Hid (TB w.heap.size wq g cap n rs (oftS fa j 0 0)) ∧ Hid (Below w.heap.size w wq)) (fun x _ => n - (intOf x).toNat)
  case atStart => exact ⟨0, rfl, by omega, by exact HT.out.as (fun i k _ _ => by simp [oftS, Tb.oft]), HB2⟩
  case round =>
    obtain ⟨j, rfl, hj, HI, BK⟩ := hrel
    clear HT HB1 HB2
    by_cases hlj : j < n
    · have b1 : decide ((j : Int) < (n : Int)) = true := by simp; omega
      have b2 : (j : Int) < (n : Int) := by omega
      have ad1 : IntKind.i64.wrap ((j : Int) + 1) = (j : Int) + 1 := by simp [IntKind.wrap, IntKind.bits, IntKind.signed]; omega
      go_wp2_with fail
      go_loopw [5] (fun x wq => ∃ (i : Nat), x = .int .i64 (i : Int) ∧ i ≤ n ∧ Hid (TB w.heap.size wq g cap n rs (oftS fa j i 0)) ∧ Hid (Below w.heap.size w wq)) (fun x _ => n - (intOf x).toNat)
      case atStart => exact ⟨0, rfl, by omega, HI, BK⟩
      case round =>
        obtain ⟨i, rfl, hi, HI2, BK2⟩ := hrel
        clear HI BK
        by_cases hlt : i < n
        · have j1 : decide ((i : Int) < (n : Int)) = true := by simp; omega
          have j2 : (i : Int) < (n : Int) := by omega
          have ad3 : IntKind.i64.wrap ((i : Int) + 1) = (i : Int) + 1 := by simp [IntKind.wrap, IntKind.bits, IntKind.signed]; omega
          obtain ⟨t, ht⟩ : ∃ t, t = Tb.oft fa j i j := ⟨_, rfl⟩
          have HTT := hid ht
          go_wp2_with fail
          go_loopw [6] (fun x wq => ∃ (k : Nat), x = .int .i64 (k : Int) ∧ k ≤ n ∧ Hid (TB w.heap.size wq g cap n rs (oftS fa j i k)) ∧ Hid (Below w.heap.size w wq)) (fun x _ => n - (intOf x).toNat)
          case atStart => exact ⟨0, rfl, by omega, HI2, BK2⟩
          case round =>
            obtain ⟨k, rfl, hk, HI3, BK3⟩ := hrel
            clear HI2 BK2 ht
            have a1 := HI3.out.outer hlt
            have a2 := HI3.out.cell hlt hlj
            rw [oftS_ij, ← HTT.out] at a2
            have o3 := HI3.out.free hlt k
            obtain ⟨r, hr⟩ : ∃ r, r = rs.getD i 0 := ⟨_, rfl⟩
            by_cases hlk : k < n
            · have c1 : decide ((k : Int) < (n : Int)) = true := by simp; omega
              have c2 : (k : Int) < (n : Int) := by omega
              have ad2 : IntKind.i64.wrap ((k : Int) + 1) = (k : Int) + 1 := by simp [IntKind.wrap, IntKind.bits, IntKind.signed]; omega
              cases t with
              | true =>
                have o2 := HI3.out.cell hlt hlk
                have d1 := HI3.out.outer hlj
                have d2 := HI3.out.cell hlj hlk
                have hfin : TB w.heap.size (wr.drew.setCell ⟨rs.getD i 0, k, none⟩ (.bool (oftS fa j i k i k || oftS fa j i k j k))) g cap n rs (oftS fa j i (k + 1)) := (HI3.out.drew.set (k := k) hlt _).as (fun p q _ _ => oftS_step HTT.out.symm p q)
                have hbel := below_set (N := 0) (wq := wr.drew) BK3.out.drew HI3.out.drew hlt k (.bool (oftS fa j i k i k || oftS fa j i k j k))
                obtain ⟨sb, hsb⟩ : ∃ r, r = rs.getD j 0 := ⟨_, rfl⟩
                obtain ⟨x, hx⟩ : ∃ x, x = oftS fa j i k i k := ⟨_, rfl⟩
                obtain ⟨y, hy⟩ : ∃ y, y = oftS fa j i k j k := ⟨_, rfl⟩
                rw [← hx] at o2 hfin hbel
                rw [← hy] at d2 hfin hbel
                rw [← hr] at a1 a2 o2 o3 hfin hbel
                rw [← hsb] at d1 d2
                have HF := hid hfin
                have HBE := hid hbel
                clear hfin hbel hr hsb hx hy HI3 BK3
                cases x with
                | true =>
                  simp only [Bool.true_or] at HF HBE
                  go_wp2_with fail
                  go_region
                  all_goals
                    go_wp2
                    exact ⟨⟨k + 1, by push_cast; rfl, by omega, HF, HBE⟩, by simp [intOf]; omega⟩
                | false =>
                  simp only [Bool.false_or] at HF HBE
                  go_wp2_with fail
                  go_region
                  all_goals
                    go_wp2
                    exact ⟨⟨k + 1, by push_cast; rfl, by omega, HF, HBE⟩, by simp [intOf]; omega⟩
              | false =>
                have hfin : TB w.heap.size wr g cap n rs (oftS fa j (i + 1) 0) := HI3.out.as (fun p q _ hq => oftS_nexti (.inl HTT.out.symm) p q hq)
                have HF := hid hfin
                rw [← hr] at a1 a2 o3
                clear hfin HI3 hr
                go_wp2
                exact ⟨⟨i + 1, by push_cast; rfl, by omega, HF, BK3⟩, by simp [intOf]; omega⟩
            · have c1 : decide ((k : Int) < (n : Int)) = false := by simp; omega
              have hfin : TB w.heap.size wr g cap n rs (oftS fa j (i + 1) 0) := HI3.out.as (fun p q _ hq => oftS_nexti (.inr (by omega)) p q hq)
              have HF := hid hfin
              rw [← hr] at a1 a2 o3
              clear hfin HI3 hr
              go_wp2
              exact ⟨⟨i + 1, by push_cast; rfl, by omega, HF, BK3⟩, by simp [intOf]; omega⟩
        · have j1 : decide ((i : Int) < (n : Int)) = false := by simp; omega
          obtain rfl : i = n := by omega
          have hfin : TB w.heap.size wr g cap i rs (oftS fa (j + 1) 0 0) := HI2.out.as (fun p q hp _ => oftS_nextj p q hp)
          have HF := hid hfin
          clear hfin HI2
          go_wp2
          exact ⟨⟨j + 1, by push_cast; rfl, by omega, HF, BK2⟩, by simp [intOf]; omega⟩
    · have b1 : decide ((j : Int) < (n : Int)) = false := by simp; omega
      obtain rfl : j = n := by omega
      go_wp2
      go_ret
      exact ⟨g, cap, rs, rfl, HI.out.as (fun p q hp _ => by simp [oftS]), BK.out⟩
end Go.Proofs.Ytnpocciioedgpaa
/- HELPERS: the contract of the document's At. -/
namespace Go.Proofs.Ytnpocciioedgpaa.Look
open Go.RowKit
set_option linter.unusedVariables false
set_option linter.unusedSimpArgs false
theorem atP_mid (l : List Int) (p : Nat) (h0 : 0 < p) (h1 : p < l.length) :
    atP l p = bI (decide (l.getD (p - 1) 0 = 10)) 4 + bI (decide (l.getD p 0 = 10)) 8 + (if wordR (l.getD (p - 1) 0) != wordR (l.getD p 0) then 16 else 32) := by
  have e1 : begB p = false := by unfold begB; simp; omega
  have e2 : endB l p = false := by unfold endB; simp; omega
  have e3 : blB l p = decide (l.getD (p - 1) 0 = 10) := by unfold blB; simp [show ¬ p = 0 by omega]
  have e4 : elB l p = decide (l.getD p 0 = 10) := by unfold elB; simp [show ¬ p = l.length by omega]
  have e5 : edgeB l p = (wordR (l.getD (p - 1) 0) != wordR (l.getD p 0)) := by unfold edgeB waB wbB; simp [h0, h1]
  unfold atP sumB
  rw [e1, e2, e3, e4, e5]
  cases wordR (l.getD (p - 1) 0) != wordR (l.getD p 0) <;> simp [bI]
theorem atP_first (l : List Int) (h1 : 0 < l.length) : atP l 0 = 5 + bI (decide (l.getD 0 0 = 10)) 8 + (if wordR (l.getD 0 0) then 16 else 32) := by
  have e1 : begB 0 = true := by unfold begB; simp
  have e2 : endB l 0 = false := by unfold endB; simp; omega
  have e3 : blB l 0 = true := by unfold blB; simp
  have e4 : elB l 0 = decide (l.getD 0 0 = 10) := by unfold elB; simp [show ¬ 0 = l.length by omega]
  have e5 : edgeB l 0 = wordR (l.getD 0 0) := by unfold edgeB waB wbB; simp [h1]
  unfold atP sumB
  rw [e1, e2, e3, e4, e5]
  cases wordR (l.getD 0 0) <;> cases decide (l.getD 0 0 = 10) <;> simp [bI]
theorem atP_last (l : List Int) (h1 : 0 < l.length) : atP l l.length = 10 + bI (decide (l.getD (l.length - 1) 0 = 10)) 4 + (if wordR (l.getD (l.length - 1) 0) then 16 else 32) := by
  have e1 : begB l.length = false := by unfold begB; simp; intro h; rw [h] at h1; simp at h1
  have e2 : endB l l.length = true := by unfold endB; simp
  have e3 : blB l l.length = decide (l.getD (l.length - 1) 0 = 10) := by unfold blB; simp [show ¬ l.length = 0 by omega]
  have e4 : elB l l.length = true := by unfold elB; simp
  have e5 : edgeB l l.length = wordR (l.getD (l.length - 1) 0) := by unfold edgeB waB wbB; simp [h1]
  unfold atP sumB
  rw [e1, e2, e3, e4, e5]
  cases wordR (l.getD (l.length - 1) 0) <;> cases decide (l.getD (l.length - 1) 0 = 10) <;> simp [bI]
theorem atP_none : atP [] 0 = 47 := by decide +kernel
set_option maxHeartbeats 2000000 in
theorem ref_none (ad : Option Addr) (cap : Nat) (w : World) :
    Calls Try.prog 38 #[.slice ad 0 cap, .int .i64 0] w fun e w' => e = .returned (.int .i64 47) ∧ w' = w := by
  go_enter Try.func38, Try.ntmps38
  go_wp2
  go_ret
  exact ⟨rfl, rfl⟩
set_option maxHeartbeats 2000000 in
theorem ref_first (b off n cap : Nat) (w : World) (hn : 0 < n) (hm : n ≤ 35184372088832) (y A : Int) (W : Bool) (d0 : w.cell? ⟨b, off, none⟩ = some (.int .i64 y)) (hw : ∀ w, Calls Try.prog 57 #[.int .i64 y] w fun e w' => e = .returned (.bool W) ∧ w' = w)
    (HA : Hid (A = 5 + bI (decide (y = 10)) 8 + (if W then 16 else 32))) :
    Calls Try.prog 38 #[.slice (some ⟨b, off, none⟩) n cap, .int .i64 0] w fun e w' => e = .returned (.int .i64 A) ∧ w' = w := by
  by_cases hy : y = 10
  · cases W
    · have hA : A = 45 := by rw [HA.out]; simp [bI, hy]
      rw [hA]
      clear HA hA
      subst hy
      go_enter Try.func38, Try.ntmps38
      go_wp2_with (go_at_call 57; refine (hw _).mono ?_; rintro e w' ⟨rfl, rfl⟩)
      go_ret
      exact ⟨rfl, rfl⟩
    · have hA : A = 29 := by rw [HA.out]; simp [bI, hy]
      rw [hA]
      clear HA hA
      subst hy
      go_enter Try.func38, Try.ntmps38
      go_wp2_with (go_at_call 57; refine (hw _).mono ?_; rintro e w' ⟨rfl, rfl⟩)
      go_ret
      exact ⟨rfl, rfl⟩
  · have hy1 : (y == 10) = false := by simp [hy]
    cases W
    · have hA : A = 37 := by rw [HA.out]; simp [bI, hy]
      rw [hA]
      clear HA hA hy
      go_enter Try.func38, Try.ntmps38
      go_wp2_with (go_at_call 57; refine (hw _).mono ?_; rintro e w' ⟨rfl, rfl⟩)
      go_ret
      exact ⟨rfl, rfl⟩
    · have hA : A = 21 := by rw [HA.out]; simp [bI, hy]
      rw [hA]
      clear HA hA hy
      go_enter Try.func38, Try.ntmps38
      go_wp2_with (go_at_call 57; refine (hw _).mono ?_; rintro e w' ⟨rfl, rfl⟩)
      go_ret
      exact ⟨rfl, rfl⟩
set_option maxHeartbeats 2000000 in
theorem ref_last (b off p cap : Nat) (w : World) (hn : 0 < p) (hm : p ≤ 35184372088832) (y A : Int) (W : Bool) (d0 : w.cell? ⟨b, off + (p - 1), none⟩ = some (.int .i64 y)) (hw : ∀ w, Calls Try.prog 57 #[.int .i64 y] w fun e w' => e = .returned (.bool W) ∧ w' = w)
    (HA : Hid (A = 10 + bI (decide (y = 10)) 4 + (if W then 16 else 32))) :
    Calls Try.prog 38 #[.slice (some ⟨b, off, none⟩) p cap, .int .i64 p] w fun e w' => e = .returned (.int .i64 A) ∧ w' = w := by
  have hp0 : ((p : Int) == 0) = false := by simp; omega
  by_cases hy : y = 10
  · cases W
    · have hA : A = 46 := by rw [HA.out]; simp [bI, hy]
      rw [hA]
      clear HA hA
      subst hy
      go_enter Try.func38, Try.ntmps38
      go_wp2_with (go_at_call 57; refine (hw _).mono ?_; rintro e w' ⟨rfl, rfl⟩)
      go_ret
      exact ⟨rfl, rfl⟩
    · have hA : A = 30 := by rw [HA.out]; simp [bI, hy]
      rw [hA]
      clear HA hA
      subst hy
      go_enter Try.func38, Try.ntmps38
      go_wp2_with (go_at_call 57; refine (hw _).mono ?_; rintro e w' ⟨rfl, rfl⟩)
      go_ret
      exact ⟨rfl, rfl⟩
  · have hy1 : (y == 10) = false := by simp [hy]
    cases W
    · have hA : A = 42 := by rw [HA.out]; simp [bI, hy]
      rw [hA]
      clear HA hA hy
      go_enter Try.func38, Try.ntmps38
      go_wp2_with (go_at_call 57; refine (hw _).mono ?_; rintro e w' ⟨rfl, rfl⟩)
      go_ret
      exact ⟨rfl, rfl⟩
    · have hA : A = 26 := by rw [HA.out]; simp [bI, hy]
      rw [hA]
      clear HA hA hy
      go_enter Try.func38, Try.ntmps38
      go_wp2_with (go_at_call 57; refine (hw _).mono ?_; rintro e w' ⟨rfl, rfl⟩)
      go_ret
      exact ⟨rfl, rfl⟩
set_option maxHeartbeats 2000000 in
theorem ref_mid (b off n p cap : Nat) (w : World) (hn : 0 < p) (hp : p < n) (hm : n ≤ 35184372088832) (x y A : Int) (U W : Bool) (d0 : w.cell? ⟨b, off + (p - 1), none⟩ = some (.int .i64 x)) (d1 : w.cell? ⟨b, off + p, none⟩ = some (.int .i64 y))
    (hx : ∀ w, Calls Try.prog 57 #[.int .i64 x] w fun e w' => e = .returned (.bool U) ∧ w' = w) (hw : ∀ w, Calls Try.prog 57 #[.int .i64 y] w fun e w' => e = .returned (.bool W) ∧ w' = w)
    (X10 Y10 : Bool) (hX : decide (x = 10) = X10) (hY : decide (y = 10) = Y10) (HA : Hid (A = bI X10 4 + bI Y10 8 + (if U != W then 16 else 32))) :
    Calls Try.prog 38 #[.slice (some ⟨b, off, none⟩) n cap, .int .i64 p] w fun e w' => e = .returned (.int .i64 A) ∧ w' = w := by
  have hp0 : ((p : Int) == 0) = false := by simp; omega
  have hX1 : (x == 10) = X10 := by rw [← hX]; rfl
  have hY1 : (y == 10) = Y10 := by rw [← hY]; rfl
  clear hX hY
  cases X10 <;> cases Y10 <;> cases U <;> cases W
  · obtain rfl : A = 32 := HA.out
    go_enter Try.func38, Try.ntmps38
    go_wp2_with fail
    refine (hx _).mono ?_
    rintro e w' ⟨rfl, rfl⟩
    go_wp2_with fail
    refine (hw _).mono ?_
    rintro e w'' ⟨rfl, rfl⟩
    go_wp2
    go_ret
    exact ⟨rfl, rfl⟩
  · obtain rfl : A = 16 := HA.out
    go_enter Try.func38, Try.ntmps38
    go_wp2_with fail
    refine (hx _).mono ?_
    rintro e w' ⟨rfl, rfl⟩
    go_wp2_with fail
    refine (hw _).mono ?_
    rintro e w'' ⟨rfl, rfl⟩
    go_wp2
    go_ret
    exact ⟨rfl, rfl⟩
  · obtain rfl : A = 16 := HA.out
    go_enter Try.func38, Try.ntmps38
    go_wp2_with fail
    refine (hx _).mono ?_
    rintro e w' ⟨rfl, rfl⟩
    go_wp2_with fail
    refine (hw _).mono ?_
    rintro e w'' ⟨rfl, rfl⟩
    go_wp2
    go_ret
    exact ⟨rfl, rfl⟩
  · obtain rfl : A = 32 := HA.out
    go_enter Try.func38, Try.ntmps38
    go_wp2_with fail
    refine (hx _).mono ?_
    rintro e w' ⟨rfl, rfl⟩
    go_wp2_with fail
    refine (hw _).mono ?_
    rintro e w'' ⟨rfl, rfl⟩
    go_wp2
    go_ret
    exact ⟨rfl, rfl⟩
  · obtain rfl : A = 40 := HA.out
    go_enter Try.func38, Try.ntmps38
    go_wp2_with fail
    refine (hx _).mono ?_
    rintro e w' ⟨rfl, rfl⟩
    go_wp2_with fail
    refine (hw _).mono ?_
    rintro e w'' ⟨rfl, rfl⟩
    go_wp2
    go_ret
    exact ⟨rfl, rfl⟩
  · obtain rfl : A = 24 := HA.out
    go_enter Try.func38, Try.ntmps38
    go_wp2_with fail
    refine (hx _).mono ?_
    rintro e w' ⟨rfl, rfl⟩
    go_wp2_with fail
    refine (hw _).mono ?_
    rintro e w'' ⟨rfl, rfl⟩
    go_wp2
    go_ret
    exact ⟨rfl, rfl⟩
  · obtain rfl : A = 24 := HA.out
    go_enter Try.func38, Try.ntmps38
    go_wp2_with fail
    refine (hx _).mono ?_
    rintro e w' ⟨rfl, rfl⟩
    go_wp2_with fail
    refine (hw _).mono ?_
    rintro e w'' ⟨rfl, rfl⟩
    go_wp2
    go_ret
    exact ⟨rfl, rfl⟩
  · obtain rfl : A = 40 := HA.out
    go_enter Try.func38, Try.ntmps38
    go_wp2_with fail
    refine (hx _).mono ?_
    rintro e w' ⟨rfl, rfl⟩
    go_wp2_with fail
    refine (hw _).mono ?_
    rintro e w'' ⟨rfl, rfl⟩
    go_wp2
    go_ret
    exact ⟨rfl, rfl⟩
  · obtain rfl : A = 36 := HA.out
    go_enter Try.func38, Try.ntmps38
    go_wp2_with fail
    refine (hx _).mono ?_
    rintro e w' ⟨rfl, rfl⟩
    go_wp2_with fail
    refine (hw _).mono ?_
    rintro e w'' ⟨rfl, rfl⟩
    go_wp2
    go_ret
    exact ⟨rfl, rfl⟩
  · obtain rfl : A = 20 := HA.out
    go_enter Try.func38, Try.ntmps38
    go_wp2_with fail
    refine (hx _).mono ?_
    rintro e w' ⟨rfl, rfl⟩
    go_wp2_with fail
    refine (hw _).mono ?_
    rintro e w'' ⟨rfl, rfl⟩
    go_wp2
    go_ret
    exact ⟨rfl, rfl⟩
  · obtain rfl : A = 20 := HA.out
    go_enter Try.func38, Try.ntmps38
    go_wp2_with fail
    refine (hx _).mono ?_
    rintro e w' ⟨rfl, rfl⟩
    go_wp2_with fail
    refine (hw _).mono ?_
    rintro e w'' ⟨rfl, rfl⟩
    go_wp2
    go_ret
    exact ⟨rfl, rfl⟩
  · obtain rfl : A = 36 := HA.out
    go_enter Try.func38, Try.ntmps38
    go_wp2_with fail
    refine (hx _).mono ?_
    rintro e w' ⟨rfl, rfl⟩
    go_wp2_with fail
    refine (hw _).mono ?_
    rintro e w'' ⟨rfl, rfl⟩
    go_wp2
    go_ret
    exact ⟨rfl, rfl⟩
  · obtain rfl : A = 44 := HA.out
    go_enter Try.func38, Try.ntmps38
    go_wp2_with fail
    refine (hx _).mono ?_
    rintro e w' ⟨rfl, rfl⟩
    go_wp2_with fail
    refine (hw _).mono ?_
    rintro e w'' ⟨rfl, rfl⟩
    go_wp2
    go_ret
    exact ⟨rfl, rfl⟩
  · obtain rfl : A = 28 := HA.out
    go_enter Try.func38, Try.ntmps38
    go_wp2_with fail
    refine (hx _).mono ?_
    rintro e w' ⟨rfl, rfl⟩
    go_wp2_with fail
    refine (hw _).mono ?_
    rintro e w'' ⟨rfl, rfl⟩
    go_wp2
    go_ret
    exact ⟨rfl, rfl⟩
  · obtain rfl : A = 28 := HA.out
    go_enter Try.func38, Try.ntmps38
    go_wp2_with fail
    refine (hx _).mono ?_
    rintro e w' ⟨rfl, rfl⟩
    go_wp2_with fail
    refine (hw _).mono ?_
    rintro e w'' ⟨rfl, rfl⟩
    go_wp2
    go_ret
    exact ⟨rfl, rfl⟩
  · obtain rfl : A = 44 := HA.out
    go_enter Try.func38, Try.ntmps38
    go_wp2_with fail
    refine (hx _).mono ?_
    rintro e w' ⟨rfl, rfl⟩
    go_wp2_with fail
    refine (hw _).mono ?_
    rintro e w'' ⟨rfl, rfl⟩
    go_wp2
    go_ret
    exact ⟨rfl, rfl⟩
theorem ref_in (l : List Int) (ad : Option Addr) (n cap p : Nat) (w : World) (N : Nat) (hT : TextAt N w ad n l) (hp : p ≤ n) :
    Calls Try.prog 38 #[.slice ad n cap, .int .i64 p] w fun e w' => e = .returned (.int .i64 (atP l p)) ∧ w' = w := by
  obtain ⟨hn, hm, h⟩ := hT
  by_cases h1 : n = 0
  · have hl : l = [] := List.eq_nil_of_length_eq_zero (by omega)
    obtain rfl : p = 0 := by omega
    subst hl h1
    rw [atP_none]
    exact ref_none ad cap w
  · obtain ⟨b, off, rfl, hbN, hc⟩ := h.resolve_left h1
    by_cases h0 : p = 0
    · subst h0
      exact ref_first b off n cap w (by omega) hm _ _ _ (hc 0 (by omega)) (fun w => word18 _ w) (atP_first l (by omega))
    · by_cases h2 : p = n
      · subst h2
        refine ref_last b off p cap w (by omega) hm _ _ _ (hc (p - 1) (by omega)) (fun w => word18 _ w) ?_
        rw [hn]
        exact atP_last l (by omega)
      · exact ref_mid b off n p cap w (by omega) (by omega) hm _ _ _ _ _ (hc (p - 1) (by omega)) (hc p (by omega)) (fun w => word18 _ w) (fun w => word18 _ w) _ _ rfl rfl (atP_mid l p (by omega) (by omega))
set_option maxHeartbeats 1000000 in
theorem ref_out (ad : Option Addr) (n cap : Nat) (p : Int) (w : World) (hp : p < 0 ∨ (n : Int) < p) :
    Calls Try.prog 38 #[.slice ad n cap, .int .i64 p] w fun e w' => e = .returned (.int .i64 0) ∧ w' = w := by
  rcases hp with hp | hp
  · go_enter Try.func38, Try.ntmps38
    go_wp2
    go_ret
    exact ⟨rfl, rfl⟩
  · by_cases h0 : p < 0
    · go_enter Try.func38, Try.ntmps38
      go_wp2
      go_ret
      exact ⟨rfl, rfl⟩
    · go_enter Try.func38, Try.ntmps38
      go_wp2
      go_ret
      exact ⟨rfl, rfl⟩
theorem ref12 (l : List Int) (ad : Option Addr) (n cap : Nat) (p : Int) (w : World) (N : Nat) (hT : TextAt N w ad n l) :
    Calls Try.prog 38 #[.slice ad n cap, .int .i64 p] w fun e w' => e = .returned (.int .i64 (atN l p)) ∧ w' = w := by
  have hn := hT.1
  by_cases h : p < 0 ∨ (l.length : Int) < p
  · rw [show atN l p = 0 by unfold atN; rw [if_pos h]]
    exact ref_out ad n cap p w (by rw [hn]; exact h)
  · obtain ⟨q, rfl⟩ := Int.eq_ofNat_of_zero_le (show 0 ≤ p by omega)
    rw [show atN l (q : Int) = atP l q by unfold atN; rw [if_neg h]; rfl]
    exact ref_in l ad n cap q w N hT (by omega)
end Go.Proofs.Ytnpocciioedgpaa.Look
/- HELPERS: tables: so many of a tree's; what is asserted, one bit. -/
namespace Go.Proofs.Ytnpocciioedgpaa
open Go.RowKit
set_option linter.unusedVariables false
set_option linter.unusedSimpArgs false
theorem held_row (b1 b2 b3 b4 b5 : Bool) : ∀ c ∈ [(1 : Int), 2, 4, 8, 16, 32], decide (bits .and .i64 (Look.sumB b1 b2 b3 b4 b5 6) c > 0) = (bits .andNot .i64 c (Look.sumB b1 b2 b3 b4 b5 6) == 0) := by
  cases b1 <;> cases b2 <;> cases b3 <;> cases b4 <;> cases b5 <;> decide +kernel
theorem held_bit {tx : List Int} {a : Int} (ha : assertB a = true) {p : Nat} (hp : p ≤ tx.length) : decide (bits .and .i64 (Look.atN tx (p : Int)) a > 0) = heldB tx a p := by
  have hm : a ∈ [(1 : Int), 2, 4, 8, 16, 32] := by
    simp only [assertB, Bool.or_eq_true, beq_iff_eq] at ha
    simp only [List.mem_cons, List.not_mem_nil, or_false]
    omega
  unfold heldB Look.atN
  rw [if_neg (by omega)]
  exact held_row _ _ _ _ _ a hm
set_option maxRecDepth 100000 in
set_option maxHeartbeats 8000000 in
theorem times46 (n : Nat) (hn : n ≤ 65) (h1 : 1 ≤ n) (N : Nv) (w : World) {Ns gs cs : Nat} {rss : List Nat} {fs : Tb} (hs : TB Ns w gs cs n rss fs) (hm0 : 0 ≤ N.a4) (hm1 : N.a4 ≤ 1000) (hx : N.a5 = -1 ∨ N.a4 ≤ N.a5 ∧ N.a5 ≤ 1000) :
    Calls Try.prog 46 #[N.v, .slice (some ⟨gs, 0, none⟩) n cs] w fun e w' => ∃ g cap rs, e = .returned (.slice (some ⟨g, 0, none⟩) n cap) ∧ TB w.heap.size w' g cap n rs (if N.a5 < 0 then Tb.thr n (Tb.pow n fs N.a4.toNat) (Tb.oft fs n) else Tb.upTo n fs N.a4.toNat (N.a5 - N.a4).toNat) ∧ Below w.heap.size w w' := by
  obtain ⟨k, r1, r2, r3, a2, s1, s2, s3, a4, a5, a6, a7, a8⟩ := N
  simp only at hm0 hm1 hx ⊢
  obtain ⟨mn, rfl⟩ : ∃ mn : Nat, a4 = (mn : Int) := ⟨a4.toNat, by omega⟩
  obtain ⟨F, hF⟩ : ∃ F, F = (if a5 < 0 then Tb.thr n (Tb.pow n fs ((mn : Int)).toNat) (Tb.oft fs n) else Tb.upTo n fs ((mn : Int)).toNat (a5 - (mn : Int)).toNat) := ⟨_, rfl⟩
  rw [← hF]
  have HFF := hid hF
  clear hF
  have hb0 : Below w.heap.size w (w.alloc (.cells #[.int .i64 k, .slice r1 r2 r3, .int .i64 a2, .slice s1 s2 s3, .int .i64 (mn : Int), .int .i64 a5, .bool a6, .int .i64 a7, .string a8] 28)) := Joins.below_alloc1 w _
  have hbx : ∀ W, Below (w.heap.size + 1) (w.alloc (.cells #[.int .i64 k, .slice r1 r2 r3, .int .i64 a2, .slice s1 s2 s3, .int .i64 (mn : Int), .int .i64 a5, .bool a6, .int .i64 a7, .string a8] 28)) W → W.cell? ⟨w.heap.size, 4, none⟩ = some (.int .i64 (mn : Int)) ∧ W.cell? ⟨w.heap.size, 5, none⟩ = some (.int .i64 a5) ∧ Below w.heap.size w W ∧ w.heap.size + 1 ≤ W.heap.size := fun W hW => by
    have h := (hW.block w.heap.size (by omega)).trans (heap_alloc_new w _)
    refine ⟨Joins.cell_of_block h 4, Joins.cell_of_block h 5, hb0.trans (Joins.below_le hW (by omega)), ?_⟩
    have := hW.size
    simpa using this
  obtain ⟨W0, hW0⟩ : ∃ W0, W0 = w.alloc (.cells #[.int .i64 k, .slice r1 r2 r3, .int .i64 a2, .slice s1 s2 s3, .int .i64 (mn : Int), .int .i64 a5, .bool a6, .int .i64 a7, .string a8] 28) := ⟨_, rfl⟩
  rw [← hW0] at hb0 hbx
  have hs0 : W0.heap.size = w.heap.size + 1 := by rw [hW0]; simp
  have HBX := hid hbx
  have HB0 : Hid (Below (w.heap.size + 1) W0 W0) := Below.refl _ _
  have HS := hid hs
  have HC := stays43 n hn h1 W0
  clear hs hbx
  go_enter Try.func46, Try.ntmps46
  go_upto_region 1 with fail
  rw [← hW0]
  clear hW0
  go_wp2_with (first | (go_at_call 43; (with_reducible refine HC.mono ?_); rintro e w1 ⟨g0, cap0, rs0, rfl, hT, hb1⟩; have HB1 : Hid (Below (w.heap.size + 1) W0 w1) := HB0.out.trans (Joins.below_le hb1 (by omega)); have HT : Hid (TB w.heap.size w1 g0 cap0 n rs0 (Tb.pow n fs 0)) := hT.le (by omega); clear hT hb1 HC))
  go_loopw [5, 6] (fun v x wq => ∃ (i g cap : Nat), v = .slice (some ⟨g, 0, none⟩) n cap ∧ x = .int .i64 (i : Int) ∧ i ≤ mn ∧ Hid (∃ rs, TB w.heap.size wq g cap n rs (Tb.pow n fs i)) ∧ Hid (Below (w.heap.size + 1) W0 wq)) (fun _ x _ => mn - (intOf x).toNat)
  case atStart => exact ⟨0, g0, cap0, rfl, rfl, by omega, by exact ⟨rs0, HT.out⟩, HB1⟩
  case round =>
    obtain ⟨i, g, cap, rfl, rfl, hi, HI, BK⟩ := hrel
    obtain ⟨o4, o5, hbw, hsw⟩ := HBX.out wr BK.out
    have HBW := hid hbw
    clear HT HB1 hbw
    by_cases hlt : i < mn
    · have b1 : decide ((i : Int) < (mn : Int)) = true := by simp; omega
      have ad1 : IntKind.i64.wrap ((i : Int) + 1) = (i : Int) + 1 := by simp [IntKind.wrap, IntKind.bits, IntKind.signed]; omega
      obtain ⟨rs, hT⟩ := HI.out
      have HC := through44 n hn h1 wr hT (HS.out.below HBW.out)
      clear hT HI
      go_wp2_with (first | (go_at_call 44; (with_reducible refine HC.mono ?_); rintro e w2 ⟨g2, cap2, rs2, rfl, hT2, hb2⟩; have HB2 : Hid (Below (w.heap.size + 1) W0 w2) := BK.out.trans (Joins.below_le hb2 (by omega)); have HT2 : Hid (TB w.heap.size w2 g2 cap2 n rs2 (Tb.pow n fs (i + 1))) := hT2.le (by omega); clear hT2 hb2 HC))
      exact ⟨⟨i + 1, g2, cap2, rfl, by push_cast; rfl, by omega, by exact ⟨rs2, HT2.out⟩, HB2⟩, by simp [intOf]; omega⟩
    · have b1 : decide ((i : Int) < (mn : Int)) = false := by simp; omega
      obtain rfl : i = mn := by omega
      obtain ⟨rs, hT⟩ := HI.out
      have HT := hid hT
      clear hT HI
      by_cases hneg : a5 < 0
      · have b2 : decide (a5 < 0) = true := by simp; omega
        have hF : F = Tb.thr n (Tb.pow n fs i) (Tb.oft fs n) := by rw [HFF.out, if_pos hneg]; simp
        have HFA := hid hF
        clear hF
        have HC := often59 n hn h1 wr (HS.out.below HBW.out)
        clear hneg hx
        go_wp2_with (first | (go_at_call 59; (with_reducible refine HC.mono ?_); rintro e w2 ⟨g2, cap2, rs2, rfl, hT2, hb2⟩; have HB2 : Hid (Below (w.heap.size + 1) W0 w2) := BK.out.trans (Joins.below_le hb2 (by omega)); have hs2w : w.heap.size + 1 ≤ w2.heap.size := (HBX.out w2 HB2.out).2.2.2; have HC2 := through44 n hn h1 w2 (HT.out.below hb2) hT2; clear hT2 hb2 HC) | (go_at_call 44; (with_reducible refine HC2.mono ?_); rintro e w3 ⟨g3, cap3, rs3, rfl, hT3, hb3⟩; have HB3 : Hid (Below (w.heap.size + 1) W0 w3) := HB2.out.trans (Joins.below_le hb3 (by omega)); have HT3 : Hid (TB w.heap.size w3 g3 cap3 n rs3 (Tb.thr n (Tb.pow n fs i) (Tb.oft fs n))) := hT3.le (by omega); clear hT3 hb3 HC2))
        go_ret
        exact ⟨g3, cap3, rs3, rfl, by rw [HFA.out]; exact HT3.out, (HBX.out w3 HB3.out).2.2.1⟩
      · have b2 : decide (a5 < 0) = false := by simp; omega
        obtain ⟨d, hd⟩ : ∃ d : Nat, a5 = (i : Int) + (d : Int) := ⟨(a5 - i).toNat, by omega⟩
        have e0 : (a5 - (i : Int)).toNat = d := by omega
        have e1 : ((i : Int)).toNat = i := by omega
        have hF : F = Tb.upTo n fs i d := by rw [HFF.out, if_neg hneg, e0, e1]
        have HFA := hid hF
        clear hF
        have hdb : d ≤ 1000 := by omega
        have HD := hid hd
        clear hneg hx e0 e1 hd
        go_wp2_with fail
        go_loopw [5, 7, 8] (fun v u x wq => ∃ (c gn capn ga capa : Nat) (z : Int), v = .slice (some ⟨gn, 0, none⟩) n capn ∧ u = .slice (some ⟨ga, 0, none⟩) n capa ∧ x = .int .i64 z ∧ Hid (z = (i : Int) + (c : Int)) ∧ (0 ≤ z ∧ z ≤ 3000) ∧ Hid (c ≤ d) ∧ Hid (∃ rs, TB w.heap.size wq gn capn n rs (Tb.pow n fs (i + c))) ∧ Hid (∃ rs, TB w.heap.size wq ga capa n rs (Tb.upTo n fs i c)) ∧ Hid (Below (w.heap.size + 1) W0 wq)) (fun _ _ x _ => (a5 - intOf x).toNat)
        case atStart => exact ⟨0, g, cap, g, cap, (i : Int), rfl, rfl, rfl, by show _ = _; simp, by omega, by exact Nat.zero_le _, by exact ⟨rs, HT.out⟩, by exact ⟨rs, HT.out⟩, BK⟩
        case round =>
          obtain ⟨c, gn, capn, ga, capa, z, rfl, rfl, rfl, HZ, hzb, HC0, HP, HU, BK2⟩ := hrel
          obtain ⟨o4, o5, hbw2, hsw2⟩ := HBX.out wr BK2.out
          have HBW2 := hid hbw2
          clear hbw2 HT
          by_cases hc : c < d
          · have b3 : decide (z < a5) = true := by have := HZ.out; have := HD.out; simp; omega
            have ad2 : IntKind.i64.wrap (z + 1) = z + 1 := by simp [IntKind.wrap, IntKind.bits, IntKind.signed]; omega
            obtain ⟨rsn, hTn⟩ := HP.out
            obtain ⟨rsa, hTa⟩ := HU.out
            have HC := through44 n hn h1 wr hTn (HS.out.below HBW2.out)
            have HTa := hid hTa
            clear hTn hTa HP HU
            go_wp2_with (first | (go_at_call 44; (with_reducible refine HC.mono ?_); rintro e w2 ⟨g2, cap2, rs2, rfl, hT2, hb2⟩; have HB2 : Hid (Below (w.heap.size + 1) W0 w2) := BK2.out.trans (Joins.below_le hb2 (by omega)); have hs2w : w.heap.size + 1 ≤ w2.heap.size := (HBX.out w2 HB2.out).2.2.2; have HC2 := or45 n hn h1 w2 (HTa.out.below hb2) hT2; have HT2 := hid hT2; clear hT2 hb2 HC) | (go_at_call 45; (with_reducible refine HC2.mono ?_); rintro e w3 ⟨g3, cap3, rs3, rfl, hT3, hb3⟩; have HB3 : Hid (Below (w.heap.size + 1) W0 w3) := HB2.out.trans (Joins.below_le hb3 (by omega)); have HT3 : Hid (TB w.heap.size w3 g3 cap3 n rs3 (Tb.upTo n fs i (c + 1))) := hT3.le (by omega); have HT2' : Hid (TB w.heap.size w3 g2 cap2 n rs2 (Tb.pow n fs (i + (c + 1)))) := (HT2.out.below hb3).le (by omega); clear hT3 hb3 HC2 HT2))
            refine ⟨⟨c + 1, g2, cap2, g3, cap3, z + 1, rfl, rfl, rfl, by have := HZ.out; show _ = _; push_cast; omega, by have := HZ.out; have := HD.out; omega, by show _ ≤ _; omega, by exact ⟨rs2, HT2'.out⟩, by exact ⟨rs3, HT3.out⟩, HB3⟩, by have := HZ.out; have := HD.out; simp [intOf]; omega⟩
          · have hcd : c = d := by have := HC0.out; omega
            have b3 : decide (z < a5) = false := by have := HZ.out; have := HD.out; simp; omega
            obtain ⟨rsa, hTa⟩ := HU.out
            rw [hcd] at hTa
            have HTa := hid hTa
            clear hTa HU HP
            go_wp2
            go_ret
            exact ⟨ga, capa, rsa, rfl, by rw [HFA.out]; exact HTa.out, HBW2.out⟩
end Go.Proofs.Ytnpocciioedgpaa
/- HELPERS: the table of a tree, in memory. -/
namespace Go.Proofs.Ytnpocciioedgpaa
open Go.RowKit
set_option linter.unusedVariables false
set_option linter.unusedSimpArgs false
/-- the box of a node, at every world behind -/
theorem box1 {w : World} (N : Nv) : ∀ W, Below (w.heap.size + 1) (w.alloc (.cells #[.int .i64 N.k, .slice N.r1 N.r2 N.r3, .int .i64 N.a2, .slice N.s1 N.s2 N.s3, .int .i64 N.a4, .int .i64 N.a5, .bool N.a6, .int .i64 N.a7, .string N.a8] 28)) W → (W.cell? ⟨w.heap.size, 0, none⟩ = some (.int .i64 N.k) ∧ W.cell? ⟨w.heap.size, 1, none⟩ = some (.slice N.r1 N.r2 N.r3) ∧ W.cell? ⟨w.heap.size, 2, none⟩ = some (.int .i64 N.a2) ∧ W.cell? ⟨w.heap.size, 3, none⟩ = some (.slice N.s1 N.s2 N.s3) ∧ W.cell? ⟨w.heap.size, 4, none⟩ = some (.int .i64 N.a4) ∧ W.cell? ⟨w.heap.size, 5, none⟩ = some (.int .i64 N.a5) ∧ W.cell? ⟨w.heap.size, 6, none⟩ = some (.bool N.a6) ∧ W.cell? ⟨w.heap.size, 7, none⟩ = some (.int .i64 N.a7) ∧ W.cell? ⟨w.heap.size, 8, none⟩ = some (.string N.a8)) ∧ Below w.heap.size w W ∧ w.heap.size + 1 ≤ W.heap.size := fun W hW => by
  have h := (hW.block w.heap.size (by omega)).trans (heap_alloc_new w _)
  refine ⟨nine' h, (Joins.below_alloc1 w _).trans (Joins.below_le hW (by omega)), ?_⟩
  have := hW.size
  simpa using this
/-- what a tree's table is asked for -/
abbrev TabC (w : World) (n : Nat) (F : Tb) (e : Ending) (w' : World) : Prop := ∃ g cap rs, e = .returned (.slice (some ⟨g, 0, none⟩) n cap) ∧ TB w.heap.size w' g cap n rs F ∧ Below w.heap.size w w'
set_option maxRecDepth 100000 in
set_option maxHeartbeats 8000000 in
theorem tab1 (r1 s1 : Option Addr) (r2 r3 s2 s3 : Nat) (a2 a4 a5 a7 : Int) (a6 : Bool) (a8 : ByteArray) (ad : Option Addr) (tn tcap n : Nat) (hn : n = tn + 1) (htn : tn ≤ 64) (w : World) : Calls Try.prog 20 #[(Nv.mk 1 r1 r2 r3 a2 s1 s2 s3 a4 a5 a6 a7 a8).v, .slice ad tn tcap] w (TabC w n Tb.stays) := by
  have hn65 : n ≤ 65 := by omega
  have h1 : 1 ≤ n := by omega
  have hlen : IntKind.i64.wrap ((tn : Int) + 1) = (n : Int) := by simp [IntKind.wrap, IntKind.bits, IntKind.signed]; omega
  have hbx := box1 (w := w) (Nv.mk 1 r1 r2 r3 a2 s1 s2 s3 a4 a5 a6 a7 a8)
  obtain ⟨W0, hW0⟩ : ∃ W0, W0 = w.alloc (.cells #[.int .i64 1, .slice r1 r2 r3, .int .i64 a2, .slice s1 s2 s3, .int .i64 a4, .int .i64 a5, .bool a6, .int .i64 a7, .string a8] 28) := ⟨_, rfl⟩
  dsimp only at hbx
  rw [← hW0] at hbx
  have hs0 : W0.heap.size = w.heap.size + 1 := by rw [hW0]; simp
  have HBX := hid hbx
  have HB0 : Hid (Below (w.heap.size + 1) W0 W0) := Below.refl _ _
  have HC0 := lines42 n hn65 h1 W0
  have HN := hid hn
  clear hbx hn
  go_enter Try.func20, Try.ntmps20
  go_upto_region 2 with fail
  rw [← hW0]
  clear hW0
  go_wp2_with (first | (go_at_call 42; (with_reducible refine HC0.mono ?_); rintro e w1 ⟨g0, cap0, rs0, rfl, hT, hb1⟩; have HB1 : Hid (Below (w.heap.size + 1) W0 w1) := HB0.out.trans (Joins.below_le hb1 (by omega)); have HT : Hid (TB (w.heap.size + 1) w1 g0 cap0 n rs0 (fun _ _ => false)) := hT.le (by omega); obtain ⟨⟨o0, o1, o2, o3, o4, o5, o6, o7, o8⟩, hbw1, hsw1⟩ := HBX.out w1 HB1.out; have HBW1 := hid hbw1; have HC1 := stays43 n hn65 h1 w1; clear hT hb1 HC0 hbw1) | (go_at_call 43; (with_reducible refine HC1.mono ?_); rintro e w2 ⟨g1, cap1, rs1, rfl, hT1, hb2⟩; have HB2 : Hid (Below (w.heap.size + 1) W0 w2) := HB1.out.trans (Joins.below_le hb2 (by omega)); have HT1 : Hid (TB w.heap.size w2 g1 cap1 n rs1 Tb.stays) := hT1.le (by omega); clear hT1 hb2 HC1 o0 o1 o2 o3 o4 o5 o6 o7 o8))
  go_ret
  exact ⟨g1, cap1, rs1, rfl, HT1.out, (HBX.out w2 HB2.out).2.1⟩
/-- the table of a class, so far -/
def clsS (R : List (Int × Int)) (tx : List Int) (i k : Nat) : Tb := fun p q => decide (q = p + 1) && (if p < i then hasB R (tx.getD p 0) else if p = i then hasB (R.take k) (tx.getD p 0) else false)
theorem hasB_take {R : List (Int × Int)} {k : Nat} (h : k < R.length) (c : Int) : hasB (R.take (k + 1)) c = (hasB (R.take k) c || (decide (R[k].1 ≤ c) && decide (c ≤ R[k].2))) := by
  rw [List.take_succ_eq_append_getElem h]
  simp only [hasB, List.any_append, List.any_cons, List.any_nil, Bool.or_false]
theorem clsS_step {R : List (Int × Int)} {tx : List Int} {i k : Nat} (h : k < R.length) (p q : Nat) : (if p = i ∧ q = i + 1 then (clsS R tx i k i (i + 1) || (decide (R[k].1 ≤ tx.getD i 0) && decide (tx.getD i 0 ≤ R[k].2))) else clsS R tx i k p q) = clsS R tx i (k + 1) p q := by
  by_cases e : p = i ∧ q = i + 1
  · obtain ⟨rfl, rfl⟩ := e
    simp only [clsS, hasB_take h]
    simp
  · rw [if_neg e]
    simp only [clsS]
    by_cases h1 : p < i
    · simp [h1]
    · by_cases h2 : p = i
      · subst h2
        have : decide (q = p + 1) = false := by simp; exact fun h => e ⟨rfl, h⟩
        simp [this]
      · simp [h1, h2]
theorem clsS_next {R : List (Int × Int)} {tx : List Int} {i : Nat} (p q : Nat) : clsS R tx i R.length p q = clsS R tx (i + 1) 0 p q := by
  simp only [clsS, List.take_length, List.take_zero]
  congr 1
  by_cases h1 : p < i
  · simp [h1, show p < i + 1 by omega]
  · by_cases h2 : p = i
    · subst h2; simp
    · by_cases h3 : p = i + 1
      · subst h3; simp [hasB, show ¬ i + 1 < i by omega]
      · simp [h1, h2, h3, show ¬ p < i + 1 by omega]
set_option maxRecDepth 100000 in
set_option maxHeartbeats 8000000 in
theorem tab2 (r1 s1 : Option Addr) (r2 r3 s2 s3 : Nat) (a2 a4 a5 a7 : Int) (a6 : Bool) (a8 : ByteArray) (ad : Option Addr) (tn tcap n : Nat) (hn : n = tn + 1) (htn : tn ≤ 64) (w : World) (tx : List Int) (R : List (Int × Int)) {w0 : World} {B : Nat} (htx : Look.TextAt B w0 ad tn tx) (hr : r2 = R.length) (hR : R2 w0 B r1 R) (hR5 : R.length ≤ 5000) (hB : B ≤ w.heap.size) (hw : ∀ b, b < B → w.heap[b]? = w0.heap[b]?) :
    Calls Try.prog 20 #[(Nv.mk 2 r1 r2 r3 a2 s1 s2 s3 a4 a5 a6 a7 a8).v, .slice ad tn tcap] w (TabC w n (fun p q => decide (p < tx.length) && hasB R (tx.getD p 0) && decide (q = p + 1))) := by
  have htl : tn = tx.length := htx.1
  have htc : ∀ W, Below w.heap.size w W → ∀ i, i < tn → ∃ b o, ad = some ⟨b, o, none⟩ ∧ W.cell? ⟨b, o + i, none⟩ = some (.int .i64 (tx.getD i 0)) := fun W hW i hi => by
    rcases htx.2.2 with h0 | ⟨b, off, ha, hb, hc⟩
    · omega
    · exact ⟨b, off, ha, (cell_eq ((hW.block b (by omega)).trans (hw b hb)) _).trans (hc i hi)⟩
  have hrc : ∀ W, Below w.heap.size w W → ∀ k (hk : k < R.length), ∃ b o, r1 = some ⟨b, o, none⟩ ∧ W.cell? ⟨b, o + k * 2, none⟩ = some (.int .i64 R[k].1) ∧ W.cell? ⟨b, o + k * 2 + 1, none⟩ = some (.int .i64 R[k].2) := fun W hW k hk => by
    obtain ⟨b, o, ha, hb, hc⟩ := hR (by intro h; rw [h] at hk; simp at hk)
    exact ⟨b, o, ha, (cell_eq ((hW.block b (by omega)).trans (hw b hb)) _).trans (hc k hk).1, (cell_eq ((hW.block b (by omega)).trans (hw b hb)) _).trans (hc k hk).2⟩
  have HTC := hid htc
  have HRC := hid hrc
  have HTL := hid htl
  have HRL := hid hr
  obtain ⟨F, hF⟩ : ∃ F : Tb, F = (fun p q => decide (p < tx.length) && hasB R (tx.getD p 0) && decide (q = p + 1)) := ⟨_, rfl⟩
  rw [← hF]
  have HF := hid hF
  have hr5 : r2 ≤ 5000 := by omega
  clear hF htc hrc htx hR hw hr htl hR5
  have hn65 : n ≤ 65 := by omega
  have h1 : 1 ≤ n := by omega
  have hlen : IntKind.i64.wrap ((tn : Int) + 1) = (n : Int) := by simp [IntKind.wrap, IntKind.bits, IntKind.signed]; omega
  have hbx := box1 (w := w) (Nv.mk 2 r1 r2 r3 a2 s1 s2 s3 a4 a5 a6 a7 a8)
  obtain ⟨W0, hW0⟩ : ∃ W0, W0 = w.alloc (.cells #[.int .i64 2, .slice r1 r2 r3, .int .i64 a2, .slice s1 s2 s3, .int .i64 a4, .int .i64 a5, .bool a6, .int .i64 a7, .string a8] 28) := ⟨_, rfl⟩
  dsimp only at hbx
  rw [← hW0] at hbx
  have hs0 : W0.heap.size = w.heap.size + 1 := by rw [hW0]; simp
  have HBX := hid hbx
  have HB0 : Hid (Below (w.heap.size + 1) W0 W0) := Below.refl _ _
  have HC0 := lines42 n hn65 h1 W0
  have HN := hid hn
  clear hbx hn
  go_enter Try.func20, Try.ntmps20
  go_upto_region 2 with fail
  rw [← hW0]
  clear hW0
  go_wp2_with (first | (go_at_call 42; (with_reducible refine HC0.mono ?_); rintro e w1 ⟨g0, cap0, rs0, rfl, hT, hb1⟩; have HB1 : Hid (Below (w.heap.size + 1) W0 w1) := HB0.out.trans (Joins.below_le hb1 (by omega)); have HT : Hid (TB (w.heap.size + 1) w1 g0 cap0 n rs0 (fun _ _ => false)) := hT.le (by omega); obtain ⟨⟨o0, o1, o2, o3, o4, o5, o6, o7, o8⟩, hbw1, hsw1⟩ := HBX.out w1 HB1.out; have HBW1 := hid hbw1; clear hT hb1 HC0 hbw1))
  go_loopw [7] (fun x wq => ∃ (i : Nat), x = .int .i64 (i : Int) ∧ i ≤ tn ∧ Hid (TB (w.heap.size + 1) wq g0 cap0 n rs0 (clsS R tx i 0)) ∧ Hid (Below (w.heap.size + 1) W0 wq)) (fun x _ => tn - (intOf x).toNat)
  case atStart => exact ⟨0, rfl, by omega, by exact HT.out.as (fun p q _ _ => by simp [clsS, hasB]), HB1⟩
  case round =>
    obtain ⟨i, rfl, hi, HI, BK⟩ := hrel
    clear HT HB1 HBW1 o0 o1 o2 o3 o4 o5 o6 o7 o8
    by_cases hlt : i < tn
    · have b1 : decide ((i : Int) < (tn : Int)) = true := by simp; omega
      have b2 : (i : Int) < (tn : Int) := by omega
      obtain ⟨i1, hi1⟩ : ∃ i1, i1 = i + 1 := ⟨_, rfl⟩
      have HI1 := hid hi1
      have ad1 : IntKind.i64.wrap ((i : Int) + 1) = (i1 : Int) := by simp [IntKind.wrap, IntKind.bits, IntKind.signed]; omega
      have hin : i < n := by have := HN.out; omega
      have hi1n : i1 < n := by have := HN.out; omega
      clear hi1
      go_wp2_with fail
      go_loopw [8] (fun x wq => ∃ (k : Nat), x = .int .i64 (k : Int) ∧ k ≤ r2 ∧ Hid (TB (w.heap.size + 1) wq g0 cap0 n rs0 (clsS R tx i k)) ∧ Hid (Below (w.heap.size + 1) W0 wq)) (fun x _ => r2 - (intOf x).toNat)
      case atStart => exact ⟨0, rfl, by omega, HI, BK⟩
      case round =>
        obtain ⟨k, rfl, hk, HI2, BK2⟩ := hrel
        obtain ⟨⟨o0, o1, o2, o3, o4, o5, o6, o7, o8⟩, hbw, hsw⟩ := HBX.out wr BK2.out
        clear HI BK
        by_cases hlk : k < r2
        · have c1 : decide ((k : Int) < (r2 : Int)) = true := by simp; omega
          have c2 : (k : Int) < (r2 : Int) := by omega
          have c3 : (i : Int) < (n : Int) := by omega
          have c4 : (i1 : Int) < (n : Int) := by omega
          have ad2 : IntKind.i64.wrap ((k : Int) + 1) = (k : Int) + 1 := by simp [IntKind.wrap, IntKind.bits, IntKind.signed]; omega
          have hkR : k < R.length := by have := HRL.out; omega
          obtain ⟨tb, tof, rfl, t1⟩ := HTC.out wr hbw i hlt
          obtain ⟨qb, qo, rfl, q1, q2⟩ := HRC.out wr hbw k hkR
          have u1 := HI2.out.outer hin
          have u2 := HI2.out.cell hin hi1n
          have u3 := HI2.out.free hin i1
          have hfin : TB (w.heap.size + 1) (wr.drew.setCell ⟨rs0.getD i 0, i1, none⟩ (.bool (clsS R tx i k i i1 || (decide (R[k].1 ≤ tx.getD i 0) && decide (tx.getD i 0 ≤ R[k].2))))) g0 cap0 n rs0 (clsS R tx i (k + 1)) := by
            rw [HI1.out]
            exact (HI2.out.drew.set (k := i + 1) hin _).as (fun p q _ _ => clsS_step hkR p q)
          have hbel : Below (w.heap.size + 1) W0 (wr.drew.setCell ⟨rs0.getD i 0, i1, none⟩ (.bool (clsS R tx i k i i1 || (decide (R[k].1 ≤ tx.getD i 0) && decide (tx.getD i 0 ≤ R[k].2))))) := BK2.out.drew.setCell (by exact (HI2.out.rlt hin).1) _
          obtain ⟨r, hrr⟩ : ∃ r, r = rs0.getD i 0 := ⟨_, rfl⟩
          obtain ⟨x, hx⟩ : ∃ x, x = clsS R tx i k i i1 := ⟨_, rfl⟩
          obtain ⟨c, hc⟩ : ∃ c, c = tx.getD i 0 := ⟨_, rfl⟩
          obtain ⟨lo, hlo⟩ : ∃ c, c = R[k].1 := ⟨_, rfl⟩
          obtain ⟨hi', hhi⟩ : ∃ c, c = R[k].2 := ⟨_, rfl⟩
          rw [← hrr] at u1 u2 u3 hfin hbel
          rw [← hx] at u2 hfin hbel
          rw [← hc] at t1 hfin hbel
          rw [← hlo] at q1 hfin hbel
          rw [← hhi] at q2 hfin hbel
          have HFN := hid hfin
          have HBE := hid hbel
          clear hfin hbel hrr hx hc hlo hhi HI2 BK2 hbw hkR
          cases x with
          | true =>
            simp only [Bool.true_or] at HFN HBE
            go_wp2_with fail
            go_region
            all_goals
              go_wp2
              exact ⟨⟨k + 1, by push_cast; rfl, by omega, HFN, HBE⟩, by simp [intOf]; omega⟩
          | false =>
            simp only [Bool.false_or] at HFN HBE
            by_cases d1 : lo ≤ c
            · have e1 : decide (lo ≤ c) = true := by simp; omega
              by_cases d2 : c ≤ hi'
              · have e2 : decide (c ≤ hi') = true := by simp; omega
                rw [e1, e2] at HFN HBE
                simp only [Bool.and_self] at HFN HBE
                go_wp2_with fail
                go_region
                all_goals
                  go_wp2
                  exact ⟨⟨k + 1, by push_cast; rfl, by omega, HFN, HBE⟩, by simp [intOf]; omega⟩
              · have e2 : decide (c ≤ hi') = false := by simp; omega
                rw [e1, e2] at HFN HBE
                simp only [Bool.and_false] at HFN HBE
                go_wp2_with fail
                go_region
                all_goals
                  go_wp2
                  exact ⟨⟨k + 1, by push_cast; rfl, by omega, HFN, HBE⟩, by simp [intOf]; omega⟩
            · have e1 : decide (lo ≤ c) = false := by simp; omega
              rw [e1] at HFN HBE
              simp only [Bool.false_and] at HFN HBE
              go_wp2_with fail
              go_region
              all_goals
                go_wp2
                exact ⟨⟨k + 1, by push_cast; rfl, by omega, HFN, HBE⟩, by simp [intOf]; omega⟩
        · have c1 : decide ((k : Int) < (r2 : Int)) = false := by simp; omega
          have hfin : TB (w.heap.size + 1) wr g0 cap0 n rs0 (clsS R tx i1 0) := by
            have e : k = R.length := by have := HRL.out; omega
            rw [HI1.out]
            exact HI2.out.as (fun p q _ _ => by rw [e]; exact clsS_next p q)
          have HFN := hid hfin
          clear hfin HI2 hbw
          go_wp2
          exact ⟨⟨i1, rfl, by have := HI1.out; omega, HFN, BK2⟩, by have := HI1.out; simp [intOf]; omega⟩
    · have b1 : decide ((i : Int) < (tn : Int)) = false := by simp; omega
      obtain rfl : i = tn := by omega
      have hfin : TB (w.heap.size + 1) wr g0 cap0 n rs0 F := HI.out.as (fun p q hp _ => by
        rw [HF.out]
        have := HN.out
        have := HTL.out
        simp only [clsS, List.take_zero]
        by_cases h1 : p < i
        · simp only [h1, if_true, show p < tx.length by omega, decide_true, Bool.true_and]
          exact Bool.and_comm _ _
        · obtain rfl : p = i := by omega
          have : ¬ p < tx.length := by omega
          simp [this, hasB])
      have HFN := hid hfin
      clear hfin HI
      go_wp2
      go_ret
      exact ⟨g0, cap0, rs0, rfl, HFN.out.le (by omega), (HBX.out wr BK.out).2.1⟩
end Go.Proofs.Ytnpocciioedgpaa
/- HELPERS: the table of a tree, in memory: asserts, rows, alternatives, counts. -/
namespace Go.Proofs.Ytnpocciioedgpaa
open Go.RowKit
set_option linter.unusedVariables false
set_option linter.unusedSimpArgs false
set_option maxRecDepth 100000 in
set_option maxHeartbeats 8000000 in
theorem tab3 (r1 s1 : Option Addr) (r2 r3 s2 s3 : Nat) (a2 a4 a5 a7 : Int) (a6 : Bool) (a8 : ByteArray) (ad : Option Addr) (tn tcap n : Nat) (hn : n = tn + 1) (htn : tn ≤ 64) (w : World) (tx : List Int) {w0 : World} {B : Nat} (htx : Look.TextAt B w0 ad tn tx) (ha : assertB a2 = true) (hB : B ≤ w.heap.size) (hw : ∀ b, b < B → w.heap[b]? = w0.heap[b]?) :
    Calls Try.prog 20 #[(Nv.mk 3 r1 r2 r3 a2 s1 s2 s3 a4 a5 a6 a7 a8).v, .slice ad tn tcap] w (TabC w n (fun p q => heldB tx a2 p && decide (q = p))) := by
  have htl : tn = tx.length := htx.1
  have htc : ∀ W, Below w.heap.size w W → Look.TextAt B W ad tn tx := fun W hW => by
    obtain ⟨q1, q2, q3⟩ := htx
    refine ⟨q1, q2, q3.imp id (fun ⟨b, off, ha, hb, hc⟩ => ⟨b, off, ha, hb, fun k hk => (cell_eq ((hW.block b (by omega)).trans (hw b hb)) _).trans (hc k hk)⟩)⟩
  have HTC := hid htc
  have HTL := hid htl
  have HA := hid ha
  obtain ⟨F, hF⟩ : ∃ F : Tb, F = (fun p q => heldB tx a2 p && decide (q = p)) := ⟨_, rfl⟩
  rw [← hF]
  have HF := hid hF
  clear hF htc htx hw htl ha
  have hn65 : n ≤ 65 := by omega
  have h1 : 1 ≤ n := by omega
  have hlen : IntKind.i64.wrap ((tn : Int) + 1) = (n : Int) := by simp [IntKind.wrap, IntKind.bits, IntKind.signed]; omega
  have hbx := box1 (w := w) (Nv.mk 3 r1 r2 r3 a2 s1 s2 s3 a4 a5 a6 a7 a8)
  obtain ⟨W0, hW0⟩ : ∃ W0, W0 = w.alloc (.cells #[.int .i64 3, .slice r1 r2 r3, .int .i64 a2, .slice s1 s2 s3, .int .i64 a4, .int .i64 a5, .bool a6, .int .i64 a7, .string a8] 28) := ⟨_, rfl⟩
  dsimp only at hbx
  rw [← hW0] at hbx
  have hs0 : W0.heap.size = w.heap.size + 1 := by rw [hW0]; simp
  have HBX := hid hbx
  have HB0 : Hid (Below (w.heap.size + 1) W0 W0) := Below.refl _ _
  have HC0 := lines42 n hn65 h1 W0
  have HN := hid hn
  clear hbx hn
  go_enter Try.func20, Try.ntmps20
  go_upto_region 2 with fail
  rw [← hW0]
  clear hW0
  go_wp2_with (first | (go_at_call 42; (with_reducible refine HC0.mono ?_); rintro e w1 ⟨g0, cap0, rs0, rfl, hT, hb1⟩; have HB1 : Hid (Below (w.heap.size + 1) W0 w1) := HB0.out.trans (Joins.below_le hb1 (by omega)); have HT : Hid (TB (w.heap.size + 1) w1 g0 cap0 n rs0 (fun _ _ => false)) := hT.le (by omega); obtain ⟨⟨o0, o1, o2, o3, o4, o5, o6, o7, o8⟩, hbw1, hsw1⟩ := HBX.out w1 HB1.out; have HBW1 := hid hbw1; clear hT hb1 HC0 hbw1))
  go_loopw [9] (fun x wq => ∃ (i : Nat), x = .int .i64 (i : Int) ∧ i ≤ n ∧ Hid (TB (w.heap.size + 1) wq g0 cap0 n rs0 (fun p q => decide (p < i) && F p q)) ∧ Hid (Below (w.heap.size + 1) W0 wq)) (fun x _ => n - (intOf x).toNat)
  case atStart => exact ⟨0, rfl, by omega, by exact HT.out.as (fun p q _ _ => by simp), HB1⟩
  case round =>
    obtain ⟨i, rfl, hi, HI, BK⟩ := hrel
    clear HT HB1 HBW1 o0 o1 o2 o3 o4 o5 o6 o7 o8
    by_cases hlt : i < n
    · have b1 : decide ((i : Int) < (n : Int)) = true := by simp; omega
      have b2 : (i : Int) < (n : Int) := by omega
      have ad1 : IntKind.i64.wrap ((i : Int) + 1) = (i : Int) + 1 := by simp [IntKind.wrap, IntKind.bits, IntKind.signed]; omega
      obtain ⟨⟨o0, o1, o2, o3, o4, o5, o6, o7, o8⟩, hbw, hsw⟩ := HBX.out wr BK.out
      have HC := Look.ref12 tx ad tn tcap (i : Int) wr.drew B (HTC.out wr.drew hbw.drew)
      have u1 := HI.out.outer hlt
      have u2 := HI.out.cell hlt hlt
      have u3 := HI.out.free hlt i
      have hbit := held_bit (tx := tx) HA.out (p := i) (by have := HN.out; have := HTL.out; omega)
      have hfin : TB (w.heap.size + 1) (wr.drew.setCell ⟨rs0.getD i 0, i, none⟩ (.bool (heldB tx a2 i))) g0 cap0 n rs0 (fun p q => decide (p < i + 1) && F p q) := (HI.out.drew.set (k := i) hlt _).as (fun p q _ _ => by
        rw [HF.out]
        by_cases e : p = i ∧ q = i
        · obtain ⟨rfl, rfl⟩ := e; simp
        · rw [if_neg e]
          by_cases h1 : p < i
          · simp [h1, show p < i + 1 by omega]
          · by_cases h2 : p = i
            · subst h2
              have : decide (q = p) = false := by simp; exact fun h => e ⟨rfl, h⟩
              simp [this]
            · simp [h1, show ¬ p < i + 1 by omega])
      have hbel : Below (w.heap.size + 1) W0 (wr.drew.setCell ⟨rs0.getD i 0, i, none⟩ (.bool (heldB tx a2 i))) := BK.out.drew.setCell (by exact (HI.out.rlt hlt).1) _
      obtain ⟨r, hrr⟩ : ∃ r, r = rs0.getD i 0 := ⟨_, rfl⟩
      obtain ⟨z, hz⟩ : ∃ z, z = (decide (i < i) && F i i) := ⟨_, rfl⟩
      obtain ⟨y, hy⟩ : ∃ y, y = heldB tx a2 i := ⟨_, rfl⟩
      obtain ⟨A, hA⟩ : ∃ A, A = Look.atN tx (i : Int) := ⟨_, rfl⟩
      rw [← hz] at u2
      rw [← hrr] at u1 u2 u3 hfin hbel
      rw [← hy] at hfin hbel hbit
      rw [← hA] at HC hbit
      obtain ⟨A2, hA2⟩ : ∃ A2, A2 = bits .and .i64 A a2 := ⟨_, rfl⟩
      rw [← hA2] at hbit
      have hA2' := hA2.symm
      have hbit' : decide (0 < A2) = y := hbit
      have HFN := hid hfin
      have HBE := hid hbel
      clear hfin hbel hrr hz hy hA hA2 HI BK hbw
      go_wp2_with fail
      go_region_with (first | (go_at_call 38; (with_reducible refine HC.mono ?_); rintro e w' ⟨rfl, rfl⟩))
      all_goals
        go_wp2
        exact ⟨⟨i + 1, by push_cast; rfl, by omega, HFN, HBE⟩, by simp [intOf]; omega⟩
    · have b1 : decide ((i : Int) < (n : Int)) = false := by simp; omega
      obtain rfl : i = n := by omega
      have hfin : TB (w.heap.size + 1) wr g0 cap0 i rs0 F := HI.out.as (fun p q hp _ => by simp [hp])
      have HFN := hid hfin
      clear hfin HI
      go_wp2
      go_ret
      exact ⟨g0, cap0, rs0, rfl, HFN.out.le (by omega), (HBX.out wr BK.out).2.1⟩
theorem tabC_snoc {tx : List Int} : ∀ (ts : List Tn) (a : Tb) (t : Tn), tabC tx a (ts ++ [t]) = Tb.thr (tx.length + 1) (tabC tx a ts) (tab tx t) := by
  intro ts
  induction ts with
  | nil => intro a t; simp [tabC]
  | cons u us ih => intro a t; simp only [List.cons_append, tabC]; exact ih _ t
theorem tabA_snoc {tx : List Int} : ∀ (ts : List Tn) (a : Tb) (t : Tn), tabA tx a (ts ++ [t]) = Tb.or (tabA tx a ts) (tab tx t) := by
  intro ts
  induction ts with
  | nil => intro a t; simp [tabA]
  | cons u us ih => intro a t; simp only [List.cons_append, tabA]; exact ih _ t
set_option maxRecDepth 100000 in
set_option maxHeartbeats 8000000 in
theorem tab4 (r1 s1 : Option Addr) (r2 r3 s2 s3 : Nat) (a2 a4 a5 a7 : Int) (a6 : Bool) (a8 : ByteArray) (ad : Option Addr) (tn tcap n : Nat) (hn : n = tn + 1) (htn : tn ≤ 64) (w : World) (tx : List Int) (ts : List Tn) (ND : Nat → Nv) {w0 : World} {B : Nat} (htl : tn = tx.length) (hs : s2 = ts.length) (hlen : ts.length ≤ 200000) (hS : 0 < ts.length → ∃ b o, s1 = some ⟨b, o, none⟩ ∧ b < B ∧ ∀ i, i < ts.length → N9 w0 b o i (ND i))
    (IH : ∀ i (hi : i < ts.length) (w : World), B ≤ w.heap.size → (∀ b, b < B → w.heap[b]? = w0.heap[b]?) → Calls Try.prog 20 #[(ND i).v, .slice ad tn tcap] w (TabC w n (tab tx ts[i]))) (hB : B ≤ w.heap.size) (hw : ∀ b, b < B → w.heap[b]? = w0.heap[b]?) :
    Calls Try.prog 20 #[(Nv.mk 4 r1 r2 r3 a2 s1 s2 s3 a4 a5 a6 a7 a8).v, .slice ad tn tcap] w (TabC w n (tabC tx Tb.stays ts)) := by
  have HW := hid hw
  have HS := hid hS
  have HIH := hid IH
  have HL := hid hs
  have HTL := hid htl
  have hm2 : s2 ≤ 200000 := by omega
  clear hw hS IH hs hlen htl
  have hn65 : n ≤ 65 := by omega
  have h1 : 1 ≤ n := by omega
  have hlen : IntKind.i64.wrap ((tn : Int) + 1) = (n : Int) := by simp [IntKind.wrap, IntKind.bits, IntKind.signed]; omega
  have hbx := box1 (w := w) (Nv.mk 4 r1 r2 r3 a2 s1 s2 s3 a4 a5 a6 a7 a8)
  obtain ⟨W0, hW0⟩ : ∃ W0, W0 = w.alloc (.cells #[.int .i64 4, .slice r1 r2 r3, .int .i64 a2, .slice s1 s2 s3, .int .i64 a4, .int .i64 a5, .bool a6, .int .i64 a7, .string a8] 28) := ⟨_, rfl⟩
  dsimp only at hbx
  rw [← hW0] at hbx
  have hs0 : W0.heap.size = w.heap.size + 1 := by rw [hW0]; simp
  have HBX := hid hbx
  have HB0 : Hid (Below (w.heap.size + 1) W0 W0) := Below.refl _ _
  have HC0 := lines42 n hn65 h1 W0
  have HN := hid hn
  clear hbx hn
  go_enter Try.func20, Try.ntmps20
  go_upto_region 2 with fail
  rw [← hW0]
  clear hW0
  go_wp2_with (first | (go_at_call 42; (with_reducible refine HC0.mono ?_); rintro e w1 ⟨g0, cap0, rs0, rfl, hT, hb1⟩; have HB1 : Hid (Below (w.heap.size + 1) W0 w1) := HB0.out.trans (Joins.below_le hb1 (by omega)); have HT : Hid (TB (w.heap.size + 1) w1 g0 cap0 n rs0 (fun _ _ => false)) := hT.le (by omega); obtain ⟨⟨o0, o1, o2, o3, o4, o5, o6, o7, o8⟩, hbw1, hsw1⟩ := HBX.out w1 HB1.out; have HBW1 := hid hbw1; have HC1 := stays43 n hn65 h1 w1; clear hT hb1 HC0 hbw1) | (go_at_call 43; (with_reducible refine HC1.mono ?_); rintro e w2 ⟨g1, cap1, rs1, rfl, hT1, hb2⟩; have HB2 : Hid (Below (w.heap.size + 1) W0 w2) := HB1.out.trans (Joins.below_le hb2 (by omega)); have HT1 : Hid (TB w.heap.size w2 g1 cap1 n rs1 Tb.stays) := hT1.le (by omega); clear hT1 hb2 HC1 o0 o1 o2 o3 o4 o5 o6 o7 o8))
  go_loopw [6, 10] (fun v x wq => ∃ (i g cap : Nat), v = .slice (some ⟨g, 0, none⟩) n cap ∧ x = .int .i64 (i : Int) ∧ i ≤ s2 ∧ Hid (∃ rs, TB w.heap.size wq g cap n rs (tabC tx Tb.stays (ts.take i))) ∧ Hid (Below (w.heap.size + 1) W0 wq)) (fun _ x _ => s2 - (intOf x).toNat)
  case atStart => exact ⟨0, g1, cap1, rfl, rfl, by omega, by exact ⟨rs1, by simpa [tabC] using HT1.out⟩, HB2⟩
  case round =>
    obtain ⟨i, g, cap, rfl, rfl, hi, HI, BK⟩ := hrel
    obtain ⟨⟨o0, o1, o2, o3, o4, o5, o6, o7, o8⟩, hbw, hsw⟩ := HBX.out wr BK.out
    have HBW := hid hbw
    clear hbw HT HB1 HBW1
    by_cases hil : i < s2
    · have b1 : decide ((i : Int) < (s2 : Int)) = true := by simp; omega
      have b2 : (i : Int) < (s2 : Int) := by omega
      have ad1 : IntKind.i64.wrap ((i : Int) + 1) = (i : Int) + 1 := by simp [IntKind.wrap, IntKind.bits, IntKind.signed]; omega
      have hlt : i < ts.length := by rw [← HL.out]; exact hil
      obtain ⟨b, o, hs1, hb, hc⟩ := HS.out (by omega)
      subst hs1
      have hwk : ∀ b, b < B → wr.heap[b]? = w0.heap[b]? := fun b hb => (HBW.out.block b (by omega)).trans (HW.out b hb)
      obtain ⟨n0', n1', n2', n3', n4', n5', n6', n7', n8'⟩ := (hc i hlt).kept (hwk b hb)
      have HC := HIH.out i hlt wr (by omega) hwk
      obtain ⟨rs, hT⟩ := HI.out
      have HTT := hid hT
      obtain ⟨P, hP⟩ : ∃ P, P = ND i := ⟨_, rfl⟩
      rw [← hP] at HC n0' n1' n2' n3' n4' n5' n6' n7' n8'
      clear hP hwk hc HI hT
      go_wp2_with (first | (go_at_call 20; (with_reducible refine HC.mono ?_); rintro e w3 ⟨g3, cap3, rs3, rfl, hT3, hb3⟩; have HB3 : Hid (Below (w.heap.size + 1) W0 w3) := BK.out.trans (Joins.below_le hb3 (by omega)); have hs3w : w.heap.size + 1 ≤ w3.heap.size := (HBX.out w3 HB3.out).2.2; have HC2 := through44 n hn65 h1 w3 (HTT.out.below hb3) hT3; clear hT3 hb3 HC) | (go_at_call 44; (with_reducible refine HC2.mono ?_); rintro e w4 ⟨g4, cap4, rs4, rfl, hT4, hb4⟩; have HB4 : Hid (Below (w.heap.size + 1) W0 w4) := HB3.out.trans (Joins.below_le hb4 (by omega)); have HT4 := hid hT4; clear hT4 hb4 HC2))
      have hex : ∃ rs, TB w.heap.size w4 g4 cap4 n rs (tabC tx Tb.stays (ts.take (i + 1))) := by
        refine ⟨rs4, ?_⟩
        rw [List.take_succ_eq_append_getElem hlt, tabC_snoc]
        have := HT4.out.le (N' := w.heap.size) (by omega)
        rw [HN.out, HTL.out] at this ⊢
        exact this
      exact ⟨⟨i + 1, g4, cap4, rfl, by push_cast; rfl, by omega, hex, HB4⟩, by simp [intOf]; omega⟩
    · have b1 : decide ((i : Int) < (s2 : Int)) = false := by simp; omega
      obtain rfl : i = s2 := by omega
      obtain ⟨rs, hT⟩ := HI.out
      rw [HL.out, List.take_length] at hT
      have HTT := hid hT
      clear hT HI
      go_wp2
      go_ret
      exact ⟨g, cap, rs, rfl, HTT.out, HBW.out⟩
set_option maxRecDepth 100000 in
set_option maxHeartbeats 8000000 in
theorem tab7 (r1 s1 : Option Addr) (r2 r3 s2 s3 : Nat) (a2 a4 a5 a7 : Int) (a6 : Bool) (a8 : ByteArray) (ad : Option Addr) (tn tcap n : Nat) (hn : n = tn + 1) (htn : tn ≤ 64) (w : World) (tx : List Int) (ts : List Tn) (ND : Nat → Nv) {w0 : World} {B : Nat} (htl : tn = tx.length) (hs : s2 = ts.length) (hlen : ts.length ≤ 200000) (hS : 0 < ts.length → ∃ b o, s1 = some ⟨b, o, none⟩ ∧ b < B ∧ ∀ i, i < ts.length → N9 w0 b o i (ND i))
    (IH : ∀ i (hi : i < ts.length) (w : World), B ≤ w.heap.size → (∀ b, b < B → w.heap[b]? = w0.heap[b]?) → Calls Try.prog 20 #[(ND i).v, .slice ad tn tcap] w (TabC w n (tab tx ts[i]))) (hB : B ≤ w.heap.size) (hw : ∀ b, b < B → w.heap[b]? = w0.heap[b]?) :
    Calls Try.prog 20 #[(Nv.mk 7 r1 r2 r3 a2 s1 s2 s3 a4 a5 a6 a7 a8).v, .slice ad tn tcap] w (TabC w n (tabC tx Tb.stays ts)) := by
  have HW := hid hw
  have HS := hid hS
  have HIH := hid IH
  have HL := hid hs
  have HTL := hid htl
  have hm2 : s2 ≤ 200000 := by omega
  clear hw hS IH hs hlen htl
  have hn65 : n ≤ 65 := by omega
  have h1 : 1 ≤ n := by omega
  have hlen : IntKind.i64.wrap ((tn : Int) + 1) = (n : Int) := by simp [IntKind.wrap, IntKind.bits, IntKind.signed]; omega
  have hbx := box1 (w := w) (Nv.mk 7 r1 r2 r3 a2 s1 s2 s3 a4 a5 a6 a7 a8)
  obtain ⟨W0, hW0⟩ : ∃ W0, W0 = w.alloc (.cells #[.int .i64 7, .slice r1 r2 r3, .int .i64 a2, .slice s1 s2 s3, .int .i64 a4, .int .i64 a5, .bool a6, .int .i64 a7, .string a8] 28) := ⟨_, rfl⟩
  dsimp only at hbx
  rw [← hW0] at hbx
  have hs0 : W0.heap.size = w.heap.size + 1 := by rw [hW0]; simp
  have HBX := hid hbx
  have HB0 : Hid (Below (w.heap.size + 1) W0 W0) := Below.refl _ _
  have HC0 := lines42 n hn65 h1 W0
  have HN := hid hn
  clear hbx hn
  go_enter Try.func20, Try.ntmps20
  go_upto_region 2 with fail
  rw [← hW0]
  clear hW0
  go_wp2_with (first | (go_at_call 42; (with_reducible refine HC0.mono ?_); rintro e w1 ⟨g0, cap0, rs0, rfl, hT, hb1⟩; have HB1 : Hid (Below (w.heap.size + 1) W0 w1) := HB0.out.trans (Joins.below_le hb1 (by omega)); have HT : Hid (TB (w.heap.size + 1) w1 g0 cap0 n rs0 (fun _ _ => false)) := hT.le (by omega); obtain ⟨⟨o0, o1, o2, o3, o4, o5, o6, o7, o8⟩, hbw1, hsw1⟩ := HBX.out w1 HB1.out; have HBW1 := hid hbw1; have HC1 := stays43 n hn65 h1 w1; clear hT hb1 HC0 hbw1) | (go_at_call 43; (with_reducible refine HC1.mono ?_); rintro e w2 ⟨g1, cap1, rs1, rfl, hT1, hb2⟩; have HB2 : Hid (Below (w.heap.size + 1) W0 w2) := HB1.out.trans (Joins.below_le hb2 (by omega)); have HT1 : Hid (TB w.heap.size w2 g1 cap1 n rs1 Tb.stays) := hT1.le (by omega); clear hT1 hb2 HC1 o0 o1 o2 o3 o4 o5 o6 o7 o8))
  go_loopw [6, 10] (fun v x wq => ∃ (i g cap : Nat), v = .slice (some ⟨g, 0, none⟩) n cap ∧ x = .int .i64 (i : Int) ∧ i ≤ s2 ∧ Hid (∃ rs, TB w.heap.size wq g cap n rs (tabC tx Tb.stays (ts.take i))) ∧ Hid (Below (w.heap.size + 1) W0 wq)) (fun _ x _ => s2 - (intOf x).toNat)
  case atStart => exact ⟨0, g1, cap1, rfl, rfl, by omega, by exact ⟨rs1, by simpa [tabC] using HT1.out⟩, HB2⟩
  case round =>
    obtain ⟨i, g, cap, rfl, rfl, hi, HI, BK⟩ := hrel
    obtain ⟨⟨o0, o1, o2, o3, o4, o5, o6, o7, o8⟩, hbw, hsw⟩ := HBX.out wr BK.out
    have HBW := hid hbw
    clear hbw HT HB1 HBW1
    by_cases hil : i < s2
    · have b1 : decide ((i : Int) < (s2 : Int)) = true := by simp; omega
      have b2 : (i : Int) < (s2 : Int) := by omega
      have ad1 : IntKind.i64.wrap ((i : Int) + 1) = (i : Int) + 1 := by simp [IntKind.wrap, IntKind.bits, IntKind.signed]; omega
      have hlt : i < ts.length := by rw [← HL.out]; exact hil
      obtain ⟨b, o, hs1, hb, hc⟩ := HS.out (by omega)
      subst hs1
      have hwk : ∀ b, b < B → wr.heap[b]? = w0.heap[b]? := fun b hb => (HBW.out.block b (by omega)).trans (HW.out b hb)
      obtain ⟨n0', n1', n2', n3', n4', n5', n6', n7', n8'⟩ := (hc i hlt).kept (hwk b hb)
      have HC := HIH.out i hlt wr (by omega) hwk
      obtain ⟨rs, hT⟩ := HI.out
      have HTT := hid hT
      obtain ⟨P, hP⟩ : ∃ P, P = ND i := ⟨_, rfl⟩
      rw [← hP] at HC n0' n1' n2' n3' n4' n5' n6' n7' n8'
      clear hP hwk hc HI hT
      go_wp2_with (first | (go_at_call 20; (with_reducible refine HC.mono ?_); rintro e w3 ⟨g3, cap3, rs3, rfl, hT3, hb3⟩; have HB3 : Hid (Below (w.heap.size + 1) W0 w3) := BK.out.trans (Joins.below_le hb3 (by omega)); have hs3w : w.heap.size + 1 ≤ w3.heap.size := (HBX.out w3 HB3.out).2.2; have HC2 := through44 n hn65 h1 w3 (HTT.out.below hb3) hT3; clear hT3 hb3 HC) | (go_at_call 44; (with_reducible refine HC2.mono ?_); rintro e w4 ⟨g4, cap4, rs4, rfl, hT4, hb4⟩; have HB4 : Hid (Below (w.heap.size + 1) W0 w4) := HB3.out.trans (Joins.below_le hb4 (by omega)); have HT4 := hid hT4; clear hT4 hb4 HC2))
      have hex : ∃ rs, TB w.heap.size w4 g4 cap4 n rs (tabC tx Tb.stays (ts.take (i + 1))) := by
        refine ⟨rs4, ?_⟩
        rw [List.take_succ_eq_append_getElem hlt, tabC_snoc]
        have := HT4.out.le (N' := w.heap.size) (by omega)
        rw [HN.out, HTL.out] at this ⊢
        exact this
      exact ⟨⟨i + 1, g4, cap4, rfl, by push_cast; rfl, by omega, hex, HB4⟩, by simp [intOf]; omega⟩
    · have b1 : decide ((i : Int) < (s2 : Int)) = false := by simp; omega
      obtain rfl : i = s2 := by omega
      obtain ⟨rs, hT⟩ := HI.out
      rw [HL.out, List.take_length] at hT
      have HTT := hid hT
      clear hT HI
      go_wp2
      go_ret
      exact ⟨g, cap, rs, rfl, HTT.out, HBW.out⟩
set_option maxRecDepth 100000 in
set_option maxHeartbeats 8000000 in
theorem tab5 (r1 s1 : Option Addr) (r2 r3 s2 s3 : Nat) (a2 a4 a5 a7 : Int) (a6 : Bool) (a8 : ByteArray) (ad : Option Addr) (tn tcap n : Nat) (hn : n = tn + 1) (htn : tn ≤ 64) (w : World) (tx : List Int) (ts : List Tn) (ND : Nat → Nv) {w0 : World} {B : Nat} (htl : tn = tx.length) (hs : s2 = ts.length) (hlen : ts.length ≤ 200000) (hS : 0 < ts.length → ∃ b o, s1 = some ⟨b, o, none⟩ ∧ b < B ∧ ∀ i, i < ts.length → N9 w0 b o i (ND i))
    (IH : ∀ i (hi : i < ts.length) (w : World), B ≤ w.heap.size → (∀ b, b < B → w.heap[b]? = w0.heap[b]?) → Calls Try.prog 20 #[(ND i).v, .slice ad tn tcap] w (TabC w n (tab tx ts[i]))) (hB : B ≤ w.heap.size) (hw : ∀ b, b < B → w.heap[b]? = w0.heap[b]?) :
    Calls Try.prog 20 #[(Nv.mk 5 r1 r2 r3 a2 s1 s2 s3 a4 a5 a6 a7 a8).v, .slice ad tn tcap] w (TabC w n (tabA tx (fun _ _ => false) ts)) := by
  have HW := hid hw
  have HS := hid hS
  have HIH := hid IH
  have HL := hid hs
  have HTL := hid htl
  have hm2 : s2 ≤ 200000 := by omega
  clear hw hS IH hs hlen htl
  have hn65 : n ≤ 65 := by omega
  have h1 : 1 ≤ n := by omega
  have hlen : IntKind.i64.wrap ((tn : Int) + 1) = (n : Int) := by simp [IntKind.wrap, IntKind.bits, IntKind.signed]; omega
  have hbx := box1 (w := w) (Nv.mk 5 r1 r2 r3 a2 s1 s2 s3 a4 a5 a6 a7 a8)
  obtain ⟨W0, hW0⟩ : ∃ W0, W0 = w.alloc (.cells #[.int .i64 5, .slice r1 r2 r3, .int .i64 a2, .slice s1 s2 s3, .int .i64 a4, .int .i64 a5, .bool a6, .int .i64 a7, .string a8] 28) := ⟨_, rfl⟩
  dsimp only at hbx
  rw [← hW0] at hbx
  have hs0 : W0.heap.size = w.heap.size + 1 := by rw [hW0]; simp
  have HBX := hid hbx
  have HB0 : Hid (Below (w.heap.size + 1) W0 W0) := Below.refl _ _
  have HC0 := lines42 n hn65 h1 W0
  have HN := hid hn
  clear hbx hn
  go_enter Try.func20, Try.ntmps20
  go_upto_region 2 with fail
  rw [← hW0]
  clear hW0
  go_wp2_with (first | (go_at_call 42; (with_reducible refine HC0.mono ?_); rintro e w1 ⟨g0, cap0, rs0, rfl, hT, hb1⟩; have HB1 : Hid (Below (w.heap.size + 1) W0 w1) := HB0.out.trans (Joins.below_le hb1 (by omega)); have HT : Hid (TB (w.heap.size + 1) w1 g0 cap0 n rs0 (fun _ _ => false)) := hT.le (by omega); obtain ⟨⟨o0, o1, o2, o3, o4, o5, o6, o7, o8⟩, hbw1, hsw1⟩ := HBX.out w1 HB1.out; have HBW1 := hid hbw1; clear hT hb1 HC0 hbw1))
  go_loopw [6, 11] (fun v x wq => ∃ (i g cap : Nat), v = .slice (some ⟨g, 0, none⟩) n cap ∧ x = .int .i64 (i : Int) ∧ i ≤ s2 ∧ Hid (∃ rs, TB w.heap.size wq g cap n rs (tabA tx (fun _ _ => false) (ts.take i))) ∧ Hid (Below (w.heap.size + 1) W0 wq)) (fun _ x _ => s2 - (intOf x).toNat)
  case atStart => exact ⟨0, g0, cap0, rfl, rfl, by omega, by exact ⟨rs0, by simpa [tabA] using HT.out.le (N' := w.heap.size) (by omega)⟩, HB1⟩
  case round =>
    obtain ⟨i, g, cap, rfl, rfl, hi, HI, BK⟩ := hrel
    obtain ⟨⟨o0, o1, o2, o3, o4, o5, o6, o7, o8⟩, hbw, hsw⟩ := HBX.out wr BK.out
    have HBW := hid hbw
    clear hbw HT HB1 HBW1
    by_cases hil : i < s2
    · have b1 : decide ((i : Int) < (s2 : Int)) = true := by simp; omega
      have b2 : (i : Int) < (s2 : Int) := by omega
      have ad1 : IntKind.i64.wrap ((i : Int) + 1) = (i : Int) + 1 := by simp [IntKind.wrap, IntKind.bits, IntKind.signed]; omega
      have hlt : i < ts.length := by rw [← HL.out]; exact hil
      obtain ⟨b, o, hs1, hb, hc⟩ := HS.out (by omega)
      subst hs1
      have hwk : ∀ b, b < B → wr.heap[b]? = w0.heap[b]? := fun b hb => (HBW.out.block b (by omega)).trans (HW.out b hb)
      obtain ⟨n0', n1', n2', n3', n4', n5', n6', n7', n8'⟩ := (hc i hlt).kept (hwk b hb)
      have HC := HIH.out i hlt wr (by omega) hwk
      obtain ⟨rs, hT⟩ := HI.out
      have HTT := hid hT
      obtain ⟨P, hP⟩ : ∃ P, P = ND i := ⟨_, rfl⟩
      rw [← hP] at HC n0' n1' n2' n3' n4' n5' n6' n7' n8'
      clear hP hwk hc HI hT
      go_wp2_with (first | (go_at_call 20; (with_reducible refine HC.mono ?_); rintro e w3 ⟨g3, cap3, rs3, rfl, hT3, hb3⟩; have HB3 : Hid (Below (w.heap.size + 1) W0 w3) := BK.out.trans (Joins.below_le hb3 (by omega)); have hs3w : w.heap.size + 1 ≤ w3.heap.size := (HBX.out w3 HB3.out).2.2; have HC2 := or45 n hn65 h1 w3 (HTT.out.below hb3) hT3; clear hT3 hb3 HC) | (go_at_call 45; (with_reducible refine HC2.mono ?_); rintro e w4 ⟨g4, cap4, rs4, rfl, hT4, hb4⟩; have HB4 : Hid (Below (w.heap.size + 1) W0 w4) := HB3.out.trans (Joins.below_le hb4 (by omega)); have HT4 := hid hT4; clear hT4 hb4 HC2))
      have hex : ∃ rs, TB w.heap.size w4 g4 cap4 n rs (tabA tx (fun _ _ => false) (ts.take (i + 1))) := by
        refine ⟨rs4, ?_⟩
        rw [List.take_succ_eq_append_getElem hlt, tabA_snoc]
        have := HT4.out.le (N' := w.heap.size) (by omega)
        exact this
      exact ⟨⟨i + 1, g4, cap4, rfl, by push_cast; rfl, by omega, hex, HB4⟩, by simp [intOf]; omega⟩
    · have b1 : decide ((i : Int) < (s2 : Int)) = false := by simp; omega
      obtain rfl : i = s2 := by omega
      obtain ⟨rs, hT⟩ := HI.out
      rw [HL.out, List.take_length] at hT
      have HTT := hid hT
      clear hT HI
      go_wp2
      go_ret
      exact ⟨g, cap, rs, rfl, HTT.out, HBW.out⟩
end Go.Proofs.Ytnpocciioedgpaa
namespace Go.Proofs.Ytnpocciioedgpaa
open Go.RowKit
set_option linter.unusedVariables false
set_option linter.unusedSimpArgs false
set_option maxRecDepth 100000 in
set_option maxHeartbeats 8000000 in
theorem tab6z (r1 s1 : Option Addr) (r2 r3 s2 s3 : Nat) (a2 a4 a5 a7 : Int) (a6 : Bool) (a8 : ByteArray) (ad : Option Addr) (tn tcap n : Nat) (hn : n = tn + 1) (htn : tn ≤ 64) (w : World) (h0 : a5 = 0) : Calls Try.prog 20 #[(Nv.mk 6 r1 r2 r3 a2 s1 s2 s3 a4 a5 a6 a7 a8).v, .slice ad tn tcap] w (TabC w n Tb.stays) := by
  subst h0
  have hn65 : n ≤ 65 := by omega
  have h1 : 1 ≤ n := by omega
  have hlen : IntKind.i64.wrap ((tn : Int) + 1) = (n : Int) := by simp [IntKind.wrap, IntKind.bits, IntKind.signed]; omega
  have hbx := box1 (w := w) (Nv.mk 6 r1 r2 r3 a2 s1 s2 s3 a4 0 a6 a7 a8)
  obtain ⟨W0, hW0⟩ : ∃ W0, W0 = w.alloc (.cells #[.int .i64 6, .slice r1 r2 r3, .int .i64 a2, .slice s1 s2 s3, .int .i64 a4, .int .i64 0, .bool a6, .int .i64 a7, .string a8] 28) := ⟨_, rfl⟩
  dsimp only at hbx
  rw [← hW0] at hbx
  have hs0 : W0.heap.size = w.heap.size + 1 := by rw [hW0]; simp
  have HBX := hid hbx
  have HB0 : Hid (Below (w.heap.size + 1) W0 W0) := Below.refl _ _
  have HC0 := lines42 n hn65 h1 W0
  have HN := hid hn
  clear hbx hn
  go_enter Try.func20, Try.ntmps20
  go_upto_region 2 with fail
  rw [← hW0]
  clear hW0
  go_wp2_with (first | (go_at_call 42; (with_reducible refine HC0.mono ?_); rintro e w1 ⟨g0, cap0, rs0, rfl, hT, hb1⟩; have HB1 : Hid (Below (w.heap.size + 1) W0 w1) := HB0.out.trans (Joins.below_le hb1 (by omega)); have HT : Hid (TB (w.heap.size + 1) w1 g0 cap0 n rs0 (fun _ _ => false)) := hT.le (by omega); obtain ⟨⟨o0, o1, o2, o3, o4, o5, o6, o7, o8⟩, hbw1, hsw1⟩ := HBX.out w1 HB1.out; have HBW1 := hid hbw1; have HC1 := stays43 n hn65 h1 w1; clear hT hb1 HC0 hbw1) | (go_at_call 43; (with_reducible refine HC1.mono ?_); rintro e w2 ⟨g1, cap1, rs1, rfl, hT1, hb2⟩; have HB2 : Hid (Below (w.heap.size + 1) W0 w2) := HB1.out.trans (Joins.below_le hb2 (by omega)); have HT1 : Hid (TB w.heap.size w2 g1 cap1 n rs1 Tb.stays) := hT1.le (by omega); clear hT1 hb2 HC1 o0 o1 o2 o3 o4 o5 o6 o7 o8))
  go_ret
  exact ⟨g1, cap1, rs1, rfl, HT1.out, (HBX.out w2 HB2.out).2.1⟩
set_option maxRecDepth 100000 in
set_option maxHeartbeats 8000000 in
theorem tab6 (r1 : Option Addr) (sb so : Nat) (r2 r3 s3 : Nat) (a2 a4 a5 a7 : Int) (a6 : Bool) (a8 : ByteArray) (ad : Option Addr) (tn tcap n : Nat) (hn : n = tn + 1) (htn : tn ≤ 64) (w : World) (P : Nv) (fs F : Tb) {w0 : World} {B : Nat} (hF : F = if a5 < 0 then Tb.thr n (Tb.pow n fs a4.toNat) (Tb.oft fs n) else Tb.upTo n fs a4.toNat (a5 - a4).toNat) (hm0 : 0 ≤ a4) (hm1 : a4 ≤ 1000) (hx : a5 = -1 ∨ a4 ≤ a5 ∧ a5 ≤ 1000) (h0 : a5 ≠ 0) (hsb : sb < B) (hS : N9 w0 sb so 0 P)
    (IH : ∀ (w : World), B ≤ w.heap.size → (∀ b, b < B → w.heap[b]? = w0.heap[b]?) → Calls Try.prog 20 #[P.v, .slice ad tn tcap] w (TabC w n fs)) (hB : B ≤ w.heap.size) (hw : ∀ b, b < B → w.heap[b]? = w0.heap[b]?) :
    Calls Try.prog 20 #[(Nv.mk 6 r1 r2 r3 a2 (some ⟨sb, so, none⟩) 1 s3 a4 a5 a6 a7 a8).v, .slice ad tn tcap] w (TabC w n F) := by
  have hsub : ∀ W, Below w.heap.size w W → W.cell? ⟨sb, so, none⟩ = some (.int .i64 P.k) ∧ W.cell? ⟨sb, so + 1, none⟩ = some (.slice P.r1 P.r2 P.r3) ∧ W.cell? ⟨sb, so + 2, none⟩ = some (.int .i64 P.a2) ∧ W.cell? ⟨sb, so + 3, none⟩ = some (.slice P.s1 P.s2 P.s3) ∧ W.cell? ⟨sb, so + 4, none⟩ = some (.int .i64 P.a4) ∧ W.cell? ⟨sb, so + 5, none⟩ = some (.int .i64 P.a5) ∧ W.cell? ⟨sb, so + 6, none⟩ = some (.bool P.a6) ∧ W.cell? ⟨sb, so + 7, none⟩ = some (.int .i64 P.a7) ∧ W.cell? ⟨sb, so + 8, none⟩ = some (.string P.a8) := fun W hW => by
    have := hS.kept ((hW.block sb (by omega)).trans (hw sb hsb))
    simpa [N9] using this
  have HSUB := hid hsub
  have HIH := hid IH
  have HW := hid hw
  have HFF := hid hF
  have e0 : (a5 == 0) = false := by simpa using h0
  clear hF hsub IH hw hS h0
  have hn65 : n ≤ 65 := by omega
  have h1 : 1 ≤ n := by omega
  have hlen : IntKind.i64.wrap ((tn : Int) + 1) = (n : Int) := by simp [IntKind.wrap, IntKind.bits, IntKind.signed]; omega
  have hbx := box1 (w := w) (Nv.mk 6 r1 r2 r3 a2 (some ⟨sb, so, none⟩) 1 s3 a4 a5 a6 a7 a8)
  obtain ⟨W0, hW0⟩ : ∃ W0, W0 = w.alloc (.cells #[.int .i64 6, .slice r1 r2 r3, .int .i64 a2, .slice (some ⟨sb, so, none⟩) 1 s3, .int .i64 a4, .int .i64 a5, .bool a6, .int .i64 a7, .string a8] 28) := ⟨_, rfl⟩
  dsimp only at hbx
  rw [← hW0] at hbx
  have hs0 : W0.heap.size = w.heap.size + 1 := by rw [hW0]; simp
  have HBX := hid hbx
  have HB0 : Hid (Below (w.heap.size + 1) W0 W0) := Below.refl _ _
  have HC0 := lines42 n hn65 h1 W0
  have HN := hid hn
  clear hbx hn
  go_enter Try.func20, Try.ntmps20
  go_upto_region 2 with fail
  rw [← hW0]
  clear hW0
  go_upto_region 34 with (first | (go_at_call 42; (with_reducible refine HC0.mono ?_); rintro e w1 ⟨g0, cap0, rs0, rfl, hT, hb1⟩; have HB1 : Hid (Below (w.heap.size + 1) W0 w1) := HB0.out.trans (Joins.below_le hb1 (by omega)); have HT : Hid (TB (w.heap.size + 1) w1 g0 cap0 n rs0 (fun _ _ => false)) := hT.le (by omega); obtain ⟨⟨o0, o1, o2, o3, o4, o5, o6, o7, o8⟩, hbw1, hsw1⟩ := HBX.out w1 HB1.out; have HBW1 := hid hbw1; clear hT hb1 HC0 hbw1))
  obtain ⟨⟨o0, o1, o2, o3, o4, o5, o6, o7, o8⟩, hbw1, hsw1⟩ := HBX.out w1 HB1.out
  have hS0 : ∀ W, Below (w.heap.size + 1) W0 W → (W.cell? ⟨w.heap.size, 0, none⟩ = some (.int .i64 6) ∧ W.cell? ⟨w.heap.size, 1, none⟩ = some (.slice r1 r2 r3) ∧ W.cell? ⟨w.heap.size, 2, none⟩ = some (.int .i64 a2) ∧ W.cell? ⟨w.heap.size, 3, none⟩ = some (.slice (some ⟨sb, so, none⟩) 1 s3) ∧ W.cell? ⟨w.heap.size, 4, none⟩ = some (.int .i64 a4) ∧ W.cell? ⟨w.heap.size, 5, none⟩ = some (.int .i64 a5) ∧ W.cell? ⟨w.heap.size, 6, none⟩ = some (.bool a6) ∧ W.cell? ⟨w.heap.size, 7, none⟩ = some (.int .i64 a7) ∧ W.cell? ⟨w.heap.size, 8, none⟩ = some (.string a8)) ∧ W.cell? ⟨sb, so, none⟩ = some (.int .i64 P.k) ∧ W.cell? ⟨sb, so + 1, none⟩ = some (.slice P.r1 P.r2 P.r3) ∧ W.cell? ⟨sb, so + 2, none⟩ = some (.int .i64 P.a2) ∧ W.cell? ⟨sb, so + 3, none⟩ = some (.slice P.s1 P.s2 P.s3) ∧ W.cell? ⟨sb, so + 4, none⟩ = some (.int .i64 P.a4) ∧ W.cell? ⟨sb, so + 5, none⟩ = some (.int .i64 P.a5) ∧ W.cell? ⟨sb, so + 6, none⟩ = some (.bool P.a6) ∧ W.cell? ⟨sb, so + 7, none⟩ = some (.int .i64 P.a7) ∧ W.cell? ⟨sb, so + 8, none⟩ = some (.string P.a8) := fun W hW => ⟨(HBX.out W hW).1, HSUB.out W (HBX.out W hW).2.1⟩
  have HS0 := hid hS0
  have HBd : Hid (Below (w.heap.size + 1) W0 w1.drew) := HB1.out.drew
  have hsd : w.heap.size + 1 ≤ w1.drew.heap.size := hsw1
  have HC := HIH.out w1.drew (by omega) (fun b hb => (((HBX.out _ HBd.out).2.1).block b (by omega)).trans (HW.out b hb))
  clear hS0 hbw1 o0 o1 o2 o3 o4 o5 o6 o7 o8
  go_region_held2 (fun W => (W.cell? ⟨w.heap.size, 0, none⟩ = some (.int .i64 6) ∧ W.cell? ⟨w.heap.size, 1, none⟩ = some (.slice r1 r2 r3) ∧ W.cell? ⟨w.heap.size, 2, none⟩ = some (.int .i64 a2) ∧ W.cell? ⟨w.heap.size, 3, none⟩ = some (.slice (some ⟨sb, so, none⟩) 1 s3) ∧ W.cell? ⟨w.heap.size, 4, none⟩ = some (.int .i64 a4) ∧ W.cell? ⟨w.heap.size, 5, none⟩ = some (.int .i64 a5) ∧ W.cell? ⟨w.heap.size, 6, none⟩ = some (.bool a6) ∧ W.cell? ⟨w.heap.size, 7, none⟩ = some (.int .i64 a7) ∧ W.cell? ⟨w.heap.size, 8, none⟩ = some (.string a8)) ∧ W.cell? ⟨sb, so, none⟩ = some (.int .i64 P.k) ∧ W.cell? ⟨sb, so + 1, none⟩ = some (.slice P.r1 P.r2 P.r3) ∧ W.cell? ⟨sb, so + 2, none⟩ = some (.int .i64 P.a2) ∧ W.cell? ⟨sb, so + 3, none⟩ = some (.slice P.s1 P.s2 P.s3) ∧ W.cell? ⟨sb, so + 4, none⟩ = some (.int .i64 P.a4) ∧ W.cell? ⟨sb, so + 5, none⟩ = some (.int .i64 P.a5) ∧ W.cell? ⟨sb, so + 6, none⟩ = some (.bool P.a6) ∧ W.cell? ⟨sb, so + 7, none⟩ = some (.int .i64 P.a7) ∧ W.cell? ⟨sb, so + 8, none⟩ = some (.string P.a8))
    (first | exact HS0.out _ HB1.out | exact HS0.out _ HBd.out | exact HS0.out _ HB3.out | exact HS0.out _ HB4.out)
    (first | (go_at_call 20; (with_reducible refine HC.mono ?_); rintro e w3 ⟨g3, cap3, rs3, rfl, hT3, hb3⟩; have HB3 : Hid (Below (w.heap.size + 1) W0 w3) := HBd.out.trans (Joins.below_le hb3 (by omega)); have hs3w : w.heap.size + 1 ≤ w3.heap.size := (HBX.out w3 HB3.out).2.2; have HC2 := times46 n hn65 h1 (Nv.mk 6 r1 r2 r3 a2 (some ⟨sb, so, none⟩) 1 s3 a4 a5 a6 a7 a8) w3 hT3 hm0 hm1 hx; dsimp only at HC2; rw [← HFF.out] at HC2; clear hT3 hb3 HC) | (go_at_call 46; (with_reducible refine HC2.mono ?_); rintro e w4 ⟨g4, cap4, rs4, rfl, hT4, hb4⟩; have HB4 : Hid (Below (w.heap.size + 1) W0 w4) := HB3.out.trans (Joins.below_le hb4 (by omega)); have HT4 := hid hT4; clear hT4 hb4 HC2))
  all_goals
    go_wp2
    go_ret
    exact ⟨g4, cap4, rs4, rfl, HT4.out.le (by omega), (HBX.out w4 HB4.out).2.1⟩
theorem table20 {w0 : World} {B : Nat} {N : Nv} {t : Tn} (h : TI w0 B N t) (tx : List Int) (ad : Option Addr) (tn tcap n : Nat) (htx : Look.TextAt B w0 ad tn tx) (hn : n = tn + 1) (htn : tn ≤ 64) : t.fine = true → t.nodes ≤ 200000 → ∀ (w : World), B ≤ w.heap.size → (∀ b, b < B → w.heap[b]? = w0.heap[b]?) →
    Calls Try.prog 20 #[N.v, .slice ad tn tcap] w (TabC w n (tab tx t)) := by
  induction h with
  | @mk N R ts ND ok hr hR hRk hs hS hk ih =>
  intro hf hno w hB hw
  simp only [Tn.fine, Bool.and_eq_true] at hf
  simp only [Tn.nodes] at hno
  have FN := fine_node hf.1
  have hfg := fineL_get hf.2
  have IH : ∀ i (hi : i < ts.length) (w : World), B ≤ w.heap.size → (∀ b, b < B → w.heap[b]? = w0.heap[b]?) → Calls Try.prog 20 #[(ND i).v, .slice ad tn tcap] w (TabC w n (tab tx ts[i])) := fun i hi => ih i hi (hfg i hi) (by have := nodes_get ts i hi; omega)
  have hlen : ts.length ≤ 200000 := by have := nodes_ge ts; omega
  have htl : tn = tx.length := htx.1
  obtain ⟨k, r1, r2, r3, a2, s1, s2, s3, a4, a5, a6, a7, a8⟩ := N
  simp only at hs hS hr hR FN
  rcases FN.kind with rfl | rfl | rfl | rfl | rfl | rfl | rfl
  · have e : tab tx (.mk 1 R a2 ts a4 a5 a6 a7 a8) = Tb.stays := by simp [tab]
    rw [e]
    exact tab1 r1 s1 r2 r3 s2 s3 a2 a4 a5 a7 a6 a8 ad tn tcap n hn htn w
  · have e : tab tx (.mk 2 R a2 ts a4 a5 a6 a7 a8) = fun p q => decide (p < tx.length) && hasB R (tx.getD p 0) && decide (q = p + 1) := by simp [tab]
    rw [e]
    have hcl := FN.cls rfl
    simp only [rightB, Bool.and_eq_true, decide_eq_true_eq] at hcl
    exact tab2 r1 s1 r2 r3 s2 s3 a2 a4 a5 a7 a6 a8 ad tn tcap n hn htn w tx R htx hr hR hcl.1 hB hw
  · have e : tab tx (.mk 3 R a2 ts a4 a5 a6 a7 a8) = fun p q => heldB tx a2 p && decide (q = p) := by simp [tab]
    rw [e]
    exact tab3 r1 s1 r2 r3 s2 s3 a2 a4 a5 a7 a6 a8 ad tn tcap n hn htn w tx htx (FN.ast rfl) hB hw
  · have e : tab tx (.mk 4 R a2 ts a4 a5 a6 a7 a8) = tabC tx Tb.stays ts := by simp [tab]
    rw [e]
    exact tab4 r1 s1 r2 r3 s2 s3 a2 a4 a5 a7 a6 a8 ad tn tcap n hn htn w tx ts ND htl hs hlen hS IH hB hw
  · have e : tab tx (.mk 5 R a2 ts a4 a5 a6 a7 a8) = tabA tx (fun _ _ => false) ts := by simp [tab]
    rw [e]
    exact tab5 r1 s1 r2 r3 s2 s3 a2 a4 a5 a7 a6 a8 ad tn tcap n hn htn w tx ts ND htl hs hlen hS IH hB hw
  · obtain ⟨h1, h2, h3, h4⟩ := FN.rep rfl
    obtain ⟨t, rfl⟩ : ∃ t, ts = [t] := List.length_eq_one_iff.1 h1
    by_cases c0 : a5 = 0
    · have e : tab tx (.mk 6 R a2 [t] a4 a5 a6 a7 a8) = Tb.stays := by simp [tab, c0]
      rw [e]
      exact tab6z r1 s1 r2 r3 s2 s3 a2 a4 a5 a7 a6 a8 ad tn tcap n hn htn w c0
    · obtain ⟨b, o, rfl, hb, hc⟩ := hS (by simp)
      obtain rfl : s2 = 1 := hs
      have hF : tab tx (.mk 6 R a2 [t] a4 a5 a6 a7 a8) = if a5 < 0 then Tb.thr n (Tb.pow n (tab tx t) a4.toNat) (Tb.oft (tab tx t) n) else Tb.upTo n (tab tx t) a4.toNat (a5 - a4).toNat := by
        rw [hn, htl]
        simp [tab, c0, tabH]
      exact tab6 r1 b o r2 r3 s3 a2 a4 a5 a7 a6 a8 ad tn tcap n hn htn w (ND 0) (tab tx t) _ hF h2 h3 h4 c0 hb (hc 0 (by simp)) (IH 0 (by simp)) hB hw
  · have e : tab tx (.mk 7 R a2 ts a4 a5 a6 a7 a8) = tabC tx Tb.stays ts := by simp [tab]
    rw [e]
    exact tab7 r1 s1 r2 r3 s2 s3 a2 a4 a5 a7 a6 a8 ad tn tcap n hn htn w tx ts ND htl hs hlen hS IH hB hw
end Go.Proofs.Ytnpocciioedgpaa
