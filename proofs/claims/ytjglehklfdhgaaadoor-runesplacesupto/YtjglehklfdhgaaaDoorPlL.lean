/- HELPERS: plain facts on places, and the calls behind them. -/
import Derived.Test.YtjglehklfdhgaaaDoorCutC
import Derived.Test.YtjglehklfdhgaaaDoorBackW
namespace Go.Proofs.YtjglehklfdhgaaaDoor
open Go.RowKit Go.Mx
set_option linter.unusedVariables false
set_option linter.unusedSimpArgs false
theorem runes_len (l : List Int) : (runesOf (cut l)).length = (cut l).length := by simp [runesOf]
theorem cut_all_dom (l : List Int) : (runesOf (cut l)).all dom = true := by
  rw [List.all_eq_true]
  intro r hr
  obtain ⟨k, hk, rfl⟩ := List.getElem_of_mem hr
  have hk' : k < (cutF l.length 0 l).length := by rw [runes_len] at hk; exact hk
  obtain ⟨h1, h2, _⟩ := (plK_facts l.length 0 l (Nat.le_refl _) k (by omega)).2 hk'
  have hb := sd_bd (l.drop (plK k l)) (by intro h; have := congrArg List.length h; rw [List.length_drop] at this; simp at this; omega)
  have e : (runesOf (cut l))[k] = (dec (l.drop (plK k l))).1 := by
    have : (runesOf (cut l))[k]? = some (dec (l.drop (plK k l))).1 := h2
    rw [List.getElem?_eq_getElem hk] at this
    exact Option.some.inj this
  rw [e]
  exact hb.2.2.2.1
theorem pl_at (l : List Int) (n : Nat) (hn : n = l.length) (k : Nat) (hk : k ≤ (cut l).length) : (placesOf (cut l) ++ [(n : Int)])[k]? = some ((plK k l : Nat) : Int) := by
  have h := (plK_facts l.length 0 l (Nat.le_refl _) k hk).1
  rw [Nat.zero_add, Nat.zero_add] at h
  subst hn
  exact h
theorem pl_last (l : List Int) : plK (cut l).length l = l.length := by
  have h := pl_at l l.length rfl (cut l).length (Nat.le_refl _)
  rw [List.getElem?_append_right (by simp [placesOf])] at h
  simp [placesOf] at h
  omega
theorem pl_le (l : List Int) (k : Nat) (hk : k ≤ (cut l).length) : plK k l ≤ l.length := by
  by_cases h : k < (cut l).length
  · have := ((plK_facts l.length 0 l (Nat.le_refl _) k hk).2 h).1; omega
  · have : k = (cut l).length := by omega
    rw [this, pl_last]; omega
theorem pl_step (l : List Int) (hL : ByteL l) (k : Nat) (hk : k < (cut l).length) : plK k l < l.length ∧ plK (k + 1) l = plK k l + sd (l.drop (plK k l)) ∧ 1 ≤ sd (l.drop (plK k l)) ∧ sd (l.drop (plK k l)) ≤ 4 ∧ plK (k + 1) l ≤ l.length ∧
    dom ((runesOf (cut l)).getD k 0) = true ∧ ((1 < sd (l.drop (plK k l)) ∨ ¬ (runesOf (cut l)).getD k 0 = 65533) → enc ((runesOf (cut l)).getD k 0) = (l.drop (plK k l)).take (sd (l.drop (plK k l)))) := by
  obtain ⟨h1, h2, h3⟩ := (plK_facts l.length 0 l (Nat.le_refl _) k (Nat.le_of_lt hk)).2 hk
  have hne : l.drop (plK k l) ≠ [] := by intro h; have := congrArg List.length h; rw [List.length_drop] at this; simp at this; omega
  have hb := sd_bd (l.drop (plK k l)) hne
  have hr : (runesOf (cut l)).getD k 0 = (dec (l.drop (plK k l))).1 := by
    have : (runesOf (cut l))[k]? = some (dec (l.drop (plK k l))).1 := h2
    rw [List.getD_eq_getElem?_getD, this]; rfl
  refine ⟨h1, h3, hb.1, hb.2.1, pl_le l (k + 1) (by omega), by rw [hr]; exact hb.2.2.2.1, ?_⟩
  rw [hr]
  intro h
  exact dec_as _ hne (hL.drop _) (by rw [← hb.2.2.2.2]; exact h.elim (fun h => .inl (by omega)) .inr)
theorem cut_ahead (l : List Int) (k : Nat) (hk : k ≤ (cut l).length) : runesOf (cut (l.take (plK k l))) = (runesOf (cut l)).take k := by
  have h := (cut_parts l.length 0 l (Nat.le_refl _) k hk).1
  have e : cut (l.take (plK k l)) = cutF l.length 0 (l.take (plK k l)) := cutF_more _ _ _ _ (Nat.le_refl _) (by rw [List.length_take]; omega)
  rw [e]; exact h
theorem cut_behind (l : List Int) (k : Nat) (hk : k ≤ (cut l).length) : runesOf (cut (l.drop (plK k l))) = (runesOf (cut l)).drop k := by
  have h := (cut_parts l.length 0 l (Nat.le_refl _) k hk).2
  have e : cut (l.drop (plK k l)) = cutF l.length 0 (l.drop (plK k l)) := cutF_more _ _ _ _ (Nat.le_refl _) (by rw [List.length_drop]; omega)
  rw [e]; exact h
theorem cell_lt {w : World} {b o : Nat} {v : Value} (h : w.cell? ⟨b, o, none⟩ = some v) : b < w.heap.size := by
  rcases Nat.lt_or_ge b w.heap.size with h1 | h1
  · exact h1
  · have : w.heap[b]? = none := Array.getElem?_eq_none h1
    simp [World.cell?, this] at h
theorem IntsC.below {w w' : World} {v : Value} {l : List Int} (h : IntsC w v l) (hb : Below w.heap.size w w') : IntsC w' v l := by
  obtain ⟨ad, cap, hv, h | ⟨b, off, ha, h0⟩⟩ := h
  · exact ⟨ad, cap, hv, .inl h⟩
  · exact ⟨ad, cap, hv, .inr ⟨b, off, ha, fun k hk => (hb.cell (p := ⟨b, off + k, none⟩) (cell_lt (h0 k hk))).trans (h0 k hk)⟩⟩
/-- Cut of what stands behind a place -/
theorem cut_drop (l : List Int) (b off n pk k K : Nat) (w3 : World) (hn : n = l.length) (hn2 : n ≤ 1048576) (hpk : pk ≤ n) (hT : Tabs w3) (h2 : 2 ≤ w3.heap.size) (hB : Bytes w3 b off l) (hbN : b < w3.heap.size) (hL : ByteL l)
    (hbe : runesOf (cut (l.drop pk)) = (runesOf (cut l)).drop k) (hlen : (cut (l.drop pk)).length = K) (ad : Option Addr) (cap : Nat) (hc : n - pk ≤ cap ∧ cap ≤ 9223372036854775807) (had : ad = some ⟨b, off + pk, none⟩ ∨ n - pk = 0) :
    Calls Tryd.prog 13 #[.slice ad (n - pk) cap] w3 fun e w' => ∃ g4, w3.heap.size < g4 ∧ e = .returned (.tuple #[.slice (some ⟨w3.heap.size, 0, none⟩) K (n - pk), .slice (some ⟨g4, 0, none⟩) (K + 1) (n - pk + 1)]) ∧ IntsC w' (.slice (some ⟨w3.heap.size, 0, none⟩) K (n - pk)) ((runesOf (cut l)).drop k) ∧ Below w3.heap.size w3 w' := by
  have hl : (l.drop pk).length = n - pk := by rw [List.length_drop, ← hn]
  have hBA : BytesAt w3.heap.size w3 (.slice ad (n - pk) cap) (l.drop pk) := by
    refine ⟨ad, cap, by rw [hl], by omega, hc.2, ?_⟩
    rcases had with rfl | h0
    · exact .inr ⟨b, off + pk, rfl, hbN, hB.drop pk⟩
    · exact .inl (by omega)
  refine (cut13 (l.drop pk) ad (n - pk) cap w3 hl.symm (by omega) hT h2 hBA (hL.drop pk)).mono ?_
  rintro e w' ⟨g4, hg4, he, ho, _, hb⟩
  rw [hlen] at he ho
  refine ⟨g4, hg4, he, ?_, hb⟩
  rw [← hbe]
  exact ints_own (by rw [runes_len, hlen]) ho
theorem ints_take {w : World} {g n k : Nat} {R : List Int} (hk : k ≤ R.length) (hc : ∀ j, j < R.length → w.cell? ⟨g, j, none⟩ = some (.int .i64 (R.getD j 0))) : IntsC w (.slice (some ⟨g, 0, none⟩) k n) (R.take k) := by
  refine ⟨_, n, by rw [List.length_take]; congr 1; omega, .inr ⟨g, 0, rfl, fun j hj => ?_⟩⟩
  rw [List.length_take] at hj
  rw [Nat.zero_add, hc j (by omega)]
  simp [List.getD_eq_getElem?_getD, List.getElem?_take_of_lt (show j < k by omega)]
theorem ints_drop {w : World} {g n k m : Nat} {R : List Int} (ad : Option Addr) (hm : m = R.length - k) (had : ad = some ⟨g, k, none⟩ ∨ m = 0) (hc : ∀ j, j < R.length → w.cell? ⟨g, j, none⟩ = some (.int .i64 (R.getD j 0))) : IntsC w (.slice ad m n) (R.drop k) := by
  refine ⟨ad, n, by rw [List.length_drop, hm], ?_⟩
  rcases had with rfl | h0
  · refine .inr ⟨g, k, rfl, fun j hj => ?_⟩
    rw [List.length_drop] at hj
    rw [hc (k + j) (by omega)]
    simp [List.getD_eq_getElem?_getD, List.getElem?_drop]
  · left; rw [List.length_drop]; omega
theorem same_true (l : List Int) (va vb : Value) (w : World) (ha : IntsC w va l) (hb : IntsC w vb l) (hla : l.length ≤ 140737488351232) :
    Calls Tryd.prog 17 #[va, vb] w fun e w' => e = .returned (.bool true) ∧ ∃ q, w' = w.drewN q := by
  have h := same17 l l va vb w ha hb hla hla
  rwa [show decide (l = l) = true by simp] at h
/-- Encode of runes of the domain -/
theorem encode_ok (R : List Int) (v : Value) (ad : Option Addr) (n cap : Nat) (w : World) (hv : v = .slice ad n cap) (hn : n = R.length) (hn2 : n ≤ 4194304) (hl : IntsAt w.heap.size w (.slice ad n cap) R) (hT : Tabs w) (h2 : 2 ≤ w.heap.size) (hd : R.all dom = true) :
    Calls Tryd.prog 19 #[.slice ad n cap] w fun e w' => ∃ g6 cp6, e = .returned (.tuple #[.slice (some ⟨g6, 0, none⟩) (encL R).length cp6, .int .i64 0]) ∧ BytesAt w'.heap.size w' (.slice (some ⟨g6, 0, none⟩) (encL R).length cp6) (encL R) ∧ Below w.heap.size w w' := by
  refine (encode19 R ad n cap w hn hl hT h2).mono ?_
  rintro e w' ⟨hb, hE⟩
  rw [if_neg (by omega), if_pos hd] at hE
  obtain ⟨g6, cp6, he, ho⟩ := hE
  have hc := own_cap ho
  exact ⟨g6, cp6, he, ⟨_, cp6, rfl, hc.1, hc.2, .inr ⟨g6, 0, rfl, (ho.lt _ rfl).2, bytes_own ho rfl⟩⟩, hb⟩
theorem cut_back (R : List Int) (g6 cp6 m : Nat) (w : World) (hm : m = (encL R).length) (hm2 : R.length ≤ 4194304) (hd : R.all dom = true) (hl : BytesAt w.heap.size w (.slice (some ⟨g6, 0, none⟩) m cp6) (encL R)) (hT : Tabs w) (h2 : 2 ≤ w.heap.size) :
    Calls Tryd.prog 13 #[.slice (some ⟨g6, 0, none⟩) m cp6] w fun e w' => ∃ v1 v2, e = .returned (.tuple #[v1, v2]) ∧ IntsC w' v1 R ∧ Below w.heap.size w w' := by
  have hle := encL_len R
  refine (cut13 (encL R) _ m cp6 w hm (by omega) hT h2 hl (encL_bytes R hd)).mono ?_
  rintro e w' ⟨g4, hg4, he, ho, _, hb⟩
  have h := ints_own (by rw [runes_len]) ho
  have hr : runesOf (cut (encL R)) = R := by rw [cut_enc R hd, pf_runes]
  rw [hr] at h
  exact ⟨_, _, he, h, hb⟩
end Go.Proofs.YtjglehklfdhgaaaDoor
