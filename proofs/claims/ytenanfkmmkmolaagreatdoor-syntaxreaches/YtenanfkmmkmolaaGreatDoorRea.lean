/- PROVED: the law SyntaxReaches of layer 4 answers true for all bytes: as many bytes of a pattern of at most 200 as ErrSyntax tells can become a pattern, by one of the law's endings and at most as many closing brackets as brackets were opened; and the argument reads afterwards as it read before.
   CONDITIONS: the form's own (the string has at most 2^47 - 4096 bytes); the variables errors.errorType, runes.forms and runes.sizes start as the program's text lays them (the given card ties that); the card speaks of the pruned copy of the project that the seat holds. -/
import Derived.Test.YtenanfkmmkmolaaGreatDoorK10
import Derived.Laws.Concat
import Derived.Laws.Strings
import Derived.Lib.MinMax
import Derived.Test.YtenanfkmmkmolaaGreatDoorCards
import Derived.Test.YtenanfkmmkmolaaGreatDoorTie
import Derived.SizedLaws
import Derived.ChangeMaps5
/- HELPERS: the walk of the law SyntaxBegins. -/
namespace Go.Proofs.YtenanfkmmkmolaaGreatDoor
open Go.RowKit Go.Mx
set_option linter.unusedVariables false
set_option linter.unusedSimpArgs false
theorem txt_bytes (p : ByteArray) : ∀ x ∈ txt p, 0 ≤ x ∧ x < 256 := by
  intro x hx
  simp only [txt, List.mem_map] at hx
  obtain ⟨b, _, rfl⟩ := hx
  have := b.toNat_lt
  omega
theorem txt_nx (p : ByteArray) (i : Nat) (h : i < p.size) : nx (txt p) i = (p.data[i]'h).toNat := by
  rw [nx_in (by rw [txt_len]; exact h)]
  simp [txt]
theorem txt_extract (p : ByteArray) (k : Nat) (h : k ≤ p.size) : (p.extract 0 k).size = k ∧ ∀ i, i < k → nx (txt (p.extract 0 k)) i = nx (txt p) i := by
  have hs : (p.extract 0 k).size = k := by simp [ByteArray.size_extract]; omega
  refine ⟨hs, fun i hi => ?_⟩
  rw [txt_nx _ _ (by omega), txt_nx _ _ (by omega)]
  simp [ByteArray.data_extract]
theorem txt_append (p q : ByteArray) : (p ++ q).size = p.size + q.size ∧ ∀ i, i < p.size → nx (txt (p ++ q)) i = nx (txt p) i := by
  have hs : (p ++ q).size = p.size + q.size := ByteArray.size_append
  refine ⟨hs, fun i hi => ?_⟩
  rw [txt_nx _ _ (by omega), txt_nx _ _ (by omega)]
  simp [ByteArray.data_append, Array.getElem_append_left, hi]
theorem code_cases (p : ByteArray) : (codeP p = (2, -1) ∧ 65536 < p.size) ∨ (p.size ≤ 65536 ∧ ∃ k : Nat, codeP p = (40, (k : Int)) ∧ k ≤ p.size ∧ patternP (txt p) = .error k) ∨ (p.size ≤ 65536 ∧ (codeP p).1 ≠ 2 ∧ (codeP p).1 ≠ 40 ∧ ∀ k, patternP (txt p) ≠ .error k) := by
  unfold codeP
  cases h : faultP p with
  | none =>
    obtain ⟨hp, x, hx⟩ := faultP_none h
    exact .inr (.inr ⟨hp, by simp, by simp, fun k hk => by rw [hx] at hk; cases hk⟩)
  | some y =>
    obtain ⟨co, at_⟩ := y
    rcases faultP_ok h with ⟨h1, h2, h3⟩ | ⟨hp, k, h1, h2, h3⟩ | ⟨hp, h1, x, h2⟩
    · subst h1 h2
      exact .inl ⟨rfl, h3⟩
    · subst h1 h2
      refine .inr (.inl ⟨hp, k, rfl, ?_, h3⟩)
      have := (dead_stays (txt_bytes p) h3).1
      rw [txt_len] at this
      exact this
    · refine .inr (.inr ⟨hp, ?_, ?_, fun k hk => by rw [h2] at hk; cases hk⟩)
      · show co ≠ 2
        unfold okC at h1
        omega
      · show co ≠ 40
        unfold okC at h1
        omega
/-- a beginning of what has no dead byte -/
theorem begin_code (p : ByteArray) (hp : p.size ≤ 65536) (hd : ∀ k, patternP (txt p) ≠ .error k) (k : Nat) (hk : k ≤ p.size) : (codeP (p.extract 0 k)).1 ≠ 2 ∧ ((codeP (p.extract 0 k)).1 ≠ 40 ∨ codeP (p.extract 0 k) = (40, (k : Int))) := by
  obtain ⟨hs, hx⟩ := txt_extract p k hk
  rcases code_cases (p.extract 0 k) with ⟨_, h2⟩ | ⟨_, j, h1, h2, h3⟩ | ⟨_, h1, h2, _⟩
  · omega
  · rw [h1]
    refine ⟨by simp, .inr ?_⟩
    rw [hs] at h2
    rcases Nat.lt_or_ge j k with hj | hj
    · exact absurd ((dead_stays (txt_bytes _) h3).2 (txt p) (txt_bytes p) (fun i hi => by first | exact hx i (by omega) | exact (hx i (by omega)).symm)) (hd j)
    · rw [show j = k by omega]
  · exact ⟨h1, .inl h2⟩
/-- a dead byte stays dead -/
theorem dead_code (p more : ByteArray) (j : Nat) (hj : j < p.size) (h : patternP (txt p) = .error j) : (65536 < (p.extract 0 (j + 1) ++ more).size ∧ (codeP (p.extract 0 (j + 1) ++ more)).1 = 2) ∨ ((p.extract 0 (j + 1) ++ more).size ≤ 65536 ∧ codeP (p.extract 0 (j + 1) ++ more) = (40, (j : Int))) := by
  obtain ⟨hs, hx⟩ := txt_extract p (j + 1) (by omega)
  obtain ⟨ha, hy⟩ := txt_append (p.extract 0 (j + 1)) more
  have hdead : patternP (txt (p.extract 0 (j + 1) ++ more)) = .error j := (dead_stays (txt_bytes _) h).2 _ (txt_bytes _) (fun i hi => by
    have e := (hy i (by omega)).trans (hx i (by omega))
    first | exact e | exact e.symm)
  rcases code_cases (p.extract 0 (j + 1) ++ more) with ⟨h1, h2⟩ | ⟨hp, k, h1, h2, h3⟩ | ⟨_, _, _, h3⟩
  · exact .inl ⟨h2, by rw [h1]⟩
  · rw [hdead] at h3
    injection h3 with h3
    subst h3
    exact .inr ⟨hp, h1⟩
  · exact absurd hdead (h3 j)
end Go.Proofs.YtenanfkmmkmolaaGreatDoor
/- HELPERS: what is not over at the text's end goes on: runes, escapes, items, classes, atoms. -/
namespace Go.Proofs.YtenanfkmmkmolaaGreatDoor
open Go.RowKit Go.Mx
set_option linter.unusedVariables false
set_option linter.unusedSimpArgs false
/-- u begins with s -/
structure Beg (s u : List Int) : Prop where
  pre : ∀ i, i < s.length → nx u i = nx s i
  bs : ∀ x ∈ s, 0 ≤ x ∧ x < 256
  bu : ∀ x ∈ u, 0 ≤ x ∧ x < 256
/-- in u stands e at place k -/
def At (u : List Int) (k : Nat) (e : List Int) : Prop := ∀ n, n < e.length → nx u (k + n) = e.getD n 0
theorem Beg.al {s u : List Int} (h : Beg s u) {k : Nat} (hk : k < s.length) : Alike s u k := fun j hj => (h.pre j (by omega)).symm
theorem nx_L (s : List Int) : nx s s.length = -1 := nx_end (Nat.le_refl _)
theorem At.left {u : List Int} {k : Nat} {a b : List Int} (h : At u k (a ++ b)) : At u k a := fun n hn => by
  rw [h n (by simp; omega)]
  simp [List.getD, List.getElem?_append_left hn]
theorem At.right {u : List Int} {k : Nat} {a b : List Int} (h : At u k (a ++ b)) : At u (k + a.length) b := fun n hn => by
  rw [Nat.add_assoc, h (a.length + n) (by simp; omega)]
  simp [List.getD, List.getElem?_append_right]
/-- the digits of a number between brackets run to the end -/
theorem hexGo_to {s u : List Int} (hB : Beg s u) (h125 : nx u s.length = 125) : ∀ (f i : Nat) (c : Int), i ≤ s.length → stop (hexGo s f i c) = s.length → ∃ c', hexGo u f i c = .ok (c', s.length) := by
  intro f
  induction f with
  | zero =>
    intro i c hi h
    simp [hexGo, stop] at h
    subst h
    exact ⟨c, by simp [hexGo]⟩
  | succ f ih =>
    intro i c hi h
    rcases Nat.lt_or_ge i s.length with hl | hl
    · unfold hexGo at h ⊢
      rw [hB.pre i hl, hexDigit_lo (hB.pre i hl).symm]
      split
      · rename_i h1
        rw [if_pos h1] at h
        simp [stop] at h
        omega
      · rename_i h1
        rw [if_neg h1] at h
        cases hx : hexDigit s i with
        | error k =>
          have := hexDigit_stop hx
          rw [hx] at h
          simp [stop] at h
          omega
        | ok y =>
          obtain ⟨d, j⟩ := y
          have hj := hexDigit_go hx
          rw [hx] at h
          exact ih j _ (by omega) h
    · have : i = s.length := by omega
      subst this
      unfold hexGo
      rw [if_pos h125]
      exact ⟨c, rfl⟩
def hexEs : List (List Int) := [[49, 125], [125], [52, 49], [49]]
theorem hexNum_fail {s : List Int} {i : Nat} (hi : i ≤ s.length) (h : hexNum s i = .error s.length) : ∃ e ∈ hexEs, ∀ u, Beg s u → At u s.length e → ∃ c, hexNum u i = .ok (c, s.length + e.length) := by
  unfold hexNum at h
  by_cases h1 : nx s i = 123
  · have hl := nx_lt (t := s) (i := i) (by omega)
    rw [if_pos h1] at h
    cases hx : hexDigit s (i + 1) with
    | error k =>
      have hk := hexDigit_stop hx
      rw [hx] at h
      injection h with h
      refine ⟨[49, 125], by simp [hexEs], fun u hB hA => ?_⟩
      have a0 := hA 0 (by simp)
      have a1 := hA 1 (by simp)
      have e0 : i + 1 = s.length := by omega
      rw [Nat.add_zero, ← e0] at a0
      rw [← e0] at a1
      have hd : hexDigit u (i + 1) = .ok (1, i + 2) := by unfold hexDigit hexd; rw [a0]; simp
      unfold hexNum
      rw [hB.pre i hl, if_pos h1, hd]
      simp only
      have hg : hexGo u 5 (i + 2) 1 = .ok (1, i + 2) := by unfold hexGo; rw [if_pos (by simpa using a1)]
      rw [hg]
      simp only
      rw [if_pos (by simpa using a1)]
      exact ⟨1, by rw [← e0]; rfl⟩
    | ok y =>
      obtain ⟨d, j⟩ := y
      have hj := hexDigit_go hx
      have hl1 : i + 1 < s.length := by
        have := hexDigit_bd hx
        omega
      rw [hx] at h
      simp only at h
      refine ⟨[125], by simp [hexEs], fun u hB hA => ?_⟩
      have a0 : nx u s.length = 125 := by simpa using hA 0 (by simp)
      have hst : stop (hexGo s 5 j d) = s.length := by
        cases hy : hexGo s 5 j d with
        | error k => rw [hy] at h; injection h with h
        | ok z =>
          obtain ⟨c, k⟩ := z
          rw [hy] at h
          simp only at h
          split at h
          · cases h
          · injection h with h
      obtain ⟨c', hc'⟩ := hexGo_to hB a0 5 j d (by omega) hst
      unfold hexNum
      rw [hB.pre i hl, if_pos h1, hexDigit_lo (hB.pre (i + 1) hl1).symm, hx]
      simp only
      rw [hc']
      simp only
      rw [if_pos a0]
      exact ⟨c', rfl⟩
  · rw [if_neg h1] at h
    cases hx : hexDigit s i with
    | error k =>
      have hk := hexDigit_stop hx
      rw [hx] at h
      injection h with h
      refine ⟨[52, 49], by simp [hexEs], fun u hB hA => ?_⟩
      have a0 := hA 0 (by simp)
      have a1 := hA 1 (by simp)
      have e0 : i = s.length := by omega
      rw [Nat.add_zero, ← e0] at a0
      rw [← e0] at a1
      have hd : hexDigit u i = .ok (4, i + 1) := by unfold hexDigit hexd; rw [a0]; simp
      have hd2 : hexDigit u (i + 1) = .ok (1, i + 2) := by unfold hexDigit hexd; rw [a1]; simp
      unfold hexNum
      rw [if_neg (by rw [a0]; simp), hd]
      simp only
      rw [hd2]
      exact ⟨_, by rw [← e0]; rfl⟩
    | ok y =>
      obtain ⟨d, j⟩ := y
      have hj := hexDigit_go hx
      have hl1 : i < s.length := by
        have := hexDigit_bd hx
        omega
      rw [hx] at h
      simp only at h
      cases hy : hexDigit s j with
      | error k =>
        have hk := hexDigit_stop hy
        rw [hy] at h
        injection h with h
        refine ⟨[49], by simp [hexEs], fun u hB hA => ?_⟩
        have a0 := hA 0 (by simp)
        have e0 : j = s.length := by omega
        rw [Nat.add_zero, ← e0] at a0
        have hd2 : hexDigit u j = .ok (1, j + 1) := by unfold hexDigit hexd; rw [a0]; simp
        unfold hexNum
        rw [hB.pre i hl1, if_neg h1, hexDigit_lo (hB.pre i hl1).symm, hx]
        simp only
        rw [hd2]
        exact ⟨_, by rw [← e0]; rfl⟩
      | ok z =>
        obtain ⟨b, k⟩ := z
        rw [hy] at h
        cases h
theorem hexNum_end {s u : List Int} {i k : Nat} {c : Int} (hB : Beg s u) (h : hexNum s i = .ok (c, k)) (hk : k ≤ s.length) : hexNum u i = .ok (c, k) := by
  unfold hexNum at h ⊢
  by_cases h1 : nx s i = 123
  · have hl := nx_lt (t := s) (i := i) (by omega)
    rw [if_pos h1] at h
    rw [hB.pre i hl, if_pos h1]
    cases hx : hexDigit s (i + 1) with
    | error k => rw [hx] at h; cases h
    | ok y =>
      obtain ⟨d, j⟩ := y
      have hj := hexDigit_bd hx
      rw [hx] at h
      rw [hexDigit_lo (hB.pre (i + 1) (by omega)).symm, hx]
      simp only at h ⊢
      cases hy : hexGo s 5 j d with
      | error k => rw [hy] at h; cases h
      | ok z =>
        obtain ⟨c', k'⟩ := z
        rw [hy] at h
        simp only at h
        split at h
        · rename_i h2
          have hk' := nx_lt (t := s) (i := k') (by omega)
          rw [hexGo_lo s u 5 j d (by rw [hy]; exact hB.al hk'), hy]
          simp only
          rw [hB.pre k' hk', if_pos h2]
          exact h
        · cases h
  · rw [if_neg h1] at h
    cases hx : hexDigit s i with
    | error k => rw [hx] at h; cases h
    | ok y =>
      obtain ⟨d, j⟩ := y
      have hj := hexDigit_bd hx
      have hj2 := hexDigit_go hx
      rw [hx] at h
      simp only at h
      rw [hB.pre i (by omega), if_neg h1, hexDigit_lo (hB.pre i (by omega)).symm, hx]
      simp only
      cases hy : hexDigit s j with
      | error k => rw [hy] at h; cases h
      | ok z =>
        obtain ⟨b, k'⟩ := z
        have := hexDigit_bd hy
        have := hexDigit_go hy
        rw [hy] at h
        rw [hexDigit_lo (hB.pre j (by omega)).symm, hy]
        exact h
def escEs : List (List Int) := [[110], [49, 125], [125], [52, 49], [49]]
theorem single_fail {s : List Int} {i : Nat} (h92 : nx s i = 92) (h : single s i = .error s.length) : ∃ e ∈ escEs, (∀ u, Beg s u → At u s.length e → ∃ c, single u i = .ok (c, s.length + e.length)) ∧ (i + 1 < s.length ∨ (i + 1 = s.length ∧ e = [110])) := by
  have hl := nx_lt (t := s) (i := i) (by omega)
  rcases Nat.lt_or_ge (i + 1) s.length with h1 | h1
  · by_cases hx : nx s (i + 1) = 120
    · have h' := h
      unfold single at h'
      rw [if_pos h92, if_pos hx] at h'
      obtain ⟨e, he, hf⟩ := hexNum_fail (by omega) h'
      refine ⟨e, by simp [hexEs] at he; rcases he with rfl | rfl | rfl | rfl <;> simp [escEs], fun u hB hA => ?_, .inl h1⟩
      obtain ⟨c, hc⟩ := hf u hB hA
      refine ⟨c, ?_⟩
      unfold single
      rw [hB.pre i hl, if_pos h92, hB.pre (i + 1) h1, if_pos hx]
      exact hc
    · exfalso
      unfold single at h
      rw [if_pos h92, if_neg hx] at h
      repeat' split at h
      all_goals first | (cases h; done) | (injection h with h; omega)
  · have e0 : i + 1 = s.length := by omega
    refine ⟨[110], by simp [escEs], fun u hB hA => ?_, .inr ⟨e0, rfl⟩⟩
    have a0 := hA 0 (by simp)
    rw [Nat.add_zero, ← e0] at a0
    unfold single
    rw [hB.pre i hl, if_pos h92, a0]
    simp
    omega
theorem single_end {s u : List Int} {i k : Nat} {c : Int} (hB : Beg s u) (h : single s i = .ok (c, k)) (hk : k ≤ s.length) : single u i = .ok (c, k) := by
  unfold single at h ⊢
  by_cases h92 : nx s i = 92
  · have hl := nx_lt (t := s) (i := i) (by omega)
    rw [if_pos h92] at h
    have h1 : i + 1 < s.length := by
      by_cases hx : nx s (i + 1) = 120
      · exact nx_lt (by omega)
      · rw [if_neg hx] at h
        repeat' split at h
        all_goals first | (cases h; done) | exact nx_lt (by omega)
    rw [hB.pre i hl, if_pos h92, hB.pre (i + 1) h1]
    by_cases hx : nx s (i + 1) = 120
    · rw [if_pos hx] at h ⊢
      exact hexNum_end hB h hk
    · rw [if_neg hx] at h ⊢
      exact h
  · rw [if_neg h92] at h
    cases h
theorem single2_end {s u : List Int} {i k : Nat} {wr wr2 : Wr} {x : Int × Bool} (hB : Beg s u) (h : single2 s i wr = .ok (x, k, wr2)) (hk : k ≤ s.length) : single2 u i wr = .ok (x, k, wr2) := by
  unfold single2 at h ⊢
  cases hs : single s i with
  | error k => rw [hs] at h; cases h
  | ok y =>
    obtain ⟨c, k'⟩ := y
    rw [hs] at h
    have hk' : k' = k := by
      simp only at h
      split at h <;> (injection h with h; injection h with _ h; injection h with h _)
    subst hk'
    rw [single_end hB hs hk]
    exact h
theorem runeBut_end {s u : List Int} {st : ByteArray} {i k : Nat} {c : Int} (hB : Beg s u) (h : runeBut s st i = .ok (c, k)) (hk : k ≤ s.length) : runeBut u st i = .ok (c, k) := by
  rw [runeBut_lo hB.bs (fun k' h' => by rw [h] at h'; cases h') (fun c' k' h' j hj => by rw [h] at h'; injection h' with h'; injection h' with _ h'; exact (hB.pre j (by omega)).symm), h]
def runEs : List (List Int) := [[128], [128, 128], [160, 128], [144, 128, 128], [128, 128, 128]]
theorem cont_lt {s : List Int} : ∀ (m j : Nat) (a b : Int), cont s m j a b = .error s.length → s.length < j + m := by
  intro m
  induction m with
  | zero => intro j a b h; simp [cont] at h
  | succ m ih =>
    intro j a b h
    unfold cont at h
    split at h
    · have := ih (j + 1) 128 191 h; omega
    · injection h with h; omega
theorem cont_fail {s u : List Int} (hB : Beg s u) : ∀ (m i : Nat) (a b : Int), 0 ≤ a → i ≤ s.length → cont s m i a b = .error s.length → ∀ e : List Int, e.length = i + m - s.length → At u s.length e → (i = s.length → (a ≤ e.getD 0 0 ∧ e.getD 0 0 ≤ b) ∧ ∀ n, 0 < n → n < e.length → e.getD n 0 = 128) → (i < s.length → ∀ n, n < e.length → e.getD n 0 = 128) → cont u m i a b = .ok (i + m) := by
  intro m
  induction m with
  | zero => intro i a b _ _ h; simp [cont] at h
  | succ m ih =>
    intro i a b ha hi h e hel hA h1 h2
    rcases Nat.lt_or_ge i s.length with hl | hl
    · unfold cont at h ⊢
      rw [hB.pre i hl]
      split
      · rename_i hx
        rw [if_pos hx] at h
        have := ih (i + 1) 128 191 (by decide) (by omega) h e (by omega) hA (fun e0 => ⟨by have h0 := h2 hl 0 (by have := cont_lt m (i + 1) 128 191 h; omega); rw [h0]; decide, fun n _ hn => h2 hl n hn⟩) (fun _ => h2 hl)
        rw [this]
        congr 1
        omega
      · rename_i hx
        rw [if_neg hx] at h
        injection h with h
        omega
    · have e0 : i = s.length := by omega
      obtain ⟨q1, q2⟩ := h1 e0
      have a0 := hA 0 (by omega)
      rw [Nat.add_zero, ← e0] at a0
      unfold cont
      rw [a0, if_pos q1]
      -- the rest by the bytes that stand there
      have go : ∀ (m' j : Nat), (∀ n, n < m' → nx u (j + n) = 128) → cont u m' j 128 191 = .ok (j + m') := by
        intro m'
        induction m' with
        | zero => intro j _; rfl
        | succ m' ih' =>
          intro j hj
          unfold cont
          have := hj 0 (by omega)
          rw [Nat.add_zero] at this
          rw [this, if_pos (by decide), ih' (j + 1) (fun n hn => by have := hj (n + 1) (by omega); rw [← this]; congr 1; omega)]
          congr 1
          omega
      rw [go m (i + 1) (fun n hn => by
        have := hA (n + 1) (by omega)
        rw [q2 (n + 1) (by omega) (by omega), ← e0] at this
        rw [← this]
        congr 1
        omega)]
      congr 1
      omega
theorem runeBut_fail {s : List Int} {st : ByteArray} {i : Nat} (hl : i < s.length) (h : runeBut s st i = .error s.length) : ∃ e ∈ runEs, ∀ u, Beg s u → At u s.length e → ∃ c, runeBut u st i = .ok (c, s.length + e.length) := by
  unfold runeBut at h
  by_cases h1 : oneOf st (nx s i) = true
  · rw [if_pos h1] at h
    injection h with h
    omega
  · rw [if_neg h1] at h
    cases hr : rb (nx s i) with
    | none => rw [hr] at h; injection h with h; omega
    | some y =>
      obtain ⟨m, a, b⟩ := y
      rw [hr] at h
      simp only at h
      cases hc : cont s m (i + 1) a b with
      | ok k => rw [hc] at h; cases h
      | error k =>
        rw [hc] at h
        injection h with h
        subst h
        obtain ⟨r1, r2, r3⟩ := rb_some hr
        have key : ∀ e : List Int, e.length = i + 1 + m - s.length → (i + 1 = s.length → (a ≤ e.getD 0 0 ∧ e.getD 0 0 ≤ b) ∧ ∀ n, 0 < n → n < e.length → e.getD n 0 = 128) → (i + 1 < s.length → ∀ n, n < e.length → e.getD n 0 = 128) → ∀ u, Beg s u → At u s.length e → ∃ c, runeBut u st i = .ok (c, s.length + e.length) := by
          intro e hel q1 q2 u hB hA
          have hm0 := cont_lt m (i + 1) a b hc
          have := cont_fail hB m (i + 1) a b r2 (by omega) hc e hel hA q1 q2
          unfold runeBut
          rw [hB.pre i hl, if_neg h1, hr]
          simp only
          rw [this]
          exact ⟨_, by simp only; congr 2; omega⟩
        have hlt := cont_lt m (i + 1) a b hc
        rcases Nat.lt_or_ge (i + 1) s.length with h2 | h2
        · -- one or two bytes are to come
          rcases (show i + 1 + m - s.length = 1 ∨ i + 1 + m - s.length = 2 by omega) with h3 | h3
          · exact ⟨[128], by simp [runEs], key [128] (by simp; omega) (fun e0 => by omega) (fun _ n hn => by simp at hn; subst hn; rfl)⟩
          · refine ⟨[128, 128], by simp [runEs], key [128, 128] (by simp; omega) (fun e0 => by omega) (fun _ n hn => ?_)⟩
            simp at hn
            rcases (show n = 0 ∨ n = 1 by omega) with rfl | rfl <;> rfl
        · have e0 : i + 1 = s.length := by omega
          have two : ∀ (x : Int) (e : List Int), e = [x] ∨ e = [x, 128] ∨ e = [x, 128, 128] → ∀ n, 0 < n → n < e.length → e.getD n 0 = 128 := by
            intro x e he n hn hn2
            rcases he with rfl | rfl | rfl
            · simp at hn2; omega
            · simp at hn2
              obtain rfl : n = 1 := by omega
              rfl
            · simp at hn2
              rcases (show n = 1 ∨ n = 2 by omega) with rfl | rfl <;> rfl
          unfold rb at hr
          repeat' split at hr
          all_goals first | (cases hr; done) | (injection hr with hr; injection hr with hr1 hr2; injection hr2 with hr2 hr3; subst hr1 hr2 hr3)
          · simp [cont] at hc
          · exact ⟨[128], by simp [runEs], key [128] (by simp; omega) (fun _ => ⟨by decide, two 128 _ (.inl rfl)⟩) (fun h => by omega)⟩
          · exact ⟨[160, 128], by simp [runEs], key [160, 128] (by simp; omega) (fun _ => ⟨by decide, two 160 _ (.inr (.inl rfl))⟩) (fun h => by omega)⟩
          · exact ⟨[128, 128], by simp [runEs], key [128, 128] (by simp; omega) (fun _ => ⟨by decide, two 128 _ (.inr (.inl rfl))⟩) (fun h => by omega)⟩
          · exact ⟨[128, 128], by simp [runEs], key [128, 128] (by simp; omega) (fun _ => ⟨by decide, two 128 _ (.inr (.inl rfl))⟩) (fun h => by omega)⟩
          · exact ⟨[144, 128, 128], by simp [runEs], key [144, 128, 128] (by simp; omega) (fun _ => ⟨by decide, two 144 _ (.inr (.inr rfl))⟩) (fun h => by omega)⟩
          · exact ⟨[128, 128, 128], by simp [runEs], key [128, 128, 128] (by simp; omega) (fun _ => ⟨by decide, two 128 _ (.inr (.inr rfl))⟩) (fun h => by omega)⟩
          · exact ⟨[128, 128, 128], by simp [runEs], key [128, 128, 128] (by simp; omega) (fun _ => ⟨by decide, two 128 _ (.inr (.inr rfl))⟩) (fun h => by omega)⟩
end Go.Proofs.YtenanfkmmkmolaaGreatDoor
/- HELPERS: what is not over at the text's end goes on: items, classes, atoms. -/
namespace Go.Proofs.YtenanfkmmkmolaaGreatDoor
open Go.RowKit Go.Mx
set_option linter.unusedVariables false
set_option linter.unusedSimpArgs false
/-- what ends an escape or a rune -/
def inEs : List (List Int) := [[110], [49, 125], [125], [52, 49], [49], [128], [128, 128], [160, 128], [144, 128, 128], [128, 128, 128]]
theorem single2_fail {s : List Int} {i : Nat} {wr : Wr} (h92 : nx s i = 92) (h : single2 s i wr = .error s.length) : ∃ e ∈ escEs, (∀ u, Beg s u → At u s.length e → ∃ x wr2, single2 u i wr = .ok (x, s.length + e.length, wr2)) ∧ (i + 1 < s.length ∨ (i + 1 = s.length ∧ e = [110])) := by
  unfold single2 at h
  cases hs : single s i with
  | ok y =>
    obtain ⟨c, k⟩ := y
    rw [hs] at h
    simp only at h
    split at h <;> cases h
  | error k =>
    rw [hs] at h
    injection h with h
    subst h
    obtain ⟨e, he, hf, hd⟩ := single_fail h92 hs
    refine ⟨e, he, fun u hB hA => ?_, hd⟩
    obtain ⟨c, hc⟩ := hf u hB hA
    unfold single2
    rw [hc]
    simp only
    split
    · exact ⟨_, _, rfl⟩
    · exact ⟨_, _, rfl⟩
theorem plain_a : oneOf notOne 97 = false := by decide
theorem one_fail {s : List Int} {i : Nat} {wr : Wr} (hi : i ≤ s.length) (h : one s i wr = .error s.length) : ∃ e, ((e ∈ inEs ∧ i < s.length) ∨ (e = [97] ∧ i = s.length)) ∧ 0 < e.length ∧ (∀ u, Beg s u → At u s.length e → ∃ x wr2, one u i wr = .ok (x, s.length + e.length, wr2)) ∧ (nx s i = 92 → (i + 1 < s.length ∨ (i + 1 = s.length ∧ e = [110]))) := by
  rcases Nat.lt_or_ge i s.length with hl | hl
  · unfold one at h
    by_cases h92 : nx s i = 92
    · rw [if_pos h92] at h
      obtain ⟨e, he, hf, hd⟩ := single2_fail h92 h
      refine ⟨e, .inl ⟨?_, hl⟩, ?_, fun u hB hA => ?_, fun _ => hd⟩
      · simp [escEs] at he
        rcases he with rfl | rfl | rfl | rfl | rfl <;> simp [inEs]
      · simp [escEs] at he
        rcases he with rfl | rfl | rfl | rfl | rfl <;> simp
      · unfold one
        rw [hB.pre i hl, if_pos h92]
        exact hf u hB hA
    · rw [if_neg h92] at h
      cases hr : runeBut s notOne i with
      | ok y => obtain ⟨c, k⟩ := y; rw [hr] at h; cases h
      | error k =>
        rw [hr] at h
        injection h with h
        subst h
        obtain ⟨e, he, hf⟩ := runeBut_fail hl hr
        refine ⟨e, .inl ⟨?_, hl⟩, ?_, fun u hB hA => ?_, fun h => absurd h h92⟩
        · simp [runEs] at he
          rcases he with rfl | rfl | rfl | rfl | rfl <;> simp [inEs]
        · simp [runEs] at he
          rcases he with rfl | rfl | rfl | rfl | rfl <;> simp
        · obtain ⟨c, hc⟩ := hf u hB hA
          unfold one
          rw [hB.pre i hl, if_neg h92, hc]
          exact ⟨_, _, rfl⟩
  · have e0 : i = s.length := by omega
    refine ⟨[97], .inr ⟨rfl, e0⟩, by simp, fun u hB hA => ?_, fun h => ?_⟩
    · have a0 : nx u i = 97 := by rw [e0]; simpa using hA 0 (by simp)
      unfold one runeBut
      rw [a0, if_neg (by decide), plain_a]
      simp [rb, cont, e0]
    · rw [e0, nx_L] at h
      omega
theorem one_end {s u : List Int} {i k : Nat} {wr wr2 : Wr} {x : Int × Bool} (hB : Beg s u) (hl : i < s.length) (h : one s i wr = .ok (x, k, wr2)) (hk : k ≤ s.length) : one u i wr = .ok (x, k, wr2) := by
  unfold one at h ⊢
  rw [hB.pre i hl]
  by_cases h92 : nx s i = 92
  · rw [if_pos h92] at h ⊢
    exact single2_end hB h hk
  · rw [if_neg h92] at h ⊢
    cases hr : runeBut s notOne i with
    | error k => rw [hr] at h; cases h
    | ok y =>
      obtain ⟨c, k'⟩ := y
      rw [hr] at h
      have hk' : k' = k := by injection h with h; injection h with _ h; injection h with h _
      subst hk'
      rw [runeBut_end hB hr hk]
      exact h
theorem getD_beg {s u : List Int} (hB : Beg s u) {j : Nat} (hj : j < s.length) : u.getD j 0 = s.getD j 0 := getD_al hB.bs hB.bu (hB.pre j hj).symm
theorem getD_at {u : List Int} {j : Nat} {x : Int} (h : nx u j = x) (hx : 0 ≤ x) : u.getD j 0 = x := by
  have := nx_lt (t := u) (i := j) (by omega)
  rw [getD_nx this, h]
theorem getD_off (s : List Int) {j : Nat} (hj : s.length ≤ j) : s.getD j 0 = 0 := by simp [List.getD, List.getElem?_eq_none hj]
theorem itemEnd_ok' (fold right : Bool) (at_ : Nat) (lo hi : Int) (k : Nat) (wr : Wr) : ∃ L wr2, itemEnd fold right at_ lo hi k wr = .ok (L, k, wr2) := by
  unfold itemEnd
  split
  · split <;> exact ⟨_, _, rfl⟩
  · exact ⟨_, _, rfl⟩
theorem setAt_beg {s u : List Int} (hB : Beg s u) {i : Nat} (hl : i + 1 < s.length) : setAt u i = setAt s i := by
  unfold setAt
  rw [hB.pre i (by omega), getD_beg hB hl]
/-- what comes behind e is a bracket -/
theorem item_fail {s : List Int} {fold : Bool} {i : Nat} {wr : Wr} (hi : i ≤ s.length) (h : item s fold i wr = .error s.length) : ∃ e, (e ∈ inEs ∨ e = [97]) ∧ ∀ u, Beg s u → At u s.length (e ++ [93]) → ∃ L wr2, item u fold i wr = .ok (L, s.length + e.length, wr2) := by
  unfold item at h
  cases hs : setAt s i with
  | some L => rw [hs] at h; cases h
  | none =>
    rw [hs] at h
    simp only at h
    cases hz : one s i wr with
    | error k =>
      rw [hz] at h
      injection h with h
      subst h
      obtain ⟨e, he, hel, hf, hd⟩ := one_fail hi hz
      refine ⟨e, he.imp And.left And.left, fun u hB hA => ?_⟩
      obtain ⟨x, wr2, hx⟩ := hf u hB hA.left
      have h93 : nx u (s.length + e.length) = 93 := by simpa using hA.right 0 (by simp)
      have hsu : setAt u i = none := by
        rcases Nat.lt_or_ge i s.length with hl | hl
        · by_cases h92 : nx s i = 92
          · rcases hd h92 with h1 | ⟨h1, rfl⟩
            · rw [setAt_beg hB h1]; exact hs
            · have a0 : nx u (i + 1) = 110 := by rw [h1]; simpa using hA.left 0 (by simp)
              unfold setAt
              rw [hB.pre i hl, if_pos h92, getD_at a0 (by decide)]
              decide
          · unfold setAt
            rw [hB.pre i hl, if_neg h92]
        · have e0 : i = s.length := by omega
          rcases he with he | ⟨rfl, _⟩
          · exact absurd he.2 (by omega)
          · have a0 : nx u i = 97 := by rw [e0]; simpa using hA.left 0 (by simp)
            unfold setAt
            rw [a0, if_neg (by decide)]
      unfold item
      rw [hsu]
      simp only
      rw [hx]
      obtain ⟨lo, r1⟩ := x
      simp only
      rw [if_neg (by rw [h93]; decide)]
      exact itemEnd_ok' _ _ _ _ _ _ _
    | ok y =>
      obtain ⟨⟨lo, r1⟩, j, wr1⟩ := y
      rw [hz] at h
      simp only at h
      by_cases h45 : nx s j = 45
      · have hj := nx_lt (t := s) (i := j) (by omega)
        rw [if_pos h45] at h
        cases hz2 : one s (j + 1) wr1 with
        | ok y2 =>
          obtain ⟨⟨hi', r2⟩, k, wr2⟩ := y2
          rw [hz2] at h
          obtain ⟨L, wr3, hL⟩ := itemEnd_ok' fold (r1 && r2) i lo hi' k wr2
          simp only at h
          rw [hL] at h
          cases h
        | error k =>
          rw [hz2] at h
          injection h with h
          subst h
          obtain ⟨e, he, hel, hf, hd⟩ := one_fail (by omega) hz2
          refine ⟨e, he.imp And.left And.left, fun u hB hA => ?_⟩
          obtain ⟨x, wr2, hx⟩ := hf u hB hA.left
          have h93 : nx u (s.length + e.length) = 93 := by simpa using hA.right 0 (by simp)
          have hij : i < j := by
            have := one_bd hz
            omega
          have hsu : setAt u i = none := by
            by_cases h92 : nx s i = 92
            · rw [setAt_beg hB (by omega)]; exact hs
            · unfold setAt
              rw [hB.pre i (by omega), if_neg h92]
          unfold item
          rw [hsu]
          simp only
          rw [one_lo hB.bs (by rw [hz]; exact hB.al hj), hz]
          simp only
          rw [hB.pre j hj, if_pos h45, hx]
          obtain ⟨hi', r2⟩ := x
          simp only
          exact itemEnd_ok' _ _ _ _ _ _ _
      · rw [if_neg h45] at h
        obtain ⟨L, wr3, hL⟩ := itemEnd_ok' fold r1 i lo lo j wr1
        rw [hL] at h
        cases h
theorem item_end {s u : List Int} {fold : Bool} {i k : Nat} {wr wr2 : Wr} {L : Rng} (hB : Beg s u) (hl : i < s.length) (h : item s fold i wr = .ok (L, k, wr2)) (hk : k = s.length) (h93 : nx u s.length = 93) : item u fold i wr = .ok (L, k, wr2) := by
  unfold item at h ⊢
  have hsu : setAt u i = setAt s i := by
    rcases Nat.lt_or_ge (i + 1) s.length with h1 | h1
    · exact setAt_beg hB h1
    · have e0 : i + 1 = s.length := by omega
      unfold setAt
      rw [hB.pre i hl]
      split
      · rw [getD_at (show nx u (i + 1) = 93 by rw [e0]; exact h93) (by decide), getD_off s (by omega)]
        decide
      · rfl
  rw [hsu]
  cases hs : setAt s i with
  | some L' => rw [hs] at h; exact h
  | none =>
    rw [hs] at h
    simp only at h ⊢
    cases hz : one s i wr with
    | error k => rw [hz] at h; cases h
    | ok y =>
      obtain ⟨⟨lo, r1⟩, j, wr1⟩ := y
      rw [hz] at h
      simp only at h
      have hj : j ≤ s.length := by
        have := one_le (t := s) (i := i) (wr := wr) (by omega)
        rw [hz] at this
        exact this
      rw [one_end hB hl hz hj]
      simp only
      by_cases h45 : nx s j = 45
      · have hjl := nx_lt (t := s) (i := j) (by omega)
        rw [if_pos h45] at h
        rw [hB.pre j hjl, if_pos h45]
        cases hz2 : one s (j + 1) wr1 with
        | error k => rw [hz2] at h; cases h
        | ok y2 =>
          obtain ⟨⟨hi', r2⟩, k', wr3⟩ := y2
          rw [hz2] at h
          simp only at h
          have hk' : k' ≤ s.length := by
            have := one_le (t := s) (i := j + 1) (wr := wr1) (by omega)
            rw [hz2] at this
            exact this
          have hl2 : j + 1 < s.length := by
            have := one_bd hz2
            omega
          rw [one_end hB hl2 hz2 hk']
          exact h
      · rw [if_neg h45] at h
        have hjk : j = k := by
          have := congrArg stop3 h
          rw [itemEnd_stop] at this
          exact this
        rw [if_neg (by rw [hjk, hk, h93]; decide)]
        exact h
/-- the items of a class run to the end -/
theorem items_fail {s : List Int} {fold : Bool} : ∀ (f : Nat) (L : Rng) (k : Nat) (wr : Wr), k ≤ s.length → s.length + 1 ≤ k + f → items s fold f L k wr = .error s.length → ∃ e, (e ∈ inEs ∨ e = [97] ∨ e = []) ∧ (k = s.length → e = []) ∧ ∀ u f', Beg s u → At u s.length (e ++ [93]) → s.length + e.length + 2 ≤ k + f' → ∃ L' wr2, items u fold f' L k wr = .ok (L', s.length + e.length + 1, wr2) := by
  intro f
  induction f with
  | zero => intro L k wr h1 h2; omega
  | succ f ih =>
    intro L k wr h1 h2 h
    rcases Nat.lt_or_ge k s.length with hl | hl
    · unfold items at h
      by_cases h93 : nx s k = 93
      · rw [if_pos h93] at h
        cases h
      · rw [if_neg h93] at h
        cases hz : item s fold k wr with
        | error j =>
          rw [hz] at h
          injection h with h
          subst h
          obtain ⟨e, he, hf⟩ := item_fail h1 hz
          refine ⟨e, he.imp_right .inl, fun e0 => by omega, fun u f' hB hA hf' => ?_⟩
          obtain ⟨L2, wr2, hL⟩ := hf u hB hA
          have h93u : nx u (s.length + e.length) = 93 := by simpa using hA.right 0 (by simp)
          obtain ⟨g, rfl⟩ : ∃ g, f' = g + 2 := ⟨f' - 2, by omega⟩
          unfold items
          rw [hB.pre k hl, if_neg h93, hL]
          simp only
          unfold items
          rw [if_pos h93u]
          exact ⟨_, _, rfl⟩
        | ok y =>
          obtain ⟨L2, j, wr2⟩ := y
          rw [hz] at h
          simp only at h
          have hj := item_le (fold := fold) (wr := wr) h1
          rw [hz] at hj
          have hj' : j ≤ s.length := hj
          have hkj := (item_bd hz).1
          obtain ⟨e, he, hend, hf⟩ := ih (L ++ L2) j wr2 hj' (by omega) h
          refine ⟨e, he, fun e0 => by omega, fun u f' hB hA hf' => ?_⟩
          obtain ⟨g, rfl⟩ : ∃ g, f' = g + 1 := ⟨f' - 1, by omega⟩
          have hit : item u fold k wr = .ok (L2, j, wr2) := by
            rcases Nat.lt_or_ge j s.length with hjl | hjl
            · rw [item_lo hB.bs hB.bu (by rw [hz]; exact hB.al hjl), hz]
            · have e0 : j = s.length := by omega
              have e1 := hend e0
              subst e1
              exact item_end hB hl hz e0 (by simpa using hA 0 (by simp))
          obtain ⟨L', wr3, hL'⟩ := hf u g hB hA (by omega)
          unfold items
          rw [hB.pre k hl, if_neg h93, hit]
          exact ⟨L', wr3, hL'⟩
    · have e0 : k = s.length := by omega
      subst e0
      refine ⟨[], .inr (.inr rfl), fun _ => rfl, fun u f' hB hA hf' => ?_⟩
      have h93u : nx u s.length = 93 := by simpa using hA 0 (by simp)
      obtain ⟨g, rfl⟩ : ∃ g, f' = g + 1 := ⟨f' - 1, by omega⟩
      unfold items
      rw [if_pos h93u]
      exact ⟨_, _, rfl⟩
theorem at_len {u : List Int} {k : Nat} {e : List Int} (h : At u k e) (he : 0 < e.length) (hb : ∀ x ∈ e, 0 ≤ x) : k + e.length ≤ u.length := by
  have := h (e.length - 1) (by omega)
  have h2 : 0 ≤ e.getD (e.length - 1) 0 := by
    rw [show e.getD (e.length - 1) 0 = e[e.length - 1]'(by omega) by simp [List.getD, show e.length - 1 < e.length by omega]]
    exact hb _ (List.getElem_mem _)
  have := nx_lt (t := u) (i := k + (e.length - 1)) (by omega)
  omega
theorem inEs_pos {e : List Int} (h : e ∈ inEs ∨ e = [97] ∨ e = []) : ∀ x ∈ e ++ [93], 0 ≤ x := by
  intro x hx
  simp [inEs] at h
  rcases h with (rfl | rfl | rfl | rfl | rfl | rfl | rfl | rfl | rfl | rfl) | rfl | rfl <;> simp at hx <;> omega
theorem classP_fail {s : List Int} {fold : Bool} {i : Nat} {wr : Wr} (h91 : nx s i = 91) (h : classP s fold i wr = .error s.length) : ∃ e, (e ∈ inEs ∨ e = [97] ∨ e = []) ∧ ∀ u, Beg s u → At u s.length (e ++ [93]) → ∃ L wr2, classP u fold i wr = .ok (L, s.length + e.length + 1, wr2) := by
  have hl := nx_lt (t := s) (i := i) (by omega)
  unfold classP at h
  rw [if_pos h91] at h
  have hle : (if nx s (i + 1) = 94 then i + 2 else i + 1) ≤ s.length := by
    split
    · have := nx_lt (t := s) (i := i + 1) (by omega); omega
    · omega
  have hpu : ∀ u e, (e = [97] ∨ i + 1 < s.length) → Beg s u → At u s.length (e ++ [93]) → (if nx u (i + 1) = 94 then i + 2 else i + 1) = (if nx s (i + 1) = 94 then i + 2 else i + 1) ∧ (decide (nx u (i + 1) = 94)) = (decide (nx s (i + 1) = 94)) := by
    intro u e hd hB hA
    rcases Nat.lt_or_ge (i + 1) s.length with h1 | h1
    · rw [hB.pre (i + 1) h1]
      exact ⟨rfl, rfl⟩
    · have e0 : i + 1 = s.length := by omega
      rcases hd with rfl | hd
      · have a0 : nx u (i + 1) = 97 := by rw [e0]; simpa using hA 0 (by simp)
        have b0 : nx s (i + 1) = -1 := by rw [e0]; exact nx_L s
        rw [a0, b0]
        exact ⟨rfl, rfl⟩
      · omega
  cases hz : item s fold (if nx s (i + 1) = 94 then i + 2 else i + 1) wr with
  | error k =>
    rw [hz] at h
    injection h with h
    subst h
    obtain ⟨e, he, hf⟩ := item_fail hle hz
    -- where the first item would begin at the end, it is a letter
    by_cases hp : (if nx s (i + 1) = 94 then i + 2 else i + 1) = s.length
    · refine ⟨[97], .inr (.inl rfl), fun u hB hA => ?_⟩
      obtain ⟨q1, q2⟩ := hpu u [97] (.inl rfl) hB hA
      have a0 : nx u s.length = 97 := by simpa using hA 0 (by simp)
      have a1 : nx u (s.length + 1) = 93 := by simpa using hA 1 (by simp)
      have hit : ∃ L wr2, item u fold s.length wr = .ok (L, s.length + 1, wr2) := by
        have hone : one u s.length wr = .ok ((97, true), s.length + 1, wr) ∨ ∃ x, one u s.length wr = .ok (x, s.length + 1, wr) := by
          right
          unfold one runeBut
          rw [a0, if_neg (by decide), plain_a]
          simp [rb, cont]
        obtain ⟨x, hx⟩ : ∃ x, one u s.length wr = .ok (x, s.length + 1, wr) := by
          rcases hone with h | h
          · exact ⟨_, h⟩
          · exact h
        have hsu : setAt u s.length = none := by unfold setAt; rw [a0, if_neg (by decide)]
        unfold item
        rw [hsu]
        simp only
        rw [hx]
        obtain ⟨lo, r1⟩ := x
        simp only
        rw [if_neg (by rw [a1]; decide)]
        exact itemEnd_ok' _ _ _ _ _ _ _
      obtain ⟨L2, wr2, hL⟩ := hit
      unfold classP
      rw [hB.pre i hl, if_pos h91, q1, hp, hL]
      simp only
      have hu := at_len hA (by simp) (inEs_pos (.inr (.inl rfl)))
      have : items u fold (u.length + 1) L2 (s.length + 1) wr2 = .ok (L2, s.length + 2, wr2) := by unfold items; rw [if_pos a1]
      rw [this]
      exact ⟨_, _, rfl⟩
    · refine ⟨e, he.imp_right .inl, fun u hB hA => ?_⟩
      have hi1 : i + 1 < s.length := by
        rcases Nat.lt_or_ge (i + 1) s.length with h1 | h1
        · exact h1
        · exfalso
          apply hp
          have e0 : i + 1 = s.length := by omega
          rw [if_neg (by rw [e0, nx_L]; decide)]
          exact e0
      obtain ⟨q1, q2⟩ := hpu u e (.inr hi1) hB hA
      obtain ⟨L2, wr2, hL⟩ := hf u hB hA
      have h93u : nx u (s.length + e.length) = 93 := by simpa using hA.right 0 (by simp)
      unfold classP
      rw [hB.pre i hl, if_pos h91, q1, hL]
      simp only
      have : items u fold (u.length + 1) L2 (s.length + e.length) wr2 = .ok (L2, s.length + e.length + 1, wr2) := by unfold items; rw [if_pos h93u]
      rw [this]
      exact ⟨_, _, rfl⟩
  | ok y =>
    obtain ⟨L1, k1, wr1⟩ := y
    rw [hz] at h
    simp only at h
    have hk1 : k1 ≤ s.length := by
      have := item_le (fold := fold) (wr := wr) hle
      rw [hz] at this
      exact this
    have hpk := (item_bd hz).1
    cases hz2 : items s fold (s.length + 1) L1 k1 wr1 with
    | ok y2 => obtain ⟨L, k, wr2⟩ := y2; rw [hz2] at h; cases h
    | error k =>
      rw [hz2] at h
      injection h with h
      subst h
      obtain ⟨e, he, hend, hf⟩ := items_fail (s.length + 1) L1 k1 wr1 hk1 (by omega) hz2
      refine ⟨e, he, fun u hB hA => ?_⟩
      have hi1 : i + 1 < s.length := by
        have h0 : i + 1 ≤ (if nx s (i + 1) = 94 then i + 2 else i + 1) := by split <;> omega
        omega
      obtain ⟨q1, q2⟩ := hpu u e (.inr hi1) hB hA
      have hit : item u fold (if nx s (i + 1) = 94 then i + 2 else i + 1) wr = .ok (L1, k1, wr1) := by
        rcases Nat.lt_or_ge k1 s.length with hjl | hjl
        · rw [item_lo hB.bs hB.bu (by rw [hz]; exact hB.al hjl), hz]
        · have e0 : k1 = s.length := by omega
          have e1 := hend e0
          subst e1
          exact item_end hB (by omega) hz e0 (by simpa using hA 0 (by simp))
      have hu := at_len hA (by simp) (inEs_pos he)
      simp at hu
      obtain ⟨L', wr3, hL'⟩ := hf u (u.length + 1) hB hA (by omega)
      unfold classP
      rw [hB.pre i hl, if_pos h91, q1, hit]
      simp only
      rw [hL']
      exact ⟨_, _, rfl⟩
theorem items_end {s u : List Int} {fold : Bool} (hB : Beg s u) : ∀ (f f' : Nat) (L : Rng) (k : Nat) (wr : Wr) (L' : Rng) (e : Nat) (wr2 : Wr), k ≤ s.length → items s fold f L k wr = .ok (L', e, wr2) → s.length + 1 ≤ k + f → s.length + 1 ≤ k + f' → items u fold f' L k wr = .ok (L', e, wr2) := by
  intro f
  induction f with
  | zero => intro f' L k wr L' e wr2 h1 h h2; omega
  | succ f ih =>
    intro f' L k wr L' e wr2 h1 h h2 h3
    obtain ⟨g, rfl⟩ : ∃ g, f' = g + 1 := ⟨f' - 1, by omega⟩
    unfold items at h ⊢
    rcases Nat.lt_or_ge k s.length with hl | hl
    · rw [hB.pre k hl]
      by_cases h93 : nx s k = 93
      · rw [if_pos h93] at h ⊢
        exact h
      · rw [if_neg h93] at h ⊢
        cases hz : item s fold k wr with
        | error j => rw [hz] at h; cases h
        | ok y =>
          obtain ⟨L2, j, wr3⟩ := y
          rw [hz] at h
          simp only at h
          have hj : j ≤ s.length := by
            have := item_le (fold := fold) (wr := wr) h1
            rw [hz] at this
            exact this
          have hkj := (item_bd hz).1
          have hjl : j < s.length := by
            rcases Nat.lt_or_ge j s.length with h' | h'
            · exact h'
            · exfalso
              have e0 : j = s.length := by omega
              subst e0
              obtain ⟨f2, rfl⟩ : ∃ f2, f = f2 + 1 := ⟨f - 1, by omega⟩
              unfold items at h
              rw [if_neg (by rw [nx_L]; decide)] at h
              have : ∃ q, item s fold s.length wr3 = .error q := by
                unfold item
                have hsn : setAt s s.length = none := by unfold setAt; rw [nx_L, if_neg (by decide)]
                rw [hsn]
                have ho : one s s.length wr3 = .error s.length := by
                  unfold one runeBut
                  rw [nx_L, if_neg (by decide), if_neg (by decide)]
                  rfl
                rw [ho]
                exact ⟨_, rfl⟩
              obtain ⟨q, hq⟩ := this
              rw [hq] at h
              cases h
          rw [item_lo hB.bs hB.bu (by rw [hz]; exact hB.al hjl), hz]
          exact ih g _ _ _ _ _ _ hj h (by omega) (by omega)
    · exfalso
      have e0 : k = s.length := by omega
      subst e0
      rw [if_neg (by rw [nx_L]; decide)] at h
      have : ∃ q, item s fold s.length wr = .error q := by
        unfold item
        have hsn : setAt s s.length = none := by unfold setAt; rw [nx_L, if_neg (by decide)]
        rw [hsn]
        have ho : one s s.length wr = .error s.length := by
          unfold one runeBut
          rw [nx_L, if_neg (by decide), if_neg (by decide)]
          rfl
        rw [ho]
        exact ⟨_, rfl⟩
      obtain ⟨q, hq⟩ := this
      rw [hq] at h
      cases h
end Go.Proofs.YtenanfkmmkmolaaGreatDoor
/- HELPERS: what is not over at the text's end goes on: atoms, counts, groups. -/
namespace Go.Proofs.YtenanfkmmkmolaaGreatDoor
open Go.RowKit Go.Mx
set_option linter.unusedVariables false
set_option linter.unusedSimpArgs false
theorem Beg.len {s u : List Int} (h : Beg s u) : s.length ≤ u.length := len_of h.bs (Nat.le_refl _) fun j hj => (h.pre j hj).symm
theorem items_at_end (s : List Int) (fold : Bool) (f : Nat) (L : Rng) (wr : Wr) : items s fold (f + 1) L s.length wr = .error s.length := by
  unfold items
  rw [if_neg (by rw [nx_L]; decide)]
  unfold item
  have hsn : setAt s s.length = none := by unfold setAt; rw [nx_L, if_neg (by decide)]
  have ho : one s s.length wr = .error s.length := by
    unfold one runeBut
    rw [nx_L, if_neg (by decide), if_neg (by decide)]
    rfl
  rw [hsn]
  simp only
  rw [ho]
theorem classP_end {s u : List Int} {fold : Bool} {i k : Nat} {wr wr2 : Wr} {L : Rng} (hB : Beg s u) (h91 : nx s i = 91) (h : classP s fold i wr = .ok (L, k, wr2)) : classP u fold i wr = .ok (L, k, wr2) := by
  have hl := nx_lt (t := s) (i := i) (by omega)
  unfold classP at h ⊢
  rw [if_pos h91] at h
  rw [hB.pre i hl, if_pos h91]
  have hle : (if nx s (i + 1) = 94 then i + 2 else i + 1) ≤ s.length := by
    split
    · have := nx_lt (t := s) (i := i + 1) (by omega); omega
    · omega
  have h0 : i + 1 ≤ (if nx s (i + 1) = 94 then i + 2 else i + 1) := by split <;> omega
  cases hz : item s fold (if nx s (i + 1) = 94 then i + 2 else i + 1) wr with
  | error k => rw [hz] at h; cases h
  | ok y =>
    obtain ⟨L1, k1, wr1⟩ := y
    rw [hz] at h
    simp only at h
    have hk1 : k1 ≤ s.length := by
      have := item_le (fold := fold) (wr := wr) hle
      rw [hz] at this
      exact this
    have hpk := (item_bd hz).1
    have hkl : k1 < s.length := by
      rcases Nat.lt_or_ge k1 s.length with h' | h'
      · exact h'
      · have e0 : k1 = s.length := by omega
        subst e0
        rw [items_at_end] at h
        cases h
    rw [hB.pre (i + 1) (by omega), item_lo hB.bs hB.bu (by rw [hz]; exact hB.al hkl), hz]
    simp only
    cases hz2 : items s fold (s.length + 1) L1 k1 wr1 with
    | error k => rw [hz2] at h; cases h
    | ok y2 =>
      obtain ⟨L2, k2, wr3⟩ := y2
      rw [hz2] at h
      have hu := hB.len
      rw [items_end hB (s.length + 1) (u.length + 1) L1 k1 wr1 L2 k2 wr3 hk1 hz2 (by omega) (by omega)]
      exact h
/-- what ends an atom -/
def atEs (e : List Int) : Prop := e ∈ inEs ∨ ∃ x, (x ∈ inEs ∨ x = [97] ∨ x = []) ∧ e = x ++ [93]
theorem atom_fail {s : List Int} {fold all : Bool} {i : Nat} {wr : Wr} (hl : i < s.length) (h : atomP s fold all i wr = .error s.length) : ∃ e, atEs e ∧ ∀ u, Beg s u → At u s.length e → ∃ x wr2, atomP u fold all i wr = .ok (x, s.length + e.length, wr2) := by
  unfold atomP at h
  by_cases h1 : nx s i = 46
  · rw [if_pos h1] at h; cases h
  · rw [if_neg h1] at h
    by_cases h2 : nx s i = 94
    · rw [if_pos h2] at h; cases h
    · rw [if_neg h2] at h
      by_cases h3 : nx s i = 36
      · rw [if_pos h3] at h; cases h
      · rw [if_neg h3] at h
        by_cases h4 : nx s i = 91
        · rw [if_pos h4] at h
          cases hz : classP s fold i wr with
          | ok y => obtain ⟨L, k, wr2⟩ := y; rw [hz] at h; cases h
          | error k =>
            rw [hz] at h
            injection h with h
            subst h
            obtain ⟨e, he, hf⟩ := classP_fail h4 hz
            refine ⟨e ++ [93], .inr ⟨e, he, rfl⟩, fun u hB hA => ?_⟩
            obtain ⟨L, wr2, hL⟩ := hf u hB hA
            unfold atomP
            rw [hB.pre i hl, if_neg h1, if_neg h2, if_neg h3, if_pos h4, hL]
            exact ⟨_, _, by simp only [List.length_append, List.length_singleton]; rw [Nat.add_assoc]⟩
        · rw [if_neg h4] at h
          by_cases h5 : nx s i = 92
          · rw [if_pos h5] at h
            by_cases ha : assertL (s.getD (i + 1) 0) = 0
            · rw [if_pos ha] at h
              cases hs : setL (s.getD (i + 1) 0) with
              | some L => rw [hs] at h; cases h
              | none =>
                rw [hs] at h
                simp only at h
                cases hz : single2 s i wr with
                | ok y => obtain ⟨⟨c, b⟩, k, wr2⟩ := y; rw [hz] at h; cases h
                | error k =>
                  rw [hz] at h
                  injection h with h
                  subst h
                  obtain ⟨e, he, hf, hd⟩ := single2_fail h5 hz
                  refine ⟨e, .inl ?_, fun u hB hA => ?_⟩
                  · simp [escEs] at he
                    rcases he with rfl | rfl | rfl | rfl | rfl <;> simp [inEs]
                  · obtain ⟨x, wr2, hx⟩ := hf u hB hA
                    obtain ⟨c, b⟩ := x
                    have hg : assertL (u.getD (i + 1) 0) = 0 ∧ setL (u.getD (i + 1) 0) = none := by
                      rcases hd with h6 | ⟨h6, rfl⟩
                      · rw [getD_beg hB h6]
                        exact ⟨ha, hs⟩
                      · have a0 : nx u (i + 1) = 110 := by rw [h6]; simpa using hA 0 (by simp)
                        rw [getD_at a0 (by decide)]
                        exact ⟨by decide, by decide⟩
                    unfold atomP
                    rw [hB.pre i hl, if_neg h1, if_neg h2, if_neg h3, if_neg h4, if_pos h5, if_pos hg.1, hg.2]
                    simp only
                    rw [hx]
                    exact ⟨_, _, rfl⟩
            · rw [if_neg ha] at h
              cases h
          · rw [if_neg h5] at h
            cases hr : runeBut s notPlain i with
            | ok y => obtain ⟨c, k⟩ := y; rw [hr] at h; cases h
            | error k =>
              rw [hr] at h
              injection h with h
              subst h
              obtain ⟨e, he, hf⟩ := runeBut_fail hl hr
              refine ⟨e, .inl ?_, fun u hB hA => ?_⟩
              · simp [runEs] at he
                rcases he with rfl | rfl | rfl | rfl | rfl <;> simp [inEs]
              · obtain ⟨c, hc⟩ := hf u hB hA
                unfold atomP
                rw [hB.pre i hl, if_neg h1, if_neg h2, if_neg h3, if_neg h4, if_neg h5, hc]
                exact ⟨_, _, rfl⟩
theorem atom_end {s u : List Int} {fold all : Bool} {i k : Nat} {wr wr2 : Wr} {x : Tree} (hB : Beg s u) (hl : i < s.length) (h : atomP s fold all i wr = .ok (x, k, wr2)) : atomP u fold all i wr = .ok (x, k, wr2) := by
  have hk : k ≤ s.length := by
    have := atom_le (fold := fold) (all := all) (wr := wr) hl
    rw [h] at this
    exact this
  unfold atomP at h ⊢
  rw [hB.pre i hl]
  by_cases h1 : nx s i = 46
  · rw [if_pos h1] at h ⊢; exact h
  · rw [if_neg h1] at h ⊢
    by_cases h2 : nx s i = 94
    · rw [if_pos h2] at h ⊢; exact h
    · rw [if_neg h2] at h ⊢
      by_cases h3 : nx s i = 36
      · rw [if_pos h3] at h ⊢; exact h
      · rw [if_neg h3] at h ⊢
        by_cases h4 : nx s i = 91
        · rw [if_pos h4] at h ⊢
          cases hz : classP s fold i wr with
          | error k => rw [hz] at h; cases h
          | ok y =>
            obtain ⟨L, k', wr3⟩ := y
            rw [hz] at h
            rw [classP_end hB h4 hz]
            exact h
        · rw [if_neg h4] at h ⊢
          by_cases h5 : nx s i = 92
          · rw [if_pos h5] at h ⊢
            rcases Nat.lt_or_ge (i + 1) s.length with h6 | h6
            · rw [getD_beg hB h6]
              by_cases ha : assertL (s.getD (i + 1) 0) = 0
              · rw [if_pos ha] at h ⊢
                cases hs : setL (s.getD (i + 1) 0) with
                | some L => rw [hs] at h; exact h
                | none =>
                  rw [hs] at h
                  simp only at h ⊢
                  cases hz : single2 s i wr with
                  | error k => rw [hz] at h; cases h
                  | ok y =>
                    obtain ⟨⟨c, b⟩, k', wr3⟩ := y
                    rw [hz] at h
                    have hk' : k' = k := by injection h with h; injection h with _ h; injection h with h _
                    rw [single2_end hB hz (by omega)]
                    exact h
              · rw [if_neg ha] at h ⊢
                exact h
            · exfalso
              rw [getD_off s h6] at h
              rw [if_pos (by decide)] at h
              have hs0 : setL 0 = none := by decide
              rw [hs0] at h
              simp only at h
              have : single s i = .error (i + 1) := by
                unfold single
                have hm : nx s (i + 1) = -1 := nx_end h6
                rw [if_pos h5, hm]
                simp
              unfold single2 at h
              rw [this] at h
              cases h
          · rw [if_neg h5] at h ⊢
            cases hr : runeBut s notPlain i with
            | error k => rw [hr] at h; cases h
            | ok y =>
              obtain ⟨c, k'⟩ := y
              rw [hr] at h
              have hk' : k' = k := by injection h with h; injection h with _ h; injection h with h _
              rw [runeBut_end hB hr (by omega)]
              exact h
/-- numbers -/
theorem numGo_to {s u : List Int} (hB : Beg s u) (hd : ¬ (48 ≤ nx u s.length ∧ nx u s.length ≤ 57)) : ∀ (f i : Nat) (n : Int), i ≤ s.length → numGo u f i n = numGo s f i n := by
  intro f
  induction f with
  | zero => intro i n _; rfl
  | succ f ih =>
    intro i n hi
    unfold numGo
    rcases Nat.lt_or_ge i s.length with hl | hl
    · rw [hB.pre i hl]
      split
      · exact ih _ _ (by omega)
      · rfl
    · have e0 : i = s.length := by omega
      subst e0
      rw [if_neg hd, if_neg (by rw [nx_L]; omega)]
theorem number_to {s u : List Int} {i : Nat} (hB : Beg s u) (hd : ¬ (48 ≤ nx u s.length ∧ nx u s.length ≤ 57)) (hl : i < s.length) : number u i = number s i := by
  unfold number
  rw [hB.pre i hl]
  split
  · rfl
  · split
    · rw [numGo_to hB hd 3 (i + 1) _ (by omega)]
    · rfl
theorem numbers_fail {s : List Int} {i : Nat} {wr : Wr} (hl : i < s.length) (h : numbers s i wr = .error s.length) : ∃ e, (e = [48, 125] ∨ e = [125]) ∧ ∀ u, Beg s u → At u s.length e → ∃ x wr2, numbers u i wr = .ok (x, s.length + e.length, wr2) := by
  unfold numbers at h
  by_cases h1 : nx s i = 123
  · rw [if_pos h1] at h
    rcases Nat.lt_or_ge (i + 1) s.length with hl1 | hl1
    · -- a number has begun
      have a125 : ∀ u, At u s.length [125] → nx u s.length = 125 := fun u hA => by simpa using hA 0 (by simp)
      have nd : ∀ u, At u s.length [125] → ¬ (48 ≤ nx u s.length ∧ nx u s.length ≤ 57) := fun u hA => by rw [a125 u hA]; decide
      refine ⟨[125], .inr rfl, fun u hB hA => ?_⟩
      have h125 := a125 u hA
      have hnd := nd u hA
      cases hn : number s (i + 1) with
      | error k =>
        exfalso
        rw [hn] at h
        injection h with h
        have := number_mono s (i + 1)
        unfold number at hn
        repeat' split at hn
        all_goals first | (cases hn; done) | (injection hn with hn; omega)
      | ok y =>
        obtain ⟨lo, j⟩ := y
        have hj := number_bd hn
        rw [hn] at h
        simp only at h
        unfold numbers
        rw [hB.pre i hl, if_pos h1, number_to hB hnd hl1, hn]
        simp only
        rcases Nat.lt_or_ge j s.length with hjl | hjl
        · rw [hB.pre j hjl]
          by_cases h44 : nx s j = 44
          · rw [if_pos h44] at h ⊢
            rcases Nat.lt_or_ge (j + 1) s.length with hj1 | hj1
            · by_cases h2 : nx s (j + 1) = 125
              · rw [if_pos h2] at h; cases h
              · rw [if_neg h2] at h
                rw [hB.pre (j + 1) hj1, if_neg h2, number_to hB hnd hj1]
                cases hn2 : number s (j + 1) with
                | error k =>
                  exfalso
                  rw [hn2] at h
                  injection h with h
                  unfold number at hn2
                  repeat' split at hn2
                  all_goals first | (cases hn2; done) | (injection hn2 with hn2; omega)
                | ok y2 =>
                  obtain ⟨hi', k⟩ := y2
                  rw [hn2] at h
                  simp only at h ⊢
                  split at h
                  · cases h
                  · injection h with h
                    subst h
                    rw [if_pos h125]
                    exact ⟨_, _, rfl⟩
            · have e0 : j + 1 = s.length := by omega
              rw [if_pos (by rw [e0]; exact h125)]
              exact ⟨_, _, by rw [show j + 2 = s.length + 1 by omega]; rfl⟩
          · rw [if_neg h44] at h ⊢
            split at h
            · cases h
            · injection h with h
              omega
        · have e0 : j = s.length := by omega
          subst e0
          rw [h125, if_neg (by decide), if_pos rfl]
          exact ⟨_, _, rfl⟩
    · have e0 : i + 1 = s.length := by omega
      refine ⟨[48, 125], .inl rfl, fun u hB hA => ?_⟩
      have a0 : nx u (i + 1) = 48 := by rw [e0]; simpa using hA 0 (by simp)
      have a1 : nx u (i + 2) = 125 := by have := hA 1 (by simp); rw [← e0] at this; simpa using this
      have hn : number u (i + 1) = .ok (0, i + 2) := by unfold number; rw [if_pos a0]
      unfold numbers
      rw [hB.pre i hl, if_pos h1, hn]
      simp only
      rw [a1, if_neg (by decide), if_pos rfl]
      exact ⟨_, _, by rw [← e0]; rfl⟩
  · rw [if_neg h1] at h
    injection h with h
    omega
end Go.Proofs.YtenanfkmmkmolaaGreatDoor
/- HELPERS: what is not over at the text's end goes on: counts, groups, rounds. -/
namespace Go.Proofs.YtenanfkmmkmolaaGreatDoor
open Go.RowKit Go.Mx
set_option linter.unusedVariables false
set_option linter.unusedSimpArgs false
/-- nothing, or a bracket -/
def Stp (x : Int) : Prop := x = -1 ∨ x = 41
theorem lazy_to {s u : List Int} {k : Nat} (hB : Beg s u) (hs : Stp (nx u s.length)) (hk : k ≤ s.length) : lazyAt u k = lazyAt s k := by
  rcases Nat.lt_or_ge k s.length with hl | hl
  · exact lazy_lo (hB.pre k hl).symm
  · have e0 : k = s.length := by omega
    subst e0
    unfold lazyAt
    rw [if_neg (by unfold Stp at hs; omega), if_neg (by rw [nx_L]; decide)]
theorem lazy_off {u : List Int} {k : Nat} (hs : Stp (nx u k)) : lazyAt u k = (false, k) := by
  unfold lazyAt
  rw [if_neg (by unfold Stp at hs; omega)]
theorem numbers_end {s u : List Int} {i k : Nat} {wr wr2 : Wr} {x : Int × Int} (hB : Beg s u) (hl : i < s.length) (h : numbers s i wr = .ok (x, k, wr2)) : numbers u i wr = .ok (x, k, wr2) := by
  unfold numbers at h ⊢
  rw [hB.pre i hl]
  by_cases h1 : nx s i = 123
  · rw [if_pos h1] at h ⊢
    cases hn : number s (i + 1) with
    | error k => rw [hn] at h; cases h
    | ok y =>
      obtain ⟨lo, j⟩ := y
      have hj := number_bd hn
      rw [hn] at h
      simp only at h
      have hjl : j < s.length := by
        rcases Nat.lt_or_ge j s.length with h' | h'
        · exact h'
        · have e0 : j = s.length := by omega
          subst e0
          rw [nx_L, if_neg (by decide), if_neg (by decide)] at h
          cases h
      rw [number_lo (by rw [hn]; exact hB.al hjl), hn]
      simp only
      rw [hB.pre j hjl]
      by_cases h44 : nx s j = 44
      · rw [if_pos h44] at h ⊢
        rcases Nat.lt_or_ge (j + 1) s.length with hj1 | hj1
        · rw [hB.pre (j + 1) hj1]
          by_cases h2 : nx s (j + 1) = 125
          · rw [if_pos h2] at h ⊢
            exact h
          · rw [if_neg h2] at h ⊢
            cases hn2 : number s (j + 1) with
            | error k => rw [hn2] at h; cases h
            | ok y2 =>
              obtain ⟨hi', k'⟩ := y2
              rw [hn2] at h
              simp only at h
              split at h
              · rename_i h3
                have hk' := nx_lt (t := s) (i := k') (by omega)
                rw [number_lo (by rw [hn2]; exact hB.al hk'), hn2]
                simp only
                rw [hB.pre k' hk', if_pos h3]
                exact h
              · cases h
        · exfalso
          have hm : nx s (j + 1) = -1 := nx_end hj1
          rw [hm, if_neg (by decide)] at h
          unfold number at h
          rw [hm, if_neg (by decide), if_neg (by decide)] at h
          cases h
      · rw [if_neg h44] at h ⊢
        exact h
  · rw [if_neg h1] at h
    cases h
theorem counted_fail {s : List Int} {x : Tree} {i : Nat} {wr : Wr} (hl : i < s.length) (h : counted s x i wr = .error s.length) : ∃ e, (e = [48, 125] ∨ e = [125]) ∧ ∀ u, Beg s u → At u s.length e → Stp (nx u (s.length + e.length)) → ∃ y wr2, counted u x i wr = .ok (y, s.length + e.length, wr2) := by
  unfold counted at h
  by_cases h1 : nx s i = 42
  · rw [if_pos h1] at h; cases h
  · rw [if_neg h1] at h
    by_cases h2 : nx s i = 43
    · rw [if_pos h2] at h; cases h
    · rw [if_neg h2] at h
      by_cases h3 : nx s i = 63
      · rw [if_pos h3] at h; cases h
      · rw [if_neg h3] at h
        by_cases h4 : nx s i = 123
        · rw [if_pos h4] at h
          cases hn : numbers s i wr with
          | ok y => obtain ⟨⟨lo, hi'⟩, k, wr2⟩ := y; rw [hn] at h; cases h
          | error k =>
            rw [hn] at h
            injection h with h
            subst h
            obtain ⟨e, he, hf⟩ := numbers_fail hl hn
            refine ⟨e, he, fun u hB hA hS => ?_⟩
            obtain ⟨⟨lo, hi'⟩, wr2, hx⟩ := hf u hB hA
            unfold counted
            rw [hB.pre i hl, if_neg h1, if_neg h2, if_neg h3, if_pos h4, hx]
            simp only
            rw [lazy_off hS]
            exact ⟨_, _, rfl⟩
        · rw [if_neg h4] at h
          cases h
theorem counted_none {u : List Int} {x : Tree} {i : Nat} {wr : Wr} (h : Stp (nx u i)) : counted u x i wr = .ok (x, i, wr) := by
  unfold Stp at h
  unfold counted
  rw [if_neg (by omega), if_neg (by omega), if_neg (by omega), if_neg (by omega)]
theorem counted_end {s u : List Int} {x y : Tree} {i k : Nat} {wr wr2 : Wr} (hB : Beg s u) (hS : Stp (nx u s.length)) (hi : i ≤ s.length) (h : counted s x i wr = .ok (y, k, wr2)) : counted u x i wr = .ok (y, k, wr2) := by
  rcases Nat.lt_or_ge i s.length with hl | hl
  · unfold counted at h ⊢
    rw [hB.pre i hl]
    rw [lazy_to hB hS (show i + 1 ≤ s.length by omega)]
    by_cases h4 : nx s i = 123
    · rw [if_neg (by omega), if_neg (by omega), if_neg (by omega), if_pos h4] at h ⊢
      cases hn : numbers s i wr with
      | error k => rw [hn] at h; cases h
      | ok z =>
        obtain ⟨⟨lo, hi'⟩, k', wr3⟩ := z
        rw [hn] at h
        rw [numbers_end hB hl hn]
        have hk' : k' ≤ s.length := by
          have := numbers_le (t := s) (i := i) (wr := wr) (by omega)
          rw [hn] at this
          exact this
        simp only at h ⊢
        rw [lazy_to hB hS hk']
        exact h
    · rw [if_neg h4] at h ⊢
      exact h
  · have e0 : i = s.length := by omega
    subst e0
    rw [counted_none (.inl (nx_L s))] at h
    rw [counted_none hS]
    exact h
theorem addRep_fail {s : List Int} {x : Tree} {S : St} (hl : S.pos < s.length) (h : addRep s x S = .error s.length) : ∃ e, (e = [48, 125] ∨ e = [125]) ∧ ∀ u, Beg s u → At u s.length e → Stp (nx u (s.length + e.length)) → ∃ S2, addRep u x S = .ok S2 ∧ S2.pos = s.length + e.length ∧ S2.low = S.low := by
  unfold addRep at h
  cases hc : counted s x S.pos S.wr with
  | ok y => obtain ⟨y, k, wr2⟩ := y; rw [hc] at h; cases h
  | error k =>
    rw [hc] at h
    injection h with h
    subst h
    obtain ⟨e, he, hf⟩ := counted_fail hl hc
    refine ⟨e, he, fun u hB hA hS => ?_⟩
    obtain ⟨y, wr2, hy⟩ := hf u hB hA hS
    unfold addRep
    rw [hy]
    exact ⟨_, rfl, rfl, rfl⟩
theorem addRep_end {s u : List Int} {x : Tree} {S S2 : St} (hB : Beg s u) (hS : Stp (nx u s.length)) (hi : S.pos ≤ s.length) (h : addRep s x S = .ok S2) : addRep u x S = .ok S2 := by
  unfold addRep at h ⊢
  cases hc : counted s x S.pos S.wr with
  | error k => rw [hc] at h; cases h
  | ok y =>
    obtain ⟨y, k, wr2⟩ := y
    rw [hc] at h
    rw [counted_end hB hS hi hc]
    exact h
theorem addRep_none {u : List Int} {x : Tree} {S : St} (h : Stp (nx u S.pos)) : ∃ S2, addRep u x S = .ok S2 ∧ S2.pos = S.pos ∧ S2.low = S.low := by
  unfold addRep
  rw [counted_none h]
  exact ⟨_, rfl, rfl, rfl⟩
/-- names -/
theorem nameGo_to {s u : List Int} (hB : Beg s u) (hd : wordB (nx u s.length) = false) : ∀ (f i : Nat), i ≤ s.length → nameGo u f i = nameGo s f i := by
  intro f
  induction f with
  | zero => intro i _; rfl
  | succ f ih =>
    intro i hi
    unfold nameGo
    rcases Nat.lt_or_ge i s.length with hl | hl
    · rw [hB.pre i hl]
      split
      · exact ih _ (by omega)
      · rfl
    · have e0 : i = s.length := by omega
      subst e0
      rw [nx_L, hd, if_neg (by decide), if_neg (by decide)]
theorem nameP_fail {s : List Int} {i : Nat} (hi : i ≤ s.length) (h : nameP s i = .error s.length) : ∃ e, (e = [60, 97, 62] ∨ e = [97, 62] ∨ e = [62]) ∧ ∀ u, Beg s u → At u s.length e → ∃ nm, nameP u i = .ok (nm, s.length + e.length) := by
  have one97 : ∀ (u : List Int) (j : Nat), nx u j = 97 → nx u (j + 1) = 62 → nameGo u 32 j = j + 1 := by
    intro u j h1 h2
    rw [show (32 : Nat) = 30 + 1 + 1 from rfl, nameGo, h1, if_pos (by decide), nameGo, h2, if_neg (by decide)]
  rcases Nat.lt_or_ge i s.length with hl | hl
  · unfold nameP at h
    by_cases h60 : nx s i = 60
    · rw [if_pos h60] at h
      rcases Nat.lt_or_ge (i + 1) s.length with hl1 | hl1
      · by_cases h1 : (48 ≤ nx s (i + 1) ∧ nx s (i + 1) ≤ 57) ∨ wordB (nx s (i + 1)) = false
        · rw [if_pos h1] at h
          injection h with h
          omega
        · rw [if_neg h1] at h
          refine ⟨[62], .inr (.inr rfl), fun u hB hA => ?_⟩
          have a0 : nx u s.length = 62 := by simpa using hA 0 (by simp)
          split at h
          · cases h
          · injection h with h
            unfold nameP
            rw [hB.pre i hl, if_pos h60, hB.pre (i + 1) hl1, if_neg h1, nameGo_to hB (by rw [a0]; decide) 32 (i + 1) (by omega), h, if_pos a0]
            exact ⟨_, rfl⟩
      · have e0 : i + 1 = s.length := by omega
        refine ⟨[97, 62], .inr (.inl rfl), fun u hB hA => ?_⟩
        have a0 : nx u (i + 1) = 97 := by rw [e0]; simpa using hA 0 (by simp)
        have a1 : nx u (i + 2) = 62 := by have := hA 1 (by simp); rw [← e0] at this; simpa using this
        unfold nameP
        rw [hB.pre i hl, if_pos h60, a0, if_neg (by decide), one97 u (i + 1) a0 a1, if_pos a1]
        exact ⟨_, by rw [← e0]; rfl⟩
    · rw [if_neg h60] at h
      injection h with h
      omega
  · have e0 : i = s.length := by omega
    refine ⟨[60, 97, 62], .inl rfl, fun u hB hA => ?_⟩
    have a0 : nx u i = 60 := by rw [e0]; simpa using hA 0 (by simp)
    have a1 : nx u (i + 1) = 97 := by rw [e0]; simpa using hA 1 (by simp)
    have a2 : nx u (i + 2) = 62 := by rw [e0]; simpa using hA 2 (by simp)
    unfold nameP
    rw [if_pos a0, a1, if_neg (by decide), one97 u (i + 1) a1 a2, if_pos a2]
    exact ⟨_, by rw [e0]; rfl⟩
theorem nameP_end {s u : List Int} {i k : Nat} {nm : ByteArray} (hB : Beg s u) (hi : i ≤ s.length) (h : nameP s i = .ok (nm, k)) : nameP u i = .ok (nm, k) := by
  have h' := h
  unfold nameP at h
  split at h
  · rename_i h60
    have hl := nx_lt (t := s) (i := i) (by omega)
    split at h
    · cases h
    · rename_i h1
      split at h
      · rename_i h62
        have hz := nx_lt (t := s) (i := nameGo s 32 (i + 1)) (by omega)
        have hmo := nameGo_mono s 32 (i + 1)
        have hlo := nameGo_lo s u 32 (i + 1) (hB.al hz)
        have hu := hB.len
        injection h with h
        injection h with h2 h3
        unfold nameP
        rw [hB.pre i hl, if_pos h60, hB.pre (i + 1) (by omega), if_neg h1, hlo, hB.pre _ hz, if_pos h62]
        rw [← h2, ← h3, drop_take_ext (t := u) (u := s) (i := i + 1) (k := nameGo s 32 (i + 1)) (by omega) (by omega) (fun j hj => hB.pre j (by omega))]
      · cases h
  · cases h
end Go.Proofs.YtenanfkmmkmolaaGreatDoor
/- HELPERS: what is not over at the text's end goes on: rounds; brackets that end the groups. -/
namespace Go.Proofs.YtenanfkmmkmolaaGreatDoor
open Go.RowKit Go.Mx
set_option linter.unusedVariables false
set_option linter.unusedSimpArgs false
theorem begins_fail {s : List Int} {S : St} (hl : S.pos < s.length) (h : begins s S = .error s.length) : ∃ e, (e = [58] ∨ e = [60, 97, 62] ∨ e = [97, 62] ∨ e = [62]) ∧ ∀ u, Beg s u → At u s.length e → ∃ S2, begins u S = .ok S2 ∧ S2.pos = s.length + e.length ∧ S2.low.length = S.low.length + 1 := by
  unfold begins at h
  by_cases h1 : nx s (S.pos + 1) = 63
  · have hl1 := nx_lt (t := s) (i := S.pos + 1) (by omega)
    rw [if_pos h1] at h
    by_cases h2 : nx s (S.pos + 2) = 80
    · have hl2 := nx_lt (t := s) (i := S.pos + 2) (by omega)
      rw [if_pos h2] at h
      cases hn : nameP s (S.pos + 3) with
      | ok y => obtain ⟨nm, k⟩ := y; rw [hn] at h; cases h
      | error k =>
        rw [hn] at h
        injection h with h
        subst h
        obtain ⟨e, he, hf⟩ := nameP_fail (by omega) hn
        refine ⟨e, .inr he, fun u hB hA => ?_⟩
        obtain ⟨nm, hx⟩ := hf u hB hA
        unfold begins
        rw [hB.pre (S.pos + 1) hl1, if_pos h1, hB.pre (S.pos + 2) hl2, if_pos h2, hx]
        exact ⟨_, rfl, rfl, by simp [opened]⟩
    · rw [if_neg h2] at h
      simp only at h
      refine ⟨[58], .inl rfl, fun u hB hA => ?_⟩
      have a0 : nx u s.length = 58 := by simpa using hA 0 (by simp)
      -- each byte up to the end is as it was, and a colon stands there
      have same : ∀ j, j ≤ s.length → ∀ x : Int, x ≠ 58 → 0 ≤ x → (nx u j = x ↔ nx s j = x) := by
        intro j hj x hx hx0
        rcases Nat.lt_or_ge j s.length with h' | h'
        · rw [hB.pre j h']
        · have e0 : j = s.length := by omega
          rw [e0, a0, nx_L]
          constructor <;> intro h <;> omega
      have e1 : (if nx u (S.pos + 2) = 105 then S.pos + 3 else S.pos + 2) = (if nx s (S.pos + 2) = 105 then S.pos + 3 else S.pos + 2) := by
        simp only [(same (S.pos + 2) (by omega) 105 (by decide) (by decide))]
      have hi1 : (if nx s (S.pos + 2) = 105 then S.pos + 3 else S.pos + 2) ≤ s.length := by
        split
        · have := nx_lt (t := s) (i := S.pos + 2) (by omega); omega
        · omega
      have hc1 : decide (nx u (S.pos + 2) = 105) = decide (nx s (S.pos + 2) = 105) := decide_eq_decide.2 (same (S.pos + 2) (by omega) 105 (by decide) (by decide))
      unfold begins
      rw [hB.pre (S.pos + 1) hl1, if_pos h1, if_neg (fun h' => h2 ((same (S.pos + 2) (by omega) 80 (by decide) (by decide)).1 h'))]
      simp only
      rw [e1]
      generalize hg1 : (if nx s (S.pos + 2) = 105 then S.pos + 3 else S.pos + 2) = i1 at h hi1 ⊢
      have e2 : (if nx u i1 = 115 then i1 + 1 else i1) = (if nx s i1 = 115 then i1 + 1 else i1) := by
        simp only [(same i1 hi1 115 (by decide) (by decide))]
      rw [e2]
      generalize hg2 : (if nx s i1 = 115 then i1 + 1 else i1) = i2 at h ⊢
      split at h
      · cases h
      · injection h with h
        subst h
        rw [if_pos a0]
        exact ⟨_, rfl, rfl, by simp [opened]⟩
  · rw [if_neg h1] at h
    cases h
theorem begins_end {s u : List Int} {S S2 : St} (hB : Beg s u) (hS : Stp (nx u s.length)) (hl : S.pos < s.length) (h : begins s S = .ok S2) : begins u S = .ok S2 := by
  have same : ∀ j, j ≤ s.length → ∀ x : Int, x ≠ 41 → 0 ≤ x → (nx u j = x ↔ nx s j = x) := by
    intro j hj x hx hx0
    rcases Nat.lt_or_ge j s.length with h' | h'
    · rw [hB.pre j h']
    · have e0 : j = s.length := by omega
      unfold Stp at hS
      rw [e0, nx_L]
      constructor <;> intro h <;> omega
  unfold begins at h ⊢
  by_cases h1 : nx s (S.pos + 1) = 63
  · have hl1 := nx_lt (t := s) (i := S.pos + 1) (by omega)
    rw [if_pos h1] at h
    rw [hB.pre (S.pos + 1) hl1, if_pos h1]
    by_cases h2 : nx s (S.pos + 2) = 80
    · have hl2 := nx_lt (t := s) (i := S.pos + 2) (by omega)
      rw [if_pos h2] at h
      rw [hB.pre (S.pos + 2) hl2, if_pos h2]
      cases hn : nameP s (S.pos + 3) with
      | error k => rw [hn] at h; cases h
      | ok y =>
        obtain ⟨nm, k⟩ := y
        rw [hn] at h
        rw [nameP_end hB (by omega) hn]
        exact h
    · rw [if_neg h2] at h
      simp only at h
      have e1 : (if nx u (S.pos + 2) = 105 then S.pos + 3 else S.pos + 2) = (if nx s (S.pos + 2) = 105 then S.pos + 3 else S.pos + 2) := by
        simp only [(same (S.pos + 2) (by omega) 105 (by decide) (by decide))]
      have hi1 : (if nx s (S.pos + 2) = 105 then S.pos + 3 else S.pos + 2) ≤ s.length := by
        split
        · have := nx_lt (t := s) (i := S.pos + 2) (by omega); omega
        · omega
      have hc1 : decide (nx u (S.pos + 2) = 105) = decide (nx s (S.pos + 2) = 105) := decide_eq_decide.2 (same (S.pos + 2) (by omega) 105 (by decide) (by decide))
      rw [if_neg (fun h' => h2 ((same (S.pos + 2) (by omega) 80 (by decide) (by decide)).1 h'))]
      simp only
      rw [e1, hc1]
      generalize hg1 : (if nx s (S.pos + 2) = 105 then S.pos + 3 else S.pos + 2) = i1 at h hi1 ⊢
      have e2 : (if nx u i1 = 115 then i1 + 1 else i1) = (if nx s i1 = 115 then i1 + 1 else i1) := by
        simp only [(same i1 hi1 115 (by decide) (by decide))]
      have hc2 : decide (nx u i1 = 115) = decide (nx s i1 = 115) := decide_eq_decide.2 (same i1 hi1 115 (by decide) (by decide))
      rw [e2, hc2]
      generalize hg2 : (if nx s i1 = 115 then i1 + 1 else i1) = i2 at h ⊢
      split at h
      · rename_i h58
        have := nx_lt (t := s) (i := i2) (by omega)
        rw [hB.pre i2 this, if_pos h58]
        exact h
      · cases h
  · rw [if_neg h1] at h
    rw [if_neg (fun h' => h1 ((same (S.pos + 1) (by omega) 63 (by decide) (by decide)).1 h'))]
    exact h
/-- the endings -/
def allEs : List (List Int) := [[], [110], [48, 125], [125], [58], [60, 97, 62], [97, 62], [62], [97, 93], [93], [110, 93], [52, 49], [52, 49, 93], [49], [49, 93], [125, 93], [49, 125], [49, 125, 93], [128], [128, 93], [128, 128], [128, 128, 93], [160, 128], [160, 128, 93], [144, 128, 128], [144, 128, 128, 93], [128, 128, 128], [128, 128, 128, 93]]
theorem atEs_all {e : List Int} (h : atEs e) : e ∈ allEs := by
  rcases h with h | ⟨x, h, rfl⟩
  · simp [inEs] at h
    rcases h with rfl | rfl | rfl | rfl | rfl | rfl | rfl | rfl | rfl | rfl <;> simp [allEs]
  · simp [inEs] at h
    rcases h with (rfl | rfl | rfl | rfl | rfl | rfl | rfl | rfl | rfl | rfl) | rfl | rfl <;> simp [allEs]
theorem round_fail {s : List Int} {S : St} (hl : S.pos < s.length) (h : round s S = .error s.length) : ∃ e ∈ allEs, ∃ n, n ≤ S.low.length + (if nx s S.pos = 40 then 1 else 0) ∧ ∀ u, Beg s u → At u s.length e → Stp (nx u (s.length + e.length)) → ∃ S2, round u S = .ok S2 ∧ S2.pos = s.length + e.length ∧ S2.low.length = n := by
  unfold round at h
  by_cases h1 : nx s S.pos = 124
  · rw [if_pos h1] at h; cases h
  · rw [if_neg h1] at h
    by_cases h2 : nx s S.pos = 40
    · rw [if_pos h2] at h
      obtain ⟨e, he, hf⟩ := begins_fail hl h
      refine ⟨e, ?_, S.low.length + 1, by rw [if_pos h2]; exact Nat.le_refl _, fun u hB hA _ => ?_⟩
      · rcases he with rfl | rfl | rfl | rfl <;> simp [allEs]
      · obtain ⟨S2, q1, q2, q3⟩ := hf u hB hA
        unfold round
        rw [hB.pre S.pos hl, if_neg h1, if_pos h2]
        exact ⟨S2, q1, q2, q3⟩
    · rw [if_neg h2] at h
      by_cases h3 : nx s S.pos = 41
      · rw [if_pos h3] at h
        unfold ends at h
        cases hg : S.low.getLast? with
        | none => rw [hg] at h; injection h with h; omega
        | some l =>
          rw [hg] at h
          simp only at h
          rcases Nat.lt_or_ge (S.pos + 1) s.length with hl1 | hl1
          · obtain ⟨e, he, hf⟩ := addRep_fail (S := { S with pos := S.pos + 1, low := S.low.dropLast, top := l }) hl1 h
            refine ⟨e, ?_, S.low.dropLast.length, by simp; omega, fun u hB hA hS => ?_⟩
            · rcases he with rfl | rfl <;> simp [allEs]
            · obtain ⟨S2, q1, q2, q3⟩ := hf u hB hA hS
              unfold round ends
              rw [hB.pre S.pos hl, if_neg h1, if_neg h2, if_pos h3, hg]
              exact ⟨S2, q1, q2, by rw [q3]⟩
          · exfalso
            obtain ⟨S2, q1, _⟩ := addRep_none (u := s) (x := S.top.tree) (S := { S with pos := S.pos + 1, low := S.low.dropLast, top := l }) (.inl (nx_end hl1))
            rw [q1] at h
            cases h
      · rw [if_neg h3] at h
        cases ha : atomP s S.top.fold S.top.all S.pos S.wr with
        | error k =>
          rw [ha] at h
          injection h with h
          subst h
          obtain ⟨e, he, hf⟩ := atom_fail hl ha
          refine ⟨e, atEs_all he, S.low.length, by omega, fun u hB hA hS => ?_⟩
          obtain ⟨x, wr2, hx⟩ := hf u hB hA
          unfold round
          rw [hB.pre S.pos hl, if_neg h1, if_neg h2, if_neg h3, hx]
          simp only
          obtain ⟨S2, q1, q2, q3⟩ := addRep_none (u := u) (x := x) (S := { S with pos := s.length + e.length, wr := wr2 }) hS
          exact ⟨S2, q1, q2, by rw [q3]⟩
        | ok y =>
          obtain ⟨x, k, wr2⟩ := y
          rw [ha] at h
          simp only at h
          have hk : k ≤ s.length := by
            have := atom_le (fold := S.top.fold) (all := S.top.all) (wr := S.wr) hl
            rw [ha] at this
            exact this
          rcases Nat.lt_or_ge k s.length with hkl | hkl
          · obtain ⟨e, he, hf⟩ := addRep_fail (S := { S with pos := k, wr := wr2 }) hkl h
            refine ⟨e, ?_, S.low.length, by omega, fun u hB hA hS => ?_⟩
            · rcases he with rfl | rfl <;> simp [allEs]
            · obtain ⟨S2, q1, q2, q3⟩ := hf u hB hA hS
              unfold round
              rw [hB.pre S.pos hl, if_neg h1, if_neg h2, if_neg h3, atom_end hB hl ha]
              exact ⟨S2, q1, q2, by rw [q3]⟩
          · exfalso
            obtain ⟨S2, q1, _⟩ := addRep_none (u := s) (x := x) (S := { S with pos := k, wr := wr2 }) (.inl (nx_end hkl))
            rw [q1] at h
            cases h
theorem round_end {s u : List Int} {S S2 : St} (hB : Beg s u) (hS : Stp (nx u s.length)) (hl : S.pos < s.length) (h : round s S = .ok S2) : round u S = .ok S2 := by
  unfold round at h ⊢
  rw [hB.pre S.pos hl]
  by_cases h1 : nx s S.pos = 124
  · rw [if_pos h1] at h ⊢; exact h
  · rw [if_neg h1] at h ⊢
    by_cases h2 : nx s S.pos = 40
    · rw [if_pos h2] at h ⊢
      exact begins_end hB hS hl h
    · rw [if_neg h2] at h ⊢
      by_cases h3 : nx s S.pos = 41
      · rw [if_pos h3] at h ⊢
        unfold ends at h ⊢
        cases hg : S.low.getLast? with
        | none => rw [hg] at h; cases h
        | some l =>
          rw [hg] at h
          simp only at h ⊢
          exact addRep_end hB hS (by show S.pos + 1 ≤ s.length; omega) h
      · rw [if_neg h3] at h ⊢
        cases ha : atomP s S.top.fold S.top.all S.pos S.wr with
        | error k => rw [ha] at h; cases h
        | ok y =>
          obtain ⟨x, k, wr2⟩ := y
          rw [ha] at h
          rw [atom_end hB hl ha]
          have hk : k ≤ s.length := by
            have := atom_le (fold := S.top.fold) (all := S.top.all) (wr := S.wr) hl
            rw [ha] at this
            exact this
          simp only at h ⊢
          exact addRep_end hB hS (by exact hk) h
theorem round_low {s : List Int} {S S2 : St} (h : round s S = .ok S2) : S2.low.length ≤ S.low.length + (if nx s S.pos = 40 then 1 else 0) := by
  have ar : ∀ (x : Tree) (T T2 : St), addRep s x T = .ok T2 → T2.low = T.low := by
    intro x T T2 h
    unfold addRep at h
    split at h
    · cases h
    · injection h with h
      rw [← h]
  unfold round at h
  by_cases h1 : nx s S.pos = 124
  · rw [if_pos h1] at h
    injection h with h
    rw [← h]
    simp
  · rw [if_neg h1] at h
    by_cases h2 : nx s S.pos = 40
    · rw [if_pos h2] at h
      rw [if_pos h2]
      unfold begins at h
      split at h
      · split at h
        · split at h
          · cases h
          · injection h with h
            rw [← h]
            simp [opened]
        · simp only at h
          generalize (if nx s (S.pos + 2) = 105 then S.pos + 3 else S.pos + 2) = i1 at h
          generalize (if nx s i1 = 115 then i1 + 1 else i1) = i2 at h
          by_cases h58 : nx s i2 = 58
          · rw [if_pos h58] at h
            injection h with h
            rw [← h]
            simp [opened]
          · rw [if_neg h58] at h
            cases h
      · injection h with h
        rw [← h]
        simp [opened]
    · rw [if_neg h2] at h
      by_cases h3 : nx s S.pos = 41
      · rw [if_pos h3] at h
        unfold ends at h
        split at h
        · cases h
        · have := ar _ _ _ h
          rw [this]
          simp
          omega
      · rw [if_neg h3] at h
        split at h
        · cases h
        · have := ar _ _ _ h
          rw [this]
          simp
/-- how many brackets stand ahead of a place -/
def opens (s : List Int) (n : Nat) : Nat := (s.take n).count 40
theorem opens_succ {s : List Int} {n : Nat} (hn : n < s.length) : opens s (n + 1) = opens s n + (if nx s n = 40 then 1 else 0) := by
  unfold opens
  rw [List.take_add_one, List.count_append, nx_in hn]
  simp [List.getElem?_eq_getElem hn, List.count_singleton]
theorem opens_mono {s : List Int} {n m : Nat} (h : n ≤ m) : opens s n ≤ opens s m := by
  unfold opens
  have : (s.take n) = (s.take m).take n := by rw [List.take_take, Nat.min_eq_left h]
  rw [this]
  exact List.Sublist.count_le (a := 40) (List.take_sublist _ _)
/-- brackets end the groups -/
theorem close_all : ∀ (n f : Nat) (S : St) (u : List Int), S.low.length = n → S.pos + n = u.length → (∀ i, i < n → nx u (S.pos + i) = 41) → n + 1 ≤ f → ∃ r, lastP (rounds u f S) = .ok r := by
  intro n
  induction n with
  | zero =>
    intro f S u h1 h2 h3 h4
    obtain ⟨g, rfl⟩ : ∃ g, f = g + 1 := ⟨f - 1, by omega⟩
    rw [rounds, if_pos (by omega)]
    simp only [lastP]
    rw [if_pos h1]
    exact ⟨_, rfl⟩
  | succ n ih =>
    intro f S u h1 h2 h3 h4
    obtain ⟨g, rfl⟩ : ∃ g, f = g + 1 := ⟨f - 1, by omega⟩
    have h41 : nx u S.pos = 41 := by simpa using h3 0 (by omega)
    have hne : S.low ≠ [] := fun e => by rw [e] at h1; simp at h1
    obtain ⟨l, hg⟩ : ∃ l, S.low.getLast? = some l := ⟨S.low.getLast hne, List.getLast?_eq_some_getLast hne⟩
    have hs : Stp (nx u (S.pos + 1)) := by
      cases n with
      | zero => exact .inl (nx_end (by omega))
      | succ n => exact .inr (h3 1 (by omega))
    obtain ⟨S2, q1, q2, q3⟩ := addRep_none (u := u) (x := S.top.tree) (S := { S with pos := S.pos + 1, low := S.low.dropLast, top := l }) hs
    have hr : round u S = .ok S2 := by
      unfold round ends
      rw [h41, if_neg (by decide), if_neg (by decide), if_pos rfl, hg]
      exact q1
    rw [rounds, if_neg (by omega), hr]
    simp only
    refine ih g S2 u ?_ ?_ ?_ (by omega)
    · rw [q3]
      simp
      omega
    · rw [q2]
      show S.pos + 1 + n = u.length
      omega
    · intro i hi
      rw [q2]
      have := h3 (i + 1) (by omega)
      rw [← this]
      show nx u (S.pos + 1 + i) = _
      congr 1
      omega
end Go.Proofs.YtenanfkmmkmolaaGreatDoor
/- HELPERS: as many bytes as a fault tells can become a pattern, by one of the endings and brackets. -/
namespace Go.Proofs.YtenanfkmmkmolaaGreatDoor
open Go.RowKit Go.Mx
set_option linter.unusedVariables false
set_option linter.unusedSimpArgs false
/-- s, an ending, brackets -/
abbrev ended (s e : List Int) (k : Nat) : List Int := s ++ (e ++ List.replicate k 41)
theorem allEs_bytes {e : List Int} (h : e ∈ allEs) : ∀ x ∈ e, 0 ≤ x ∧ x < 256 := by
  have : ∀ e ∈ allEs, ∀ x ∈ e, 0 ≤ x ∧ x < 256 := by decide
  exact this e h
theorem ended_nx {s e : List Int} {k : Nat} : (∀ i, i < s.length → nx (ended s e k) i = nx s i) ∧ At (ended s e k) s.length e ∧ (∀ i, i < k → nx (ended s e k) (s.length + e.length + i) = 41) ∧ (ended s e k).length = s.length + e.length + k := by
  refine ⟨fun i hi => ?_, fun n hn => ?_, fun i hi => ?_, by simp; omega⟩
  · simp [nx, List.getD, List.getElem?_append_left hi]
  · simp [nx, List.getD]
    rw [List.getElem?_append_right (by omega), Nat.add_sub_cancel_left, List.getElem?_append_left hn, List.getElem?_eq_getElem hn]
    simp
  · simp [nx, List.getD]
    rw [List.getElem?_append_right (by omega), List.getElem?_append_right (by omega)]
    rw [show s.length + e.length + i - s.length - e.length = i by omega]
    simp [hi]
theorem ended_beg {s e : List Int} {k : Nat} (hb : ∀ x ∈ s, 0 ≤ x ∧ x < 256) (he : ∀ x ∈ e, 0 ≤ x ∧ x < 256) : Beg s (ended s e k) := by
  refine ⟨ended_nx.1, hb, fun x hx => ?_⟩
  simp only [List.mem_append, List.mem_replicate] at hx
  rcases hx with hx | hx | ⟨_, rfl⟩
  · exact hb x hx
  · exact he x hx
  · decide
theorem ended_stp {s e : List Int} {k : Nat} : Stp (nx (ended s e k) (s.length + e.length)) := by
  cases k with
  | zero => exact .inl (nx_end (by rw [ended_nx.2.2.2]; omega))
  | succ k => exact .inr (by simpa using (ended_nx (s := s) (e := e) (k := k + 1)).2.2.1 0 (by omega))
theorem rounds_reach {s : List Int} (hb : ∀ x ∈ s, 0 ≤ x ∧ x < 256) : ∀ (f : Nat) (S : St), S.pos ≤ s.length → s.length + 1 ≤ S.pos + f → S.low.length ≤ opens s S.pos → lastP (rounds s f S) = .error s.length → ∃ e ∈ allEs, ∃ k, k ≤ opens s s.length ∧ (S.pos = s.length → e = []) ∧ ∀ f', s.length + e.length + k + 1 ≤ S.pos + f' → ∃ r, lastP (rounds (ended s e k) f' S) = .ok r := by
  intro f
  induction f with
  | zero => intro S h1 h2; omega
  | succ f ih =>
    intro S h1 h2 h3 h
    rw [rounds] at h
    by_cases hp : S.pos = s.length
    · rw [if_pos hp] at h
      refine ⟨[], by simp [allEs], S.low.length, by rw [← hp]; exact h3, fun _ => rfl, fun f' hf' => ?_⟩
      have hn := ended_nx (s := s) (e := []) (k := S.low.length)
      exact close_all S.low.length f' S _ rfl (by rw [hn.2.2.2, hp]; simp) (fun i hi => by rw [hp]; simpa using hn.2.2.1 i hi) (by simp at hf'; omega)
    · rw [if_neg hp] at h
      have hl : S.pos < s.length := by omega
      cases hr : round s S with
      | error j =>
        rw [hr] at h
        have hj : j = s.length := by
          simp only [lastP] at h
          injection h
        subst hj
        obtain ⟨e, he, n, hn, hf⟩ := round_fail hl hr
        have hno : n ≤ opens s s.length := by
          have := opens_succ hl
          have := opens_mono (s := s) (show S.pos + 1 ≤ s.length by omega)
          omega
        refine ⟨e, he, n, hno, fun e0 => absurd e0 hp, fun f' hf' => ?_⟩
        have hE := ended_nx (s := s) (e := e) (k := n)
        obtain ⟨S2, q1, q2, q3⟩ := hf _ (ended_beg (k := n) hb (allEs_bytes he)) hE.2.1 ended_stp
        obtain ⟨g, rfl⟩ : ∃ g, f' = g + 1 := ⟨f' - 1, by omega⟩
        rw [rounds, if_neg (by rw [hE.2.2.2]; omega), q1]
        simp only
        exact close_all n g S2 _ q3 (by rw [hE.2.2.2, q2]) (fun i hi => by rw [q2]; exact hE.2.2.1 i hi) (by omega)
      | ok S2 =>
        rw [hr] at h
        simp only at h
        have hpos := round_pos hr
        have hle : S2.pos ≤ s.length := by
          have := round_le (t := s) (S := S) hl
          rw [hr] at this
          exact this
        have hlow : S2.low.length ≤ opens s S2.pos := by
          have a1 := round_low hr
          have a2 := opens_succ hl
          have a3 := opens_mono (s := s) (show S.pos + 1 ≤ S2.pos by omega)
          omega
        obtain ⟨e, he, k, hk, hend, hf⟩ := ih S2 hle (by omega) hlow h
        refine ⟨e, he, k, hk, fun e0 => absurd e0 hp, fun f' hf' => ?_⟩
        have hE := ended_nx (s := s) (e := e) (k := k)
        have hB := ended_beg (k := k) hb (allEs_bytes he)
        have hru : round (ended s e k) S = .ok S2 := by
          rcases Nat.lt_or_ge S2.pos s.length with hl2 | hl2
          · rw [round_lo hB.bs hB.bu (by rw [hr]; exact hB.al hl2), hr]
          · have e0 : S2.pos = s.length := by omega
            have e1 := hend e0
            subst e1
            refine round_end hB ?_ hl hr
            have := ended_stp (s := s) (e := []) (k := k)
            simpa using this
        obtain ⟨g, rfl⟩ : ∃ g, f' = g + 1 := ⟨f' - 1, by omega⟩
        rw [rounds, if_neg (by rw [hE.2.2.2]; omega), hru]
        exact hf g (by omega)
theorem reach_end {s : List Int} (hb : ∀ x ∈ s, 0 ≤ x ∧ x < 256) (h : patternP s = .error s.length) : ∃ e ∈ allEs, ∃ k, k ≤ opens s s.length ∧ ∃ r, patternP (ended s e k) = .ok r := by
  rw [patternP_last] at h
  obtain ⟨e, he, k, hk, _, hf⟩ := rounds_reach hb (s.length + 1) S0 (by simp [S0]) (by simp [S0]) (by simp [S0]) h
  refine ⟨e, he, k, hk, ?_⟩
  rw [patternP_last]
  exact hf _ (by rw [ended_nx.2.2.2]; simp [S0])
/-- as many bytes as the fault tells can become a pattern -/
theorem reach {t : List Int} {j : Nat} (hb : ∀ x ∈ t, 0 ≤ x ∧ x < 256) (h : patternP t = .error j) : ∃ e ∈ allEs, ∃ k, k ≤ (t.take j).count 40 ∧ ∃ r, patternP (ended (t.take j) e k) = .ok r := by
  obtain ⟨hj, hd⟩ := dead_stays hb h
  have hlen : (t.take j).length = j := by simp; omega
  have hbs : ∀ x ∈ t.take j, 0 ≤ x ∧ x < 256 := fun x hx => hb x (List.mem_of_mem_take hx)
  cases hp : patternP (t.take j) with
  | ok r =>
    refine ⟨[], by simp [allEs], 0, Nat.zero_le _, r, ?_⟩
    simpa [ended] using hp
  | error j' =>
    obtain ⟨hj', hd'⟩ := dead_stays hbs hp
    have hje : j' = j := by
      rcases Nat.lt_or_ge j' j with h1 | h1
      · have := hd' t hb (fun i hi => by simp [nx, List.getD, List.getElem?_take, show i < j by omega])
        rw [h] at this
        injection this with this
        exact this.symm
      · omega
    subst hje
    have := reach_end hbs (by rw [hlen]; exact hp)
    obtain ⟨e, he, k, hk, hr⟩ := this
    refine ⟨e, he, k, ?_, hr⟩
    unfold opens at hk
    rw [List.take_of_length_le (Nat.le_refl _)] at hk
    exact hk
end Go.Proofs.YtenanfkmmkmolaaGreatDoor
/- HELPERS: the walk of the law SyntaxReaches. -/
namespace Go.Proofs.YtenanfkmmkmolaaGreatDoor
open Go.RowKit Go.Mx
set_option linter.unusedVariables false
set_option linter.unusedSimpArgs false
/-- the endings, as strings -/
def endsB : List ByteArray := allEs.map bytesOf
set_option maxHeartbeats 1000000 in
set_option maxRecDepth 100000 in
theorem ends13 (w : World) : Calls Tryz.prog 13 #[] w fun e w' => e = .returned (.slice (some ⟨w.heap.size, 0, none⟩) 28 28) ∧ Below w.heap.size w w' ∧ w'.heap[w.heap.size]? = some (.cells (endsB.map Value.string).toArray 9 (0, 0)) := by
  go_enter Tryz.func13, Tryz.ntmps13
  go_wp2
  go_ret
  exact ⟨rfl, Joins.below_alloc1 w _, (heap_alloc_new w _).trans (by kernel_rfl)⟩
set_option maxRecDepth 100000 in
set_option maxHeartbeats 2000000 in
theorem reaches5_long (p : ByteArray) (w : World) (hgl : Gl w) (hs : p.size ≤ 140737488355328) (hp : 200 < p.size) :
    Calls Tryz.prog 5 #[.string p] w fun e w' => e = .returned (.bool true) ∧ Below w.heap.size w w' := by
  have C0 := awake7 w hgl
  have hb : decide (200 < (p.size : Int)) = true := by simp; omega
  obtain ⟨co, ca, hc⟩ : ∃ co ca, codeP p = (co, ca) := ⟨_, _, rfl⟩
  go_enter Tryz.func5, Tryz.ntmps5
  go_wp2_with (go_at_call 7; (with_reducible refine C0.mono ?_); rintro e w1 ⟨rfl, B1⟩; have G1 := hgl.below B1 (by have := hgl.big; omega); have C1 := parsed9_any p (by omega) w1 G1; rw [hc] at C1; have HB1 := hid B1; clear B1)
  go_wp2_with (go_at_call 9; (with_reducible refine C1.mono ?_); rintro e w2 ⟨a0, a2, a4, a5, a7, a6, a8, r1, s1, r2, r3, s2, s3, rfl, B2⟩; have HB2 := hid B2; clear B2)
  go_ret
  exact ⟨rfl, (HB1.out.trans (Joins.below_le HB2.out HB1.out.size)).trans (Joins.below_le (Joins.below_alloc2 w2 _ _) (Nat.le_trans HB1.out.size HB2.out.size))⟩
set_option maxRecDepth 100000 in
set_option maxHeartbeats 2000000 in
theorem reaches5_live (p : ByteArray) (w : World) (hgl : Gl w) (hp : p.size ≤ 200) {co ca : Int} (hc : codeP p = (co, ca)) (h40 : co ≠ 40) :
    Calls Tryz.prog 5 #[.string p] w fun e w' => e = .returned (.bool true) ∧ Below w.heap.size w w' := by
  have C0 := awake7 w hgl
  have hb : decide (200 < (p.size : Int)) = false := by simp; omega
  have e40 : (co == 40) = false := by simpa using h40
  go_enter Tryz.func5, Tryz.ntmps5
  go_wp2_with (go_at_call 7; (with_reducible refine C0.mono ?_); rintro e w1 ⟨rfl, B1⟩; have G1 := hgl.below B1 (by have := hgl.big; omega); have C1 := parsed9_any p (by omega) w1 G1; rw [hc] at C1; have HB1 := hid B1; clear B1)
  go_wp2_with (go_at_call 9; (with_reducible refine C1.mono ?_); rintro e w2 ⟨a0, a2, a4, a5, a7, a6, a8, r1, s1, r2, r3, s2, s3, rfl, B2⟩; have HB2 := hid B2; clear B2)
  go_ret
  exact ⟨rfl, (HB1.out.trans (Joins.below_le HB2.out HB1.out.size)).trans (Joins.below_le (Joins.below_alloc2 w2 _ _) (Nat.le_trans HB1.out.size HB2.out.size))⟩
end Go.Proofs.YtenanfkmmkmolaaGreatDoor
/- HELPERS: the walk of the law SyntaxReaches: where a byte cannot stand. -/
namespace Go.Proofs.YtenanfkmmkmolaaGreatDoor
open Go.RowKit Go.Mx
set_option linter.unusedVariables false
set_option linter.unusedSimpArgs false
/-- the brackets among the first n bytes -/
def openB (p : ByteArray) (n : Nat) : Nat := ((p.data.toList.take n).filter (· = 40)).length
/-- the texts that are tried -/
def cand (p : ByteArray) (j i : Nat) : Nat → ByteArray
  | 0 => p.extract 0 j ++ endsB.getD i ⟨#[]⟩
  | k + 1 => cand p j i k ++ ⟨#[41]⟩
theorem endsB_len : endsB.length = 28 := by decide
theorem endsB_at (n : Nat) (hn : n < 28) : ((endsB.map Value.string).toArray)[n]? = some (.string (endsB.getD n ⟨#[]⟩)) := by
  have h : n < endsB.length := by rw [endsB_len]; exact hn
  simp [List.getD, h]
theorem openB_succ (p : ByteArray) (n : Nat) (hn : n < p.size) : openB p (n + 1) = openB p n + (if p.data[n]'hn = 40 then 1 else 0) := by
  unfold openB
  have hn' : n < p.data.toList.length := by rw [Array.length_toList]; exact hn
  rw [List.take_add_one, List.filter_append, List.length_append, List.getElem?_eq_getElem hn']
  simp only [Option.toList_some, Array.getElem_toList]
  by_cases h : p.data[n]'hn = 40
  · simp [h]
  · simp [h]
theorem cand_size (p : ByteArray) (j i : Nat) (hj : j ≤ p.size) : ∀ k, (cand p j i k).size ≤ j + 4 + k := by
  have he : ∀ i, (endsB.getD i ⟨#[]⟩).size ≤ 4 := by
    intro i
    have : ∀ x ∈ endsB, x.size ≤ 4 := by decide
    by_cases h : i < endsB.length
    · rw [show endsB.getD i ⟨#[]⟩ = endsB[i] by simp [List.getD, h]]
      exact this _ (List.getElem_mem h)
    · rw [show endsB.getD i ⟨#[]⟩ = ⟨#[]⟩ by simp [List.getD, List.getElem?_eq_none (Nat.le_of_not_lt h)]]
      decide
  intro k
  induction k with
  | zero =>
    have := he i
    have := (txt_extract p j hj).1
    show (p.extract 0 j ++ endsB.getD i ⟨#[]⟩).size ≤ _
    rw [ByteArray.size_append]
    omega
  | succ k ih =>
    show (cand p j i k ++ ⟨#[41]⟩).size ≤ _
    rw [ByteArray.size_append]
    have : (⟨#[41]⟩ : ByteArray).size = 1 := rfl
    omega
set_option maxRecDepth 100000 in
set_option maxHeartbeats 4000000 in
theorem reaches5_dead (p : ByteArray) (w : World) (hgl : Gl w) (hp : p.size ≤ 200) {j : Nat} (hj : j ≤ p.size) (hc : codeP p = (40, (j : Int))) {o : Nat} (ho : openB p j = o) (H : Hid (∃ i, i < 28 ∧ ∃ k, k ≤ o ∧ (codeP (cand p j i k)).1 ≠ 40)) :
    Calls Tryz.prog 5 #[.string p] w fun e w' => e = .returned (.bool true) ∧ Below w.heap.size w w' := by
  have C0 := awake7 w hgl
  have hb : decide (200 < (p.size : Int)) = false := by simp; omega
  have l1 : decide ((p.size : Int) < (j : Int)) = false := by simp; omega
  have l2 : decide ((j : Int) < 0) = false := by simp
  go_enter Tryz.func5, Tryz.ntmps5
  go_wp2_with (go_at_call 7; (with_reducible refine C0.mono ?_); rintro e w1 ⟨rfl, B1⟩; have G1 := hgl.below B1 (by have := hgl.big; omega); have C1 := parsed9_any p (by omega) w1 G1; rw [hc] at C1; have HB1 := hid B1; clear B1)
  go_wp2_with (go_at_call 9; (with_reducible refine C1.mono ?_); rintro e w2 ⟨a0, a2, a4, a5, a7, a6, a8, r1, s1, r2, r3, s2, s3, rfl, B2⟩; have HB2 := hid B2; clear B2)
  obtain ⟨W, hW⟩ : ∃ W, W = ((w2.alloc (.cells #[.int .i64 a0, .slice r1 r2 r3, .int .i64 a2, .slice s1 s2 s3, .int .i64 a4, .int .i64 a5, .bool a6, .int .i64 a7, .string a8] 26)).alloc (.cells #[.int .i64 40, .int .i64 (j : Int)] 29)) := ⟨_, rfl⟩
  have HBW : Hid (Below w.heap.size w W) := by rw [hW]; exact (HB1.out.trans (Joins.below_le HB2.out HB1.out.size)).trans (Joins.below_le (Joins.below_alloc2 w2 _ _) (Nat.le_trans HB1.out.size HB2.out.size))
  obtain ⟨fb, hfb⟩ : ∃ fb, fb = w2.heap.size + 1 := ⟨_, rfl⟩
  have hWf0 : W.heap[fb]? = some (.cells #[.int .i64 40, .int .i64 (j : Int)] 29 (0, 0)) := by rw [hW, hfb]; have := heap_alloc_new (w2.alloc (.cells #[.int .i64 a0, .slice r1 r2 r3, .int .i64 a2, .slice s1 s2 s3, .int .i64 a4, .int .i64 a5, .bool a6, .int .i64 a7, .string a8] 26)) (.cells #[.int .i64 40, .int .i64 (j : Int)] 29); simpa using this
  have hWf := hid hWf0
  obtain ⟨kf0, kf1⟩ := blk2 hWf0
  clear hWf0
  rw [← hW, ← hfb]
  have HW := hid hW
  have HFB := hid hfb
  clear hW hfb
  have ob : ∀ i, openB p i ≤ i := fun i => by
    unfold openB
    exact Nat.le_trans (List.length_filter_le _ _) (by simp; omega)
  go_loopw [7, 8] (fun x y wq => ∃ i : Nat, x = .int .i64 (openB p i : Int) ∧ y = .int .i64 (i : Int) ∧ i ≤ j ∧ wq = W) (fun _ y _ => j - (intOf y).toNat)
  case atStart => exact ⟨0, by simp [openB], rfl, by omega, rfl⟩
  case round =>
    obtain ⟨i, rfl, rfl, hi, rfl⟩ := hrel
    by_cases hij : i < j
    · have b1 : decide ((i : Int) < (j : Int)) = true := by simp; omega
      have ib : (i : Int) < (p.size : Int) := by omega
      have ib2 : i < p.size := by omega
      have hob := ob i
      have w64 : IntKind.i64.wrap ((openB p i : Int) + 1) = (openB p i : Int) + 1 := i64_small _ (by omega) (by omega)
      have hsu := openB_succ p i ib2
      cases hx : (((p[i]'ib2).toNat : Int) == 40)
      · have hne : ¬ p.data[i] = 40 := fun h => by
          have h2 : p[i]'ib2 = 40 := h
          rw [h2] at hx
          simp at hx
        rw [if_neg hne] at hsu
        go_wp2
        refine ⟨⟨i + 1, by rw [hsu]; simp, by push_cast; rfl, by omega, trivial⟩, ?_⟩
        simp [intOf]
        omega
      · have heq : p.data[i] = 40 := by
          have h1 : (p[i]'ib2).toNat = 40 := by
            have := eq_of_beq hx
            omega
          exact UInt8.toNat_inj.1 h1
        rw [if_pos heq] at hsu
        go_wp2
        refine ⟨⟨i + 1, by rw [hsu]; push_cast; rfl, by push_cast; rfl, by omega, trivial⟩, ?_⟩
        simp [intOf]
        omega
    · have b1 : decide ((i : Int) < (j : Int)) = false := by simp; omega
      obtain rfl : i = j := by omega
      rw [ho]
      have C4 := ends13 wr
      go_wp2_with (go_at_call 13; (with_reducible refine C4.mono ?_); rintro e w4 ⟨rfl, B4, hL⟩)
      have HB4 := hid B4
      have HL := hid hL
      clear B4 hL
      obtain ⟨lb, hlb⟩ : ∃ lb, lb = wr.heap.size := ⟨_, rfl⟩
      rw [← hlb] at HL HB4 ⊢
      have HFW : Hid (w4.heap[fb]? = some (.cells #[.int .i64 40, .int .i64 (i : Int)] 29 (0, 0))) := hid ((HB4.out.block fb (by rw [hlb]; exact (Array.getElem?_eq_some_iff.1 hWf.out).1)).trans hWf.out)
      have lbl : lb < w4.heap.size := (Array.getElem?_eq_some_iff.1 HL.out).1
      have fbl : fb < w4.heap.size := (Array.getElem?_eq_some_iff.1 HFW.out).1
      have hgl4 : Hid (Gl w4) := hid (hgl.below (HBW.out.trans (Joins.below_le HB4.out (by rw [hlb]; exact HBW.out.size))) (by have := hgl.big; omega))
      have HBB4 : Hid (Below w.heap.size w w4) := hid (HBW.out.trans (Joins.below_le HB4.out (by rw [hlb]; exact HBW.out.size)))
      have hes := (txt_extract p i (by omega)).1
      clear C4 C0 hlb kf0 kf1 HBW hWf HB4
      go_loopw [10] (fun x wq => ∃ n : Nat, x = .int .i64 (n : Int) ∧ n ≤ 28 ∧ Hid (Below w4.heap.size w4 wq) ∧ Hid (∀ n', n' < n → ∀ k, k ≤ o → (codeP (cand p i n' k)).1 = 40)) (fun x _ => 28 - (intOf x).toNat)
      case atStart => exact ⟨0, rfl, by omega, Below.refl _ _, fun n' h => by omega⟩
      case round =>
        obtain ⟨n, rfl, hn, BK, HD⟩ := hrel
        by_cases hn28 : n < 28
        · have b1 : decide ((n : Int) < 28) = true := by simp; omega
          have kL := (BK.out.cell (p := ⟨lb, n, none⟩) lbl).trans ((Joins.cell_of_block HL.out n).trans (endsB_at n hn28))
          have kF := (BK.out.cell (p := ⟨fb, 1, none⟩) fbl).trans (blk2 HFW.out).2
          obtain ⟨E, hE⟩ : ∃ E, endsB.getD n ⟨#[]⟩ = E := ⟨_, rfl⟩
          rw [hE] at kL
          obtain ⟨Q0, hQ0⟩ : ∃ Q0, cand p i n 0 = Q0 := ⟨_, rfl⟩
          have hadd : ∀ W' : World, (Op.stringOp .add (p.extract 0 i) E).run Tryz.prog W' = .ok (.string Q0) W' := fun W' => by
            rw [← hQ0, ← hE]
            exact run_string_add_sum (P := Tryz.prog) (w := W') _ _ (by have h0 := cand_size p i n (by omega) 0; have : (p.extract 0 i ++ endsB.getD n ⟨#[]⟩).size = (cand p i n 0).size := rfl; rw [ByteArray.size_append] at this; omega)
          have HQ0 := hid hQ0
          clear hE hQ0
          have g1 : (i : Int) ≤ (p.size : Int) := by omega
          have g2 : (0 : Int) ≤ (i : Int) := by omega
          have g3 : ((i : Int)).toNat = i := by omega
          have g4 : i ≤ p.size := by omega
          have il1 : (n : Int) < 28 := by omega
          have BQ : ∀ q, Below w4.heap.size w4 (wr.drewN q) := fun q => BK.out.trans ⟨rfl, rfl, rfl, Nat.le_refl _, fun _ _ => rfl⟩
          go_wp2_with fail
          go_quiet (fail)
          have HBQ := hid (BQ nq)
          clear BQ kL kF
          go_wp2_with fail
          go_loopw [11, 12] (fun x y wq => ∃ k : Nat, x = .string (cand p i n k) ∧ y = .int .i64 (k : Int) ∧ k ≤ o + 1 ∧ Hid (Below w4.heap.size w4 wq) ∧ Hid (∀ k', k' < k → (codeP (cand p i n k')).1 = 40)) (fun _ y _ => o + 1 - (intOf y).toNat)
          case atStart => exact ⟨0, by rw [HQ0.out], rfl, by omega, HBQ, fun k' h => by omega⟩
          case round =>
            obtain ⟨k, rfl, rfl, hk, BK2, HD2⟩ := hrel
            by_cases hko : k ≤ o
            · have b2 : decide ((k : Int) ≤ (o : Int)) = true := by simp; omega
              obtain ⟨Q, hQ⟩ : ∃ Q, cand p i n k = Q := ⟨_, rfl⟩
              have hoi : o ≤ 200 := by have := ob i; omega
              have hsz := cand_size p i n (by omega) k
              rw [hQ] at hsz
              obtain ⟨go, ga, hg⟩ : ∃ go ga, codeP Q = (go, ga) := ⟨_, _, rfl⟩
              have C5 := parsed9_any Q (by omega) wr (hgl4.out.below BK2.out (by have := hgl4.out.big; omega))
              rw [hg] at C5
              have HQ := hid hQ
              rw [hQ]
              clear hQ
              have ad1 : IntKind.i64.wrap ((k : Int) + 1) = (k : Int) + 1 := i64_small _ (by omega) (by omega)
              by_cases h40 : go = 40
              · subst h40
                obtain ⟨Q2, hQ2⟩ : ∃ Q2, cand p i n (k + 1) = Q2 := ⟨_, rfl⟩
                have hadd2 : ∀ W' : World, (Op.stringOp .add Q ⟨#[41]⟩).run Tryz.prog W' = .ok (.string Q2) W' := fun W' => by
                  rw [← hQ2, ← HQ.out]
                  exact run_string_add_sum (P := Tryz.prog) (w := W') _ _ (by rw [HQ.out]; have : (⟨#[41]⟩ : ByteArray).size = 1 := rfl; omega)
                have HQ2 := hid hQ2
                clear hQ2
                go_wp2_with (go_at_call 9; (with_reducible refine C5.mono ?_); rintro e w6 ⟨b0, b2', b4, b5, b7, b6, b8, q1, t1, q2, q3, t2, t3, rfl, B6⟩; have HB6 := hid B6; clear B6)
                refine ⟨⟨k + 1, by rw [HQ2.out], by push_cast; rfl, by omega, (BK2.out.trans (Joins.below_le HB6.out BK2.out.size)).trans (Joins.below_le (Joins.below_alloc2 w6 _ _) (Nat.le_trans BK2.out.size HB6.out.size)), fun k' hk' => ?_⟩, ?_⟩
                · rcases Nat.lt_or_ge k' k with h | h
                  · exact HD2.out k' h
                  · obtain rfl : k' = k := by omega
                    rw [HQ.out, hg]
                · simp [intOf]
                  omega
              · have e40 : (go == 40) = false := by simpa using h40
                go_wp2_with (go_at_call 9; (with_reducible refine C5.mono ?_); rintro e w6 ⟨b0, b2', b4, b5, b7, b6, b8, q1, t1, q2, q3, t2, t3, rfl, B6⟩; have HB6 := hid B6; clear B6)
                go_ret
                exact ⟨rfl, (HBB4.out.trans (Joins.below_le ((BK2.out.trans (Joins.below_le HB6.out BK2.out.size)).trans (Joins.below_le (Joins.below_alloc2 w6 _ _) (Nat.le_trans BK2.out.size HB6.out.size))) HBB4.out.size))⟩
            · have b2 : decide ((k : Int) ≤ (o : Int)) = false := by simp; omega
              have ad1 : IntKind.i64.wrap ((n : Int) + 1) = (n : Int) + 1 := i64_small _ (by omega) (by omega)
              go_wp2
              refine ⟨⟨n + 1, by push_cast; rfl, by omega, BK2, fun n' hn' k' hk' => ?_⟩, ?_⟩
              · rcases Nat.lt_or_ge n' n with h | h
                · exact HD.out n' h k' hk'
                · obtain rfl : n' = n := by omega
                  exact HD2.out k' (by omega)
              · simp [intOf]
                omega
        · have b1 : decide ((n : Int) < 28) = false := by simp; omega
          exfalso
          obtain ⟨i0, hi0, k0, hk0, hne⟩ := H.out
          exact hne (HD.out i0 (by omega) k0 hk0)
end Go.Proofs.YtenanfkmmkmolaaGreatDoor
/- HELPERS: the law SyntaxReaches, whole. -/
namespace Go.Proofs.YtenanfkmmkmolaaGreatDoor
open Go.RowKit Go.Mx
set_option linter.unusedVariables false
set_option linter.unusedSimpArgs false
theorem txt_app (p q : ByteArray) : txt (p ++ q) = txt p ++ txt q := by
  unfold txt
  rw [ByteArray.data_append, Array.toList_append, List.map_append]
theorem txt_ext (p : ByteArray) (j : Nat) : txt (p.extract 0 j) = (txt p).take j := by
  unfold txt
  rw [ByteArray.data_extract, Array.toList_extract]
  simp [List.extract_eq_take_drop, List.map_take]
theorem txt_of (e : List Int) (h : ∀ x ∈ e, 0 ≤ x ∧ x < 256) : txt (bytesOf e) = e := by
  unfold txt bytesOf
  simp only [List.map_map]
  conv => rhs; rw [← List.map_id e]
  apply List.map_congr_left
  intro x hx
  have := h x hx
  simp only [Function.comp, id]
  have h2 : (x.toNat.toUInt8).toNat = x.toNat := by
    simp [Nat.toUInt8, UInt8.toNat_ofNat']
    omega
  rw [h2]
  omega
theorem txt_cand (p : ByteArray) (j i : Nat) (hi : i < 28) : ∀ k, txt (cand p j i k) = ended ((txt p).take j) (allEs.getD i []) k := by
  have hl : allEs.length = 28 := by decide
  have hb : ∀ x ∈ allEs.getD i [], 0 ≤ x ∧ x < 256 := by
    rw [show allEs.getD i [] = allEs[i]'(by omega) by simp [List.getD, show i < allEs.length by omega]]
    exact allEs_bytes (List.getElem_mem _)
  have he : endsB.getD i ⟨#[]⟩ = bytesOf (allEs.getD i []) := by
    unfold endsB
    simp [List.getD, List.getElem?_map, show i < allEs.length by omega]
  intro k
  induction k with
  | zero =>
    show txt (p.extract 0 j ++ endsB.getD i ⟨#[]⟩) = _
    rw [txt_app, txt_ext, he, txt_of _ hb]
    simp [ended]
  | succ k ih =>
    show txt (cand p j i k ++ ⟨#[41]⟩) = _
    rw [txt_app, ih]
    have : txt ⟨#[41]⟩ = [41] := by decide
    rw [this]
    simp [ended, List.replicate_succ']
theorem openB_txt (p : ByteArray) (j : Nat) : openB p j = ((txt p).take j).count 40 := by
  unfold openB txt
  rw [← List.map_take, List.count_eq_length_filter, List.filter_map, List.length_map]
  congr 1
  apply List.filter_congr
  intro x _
  simp only [Function.comp]
  by_cases h : x = 40
  · subst h; decide
  · have h2 : ¬ (x.toNat : Int) = 40 := fun h3 => h (UInt8.toNat_inj.1 (by show x.toNat = 40; omega))
    simp [h, h2]
theorem reaches5 (p : ByteArray) (w : World) (hgl : Gl w) (hs : p.size ≤ 140737488355328) : Calls Tryz.prog 5 #[.string p] w fun e w' => e = .returned (.bool true) ∧ Below w.heap.size w w' := by
  rcases Nat.lt_or_ge 200 p.size with hp | hp
  · exact reaches5_long p w hgl hs hp
  · rcases code_cases p with ⟨h1, h2⟩ | ⟨h1, j, h2, h3, h4⟩ | ⟨h1, h2, h3, h4⟩
    · omega
    · refine reaches5_dead p w hgl hp h3 h2 rfl ?_
      obtain ⟨e, he, k, hk, r, hr⟩ := reach (txt_bytes p) h4
      obtain ⟨i, hi, hie⟩ := List.getElem_of_mem he
      have hl : allEs.length = 28 := by decide
      have hi28 : i < 28 := by omega
      refine ⟨i, hi28, k, by rw [openB_txt]; exact hk, ?_⟩
      have hc : patternP (txt (cand p j i k)) = .ok r := by
        rw [txt_cand p j i hi28 k, show allEs.getD i [] = e by simp [List.getD, hi, hie]]
        exact hr
      have ho : k ≤ 200 := by
        have := List.count_le_length (a := (40 : Int)) (l := (txt p).take j)
        simp [txt_len] at this
        omega
      have hsz := cand_size p j i h3 k
      rcases code_cases (cand p j i k) with ⟨g1, g2⟩ | ⟨g1, j', g2, g3, g4⟩ | ⟨g1, g2, g3, g4⟩
      · omega
      · rw [hc] at g4
        cases g4
      · exact g3
    · obtain ⟨co, ca, hc⟩ : ∃ co ca, codeP p = (co, ca) := ⟨_, _, rfl⟩
      rw [hc] at h3
      exact reaches5_live p w hgl hp hc h3
end Go.Proofs.YtenanfkmmkmolaaGreatDoor
namespace Go.Proofs.YtenanfkmmkmolaaGreatDoor
open Go.ChangeShapes Go.WideShapes Go.ChangeAt Go.RowKit Go.Mx
open Go.ChangeMaps (open_string shut_string)
set_option linter.unusedVariables false
set_option linter.unusedSimpArgs false
theorem big_of_shapedR {W : World} (h : W.ShapedOpen Tryz.prog) : 4 ≤ W.heap.size := by
  obtain ⟨cs, hc, _⟩ := h.1 3 #[.int .i64 0] 3 (of_decide_eq_true (by kernel_rfl)) (by kernel_rfl)
  have := (Array.getElem?_eq_some_iff.1 hc).1
  omega
set_option maxRecDepth 100000 in
theorem reachesContract (H : Type) (enc : TypeId × Value → H) (W : World) (base : Nat) (args : Array Value) (ds gs : List (DataW H)) (before : List MemPlace)
    (hval : ∀ (j : Nat) t v, Tryz.f5.params[j]? = some t → args[j]? = some v → Value.okWide Tryz.prog W .any base t v)
    (hW : DataW.Whole enc Tryz.prog Tryz.f5.params.toList Rows.syntaxReachesSpec.vars false W args.toList ds gs before)
    (hsz : (DataW.weightsEach Tryz.prog (Tryz.f5.params.toList ++ Rows.syntaxReachesSpec.plain.varTypes Tryz.prog) (ds ++ gs)).all (· ≤ reachBytes) = true)
    (hL : laidMetH Tryz.prog Rows.syntaxReachesRow.laid W) (hS : W.ShapedOpen Tryz.prog) :
    Calls Tryz.prog 5 args W fun e W' => ∃ v, e = .returned v ∧ Rows.syntaxReachesSpec.post enc Tryz.prog Tryz.f5 false true false false W args v W' := by
  have hW' := hW
  obtain ⟨p, q, hA0, hV, rfl, hfz, hnd⟩ := hW
  have hA : DataW.TrodAll enc Tryz.prog W 0 (fun _ => true) true Tryz.f5.params.toList args.toList ds p := hA0
  rw [Tryz.params5] at hA hval hsz
  obtain ⟨v0, vs0, d0, ds0, p0, q0, hargs, rfl, rfl, h0, r0⟩ := trodAll_cons hA
  obtain ⟨rfl, rfl, rfl⟩ := trodAll_nil r0
  obtain rfl : args = #[v0] := by cases args; simp_all
  obtain ⟨rfl, rfl⟩ := trodVars_none hV
  obtain ⟨s0, rfl, rfl, rfl, hs0⟩ := open_string Tryz.underlying9 (hval 0 9 v0 rfl rfl) h0
  have z0 : s0.size ≤ reachBytes := by
    have := sized_string hsz (j := 0) (t := 9) (bytes := s0.data.toList) rfl rfl
    simpa using this
  unfold reachBytes at z0
  refine (reaches5 s0 W (gl_of_laid (show laidMetH Tryz.prog Rows.syntaxBeginsRow.laid W from hL) (big_of_shapedR hS)) (by omega)).mono fun e W' ⟨he, hb⟩ => ?_
  subst he
  exact ⟨_, rfl, _, _, _, [], [], [], hW', trodAll_cons_mk (shut_bool Tryz.underlying4 _) trodAll_mk0, trodAll_cons_mk (shut_string Tryz.underlying9 hs0) trodAll_mk0, rfl, hb.frame _, fun h => by cases h⟩
theorem reachesLaid (os : Os) : laidMetH Tryz.prog Rows.syntaxReachesRow.laid ((fixWorld (World.holding Tryz.prog os ⟨#[], #[], []⟩)).forCall (fun _ _ => 0) ⟨#[], #[.string ⟨#[]⟩], []⟩).memory :=
  laidMetH_of_parts (laidMet_of_run' 8 (by kernel_rfl) (by kernel_rfl)) (by kernel_rfl)
theorem reachesReads (os : Os) {H : Type} (enc : TypeId × Value → H) : ∃ places, DataW.whole enc Tryz.prog ((fixWorld (World.holding Tryz.prog os ⟨#[], #[], []⟩)).forCall (fun _ _ => 0) ⟨#[], #[.string ⟨#[]⟩], []⟩).memory Tryz.f5.params.toList Rows.syntaxReachesSpec.vars false (#[Value.string ⟨#[]⟩] : Array Value).toList 8 = some ([.lit (.string [])], [], places) :=
  ⟨[], by kernel_rfl⟩
set_option maxRecDepth 100000 in
theorem reachesLifted (os : Os) (started : os.Started) (H : Type) (enc : TypeId × Value → H) (F : Stop.Interp) :
    ReturnsInHanded {} Tryz.checked os 5 .any ((OpenSpec.ofChange Rows.syntaxReachesSpec).preRow enc Tryz.prog Tryz.f5 Rows.syntaxReachesRow.domain false Rows.syntaxReachesRow.laid) (((OpenSpec.ofChange Rows.syntaxReachesSpec).at F).post enc Tryz.prog Tryz.f5 false true false false) := by
  obtain ⟨places, hx⟩ := reachesReads os enc
  refine returnsInHanded_of_row (C := Tryz.checked) (s := OpenSpec.ofChange Rows.syntaxReachesSpec) own started (by kernel_rfl) Tryz.func5
    (witness_row_at (enc := enc) (C := Tryz.checked) false (fixWorld (World.holding Tryz.prog os ⟨#[], #[], []⟩)) #[.string ⟨#[]⟩] rfl (by kernel_rfl) (by kernel_rfl) (by kernel_rfl)
      (OpenSpec.preRow_of_cond 8 hx (by kernel_rfl) (fun k hk => by cases hk) (by kernel_rfl) (reachesLaid os))) ?_
  intro W base args ds gs before hval hW _ _ hsz hL hS _
  exact reachesContract H enc W base args ds gs before hval hW hsz hL hS
theorem reachesSaid : Rows.SyntaxReachesSaid :=
  OpenClaim.holds_of_cond 5 Tryz.f5 rfl rfl rfl rfl rfl rfl rfl ⟨rfl, rfl, rfl, rfl, rfl⟩ rfl rfl rfl rfl rfl (by kernel_rfl) Tryz.func5 (by kernel_rfl)
    (of_decide_eq_true (by kernel_rfl)) (by unfold Func.isWrapper; first | (rw [if_pos (by decide +kernel)]; kernel_rfl) | (rw [if_neg (by decide +kernel)]; exact ⟨rfl, rfl⟩))
    (fun os started H enc _ F => by rw [OpenClaim.pre_eq_preRow]; exact reachesLifted os started H enc F)
theorem reachesPlain (f : FuncId) (fn : Func) (hf : Tryz.pinned.checked.prog.funcNamed Tryz.f5.name = some f) (hfn : Tryz.pinned.checked.prog.funcs[f]? = some fn) :
    true = Tryz.pinned.checked.prog.looks [] ∧ ∀ (j : Nat) t, fn.params[j]? = some t → Tryz.pinned.checked.prog.wantsStandIn t = false := by
  obtain rfl : f = 5 := Option.some.inj ((show Tryz.prog.funcNamed Tryz.f5.name = some 5 by kernel_rfl).symm.trans hf) |>.symm
  obtain rfl : fn = Tryz.f5 := (Option.some.inj (Tryz.func5.symm.trans hfn)).symm
  refine ⟨by kernel_rfl, fun j t ht => ?_⟩
  rw [Tryz.params5] at ht
  have hm : t = 9 := by
    rcases j with _ | j
    · simpa using ht.symm
    · simp at ht
  subst hm
  exact (show Tryz.prog.wantsStandIn 9 = false by kernel_rfl)
theorem syntaxReaches_holds : Rows.SyntaxReachesCardSaid :=
  Claim7.holds_tied_plain_at .later [] _ _ _ _ reachesSaid (fun _ h => by cases h) (by kernel_rfl) (fun _ h => by cases h) syntaxReaches_row_tie rfl ⟨rfl, rfl⟩ (by kernel_rfl) rfl reachesPlain (by kernel_rfl)
end Go.Proofs.YtenanfkmmkmolaaGreatDoor
