/- PROVED: the law SyntaxJoins of layer 4 answers true for all bytes p and q: where both are patterns with nothing wrong and without capture groups, and short enough, p, a bar and q are a pattern whose tree is an alt of the cats of both; p in brackets that do not capture is a pattern with the same tree, or nested too deep; and the arguments read afterwards as they read before.
   CONDITIONS: the form's own (each string at most 2^47 - 4096 bytes); the variables errors.errorType, runes.forms and runes.sizes start as the program's text lays them (the given card ties that); the card speaks of the pruned copy of the project that the seat holds. -/
import Derived.Test.YtenanfkmmkmolaaGreatDoorJga
import Derived.Laws.Concat
import Derived.Laws.Strings
import Derived.Lib.MinMax
import Derived.Deep.AppendLies
import Derived.Test.YtenanfkmmkmolaaGreatDoorCards
import Derived.Test.YtenanfkmmkmolaaGreatDoorTie
import Derived.SizedLaws
import Derived.ChangeMaps5
/- HELPERS: the walk of the law SyntaxBegins. -/
namespace Go.Proofs.YtenanfkmmkmolaaGreatDoor
open Go.RowKit Go.Mx
set_option linter.unusedVariables false
set_option linter.unusedSimpArgs false
theorem txt_bytes (p : ByteArray) : ∀ x ∈ txt p, 0 ≤ x ∧ x < 256 := by
  intro x hx
  simp only [txt, List.mem_map] at hx
  obtain ⟨b, _, rfl⟩ := hx
  have := b.toNat_lt
  omega
theorem txt_nx (p : ByteArray) (i : Nat) (h : i < p.size) : nx (txt p) i = (p.data[i]'h).toNat := by
  rw [nx_in (by rw [txt_len]; exact h)]
  simp [txt]
theorem txt_extract (p : ByteArray) (k : Nat) (h : k ≤ p.size) : (p.extract 0 k).size = k ∧ ∀ i, i < k → nx (txt (p.extract 0 k)) i = nx (txt p) i := by
  have hs : (p.extract 0 k).size = k := by simp [ByteArray.size_extract]; omega
  refine ⟨hs, fun i hi => ?_⟩
  rw [txt_nx _ _ (by omega), txt_nx _ _ (by omega)]
  simp [ByteArray.data_extract]
theorem txt_append (p q : ByteArray) : (p ++ q).size = p.size + q.size ∧ ∀ i, i < p.size → nx (txt (p ++ q)) i = nx (txt p) i := by
  have hs : (p ++ q).size = p.size + q.size := ByteArray.size_append
  refine ⟨hs, fun i hi => ?_⟩
  rw [txt_nx _ _ (by omega), txt_nx _ _ (by omega)]
  simp [ByteArray.data_append, Array.getElem_append_left, hi]
theorem code_cases (p : ByteArray) : (codeP p = (2, -1) ∧ 65536 < p.size) ∨ (p.size ≤ 65536 ∧ ∃ k : Nat, codeP p = (40, (k : Int)) ∧ k ≤ p.size ∧ patternP (txt p) = .error k) ∨ (p.size ≤ 65536 ∧ (codeP p).1 ≠ 2 ∧ (codeP p).1 ≠ 40 ∧ ∀ k, patternP (txt p) ≠ .error k) := by
  unfold codeP
  cases h : faultP p with
  | none =>
    obtain ⟨hp, x, hx⟩ := faultP_none h
    exact .inr (.inr ⟨hp, by simp, by simp, fun k hk => by rw [hx] at hk; cases hk⟩)
  | some y =>
    obtain ⟨co, at_⟩ := y
    rcases faultP_ok h with ⟨h1, h2, h3⟩ | ⟨hp, k, h1, h2, h3⟩ | ⟨hp, h1, x, h2⟩
    · subst h1 h2
      exact .inl ⟨rfl, h3⟩
    · subst h1 h2
      refine .inr (.inl ⟨hp, k, rfl, ?_, h3⟩)
      have := (dead_stays (txt_bytes p) h3).1
      rw [txt_len] at this
      exact this
    · refine .inr (.inr ⟨hp, ?_, ?_, fun k hk => by rw [h2] at hk; cases hk⟩)
      · show co ≠ 2
        unfold okC at h1
        omega
      · show co ≠ 40
        unfold okC at h1
        omega
/-- a beginning of what has no dead byte -/
theorem begin_code (p : ByteArray) (hp : p.size ≤ 65536) (hd : ∀ k, patternP (txt p) ≠ .error k) (k : Nat) (hk : k ≤ p.size) : (codeP (p.extract 0 k)).1 ≠ 2 ∧ ((codeP (p.extract 0 k)).1 ≠ 40 ∨ codeP (p.extract 0 k) = (40, (k : Int))) := by
  obtain ⟨hs, hx⟩ := txt_extract p k hk
  rcases code_cases (p.extract 0 k) with ⟨_, h2⟩ | ⟨_, j, h1, h2, h3⟩ | ⟨_, h1, h2, _⟩
  · omega
  · rw [h1]
    refine ⟨by simp, .inr ?_⟩
    rw [hs] at h2
    rcases Nat.lt_or_ge j k with hj | hj
    · exact absurd ((dead_stays (txt_bytes _) h3).2 (txt p) (txt_bytes p) (fun i hi => by first | exact hx i (by omega) | exact (hx i (by omega)).symm)) (hd j)
    · rw [show j = k by omega]
  · exact ⟨h1, .inl h2⟩
/-- a dead byte stays dead -/
theorem dead_code (p more : ByteArray) (j : Nat) (hj : j < p.size) (h : patternP (txt p) = .error j) : (65536 < (p.extract 0 (j + 1) ++ more).size ∧ (codeP (p.extract 0 (j + 1) ++ more)).1 = 2) ∨ ((p.extract 0 (j + 1) ++ more).size ≤ 65536 ∧ codeP (p.extract 0 (j + 1) ++ more) = (40, (j : Int))) := by
  obtain ⟨hs, hx⟩ := txt_extract p (j + 1) (by omega)
  obtain ⟨ha, hy⟩ := txt_append (p.extract 0 (j + 1)) more
  have hdead : patternP (txt (p.extract 0 (j + 1) ++ more)) = .error j := (dead_stays (txt_bytes _) h).2 _ (txt_bytes _) (fun i hi => by
    have e := (hy i (by omega)).trans (hx i (by omega))
    first | exact e | exact e.symm)
  rcases code_cases (p.extract 0 (j + 1) ++ more) with ⟨h1, h2⟩ | ⟨hp, k, h1, h2, h3⟩ | ⟨_, _, _, h3⟩
  · exact .inl ⟨h2, by rw [h1]⟩
  · rw [hdead] at h3
    injection h3 with h3
    subst h3
    exact .inr ⟨hp, h1⟩
  · exact absurd hdead (h3 j)
end Go.Proofs.YtenanfkmmkmolaaGreatDoor
/- HELPERS: what is not over at the text's end goes on: runes, escapes, items, classes, atoms. -/
namespace Go.Proofs.YtenanfkmmkmolaaGreatDoor
open Go.RowKit Go.Mx
set_option linter.unusedVariables false
set_option linter.unusedSimpArgs false
/-- u begins with s -/
structure Beg (s u : List Int) : Prop where
  pre : ∀ i, i < s.length → nx u i = nx s i
  bs : ∀ x ∈ s, 0 ≤ x ∧ x < 256
  bu : ∀ x ∈ u, 0 ≤ x ∧ x < 256
/-- in u stands e at place k -/
def At (u : List Int) (k : Nat) (e : List Int) : Prop := ∀ n, n < e.length → nx u (k + n) = e.getD n 0
theorem Beg.al {s u : List Int} (h : Beg s u) {k : Nat} (hk : k < s.length) : Alike s u k := fun j hj => (h.pre j (by omega)).symm
theorem nx_L (s : List Int) : nx s s.length = -1 := nx_end (Nat.le_refl _)
theorem At.left {u : List Int} {k : Nat} {a b : List Int} (h : At u k (a ++ b)) : At u k a := fun n hn => by
  rw [h n (by simp; omega)]
  simp [List.getD, List.getElem?_append_left hn]
theorem At.right {u : List Int} {k : Nat} {a b : List Int} (h : At u k (a ++ b)) : At u (k + a.length) b := fun n hn => by
  rw [Nat.add_assoc, h (a.length + n) (by simp; omega)]
  simp [List.getD, List.getElem?_append_right]
/-- the digits of a number between brackets run to the end -/
theorem hexGo_to {s u : List Int} (hB : Beg s u) (h125 : nx u s.length = 125) : ∀ (f i : Nat) (c : Int), i ≤ s.length → stop (hexGo s f i c) = s.length → ∃ c', hexGo u f i c = .ok (c', s.length) := by
  intro f
  induction f with
  | zero =>
    intro i c hi h
    simp [hexGo, stop] at h
    subst h
    exact ⟨c, by simp [hexGo]⟩
  | succ f ih =>
    intro i c hi h
    rcases Nat.lt_or_ge i s.length with hl | hl
    · unfold hexGo at h ⊢
      rw [hB.pre i hl, hexDigit_lo (hB.pre i hl).symm]
      split
      · rename_i h1
        rw [if_pos h1] at h
        simp [stop] at h
        omega
      · rename_i h1
        rw [if_neg h1] at h
        cases hx : hexDigit s i with
        | error k =>
          have := hexDigit_stop hx
          rw [hx] at h
          simp [stop] at h
          omega
        | ok y =>
          obtain ⟨d, j⟩ := y
          have hj := hexDigit_go hx
          rw [hx] at h
          exact ih j _ (by omega) h
    · have : i = s.length := by omega
      subst this
      unfold hexGo
      rw [if_pos h125]
      exact ⟨c, rfl⟩
def hexEs : List (List Int) := [[49, 125], [125], [52, 49], [49]]
theorem hexNum_fail {s : List Int} {i : Nat} (hi : i ≤ s.length) (h : hexNum s i = .error s.length) : ∃ e ∈ hexEs, ∀ u, Beg s u → At u s.length e → ∃ c, hexNum u i = .ok (c, s.length + e.length) := by
  unfold hexNum at h
  by_cases h1 : nx s i = 123
  · have hl := nx_lt (t := s) (i := i) (by omega)
    rw [if_pos h1] at h
    cases hx : hexDigit s (i + 1) with
    | error k =>
      have hk := hexDigit_stop hx
      rw [hx] at h
      injection h with h
      refine ⟨[49, 125], by simp [hexEs], fun u hB hA => ?_⟩
      have a0 := hA 0 (by simp)
      have a1 := hA 1 (by simp)
      have e0 : i + 1 = s.length := by omega
      rw [Nat.add_zero, ← e0] at a0
      rw [← e0] at a1
      have hd : hexDigit u (i + 1) = .ok (1, i + 2) := by unfold hexDigit hexd; rw [a0]; simp
      unfold hexNum
      rw [hB.pre i hl, if_pos h1, hd]
      simp only
      have hg : hexGo u 5 (i + 2) 1 = .ok (1, i + 2) := by unfold hexGo; rw [if_pos (by simpa using a1)]
      rw [hg]
      simp only
      rw [if_pos (by simpa using a1)]
      exact ⟨1, by rw [← e0]; rfl⟩
    | ok y =>
      obtain ⟨d, j⟩ := y
      have hj := hexDigit_go hx
      have hl1 : i + 1 < s.length := by
        have := hexDigit_bd hx
        omega
      rw [hx] at h
      simp only at h
      refine ⟨[125], by simp [hexEs], fun u hB hA => ?_⟩
      have a0 : nx u s.length = 125 := by simpa using hA 0 (by simp)
      have hst : stop (hexGo s 5 j d) = s.length := by
        cases hy : hexGo s 5 j d with
        | error k => rw [hy] at h; injection h with h
        | ok z =>
          obtain ⟨c, k⟩ := z
          rw [hy] at h
          simp only at h
          split at h
          · cases h
          · injection h with h
      obtain ⟨c', hc'⟩ := hexGo_to hB a0 5 j d (by omega) hst
      unfold hexNum
      rw [hB.pre i hl, if_pos h1, hexDigit_lo (hB.pre (i + 1) hl1).symm, hx]
      simp only
      rw [hc']
      simp only
      rw [if_pos a0]
      exact ⟨c', rfl⟩
  · rw [if_neg h1] at h
    cases hx : hexDigit s i with
    | error k =>
      have hk := hexDigit_stop hx
      rw [hx] at h
      injection h with h
      refine ⟨[52, 49], by simp [hexEs], fun u hB hA => ?_⟩
      have a0 := hA 0 (by simp)
      have a1 := hA 1 (by simp)
      have e0 : i = s.length := by omega
      rw [Nat.add_zero, ← e0] at a0
      rw [← e0] at a1
      have hd : hexDigit u i = .ok (4, i + 1) := by unfold hexDigit hexd; rw [a0]; simp
      have hd2 : hexDigit u (i + 1) = .ok (1, i + 2) := by unfold hexDigit hexd; rw [a1]; simp
      unfold hexNum
      rw [if_neg (by rw [a0]; simp), hd]
      simp only
      rw [hd2]
      exact ⟨_, by rw [← e0]; rfl⟩
    | ok y =>
      obtain ⟨d, j⟩ := y
      have hj := hexDigit_go hx
      have hl1 : i < s.length := by
        have := hexDigit_bd hx
        omega
      rw [hx] at h
      simp only at h
      cases hy : hexDigit s j with
      | error k =>
        have hk := hexDigit_stop hy
        rw [hy] at h
        injection h with h
        refine ⟨[49], by simp [hexEs], fun u hB hA => ?_⟩
        have a0 := hA 0 (by simp)
        have e0 : j = s.length := by omega
        rw [Nat.add_zero, ← e0] at a0
        have hd2 : hexDigit u j = .ok (1, j + 1) := by unfold hexDigit hexd; rw [a0]; simp
        unfold hexNum
        rw [hB.pre i hl1, if_neg h1, hexDigit_lo (hB.pre i hl1).symm, hx]
        simp only
        rw [hd2]
        exact ⟨_, by rw [← e0]; rfl⟩
      | ok z =>
        obtain ⟨b, k⟩ := z
        rw [hy] at h
        cases h
theorem hexNum_end {s u : List Int} {i k : Nat} {c : Int} (hB : Beg s u) (h : hexNum s i = .ok (c, k)) (hk : k ≤ s.length) : hexNum u i = .ok (c, k) := by
  unfold hexNum at h ⊢
  by_cases h1 : nx s i = 123
  · have hl := nx_lt (t := s) (i := i) (by omega)
    rw [if_pos h1] at h
    rw [hB.pre i hl, if_pos h1]
    cases hx : hexDigit s (i + 1) with
    | error k => rw [hx] at h; cases h
    | ok y =>
      obtain ⟨d, j⟩ := y
      have hj := hexDigit_bd hx
      rw [hx] at h
      rw [hexDigit_lo (hB.pre (i + 1) (by omega)).symm, hx]
      simp only at h ⊢
      cases hy : hexGo s 5 j d with
      | error k => rw [hy] at h; cases h
      | ok z =>
        obtain ⟨c', k'⟩ := z
        rw [hy] at h
        simp only at h
        split at h
        · rename_i h2
          have hk' := nx_lt (t := s) (i := k') (by omega)
          rw [hexGo_lo s u 5 j d (by rw [hy]; exact hB.al hk'), hy]
          simp only
          rw [hB.pre k' hk', if_pos h2]
          exact h
        · cases h
  · rw [if_neg h1] at h
    cases hx : hexDigit s i with
    | error k => rw [hx] at h; cases h
    | ok y =>
      obtain ⟨d, j⟩ := y
      have hj := hexDigit_bd hx
      have hj2 := hexDigit_go hx
      rw [hx] at h
      simp only at h
      rw [hB.pre i (by omega), if_neg h1, hexDigit_lo (hB.pre i (by omega)).symm, hx]
      simp only
      cases hy : hexDigit s j with
      | error k => rw [hy] at h; cases h
      | ok z =>
        obtain ⟨b, k'⟩ := z
        have := hexDigit_bd hy
        have := hexDigit_go hy
        rw [hy] at h
        rw [hexDigit_lo (hB.pre j (by omega)).symm, hy]
        exact h
def escEs : List (List Int) := [[110], [49, 125], [125], [52, 49], [49]]
theorem single_fail {s : List Int} {i : Nat} (h92 : nx s i = 92) (h : single s i = .error s.length) : ∃ e ∈ escEs, (∀ u, Beg s u → At u s.length e → ∃ c, single u i = .ok (c, s.length + e.length)) ∧ (i + 1 < s.length ∨ (i + 1 = s.length ∧ e = [110])) := by
  have hl := nx_lt (t := s) (i := i) (by omega)
  rcases Nat.lt_or_ge (i + 1) s.length with h1 | h1
  · by_cases hx : nx s (i + 1) = 120
    · have h' := h
      unfold single at h'
      rw [if_pos h92, if_pos hx] at h'
      obtain ⟨e, he, hf⟩ := hexNum_fail (by omega) h'
      refine ⟨e, by simp [hexEs] at he; rcases he with rfl | rfl | rfl | rfl <;> simp [escEs], fun u hB hA => ?_, .inl h1⟩
      obtain ⟨c, hc⟩ := hf u hB hA
      refine ⟨c, ?_⟩
      unfold single
      rw [hB.pre i hl, if_pos h92, hB.pre (i + 1) h1, if_pos hx]
      exact hc
    · exfalso
      unfold single at h
      rw [if_pos h92, if_neg hx] at h
      repeat' split at h
      all_goals first | (cases h; done) | (injection h with h; omega)
  · have e0 : i + 1 = s.length := by omega
    refine ⟨[110], by simp [escEs], fun u hB hA => ?_, .inr ⟨e0, rfl⟩⟩
    have a0 := hA 0 (by simp)
    rw [Nat.add_zero, ← e0] at a0
    unfold single
    rw [hB.pre i hl, if_pos h92, a0]
    simp
    omega
theorem single_end {s u : List Int} {i k : Nat} {c : Int} (hB : Beg s u) (h : single s i = .ok (c, k)) (hk : k ≤ s.length) : single u i = .ok (c, k) := by
  unfold single at h ⊢
  by_cases h92 : nx s i = 92
  · have hl := nx_lt (t := s) (i := i) (by omega)
    rw [if_pos h92] at h
    have h1 : i + 1 < s.length := by
      by_cases hx : nx s (i + 1) = 120
      · exact nx_lt (by omega)
      · rw [if_neg hx] at h
        repeat' split at h
        all_goals first | (cases h; done) | exact nx_lt (by omega)
    rw [hB.pre i hl, if_pos h92, hB.pre (i + 1) h1]
    by_cases hx : nx s (i + 1) = 120
    · rw [if_pos hx] at h ⊢
      exact hexNum_end hB h hk
    · rw [if_neg hx] at h ⊢
      exact h
  · rw [if_neg h92] at h
    cases h
theorem single2_end {s u : List Int} {i k : Nat} {wr wr2 : Wr} {x : Int × Bool} (hB : Beg s u) (h : single2 s i wr = .ok (x, k, wr2)) (hk : k ≤ s.length) : single2 u i wr = .ok (x, k, wr2) := by
  unfold single2 at h ⊢
  cases hs : single s i with
  | error k => rw [hs] at h; cases h
  | ok y =>
    obtain ⟨c, k'⟩ := y
    rw [hs] at h
    have hk' : k' = k := by
      simp only at h
      split at h <;> (injection h with h; injection h with _ h; injection h with h _)
    subst hk'
    rw [single_end hB hs hk]
    exact h
theorem runeBut_end {s u : List Int} {st : ByteArray} {i k : Nat} {c : Int} (hB : Beg s u) (h : runeBut s st i = .ok (c, k)) (hk : k ≤ s.length) : runeBut u st i = .ok (c, k) := by
  rw [runeBut_lo hB.bs (fun k' h' => by rw [h] at h'; cases h') (fun c' k' h' j hj => by rw [h] at h'; injection h' with h'; injection h' with _ h'; exact (hB.pre j (by omega)).symm), h]
def runEs : List (List Int) := [[128], [128, 128], [160, 128], [144, 128, 128], [128, 128, 128]]
theorem cont_lt {s : List Int} : ∀ (m j : Nat) (a b : Int), cont s m j a b = .error s.length → s.length < j + m := by
  intro m
  induction m with
  | zero => intro j a b h; simp [cont] at h
  | succ m ih =>
    intro j a b h
    unfold cont at h
    split at h
    · have := ih (j + 1) 128 191 h; omega
    · injection h with h; omega
theorem cont_fail {s u : List Int} (hB : Beg s u) : ∀ (m i : Nat) (a b : Int), 0 ≤ a → i ≤ s.length → cont s m i a b = .error s.length → ∀ e : List Int, e.length = i + m - s.length → At u s.length e → (i = s.length → (a ≤ e.getD 0 0 ∧ e.getD 0 0 ≤ b) ∧ ∀ n, 0 < n → n < e.length → e.getD n 0 = 128) → (i < s.length → ∀ n, n < e.length → e.getD n 0 = 128) → cont u m i a b = .ok (i + m) := by
  intro m
  induction m with
  | zero => intro i a b _ _ h; simp [cont] at h
  | succ m ih =>
    intro i a b ha hi h e hel hA h1 h2
    rcases Nat.lt_or_ge i s.length with hl | hl
    · unfold cont at h ⊢
      rw [hB.pre i hl]
      split
      · rename_i hx
        rw [if_pos hx] at h
        have := ih (i + 1) 128 191 (by decide) (by omega) h e (by omega) hA (fun e0 => ⟨by have h0 := h2 hl 0 (by have := cont_lt m (i + 1) 128 191 h; omega); rw [h0]; decide, fun n _ hn => h2 hl n hn⟩) (fun _ => h2 hl)
        rw [this]
        congr 1
        omega
      · rename_i hx
        rw [if_neg hx] at h
        injection h with h
        omega
    · have e0 : i = s.length := by omega
      obtain ⟨q1, q2⟩ := h1 e0
      have a0 := hA 0 (by omega)
      rw [Nat.add_zero, ← e0] at a0
      unfold cont
      rw [a0, if_pos q1]
      -- the rest by the bytes that stand there
      have go : ∀ (m' j : Nat), (∀ n, n < m' → nx u (j + n) = 128) → cont u m' j 128 191 = .ok (j + m') := by
        intro m'
        induction m' with
        | zero => intro j _; rfl
        | succ m' ih' =>
          intro j hj
          unfold cont
          have := hj 0 (by omega)
          rw [Nat.add_zero] at this
          rw [this, if_pos (by decide), ih' (j + 1) (fun n hn => by have := hj (n + 1) (by omega); rw [← this]; congr 1; omega)]
          congr 1
          omega
      rw [go m (i + 1) (fun n hn => by
        have := hA (n + 1) (by omega)
        rw [q2 (n + 1) (by omega) (by omega), ← e0] at this
        rw [← this]
        congr 1
        omega)]
      congr 1
      omega
theorem runeBut_fail {s : List Int} {st : ByteArray} {i : Nat} (hl : i < s.length) (h : runeBut s st i = .error s.length) : ∃ e ∈ runEs, ∀ u, Beg s u → At u s.length e → ∃ c, runeBut u st i = .ok (c, s.length + e.length) := by
  unfold runeBut at h
  by_cases h1 : oneOf st (nx s i) = true
  · rw [if_pos h1] at h
    injection h with h
    omega
  · rw [if_neg h1] at h
    cases hr : rb (nx s i) with
    | none => rw [hr] at h; injection h with h; omega
    | some y =>
      obtain ⟨m, a, b⟩ := y
      rw [hr] at h
      simp only at h
      cases hc : cont s m (i + 1) a b with
      | ok k => rw [hc] at h; cases h
      | error k =>
        rw [hc] at h
        injection h with h
        subst h
        obtain ⟨r1, r2, r3⟩ := rb_some hr
        have key : ∀ e : List Int, e.length = i + 1 + m - s.length → (i + 1 = s.length → (a ≤ e.getD 0 0 ∧ e.getD 0 0 ≤ b) ∧ ∀ n, 0 < n → n < e.length → e.getD n 0 = 128) → (i + 1 < s.length → ∀ n, n < e.length → e.getD n 0 = 128) → ∀ u, Beg s u → At u s.length e → ∃ c, runeBut u st i = .ok (c, s.length + e.length) := by
          intro e hel q1 q2 u hB hA
          have hm0 := cont_lt m (i + 1) a b hc
          have := cont_fail hB m (i + 1) a b r2 (by omega) hc e hel hA q1 q2
          unfold runeBut
          rw [hB.pre i hl, if_neg h1, hr]
          simp only
          rw [this]
          exact ⟨_, by simp only; congr 2; omega⟩
        have hlt := cont_lt m (i + 1) a b hc
        rcases Nat.lt_or_ge (i + 1) s.length with h2 | h2
        · -- one or two bytes are to come
          rcases (show i + 1 + m - s.length = 1 ∨ i + 1 + m - s.length = 2 by omega) with h3 | h3
          · exact ⟨[128], by simp [runEs], key [128] (by simp; omega) (fun e0 => by omega) (fun _ n hn => by simp at hn; subst hn; rfl)⟩
          · refine ⟨[128, 128], by simp [runEs], key [128, 128] (by simp; omega) (fun e0 => by omega) (fun _ n hn => ?_)⟩
            simp at hn
            rcases (show n = 0 ∨ n = 1 by omega) with rfl | rfl <;> rfl
        · have e0 : i + 1 = s.length := by omega
          have two : ∀ (x : Int) (e : List Int), e = [x] ∨ e = [x, 128] ∨ e = [x, 128, 128] → ∀ n, 0 < n → n < e.length → e.getD n 0 = 128 := by
            intro x e he n hn hn2
            rcases he with rfl | rfl | rfl
            · simp at hn2; omega
            · simp at hn2
              obtain rfl : n = 1 := by omega
              rfl
            · simp at hn2
              rcases (show n = 1 ∨ n = 2 by omega) with rfl | rfl <;> rfl
          unfold rb at hr
          repeat' split at hr
          all_goals first | (cases hr; done) | (injection hr with hr; injection hr with hr1 hr2; injection hr2 with hr2 hr3; subst hr1 hr2 hr3)
          · simp [cont] at hc
          · exact ⟨[128], by simp [runEs], key [128] (by simp; omega) (fun _ => ⟨by decide, two 128 _ (.inl rfl)⟩) (fun h => by omega)⟩
          · exact ⟨[160, 128], by simp [runEs], key [160, 128] (by simp; omega) (fun _ => ⟨by decide, two 160 _ (.inr (.inl rfl))⟩) (fun h => by omega)⟩
          · exact ⟨[128, 128], by simp [runEs], key [128, 128] (by simp; omega) (fun _ => ⟨by decide, two 128 _ (.inr (.inl rfl))⟩) (fun h => by omega)⟩
          · exact ⟨[128, 128], by simp [runEs], key [128, 128] (by simp; omega) (fun _ => ⟨by decide, two 128 _ (.inr (.inl rfl))⟩) (fun h => by omega)⟩
          · exact ⟨[144, 128, 128], by simp [runEs], key [144, 128, 128] (by simp; omega) (fun _ => ⟨by decide, two 144 _ (.inr (.inr rfl))⟩) (fun h => by omega)⟩
          · exact ⟨[128, 128, 128], by simp [runEs], key [128, 128, 128] (by simp; omega) (fun _ => ⟨by decide, two 128 _ (.inr (.inr rfl))⟩) (fun h => by omega)⟩
          · exact ⟨[128, 128, 128], by simp [runEs], key [128, 128, 128] (by simp; omega) (fun _ => ⟨by decide, two 128 _ (.inr (.inr rfl))⟩) (fun h => by omega)⟩
end Go.Proofs.YtenanfkmmkmolaaGreatDoor
/- HELPERS: what is not over at the text's end goes on: items, classes, atoms. -/
namespace Go.Proofs.YtenanfkmmkmolaaGreatDoor
open Go.RowKit Go.Mx
set_option linter.unusedVariables false
set_option linter.unusedSimpArgs false
/-- what ends an escape or a rune -/
def inEs : List (List Int) := [[110], [49, 125], [125], [52, 49], [49], [128], [128, 128], [160, 128], [144, 128, 128], [128, 128, 128]]
theorem single2_fail {s : List Int} {i : Nat} {wr : Wr} (h92 : nx s i = 92) (h : single2 s i wr = .error s.length) : ∃ e ∈ escEs, (∀ u, Beg s u → At u s.length e → ∃ x wr2, single2 u i wr = .ok (x, s.length + e.length, wr2)) ∧ (i + 1 < s.length ∨ (i + 1 = s.length ∧ e = [110])) := by
  unfold single2 at h
  cases hs : single s i with
  | ok y =>
    obtain ⟨c, k⟩ := y
    rw [hs] at h
    simp only at h
    split at h <;> cases h
  | error k =>
    rw [hs] at h
    injection h with h
    subst h
    obtain ⟨e, he, hf, hd⟩ := single_fail h92 hs
    refine ⟨e, he, fun u hB hA => ?_, hd⟩
    obtain ⟨c, hc⟩ := hf u hB hA
    unfold single2
    rw [hc]
    simp only
    split
    · exact ⟨_, _, rfl⟩
    · exact ⟨_, _, rfl⟩
theorem plain_a : oneOf notOne 97 = false := by decide
theorem one_fail {s : List Int} {i : Nat} {wr : Wr} (hi : i ≤ s.length) (h : one s i wr = .error s.length) : ∃ e, ((e ∈ inEs ∧ i < s.length) ∨ (e = [97] ∧ i = s.length)) ∧ 0 < e.length ∧ (∀ u, Beg s u → At u s.length e → ∃ x wr2, one u i wr = .ok (x, s.length + e.length, wr2)) ∧ (nx s i = 92 → (i + 1 < s.length ∨ (i + 1 = s.length ∧ e = [110]))) := by
  rcases Nat.lt_or_ge i s.length with hl | hl
  · unfold one at h
    by_cases h92 : nx s i = 92
    · rw [if_pos h92] at h
      obtain ⟨e, he, hf, hd⟩ := single2_fail h92 h
      refine ⟨e, .inl ⟨?_, hl⟩, ?_, fun u hB hA => ?_, fun _ => hd⟩
      · simp [escEs] at he
        rcases he with rfl | rfl | rfl | rfl | rfl <;> simp [inEs]
      · simp [escEs] at he
        rcases he with rfl | rfl | rfl | rfl | rfl <;> simp
      · unfold one
        rw [hB.pre i hl, if_pos h92]
        exact hf u hB hA
    · rw [if_neg h92] at h
      cases hr : runeBut s notOne i with
      | ok y => obtain ⟨c, k⟩ := y; rw [hr] at h; cases h
      | error k =>
        rw [hr] at h
        injection h with h
        subst h
        obtain ⟨e, he, hf⟩ := runeBut_fail hl hr
        refine ⟨e, .inl ⟨?_, hl⟩, ?_, fun u hB hA => ?_, fun h => absurd h h92⟩
        · simp [runEs] at he
          rcases he with rfl | rfl | rfl | rfl | rfl <;> simp [inEs]
        · simp [runEs] at he
          rcases he with rfl | rfl | rfl | rfl | rfl <;> simp
        · obtain ⟨c, hc⟩ := hf u hB hA
          unfold one
          rw [hB.pre i hl, if_neg h92, hc]
          exact ⟨_, _, rfl⟩
  · have e0 : i = s.length := by omega
    refine ⟨[97], .inr ⟨rfl, e0⟩, by simp, fun u hB hA => ?_, fun h => ?_⟩
    · have a0 : nx u i = 97 := by rw [e0]; simpa using hA 0 (by simp)
      unfold one runeBut
      rw [a0, if_neg (by decide), plain_a]
      simp [rb, cont, e0]
    · rw [e0, nx_L] at h
      omega
theorem one_end {s u : List Int} {i k : Nat} {wr wr2 : Wr} {x : Int × Bool} (hB : Beg s u) (hl : i < s.length) (h : one s i wr = .ok (x, k, wr2)) (hk : k ≤ s.length) : one u i wr = .ok (x, k, wr2) := by
  unfold one at h ⊢
  rw [hB.pre i hl]
  by_cases h92 : nx s i = 92
  · rw [if_pos h92] at h ⊢
    exact single2_end hB h hk
  · rw [if_neg h92] at h ⊢
    cases hr : runeBut s notOne i with
    | error k => rw [hr] at h; cases h
    | ok y =>
      obtain ⟨c, k'⟩ := y
      rw [hr] at h
      have hk' : k' = k := by injection h with h; injection h with _ h; injection h with h _
      subst hk'
      rw [runeBut_end hB hr hk]
      exact h
theorem getD_beg {s u : List Int} (hB : Beg s u) {j : Nat} (hj : j < s.length) : u.getD j 0 = s.getD j 0 := getD_al hB.bs hB.bu (hB.pre j hj).symm
theorem getD_at {u : List Int} {j : Nat} {x : Int} (h : nx u j = x) (hx : 0 ≤ x) : u.getD j 0 = x := by
  have := nx_lt (t := u) (i := j) (by omega)
  rw [getD_nx this, h]
theorem getD_off (s : List Int) {j : Nat} (hj : s.length ≤ j) : s.getD j 0 = 0 := by simp [List.getD, List.getElem?_eq_none hj]
theorem itemEnd_ok' (fold right : Bool) (at_ : Nat) (lo hi : Int) (k : Nat) (wr : Wr) : ∃ L wr2, itemEnd fold right at_ lo hi k wr = .ok (L, k, wr2) := by
  unfold itemEnd
  split
  · split <;> exact ⟨_, _, rfl⟩
  · exact ⟨_, _, rfl⟩
theorem setAt_beg {s u : List Int} (hB : Beg s u) {i : Nat} (hl : i + 1 < s.length) : setAt u i = setAt s i := by
  unfold setAt
  rw [hB.pre i (by omega), getD_beg hB hl]
/-- what comes behind e is a bracket -/
theorem item_fail {s : List Int} {fold : Bool} {i : Nat} {wr : Wr} (hi : i ≤ s.length) (h : item s fold i wr = .error s.length) : ∃ e, (e ∈ inEs ∨ e = [97]) ∧ ∀ u, Beg s u → At u s.length (e ++ [93]) → ∃ L wr2, item u fold i wr = .ok (L, s.length + e.length, wr2) := by
  unfold item at h
  cases hs : setAt s i with
  | some L => rw [hs] at h; cases h
  | none =>
    rw [hs] at h
    simp only at h
    cases hz : one s i wr with
    | error k =>
      rw [hz] at h
      injection h with h
      subst h
      obtain ⟨e, he, hel, hf, hd⟩ := one_fail hi hz
      refine ⟨e, he.imp And.left And.left, fun u hB hA => ?_⟩
      obtain ⟨x, wr2, hx⟩ := hf u hB hA.left
      have h93 : nx u (s.length + e.length) = 93 := by simpa using hA.right 0 (by simp)
      have hsu : setAt u i = none := by
        rcases Nat.lt_or_ge i s.length with hl | hl
        · by_cases h92 : nx s i = 92
          · rcases hd h92 with h1 | ⟨h1, rfl⟩
            · rw [setAt_beg hB h1]; exact hs
            · have a0 : nx u (i + 1) = 110 := by rw [h1]; simpa using hA.left 0 (by simp)
              unfold setAt
              rw [hB.pre i hl, if_pos h92, getD_at a0 (by decide)]
              decide
          · unfold setAt
            rw [hB.pre i hl, if_neg h92]
        · have e0 : i = s.length := by omega
          rcases he with he | ⟨rfl, _⟩
          · exact absurd he.2 (by omega)
          · have a0 : nx u i = 97 := by rw [e0]; simpa using hA.left 0 (by simp)
            unfold setAt
            rw [a0, if_neg (by decide)]
      unfold item
      rw [hsu]
      simp only
      rw [hx]
      obtain ⟨lo, r1⟩ := x
      simp only
      rw [if_neg (by rw [h93]; decide)]
      exact itemEnd_ok' _ _ _ _ _ _ _
    | ok y =>
      obtain ⟨⟨lo, r1⟩, j, wr1⟩ := y
      rw [hz] at h
      simp only at h
      by_cases h45 : nx s j = 45
      · have hj := nx_lt (t := s) (i := j) (by omega)
        rw [if_pos h45] at h
        cases hz2 : one s (j + 1) wr1 with
        | ok y2 =>
          obtain ⟨⟨hi', r2⟩, k, wr2⟩ := y2
          rw [hz2] at h
          obtain ⟨L, wr3, hL⟩ := itemEnd_ok' fold (r1 && r2) i lo hi' k wr2
          simp only at h
          rw [hL] at h
          cases h
        | error k =>
          rw [hz2] at h
          injection h with h
          subst h
          obtain ⟨e, he, hel, hf, hd⟩ := one_fail (by omega) hz2
          refine ⟨e, he.imp And.left And.left, fun u hB hA => ?_⟩
          obtain ⟨x, wr2, hx⟩ := hf u hB hA.left
          have h93 : nx u (s.length + e.length) = 93 := by simpa using hA.right 0 (by simp)
          have hij : i < j := by
            have := one_bd hz
            omega
          have hsu : setAt u i = none := by
            by_cases h92 : nx s i = 92
            · rw [setAt_beg hB (by omega)]; exact hs
            · unfold setAt
              rw [hB.pre i (by omega), if_neg h92]
          unfold item
          rw [hsu]
          simp only
          rw [one_lo hB.bs (by rw [hz]; exact hB.al hj), hz]
          simp only
          rw [hB.pre j hj, if_pos h45, hx]
          obtain ⟨hi', r2⟩ := x
          simp only
          exact itemEnd_ok' _ _ _ _ _ _ _
      · rw [if_neg h45] at h
        obtain ⟨L, wr3, hL⟩ := itemEnd_ok' fold r1 i lo lo j wr1
        rw [hL] at h
        cases h
theorem item_end {s u : List Int} {fold : Bool} {i k : Nat} {wr wr2 : Wr} {L : Rng} (hB : Beg s u) (hl : i < s.length) (h : item s fold i wr = .ok (L, k, wr2)) (hk : k = s.length) (h93 : nx u s.length = 93) : item u fold i wr = .ok (L, k, wr2) := by
  unfold item at h ⊢
  have hsu : setAt u i = setAt s i := by
    rcases Nat.lt_or_ge (i + 1) s.length with h1 | h1
    · exact setAt_beg hB h1
    · have e0 : i + 1 = s.length := by omega
      unfold setAt
      rw [hB.pre i hl]
      split
      · rw [getD_at (show nx u (i + 1) = 93 by rw [e0]; exact h93) (by decide), getD_off s (by omega)]
        decide
      · rfl
  rw [hsu]
  cases hs : setAt s i with
  | some L' => rw [hs] at h; exact h
  | none =>
    rw [hs] at h
    simp only at h ⊢
    cases hz : one s i wr with
    | error k => rw [hz] at h; cases h
    | ok y =>
      obtain ⟨⟨lo, r1⟩, j, wr1⟩ := y
      rw [hz] at h
      simp only at h
      have hj : j ≤ s.length := by
        have := one_le (t := s) (i := i) (wr := wr) (by omega)
        rw [hz] at this
        exact this
      rw [one_end hB hl hz hj]
      simp only
      by_cases h45 : nx s j = 45
      · have hjl := nx_lt (t := s) (i := j) (by omega)
        rw [if_pos h45] at h
        rw [hB.pre j hjl, if_pos h45]
        cases hz2 : one s (j + 1) wr1 with
        | error k => rw [hz2] at h; cases h
        | ok y2 =>
          obtain ⟨⟨hi', r2⟩, k', wr3⟩ := y2
          rw [hz2] at h
          simp only at h
          have hk' : k' ≤ s.length := by
            have := one_le (t := s) (i := j + 1) (wr := wr1) (by omega)
            rw [hz2] at this
            exact this
          have hl2 : j + 1 < s.length := by
            have := one_bd hz2
            omega
          rw [one_end hB hl2 hz2 hk']
          exact h
      · rw [if_neg h45] at h
        have hjk : j = k := by
          have := congrArg stop3 h
          rw [itemEnd_stop] at this
          exact this
        rw [if_neg (by rw [hjk, hk, h93]; decide)]
        exact h
/-- the items of a class run to the end -/
theorem items_fail {s : List Int} {fold : Bool} : ∀ (f : Nat) (L : Rng) (k : Nat) (wr : Wr), k ≤ s.length → s.length + 1 ≤ k + f → items s fold f L k wr = .error s.length → ∃ e, (e ∈ inEs ∨ e = [97] ∨ e = []) ∧ (k = s.length → e = []) ∧ ∀ u f', Beg s u → At u s.length (e ++ [93]) → s.length + e.length + 2 ≤ k + f' → ∃ L' wr2, items u fold f' L k wr = .ok (L', s.length + e.length + 1, wr2) := by
  intro f
  induction f with
  | zero => intro L k wr h1 h2; omega
  | succ f ih =>
    intro L k wr h1 h2 h
    rcases Nat.lt_or_ge k s.length with hl | hl
    · unfold items at h
      by_cases h93 : nx s k = 93
      · rw [if_pos h93] at h
        cases h
      · rw [if_neg h93] at h
        cases hz : item s fold k wr with
        | error j =>
          rw [hz] at h
          injection h with h
          subst h
          obtain ⟨e, he, hf⟩ := item_fail h1 hz
          refine ⟨e, he.imp_right .inl, fun e0 => by omega, fun u f' hB hA hf' => ?_⟩
          obtain ⟨L2, wr2, hL⟩ := hf u hB hA
          have h93u : nx u (s.length + e.length) = 93 := by simpa using hA.right 0 (by simp)
          obtain ⟨g, rfl⟩ : ∃ g, f' = g + 2 := ⟨f' - 2, by omega⟩
          unfold items
          rw [hB.pre k hl, if_neg h93, hL]
          simp only
          unfold items
          rw [if_pos h93u]
          exact ⟨_, _, rfl⟩
        | ok y =>
          obtain ⟨L2, j, wr2⟩ := y
          rw [hz] at h
          simp only at h
          have hj := item_le (fold := fold) (wr := wr) h1
          rw [hz] at hj
          have hj' : j ≤ s.length := hj
          have hkj := (item_bd hz).1
          obtain ⟨e, he, hend, hf⟩ := ih (L ++ L2) j wr2 hj' (by omega) h
          refine ⟨e, he, fun e0 => by omega, fun u f' hB hA hf' => ?_⟩
          obtain ⟨g, rfl⟩ : ∃ g, f' = g + 1 := ⟨f' - 1, by omega⟩
          have hit : item u fold k wr = .ok (L2, j, wr2) := by
            rcases Nat.lt_or_ge j s.length with hjl | hjl
            · rw [item_lo hB.bs hB.bu (by rw [hz]; exact hB.al hjl), hz]
            · have e0 : j = s.length := by omega
              have e1 := hend e0
              subst e1
              exact item_end hB hl hz e0 (by simpa using hA 0 (by simp))
          obtain ⟨L', wr3, hL'⟩ := hf u g hB hA (by omega)
          unfold items
          rw [hB.pre k hl, if_neg h93, hit]
          exact ⟨L', wr3, hL'⟩
    · have e0 : k = s.length := by omega
      subst e0
      refine ⟨[], .inr (.inr rfl), fun _ => rfl, fun u f' hB hA hf' => ?_⟩
      have h93u : nx u s.length = 93 := by simpa using hA 0 (by simp)
      obtain ⟨g, rfl⟩ : ∃ g, f' = g + 1 := ⟨f' - 1, by omega⟩
      unfold items
      rw [if_pos h93u]
      exact ⟨_, _, rfl⟩
theorem at_len {u : List Int} {k : Nat} {e : List Int} (h : At u k e) (he : 0 < e.length) (hb : ∀ x ∈ e, 0 ≤ x) : k + e.length ≤ u.length := by
  have := h (e.length - 1) (by omega)
  have h2 : 0 ≤ e.getD (e.length - 1) 0 := by
    rw [show e.getD (e.length - 1) 0 = e[e.length - 1]'(by omega) by simp [List.getD, show e.length - 1 < e.length by omega]]
    exact hb _ (List.getElem_mem _)
  have := nx_lt (t := u) (i := k + (e.length - 1)) (by omega)
  omega
theorem inEs_pos {e : List Int} (h : e ∈ inEs ∨ e = [97] ∨ e = []) : ∀ x ∈ e ++ [93], 0 ≤ x := by
  intro x hx
  simp [inEs] at h
  rcases h with (rfl | rfl | rfl | rfl | rfl | rfl | rfl | rfl | rfl | rfl) | rfl | rfl <;> simp at hx <;> omega
theorem classP_fail {s : List Int} {fold : Bool} {i : Nat} {wr : Wr} (h91 : nx s i = 91) (h : classP s fold i wr = .error s.length) : ∃ e, (e ∈ inEs ∨ e = [97] ∨ e = []) ∧ ∀ u, Beg s u → At u s.length (e ++ [93]) → ∃ L wr2, classP u fold i wr = .ok (L, s.length + e.length + 1, wr2) := by
  have hl := nx_lt (t := s) (i := i) (by omega)
  unfold classP at h
  rw [if_pos h91] at h
  have hle : (if nx s (i + 1) = 94 then i + 2 else i + 1) ≤ s.length := by
    split
    · have := nx_lt (t := s) (i := i + 1) (by omega); omega
    · omega
  have hpu : ∀ u e, (e = [97] ∨ i + 1 < s.length) → Beg s u → At u s.length (e ++ [93]) → (if nx u (i + 1) = 94 then i + 2 else i + 1) = (if nx s (i + 1) = 94 then i + 2 else i + 1) ∧ (decide (nx u (i + 1) = 94)) = (decide (nx s (i + 1) = 94)) := by
    intro u e hd hB hA
    rcases Nat.lt_or_ge (i + 1) s.length with h1 | h1
    · rw [hB.pre (i + 1) h1]
      exact ⟨rfl, rfl⟩
    · have e0 : i + 1 = s.length := by omega
      rcases hd with rfl | hd
      · have a0 : nx u (i + 1) = 97 := by rw [e0]; simpa using hA 0 (by simp)
        have b0 : nx s (i + 1) = -1 := by rw [e0]; exact nx_L s
        rw [a0, b0]
        exact ⟨rfl, rfl⟩
      · omega
  cases hz : item s fold (if nx s (i + 1) = 94 then i + 2 else i + 1) wr with
  | error k =>
    rw [hz] at h
    injection h with h
    subst h
    obtain ⟨e, he, hf⟩ := item_fail hle hz
    -- where the first item would begin at the end, it is a letter
    by_cases hp : (if nx s (i + 1) = 94 then i + 2 else i + 1) = s.length
    · refine ⟨[97], .inr (.inl rfl), fun u hB hA => ?_⟩
      obtain ⟨q1, q2⟩ := hpu u [97] (.inl rfl) hB hA
      have a0 : nx u s.length = 97 := by simpa using hA 0 (by simp)
      have a1 : nx u (s.length + 1) = 93 := by simpa using hA 1 (by simp)
      have hit : ∃ L wr2, item u fold s.length wr = .ok (L, s.length + 1, wr2) := by
        have hone : one u s.length wr = .ok ((97, true), s.length + 1, wr) ∨ ∃ x, one u s.length wr = .ok (x, s.length + 1, wr) := by
          right
          unfold one runeBut
          rw [a0, if_neg (by decide), plain_a]
          simp [rb, cont]
        obtain ⟨x, hx⟩ : ∃ x, one u s.length wr = .ok (x, s.length + 1, wr) := by
          rcases hone with h | h
          · exact ⟨_, h⟩
          · exact h
        have hsu : setAt u s.length = none := by unfold setAt; rw [a0, if_neg (by decide)]
        unfold item
        rw [hsu]
        simp only
        rw [hx]
        obtain ⟨lo, r1⟩ := x
        simp only
        rw [if_neg (by rw [a1]; decide)]
        exact itemEnd_ok' _ _ _ _ _ _ _
      obtain ⟨L2, wr2, hL⟩ := hit
      unfold classP
      rw [hB.pre i hl, if_pos h91, q1, hp, hL]
      simp only
      have hu := at_len hA (by simp) (inEs_pos (.inr (.inl rfl)))
      have : items u fold (u.length + 1) L2 (s.length + 1) wr2 = .ok (L2, s.length + 2, wr2) := by unfold items; rw [if_pos a1]
      rw [this]
      exact ⟨_, _, rfl⟩
    · refine ⟨e, he.imp_right .inl, fun u hB hA => ?_⟩
      have hi1 : i + 1 < s.length := by
        rcases Nat.lt_or_ge (i + 1) s.length with h1 | h1
        · exact h1
        · exfalso
          apply hp
          have e0 : i + 1 = s.length := by omega
          rw [if_neg (by rw [e0, nx_L]; decide)]
          exact e0
      obtain ⟨q1, q2⟩ := hpu u e (.inr hi1) hB hA
      obtain ⟨L2, wr2, hL⟩ := hf u hB hA
      have h93u : nx u (s.length + e.length) = 93 := by simpa using hA.right 0 (by simp)
      unfold classP
      rw [hB.pre i hl, if_pos h91, q1, hL]
      simp only
      have : items u fold (u.length + 1) L2 (s.length + e.length) wr2 = .ok (L2, s.length + e.length + 1, wr2) := by unfold items; rw [if_pos h93u]
      rw [this]
      exact ⟨_, _, rfl⟩
  | ok y =>
    obtain ⟨L1, k1, wr1⟩ := y
    rw [hz] at h
    simp only at h
    have hk1 : k1 ≤ s.length := by
      have := item_le (fold := fold) (wr := wr) hle
      rw [hz] at this
      exact this
    have hpk := (item_bd hz).1
    cases hz2 : items s fold (s.length + 1) L1 k1 wr1 with
    | ok y2 => obtain ⟨L, k, wr2⟩ := y2; rw [hz2] at h; cases h
    | error k =>
      rw [hz2] at h
      injection h with h
      subst h
      obtain ⟨e, he, hend, hf⟩ := items_fail (s.length + 1) L1 k1 wr1 hk1 (by omega) hz2
      refine ⟨e, he, fun u hB hA => ?_⟩
      have hi1 : i + 1 < s.length := by
        have h0 : i + 1 ≤ (if nx s (i + 1) = 94 then i + 2 else i + 1) := by split <;> omega
        omega
      obtain ⟨q1, q2⟩ := hpu u e (.inr hi1) hB hA
      have hit : item u fold (if nx s (i + 1) = 94 then i + 2 else i + 1) wr = .ok (L1, k1, wr1) := by
        rcases Nat.lt_or_ge k1 s.length with hjl | hjl
        · rw [item_lo hB.bs hB.bu (by rw [hz]; exact hB.al hjl), hz]
        · have e0 : k1 = s.length := by omega
          have e1 := hend e0
          subst e1
          exact item_end hB (by omega) hz e0 (by simpa using hA 0 (by simp))
      have hu := at_len hA (by simp) (inEs_pos he)
      simp at hu
      obtain ⟨L', wr3, hL'⟩ := hf u (u.length + 1) hB hA (by omega)
      unfold classP
      rw [hB.pre i hl, if_pos h91, q1, hit]
      simp only
      rw [hL']
      exact ⟨_, _, rfl⟩
theorem items_end {s u : List Int} {fold : Bool} (hB : Beg s u) : ∀ (f f' : Nat) (L : Rng) (k : Nat) (wr : Wr) (L' : Rng) (e : Nat) (wr2 : Wr), k ≤ s.length → items s fold f L k wr = .ok (L', e, wr2) → s.length + 1 ≤ k + f → s.length + 1 ≤ k + f' → items u fold f' L k wr = .ok (L', e, wr2) := by
  intro f
  induction f with
  | zero => intro f' L k wr L' e wr2 h1 h h2; omega
  | succ f ih =>
    intro f' L k wr L' e wr2 h1 h h2 h3
    obtain ⟨g, rfl⟩ : ∃ g, f' = g + 1 := ⟨f' - 1, by omega⟩
    unfold items at h ⊢
    rcases Nat.lt_or_ge k s.length with hl | hl
    · rw [hB.pre k hl]
      by_cases h93 : nx s k = 93
      · rw [if_pos h93] at h ⊢
        exact h
      · rw [if_neg h93] at h ⊢
        cases hz : item s fold k wr with
        | error j => rw [hz] at h; cases h
        | ok y =>
          obtain ⟨L2, j, wr3⟩ := y
          rw [hz] at h
          simp only at h
          have hj : j ≤ s.length := by
            have := item_le (fold := fold) (wr := wr) h1
            rw [hz] at this
            exact this
          have hkj := (item_bd hz).1
          have hjl : j < s.length := by
            rcases Nat.lt_or_ge j s.length with h' | h'
            · exact h'
            · exfalso
              have e0 : j = s.length := by omega
              subst e0
              obtain ⟨f2, rfl⟩ : ∃ f2, f = f2 + 1 := ⟨f - 1, by omega⟩
              unfold items at h
              rw [if_neg (by rw [nx_L]; decide)] at h
              have : ∃ q, item s fold s.length wr3 = .error q := by
                unfold item
                have hsn : setAt s s.length = none := by unfold setAt; rw [nx_L, if_neg (by decide)]
                rw [hsn]
                have ho : one s s.length wr3 = .error s.length := by
                  unfold one runeBut
                  rw [nx_L, if_neg (by decide), if_neg (by decide)]
                  rfl
                rw [ho]
                exact ⟨_, rfl⟩
              obtain ⟨q, hq⟩ := this
              rw [hq] at h
              cases h
          rw [item_lo hB.bs hB.bu (by rw [hz]; exact hB.al hjl), hz]
          exact ih g _ _ _ _ _ _ hj h (by omega) (by omega)
    · exfalso
      have e0 : k = s.length := by omega
      subst e0
      rw [if_neg (by rw [nx_L]; decide)] at h
      have : ∃ q, item s fold s.length wr = .error q := by
        unfold item
        have hsn : setAt s s.length = none := by unfold setAt; rw [nx_L, if_neg (by decide)]
        rw [hsn]
        have ho : one s s.length wr = .error s.length := by
          unfold one runeBut
          rw [nx_L, if_neg (by decide), if_neg (by decide)]
          rfl
        rw [ho]
        exact ⟨_, rfl⟩
      obtain ⟨q, hq⟩ := this
      rw [hq] at h
      cases h
end Go.Proofs.YtenanfkmmkmolaaGreatDoor
/- HELPERS: what is not over at the text's end goes on: atoms, counts, groups. -/
namespace Go.Proofs.YtenanfkmmkmolaaGreatDoor
open Go.RowKit Go.Mx
set_option linter.unusedVariables false
set_option linter.unusedSimpArgs false
theorem Beg.len {s u : List Int} (h : Beg s u) : s.length ≤ u.length := len_of h.bs (Nat.le_refl _) fun j hj => (h.pre j hj).symm
theorem items_at_end (s : List Int) (fold : Bool) (f : Nat) (L : Rng) (wr : Wr) : items s fold (f + 1) L s.length wr = .error s.length := by
  unfold items
  rw [if_neg (by rw [nx_L]; decide)]
  unfold item
  have hsn : setAt s s.length = none := by unfold setAt; rw [nx_L, if_neg (by decide)]
  have ho : one s s.length wr = .error s.length := by
    unfold one runeBut
    rw [nx_L, if_neg (by decide), if_neg (by decide)]
    rfl
  rw [hsn]
  simp only
  rw [ho]
theorem classP_end {s u : List Int} {fold : Bool} {i k : Nat} {wr wr2 : Wr} {L : Rng} (hB : Beg s u) (h91 : nx s i = 91) (h : classP s fold i wr = .ok (L, k, wr2)) : classP u fold i wr = .ok (L, k, wr2) := by
  have hl := nx_lt (t := s) (i := i) (by omega)
  unfold classP at h ⊢
  rw [if_pos h91] at h
  rw [hB.pre i hl, if_pos h91]
  have hle : (if nx s (i + 1) = 94 then i + 2 else i + 1) ≤ s.length := by
    split
    · have := nx_lt (t := s) (i := i + 1) (by omega); omega
    · omega
  have h0 : i + 1 ≤ (if nx s (i + 1) = 94 then i + 2 else i + 1) := by split <;> omega
  cases hz : item s fold (if nx s (i + 1) = 94 then i + 2 else i + 1) wr with
  | error k => rw [hz] at h; cases h
  | ok y =>
    obtain ⟨L1, k1, wr1⟩ := y
    rw [hz] at h
    simp only at h
    have hk1 : k1 ≤ s.length := by
      have := item_le (fold := fold) (wr := wr) hle
      rw [hz] at this
      exact this
    have hpk := (item_bd hz).1
    have hkl : k1 < s.length := by
      rcases Nat.lt_or_ge k1 s.length with h' | h'
      · exact h'
      · have e0 : k1 = s.length := by omega
        subst e0
        rw [items_at_end] at h
        cases h
    rw [hB.pre (i + 1) (by omega), item_lo hB.bs hB.bu (by rw [hz]; exact hB.al hkl), hz]
    simp only
    cases hz2 : items s fold (s.length + 1) L1 k1 wr1 with
    | error k => rw [hz2] at h; cases h
    | ok y2 =>
      obtain ⟨L2, k2, wr3⟩ := y2
      rw [hz2] at h
      have hu := hB.len
      rw [items_end hB (s.length + 1) (u.length + 1) L1 k1 wr1 L2 k2 wr3 hk1 hz2 (by omega) (by omega)]
      exact h
/-- what ends an atom -/
def atEs (e : List Int) : Prop := e ∈ inEs ∨ ∃ x, (x ∈ inEs ∨ x = [97] ∨ x = []) ∧ e = x ++ [93]
theorem atom_fail {s : List Int} {fold all : Bool} {i : Nat} {wr : Wr} (hl : i < s.length) (h : atomP s fold all i wr = .error s.length) : ∃ e, atEs e ∧ ∀ u, Beg s u → At u s.length e → ∃ x wr2, atomP u fold all i wr = .ok (x, s.length + e.length, wr2) := by
  unfold atomP at h
  by_cases h1 : nx s i = 46
  · rw [if_pos h1] at h; cases h
  · rw [if_neg h1] at h
    by_cases h2 : nx s i = 94
    · rw [if_pos h2] at h; cases h
    · rw [if_neg h2] at h
      by_cases h3 : nx s i = 36
      · rw [if_pos h3] at h; cases h
      · rw [if_neg h3] at h
        by_cases h4 : nx s i = 91
        · rw [if_pos h4] at h
          cases hz : classP s fold i wr with
          | ok y => obtain ⟨L, k, wr2⟩ := y; rw [hz] at h; cases h
          | error k =>
            rw [hz] at h
            injection h with h
            subst h
            obtain ⟨e, he, hf⟩ := classP_fail h4 hz
            refine ⟨e ++ [93], .inr ⟨e, he, rfl⟩, fun u hB hA => ?_⟩
            obtain ⟨L, wr2, hL⟩ := hf u hB hA
            unfold atomP
            rw [hB.pre i hl, if_neg h1, if_neg h2, if_neg h3, if_pos h4, hL]
            exact ⟨_, _, by simp only [List.length_append, List.length_singleton]; rw [Nat.add_assoc]⟩
        · rw [if_neg h4] at h
          by_cases h5 : nx s i = 92
          · rw [if_pos h5] at h
            by_cases ha : assertL (s.getD (i + 1) 0) = 0
            · rw [if_pos ha] at h
              cases hs : setL (s.getD (i + 1) 0) with
              | some L => rw [hs] at h; cases h
              | none =>
                rw [hs] at h
                simp only at h
                cases hz : single2 s i wr with
                | ok y => obtain ⟨⟨c, b⟩, k, wr2⟩ := y; rw [hz] at h; cases h
                | error k =>
                  rw [hz] at h
                  injection h with h
                  subst h
                  obtain ⟨e, he, hf, hd⟩ := single2_fail h5 hz
                  refine ⟨e, .inl ?_, fun u hB hA => ?_⟩
                  · simp [escEs] at he
                    rcases he with rfl | rfl | rfl | rfl | rfl <;> simp [inEs]
                  · obtain ⟨x, wr2, hx⟩ := hf u hB hA
                    obtain ⟨c, b⟩ := x
                    have hg : assertL (u.getD (i + 1) 0) = 0 ∧ setL (u.getD (i + 1) 0) = none := by
                      rcases hd with h6 | ⟨h6, rfl⟩
                      · rw [getD_beg hB h6]
                        exact ⟨ha, hs⟩
                      · have a0 : nx u (i + 1) = 110 := by rw [h6]; simpa using hA 0 (by simp)
                        rw [getD_at a0 (by decide)]
                        exact ⟨by decide, by decide⟩
                    unfold atomP
                    rw [hB.pre i hl, if_neg h1, if_neg h2, if_neg h3, if_neg h4, if_pos h5, if_pos hg.1, hg.2]
                    simp only
                    rw [hx]
                    exact ⟨_, _, rfl⟩
            · rw [if_neg ha] at h
              cases h
          · rw [if_neg h5] at h
            cases hr : runeBut s notPlain i with
            | ok y => obtain ⟨c, k⟩ := y; rw [hr] at h; cases h
            | error k =>
              rw [hr] at h
              injection h with h
              subst h
              obtain ⟨e, he, hf⟩ := runeBut_fail hl hr
              refine ⟨e, .inl ?_, fun u hB hA => ?_⟩
              · simp [runEs] at he
                rcases he with rfl | rfl | rfl | rfl | rfl <;> simp [inEs]
              · obtain ⟨c, hc⟩ := hf u hB hA
                unfold atomP
                rw [hB.pre i hl, if_neg h1, if_neg h2, if_neg h3, if_neg h4, if_neg h5, hc]
                exact ⟨_, _, rfl⟩
theorem atom_end {s u : List Int} {fold all : Bool} {i k : Nat} {wr wr2 : Wr} {x : Tree} (hB : Beg s u) (hl : i < s.length) (h : atomP s fold all i wr = .ok (x, k, wr2)) : atomP u fold all i wr = .ok (x, k, wr2) := by
  have hk : k ≤ s.length := by
    have := atom_le (fold := fold) (all := all) (wr := wr) hl
    rw [h] at this
    exact this
  unfold atomP at h ⊢
  rw [hB.pre i hl]
  by_cases h1 : nx s i = 46
  · rw [if_pos h1] at h ⊢; exact h
  · rw [if_neg h1] at h ⊢
    by_cases h2 : nx s i = 94
    · rw [if_pos h2] at h ⊢; exact h
    · rw [if_neg h2] at h ⊢
      by_cases h3 : nx s i = 36
      · rw [if_pos h3] at h ⊢; exact h
      · rw [if_neg h3] at h ⊢
        by_cases h4 : nx s i = 91
        · rw [if_pos h4] at h ⊢
          cases hz : classP s fold i wr with
          | error k => rw [hz] at h; cases h
          | ok y =>
            obtain ⟨L, k', wr3⟩ := y
            rw [hz] at h
            rw [classP_end hB h4 hz]
            exact h
        · rw [if_neg h4] at h ⊢
          by_cases h5 : nx s i = 92
          · rw [if_pos h5] at h ⊢
            rcases Nat.lt_or_ge (i + 1) s.length with h6 | h6
            · rw [getD_beg hB h6]
              by_cases ha : assertL (s.getD (i + 1) 0) = 0
              · rw [if_pos ha] at h ⊢
                cases hs : setL (s.getD (i + 1) 0) with
                | some L => rw [hs] at h; exact h
                | none =>
                  rw [hs] at h
                  simp only at h ⊢
                  cases hz : single2 s i wr with
                  | error k => rw [hz] at h; cases h
                  | ok y =>
                    obtain ⟨⟨c, b⟩, k', wr3⟩ := y
                    rw [hz] at h
                    have hk' : k' = k := by injection h with h; injection h with _ h; injection h with h _
                    rw [single2_end hB hz (by omega)]
                    exact h
              · rw [if_neg ha] at h ⊢
                exact h
            · exfalso
              rw [getD_off s h6] at h
              rw [if_pos (by decide)] at h
              have hs0 : setL 0 = none := by decide
              rw [hs0] at h
              simp only at h
              have : single s i = .error (i + 1) := by
                unfold single
                have hm : nx s (i + 1) = -1 := nx_end h6
                rw [if_pos h5, hm]
                simp
              unfold single2 at h
              rw [this] at h
              cases h
          · rw [if_neg h5] at h ⊢
            cases hr : runeBut s notPlain i with
            | error k => rw [hr] at h; cases h
            | ok y =>
              obtain ⟨c, k'⟩ := y
              rw [hr] at h
              have hk' : k' = k := by injection h with h; injection h with _ h; injection h with h _
              rw [runeBut_end hB hr (by omega)]
              exact h
/-- numbers -/
theorem numGo_to {s u : List Int} (hB : Beg s u) (hd : ¬ (48 ≤ nx u s.length ∧ nx u s.length ≤ 57)) : ∀ (f i : Nat) (n : Int), i ≤ s.length → numGo u f i n = numGo s f i n := by
  intro f
  induction f with
  | zero => intro i n _; rfl
  | succ f ih =>
    intro i n hi
    unfold numGo
    rcases Nat.lt_or_ge i s.length with hl | hl
    · rw [hB.pre i hl]
      split
      · exact ih _ _ (by omega)
      · rfl
    · have e0 : i = s.length := by omega
      subst e0
      rw [if_neg hd, if_neg (by rw [nx_L]; omega)]
theorem number_to {s u : List Int} {i : Nat} (hB : Beg s u) (hd : ¬ (48 ≤ nx u s.length ∧ nx u s.length ≤ 57)) (hl : i < s.length) : number u i = number s i := by
  unfold number
  rw [hB.pre i hl]
  split
  · rfl
  · split
    · rw [numGo_to hB hd 3 (i + 1) _ (by omega)]
    · rfl
theorem numbers_fail {s : List Int} {i : Nat} {wr : Wr} (hl : i < s.length) (h : numbers s i wr = .error s.length) : ∃ e, (e = [48, 125] ∨ e = [125]) ∧ ∀ u, Beg s u → At u s.length e → ∃ x wr2, numbers u i wr = .ok (x, s.length + e.length, wr2) := by
  unfold numbers at h
  by_cases h1 : nx s i = 123
  · rw [if_pos h1] at h
    rcases Nat.lt_or_ge (i + 1) s.length with hl1 | hl1
    · -- a number has begun
      have a125 : ∀ u, At u s.length [125] → nx u s.length = 125 := fun u hA => by simpa using hA 0 (by simp)
      have nd : ∀ u, At u s.length [125] → ¬ (48 ≤ nx u s.length ∧ nx u s.length ≤ 57) := fun u hA => by rw [a125 u hA]; decide
      refine ⟨[125], .inr rfl, fun u hB hA => ?_⟩
      have h125 := a125 u hA
      have hnd := nd u hA
      cases hn : number s (i + 1) with
      | error k =>
        exfalso
        rw [hn] at h
        injection h with h
        have := number_mono s (i + 1)
        unfold number at hn
        repeat' split at hn
        all_goals first | (cases hn; done) | (injection hn with hn; omega)
      | ok y =>
        obtain ⟨lo, j⟩ := y
        have hj := number_bd hn
        rw [hn] at h
        simp only at h
        unfold numbers
        rw [hB.pre i hl, if_pos h1, number_to hB hnd hl1, hn]
        simp only
        rcases Nat.lt_or_ge j s.length with hjl | hjl
        · rw [hB.pre j hjl]
          by_cases h44 : nx s j = 44
          · rw [if_pos h44] at h ⊢
            rcases Nat.lt_or_ge (j + 1) s.length with hj1 | hj1
            · by_cases h2 : nx s (j + 1) = 125
              · rw [if_pos h2] at h; cases h
              · rw [if_neg h2] at h
                rw [hB.pre (j + 1) hj1, if_neg h2, number_to hB hnd hj1]
                cases hn2 : number s (j + 1) with
                | error k =>
                  exfalso
                  rw [hn2] at h
                  injection h with h
                  unfold number at hn2
                  repeat' split at hn2
                  all_goals first | (cases hn2; done) | (injection hn2 with hn2; omega)
                | ok y2 =>
                  obtain ⟨hi', k⟩ := y2
                  rw [hn2] at h
                  simp only at h ⊢
                  split at h
                  · cases h
                  · injection h with h
                    subst h
                    rw [if_pos h125]
                    exact ⟨_, _, rfl⟩
            · have e0 : j + 1 = s.length := by omega
              rw [if_pos (by rw [e0]; exact h125)]
              exact ⟨_, _, by rw [show j + 2 = s.length + 1 by omega]; rfl⟩
          · rw [if_neg h44] at h ⊢
            split at h
            · cases h
            · injection h with h
              omega
        · have e0 : j = s.length := by omega
          subst e0
          rw [h125, if_neg (by decide), if_pos rfl]
          exact ⟨_, _, rfl⟩
    · have e0 : i + 1 = s.length := by omega
      refine ⟨[48, 125], .inl rfl, fun u hB hA => ?_⟩
      have a0 : nx u (i + 1) = 48 := by rw [e0]; simpa using hA 0 (by simp)
      have a1 : nx u (i + 2) = 125 := by have := hA 1 (by simp); rw [← e0] at this; simpa using this
      have hn : number u (i + 1) = .ok (0, i + 2) := by unfold number; rw [if_pos a0]
      unfold numbers
      rw [hB.pre i hl, if_pos h1, hn]
      simp only
      rw [a1, if_neg (by decide), if_pos rfl]
      exact ⟨_, _, by rw [← e0]; rfl⟩
  · rw [if_neg h1] at h
    injection h with h
    omega
end Go.Proofs.YtenanfkmmkmolaaGreatDoor
/- HELPERS: what is not over at the text's end goes on: counts, groups, rounds. -/
namespace Go.Proofs.YtenanfkmmkmolaaGreatDoor
open Go.RowKit Go.Mx
set_option linter.unusedVariables false
set_option linter.unusedSimpArgs false
/-- nothing, or a bracket -/
def Stp (x : Int) : Prop := x = -1 ∨ x = 41 ∨ x = 124
theorem lazy_to {s u : List Int} {k : Nat} (hB : Beg s u) (hs : Stp (nx u s.length)) (hk : k ≤ s.length) : lazyAt u k = lazyAt s k := by
  rcases Nat.lt_or_ge k s.length with hl | hl
  · exact lazy_lo (hB.pre k hl).symm
  · have e0 : k = s.length := by omega
    subst e0
    unfold lazyAt
    rw [if_neg (by unfold Stp at hs; omega), if_neg (by rw [nx_L]; decide)]
theorem lazy_off {u : List Int} {k : Nat} (hs : Stp (nx u k)) : lazyAt u k = (false, k) := by
  unfold lazyAt
  rw [if_neg (by unfold Stp at hs; omega)]
theorem numbers_end {s u : List Int} {i k : Nat} {wr wr2 : Wr} {x : Int × Int} (hB : Beg s u) (hl : i < s.length) (h : numbers s i wr = .ok (x, k, wr2)) : numbers u i wr = .ok (x, k, wr2) := by
  unfold numbers at h ⊢
  rw [hB.pre i hl]
  by_cases h1 : nx s i = 123
  · rw [if_pos h1] at h ⊢
    cases hn : number s (i + 1) with
    | error k => rw [hn] at h; cases h
    | ok y =>
      obtain ⟨lo, j⟩ := y
      have hj := number_bd hn
      rw [hn] at h
      simp only at h
      have hjl : j < s.length := by
        rcases Nat.lt_or_ge j s.length with h' | h'
        · exact h'
        · have e0 : j = s.length := by omega
          subst e0
          rw [nx_L, if_neg (by decide), if_neg (by decide)] at h
          cases h
      rw [number_lo (by rw [hn]; exact hB.al hjl), hn]
      simp only
      rw [hB.pre j hjl]
      by_cases h44 : nx s j = 44
      · rw [if_pos h44] at h ⊢
        rcases Nat.lt_or_ge (j + 1) s.length with hj1 | hj1
        · rw [hB.pre (j + 1) hj1]
          by_cases h2 : nx s (j + 1) = 125
          · rw [if_pos h2] at h ⊢
            exact h
          · rw [if_neg h2] at h ⊢
            cases hn2 : number s (j + 1) with
            | error k => rw [hn2] at h; cases h
            | ok y2 =>
              obtain ⟨hi', k'⟩ := y2
              rw [hn2] at h
              simp only at h
              split at h
              · rename_i h3
                have hk' := nx_lt (t := s) (i := k') (by omega)
                rw [number_lo (by rw [hn2]; exact hB.al hk'), hn2]
                simp only
                rw [hB.pre k' hk', if_pos h3]
                exact h
              · cases h
        · exfalso
          have hm : nx s (j + 1) = -1 := nx_end hj1
          rw [hm, if_neg (by decide)] at h
          unfold number at h
          rw [hm, if_neg (by decide), if_neg (by decide)] at h
          cases h
      · rw [if_neg h44] at h ⊢
        exact h
  · rw [if_neg h1] at h
    cases h
theorem counted_fail {s : List Int} {x : Tree} {i : Nat} {wr : Wr} (hl : i < s.length) (h : counted s x i wr = .error s.length) : ∃ e, (e = [48, 125] ∨ e = [125]) ∧ ∀ u, Beg s u → At u s.length e → Stp (nx u (s.length + e.length)) → ∃ y wr2, counted u x i wr = .ok (y, s.length + e.length, wr2) := by
  unfold counted at h
  by_cases h1 : nx s i = 42
  · rw [if_pos h1] at h; cases h
  · rw [if_neg h1] at h
    by_cases h2 : nx s i = 43
    · rw [if_pos h2] at h; cases h
    · rw [if_neg h2] at h
      by_cases h3 : nx s i = 63
      · rw [if_pos h3] at h; cases h
      · rw [if_neg h3] at h
        by_cases h4 : nx s i = 123
        · rw [if_pos h4] at h
          cases hn : numbers s i wr with
          | ok y => obtain ⟨⟨lo, hi'⟩, k, wr2⟩ := y; rw [hn] at h; cases h
          | error k =>
            rw [hn] at h
            injection h with h
            subst h
            obtain ⟨e, he, hf⟩ := numbers_fail hl hn
            refine ⟨e, he, fun u hB hA hS => ?_⟩
            obtain ⟨⟨lo, hi'⟩, wr2, hx⟩ := hf u hB hA
            unfold counted
            rw [hB.pre i hl, if_neg h1, if_neg h2, if_neg h3, if_pos h4, hx]
            simp only
            rw [lazy_off hS]
            exact ⟨_, _, rfl⟩
        · rw [if_neg h4] at h
          cases h
theorem counted_none {u : List Int} {x : Tree} {i : Nat} {wr : Wr} (h : Stp (nx u i)) : counted u x i wr = .ok (x, i, wr) := by
  unfold Stp at h
  unfold counted
  rw [if_neg (by omega), if_neg (by omega), if_neg (by omega), if_neg (by omega)]
theorem counted_end {s u : List Int} {x y : Tree} {i k : Nat} {wr wr2 : Wr} (hB : Beg s u) (hS : Stp (nx u s.length)) (hi : i ≤ s.length) (h : counted s x i wr = .ok (y, k, wr2)) : counted u x i wr = .ok (y, k, wr2) := by
  rcases Nat.lt_or_ge i s.length with hl | hl
  · unfold counted at h ⊢
    rw [hB.pre i hl]
    rw [lazy_to hB hS (show i + 1 ≤ s.length by omega)]
    by_cases h4 : nx s i = 123
    · rw [if_neg (by omega), if_neg (by omega), if_neg (by omega), if_pos h4] at h ⊢
      cases hn : numbers s i wr with
      | error k => rw [hn] at h; cases h
      | ok z =>
        obtain ⟨⟨lo, hi'⟩, k', wr3⟩ := z
        rw [hn] at h
        rw [numbers_end hB hl hn]
        have hk' : k' ≤ s.length := by
          have := numbers_le (t := s) (i := i) (wr := wr) (by omega)
          rw [hn] at this
          exact this
        simp only at h ⊢
        rw [lazy_to hB hS hk']
        exact h
    · rw [if_neg h4] at h ⊢
      exact h
  · have e0 : i = s.length := by omega
    subst e0
    rw [counted_none (.inl (nx_L s))] at h
    rw [counted_none hS]
    exact h
theorem addRep_fail {s : List Int} {x : Tree} {S : St} (hl : S.pos < s.length) (h : addRep s x S = .error s.length) : ∃ e, (e = [48, 125] ∨ e = [125]) ∧ ∀ u, Beg s u → At u s.length e → Stp (nx u (s.length + e.length)) → ∃ S2, addRep u x S = .ok S2 ∧ S2.pos = s.length + e.length ∧ S2.low = S.low := by
  unfold addRep at h
  cases hc : counted s x S.pos S.wr with
  | ok y => obtain ⟨y, k, wr2⟩ := y; rw [hc] at h; cases h
  | error k =>
    rw [hc] at h
    injection h with h
    subst h
    obtain ⟨e, he, hf⟩ := counted_fail hl hc
    refine ⟨e, he, fun u hB hA hS => ?_⟩
    obtain ⟨y, wr2, hy⟩ := hf u hB hA hS
    unfold addRep
    rw [hy]
    exact ⟨_, rfl, rfl, rfl⟩
theorem addRep_end {s u : List Int} {x : Tree} {S S2 : St} (hB : Beg s u) (hS : Stp (nx u s.length)) (hi : S.pos ≤ s.length) (h : addRep s x S = .ok S2) : addRep u x S = .ok S2 := by
  unfold addRep at h ⊢
  cases hc : counted s x S.pos S.wr with
  | error k => rw [hc] at h; cases h
  | ok y =>
    obtain ⟨y, k, wr2⟩ := y
    rw [hc] at h
    rw [counted_end hB hS hi hc]
    exact h
theorem addRep_none {u : List Int} {x : Tree} {S : St} (h : Stp (nx u S.pos)) : ∃ S2, addRep u x S = .ok S2 ∧ S2.pos = S.pos ∧ S2.low = S.low := by
  unfold addRep
  rw [counted_none h]
  exact ⟨_, rfl, rfl, rfl⟩
/-- names -/
theorem nameGo_to {s u : List Int} (hB : Beg s u) (hd : wordB (nx u s.length) = false) : ∀ (f i : Nat), i ≤ s.length → nameGo u f i = nameGo s f i := by
  intro f
  induction f with
  | zero => intro i _; rfl
  | succ f ih =>
    intro i hi
    unfold nameGo
    rcases Nat.lt_or_ge i s.length with hl | hl
    · rw [hB.pre i hl]
      split
      · exact ih _ (by omega)
      · rfl
    · have e0 : i = s.length := by omega
      subst e0
      rw [nx_L, hd, if_neg (by decide), if_neg (by decide)]
theorem nameP_fail {s : List Int} {i : Nat} (hi : i ≤ s.length) (h : nameP s i = .error s.length) : ∃ e, (e = [60, 97, 62] ∨ e = [97, 62] ∨ e = [62]) ∧ ∀ u, Beg s u → At u s.length e → ∃ nm, nameP u i = .ok (nm, s.length + e.length) := by
  have one97 : ∀ (u : List Int) (j : Nat), nx u j = 97 → nx u (j + 1) = 62 → nameGo u 32 j = j + 1 := by
    intro u j h1 h2
    rw [show (32 : Nat) = 30 + 1 + 1 from rfl, nameGo, h1, if_pos (by decide), nameGo, h2, if_neg (by decide)]
  rcases Nat.lt_or_ge i s.length with hl | hl
  · unfold nameP at h
    by_cases h60 : nx s i = 60
    · rw [if_pos h60] at h
      rcases Nat.lt_or_ge (i + 1) s.length with hl1 | hl1
      · by_cases h1 : (48 ≤ nx s (i + 1) ∧ nx s (i + 1) ≤ 57) ∨ wordB (nx s (i + 1)) = false
        · rw [if_pos h1] at h
          injection h with h
          omega
        · rw [if_neg h1] at h
          refine ⟨[62], .inr (.inr rfl), fun u hB hA => ?_⟩
          have a0 : nx u s.length = 62 := by simpa using hA 0 (by simp)
          split at h
          · cases h
          · injection h with h
            unfold nameP
            rw [hB.pre i hl, if_pos h60, hB.pre (i + 1) hl1, if_neg h1, nameGo_to hB (by rw [a0]; decide) 32 (i + 1) (by omega), h, if_pos a0]
            exact ⟨_, rfl⟩
      · have e0 : i + 1 = s.length := by omega
        refine ⟨[97, 62], .inr (.inl rfl), fun u hB hA => ?_⟩
        have a0 : nx u (i + 1) = 97 := by rw [e0]; simpa using hA 0 (by simp)
        have a1 : nx u (i + 2) = 62 := by have := hA 1 (by simp); rw [← e0] at this; simpa using this
        unfold nameP
        rw [hB.pre i hl, if_pos h60, a0, if_neg (by decide), one97 u (i + 1) a0 a1, if_pos a1]
        exact ⟨_, by rw [← e0]; rfl⟩
    · rw [if_neg h60] at h
      injection h with h
      omega
  · have e0 : i = s.length := by omega
    refine ⟨[60, 97, 62], .inl rfl, fun u hB hA => ?_⟩
    have a0 : nx u i = 60 := by rw [e0]; simpa using hA 0 (by simp)
    have a1 : nx u (i + 1) = 97 := by rw [e0]; simpa using hA 1 (by simp)
    have a2 : nx u (i + 2) = 62 := by rw [e0]; simpa using hA 2 (by simp)
    unfold nameP
    rw [if_pos a0, a1, if_neg (by decide), one97 u (i + 1) a1 a2, if_pos a2]
    exact ⟨_, by rw [e0]; rfl⟩
theorem nameP_end {s u : List Int} {i k : Nat} {nm : ByteArray} (hB : Beg s u) (hi : i ≤ s.length) (h : nameP s i = .ok (nm, k)) : nameP u i = .ok (nm, k) := by
  have h' := h
  unfold nameP at h
  split at h
  · rename_i h60
    have hl := nx_lt (t := s) (i := i) (by omega)
    split at h
    · cases h
    · rename_i h1
      split at h
      · rename_i h62
        have hz := nx_lt (t := s) (i := nameGo s 32 (i + 1)) (by omega)
        have hmo := nameGo_mono s 32 (i + 1)
        have hlo := nameGo_lo s u 32 (i + 1) (hB.al hz)
        have hu := hB.len
        injection h with h
        injection h with h2 h3
        unfold nameP
        rw [hB.pre i hl, if_pos h60, hB.pre (i + 1) (by omega), if_neg h1, hlo, hB.pre _ hz, if_pos h62]
        rw [← h2, ← h3, drop_take_ext (t := u) (u := s) (i := i + 1) (k := nameGo s 32 (i + 1)) (by omega) (by omega) (fun j hj => hB.pre j (by omega))]
      · cases h
  · cases h
end Go.Proofs.YtenanfkmmkmolaaGreatDoor
/- HELPERS: what is not over at the text's end goes on: rounds; brackets that end the groups. -/
namespace Go.Proofs.YtenanfkmmkmolaaGreatDoor
open Go.RowKit Go.Mx
set_option linter.unusedVariables false
set_option linter.unusedSimpArgs false
theorem begins_fail {s : List Int} {S : St} (hl : S.pos < s.length) (h : begins s S = .error s.length) : ∃ e, (e = [58] ∨ e = [60, 97, 62] ∨ e = [97, 62] ∨ e = [62]) ∧ ∀ u, Beg s u → At u s.length e → ∃ S2, begins u S = .ok S2 ∧ S2.pos = s.length + e.length ∧ S2.low.length = S.low.length + 1 := by
  unfold begins at h
  by_cases h1 : nx s (S.pos + 1) = 63
  · have hl1 := nx_lt (t := s) (i := S.pos + 1) (by omega)
    rw [if_pos h1] at h
    by_cases h2 : nx s (S.pos + 2) = 80
    · have hl2 := nx_lt (t := s) (i := S.pos + 2) (by omega)
      rw [if_pos h2] at h
      cases hn : nameP s (S.pos + 3) with
      | ok y => obtain ⟨nm, k⟩ := y; rw [hn] at h; cases h
      | error k =>
        rw [hn] at h
        injection h with h
        subst h
        obtain ⟨e, he, hf⟩ := nameP_fail (by omega) hn
        refine ⟨e, .inr he, fun u hB hA => ?_⟩
        obtain ⟨nm, hx⟩ := hf u hB hA
        unfold begins
        rw [hB.pre (S.pos + 1) hl1, if_pos h1, hB.pre (S.pos + 2) hl2, if_pos h2, hx]
        exact ⟨_, rfl, rfl, by simp [opened]⟩
    · rw [if_neg h2] at h
      simp only at h
      refine ⟨[58], .inl rfl, fun u hB hA => ?_⟩
      have a0 : nx u s.length = 58 := by simpa using hA 0 (by simp)
      -- each byte up to the end is as it was, and a colon stands there
      have same : ∀ j, j ≤ s.length → ∀ x : Int, x ≠ 58 → 0 ≤ x → (nx u j = x ↔ nx s j = x) := by
        intro j hj x hx hx0
        rcases Nat.lt_or_ge j s.length with h' | h'
        · rw [hB.pre j h']
        · have e0 : j = s.length := by omega
          rw [e0, a0, nx_L]
          constructor <;> intro h <;> omega
      have e1 : (if nx u (S.pos + 2) = 105 then S.pos + 3 else S.pos + 2) = (if nx s (S.pos + 2) = 105 then S.pos + 3 else S.pos + 2) := by
        simp only [(same (S.pos + 2) (by omega) 105 (by decide) (by decide))]
      have hi1 : (if nx s (S.pos + 2) = 105 then S.pos + 3 else S.pos + 2) ≤ s.length := by
        split
        · have := nx_lt (t := s) (i := S.pos + 2) (by omega); omega
        · omega
      have hc1 : decide (nx u (S.pos + 2) = 105) = decide (nx s (S.pos + 2) = 105) := decide_eq_decide.2 (same (S.pos + 2) (by omega) 105 (by decide) (by decide))
      unfold begins
      rw [hB.pre (S.pos + 1) hl1, if_pos h1, if_neg (fun h' => h2 ((same (S.pos + 2) (by omega) 80 (by decide) (by decide)).1 h'))]
      simp only
      rw [e1]
      generalize hg1 : (if nx s (S.pos + 2) = 105 then S.pos + 3 else S.pos + 2) = i1 at h hi1 ⊢
      have e2 : (if nx u i1 = 115 then i1 + 1 else i1) = (if nx s i1 = 115 then i1 + 1 else i1) := by
        simp only [(same i1 hi1 115 (by decide) (by decide))]
      rw [e2]
      generalize hg2 : (if nx s i1 = 115 then i1 + 1 else i1) = i2 at h ⊢
      split at h
      · cases h
      · injection h with h
        subst h
        rw [if_pos a0]
        exact ⟨_, rfl, rfl, by simp [opened]⟩
  · rw [if_neg h1] at h
    cases h
theorem begins_end {s u : List Int} {S S2 : St} (hB : Beg s u) (hS : Stp (nx u s.length)) (hl : S.pos < s.length) (h : begins s S = .ok S2) : begins u S = .ok S2 := by
  have same : ∀ j, j ≤ s.length → ∀ x : Int, x ≠ 41 ∧ x ≠ 124 → 0 ≤ x → (nx u j = x ↔ nx s j = x) := by
    intro j hj x hx hx0
    rcases Nat.lt_or_ge j s.length with h' | h'
    · rw [hB.pre j h']
    · have e0 : j = s.length := by omega
      unfold Stp at hS
      rw [e0, nx_L]
      constructor <;> intro h <;> omega
  unfold begins at h ⊢
  by_cases h1 : nx s (S.pos + 1) = 63
  · have hl1 := nx_lt (t := s) (i := S.pos + 1) (by omega)
    rw [if_pos h1] at h
    rw [hB.pre (S.pos + 1) hl1, if_pos h1]
    by_cases h2 : nx s (S.pos + 2) = 80
    · have hl2 := nx_lt (t := s) (i := S.pos + 2) (by omega)
      rw [if_pos h2] at h
      rw [hB.pre (S.pos + 2) hl2, if_pos h2]
      cases hn : nameP s (S.pos + 3) with
      | error k => rw [hn] at h; cases h
      | ok y =>
        obtain ⟨nm, k⟩ := y
        rw [hn] at h
        rw [nameP_end hB (by omega) hn]
        exact h
    · rw [if_neg h2] at h
      simp only at h
      have e1 : (if nx u (S.pos + 2) = 105 then S.pos + 3 else S.pos + 2) = (if nx s (S.pos + 2) = 105 then S.pos + 3 else S.pos + 2) := by
        simp only [(same (S.pos + 2) (by omega) 105 (by decide) (by decide))]
      have hi1 : (if nx s (S.pos + 2) = 105 then S.pos + 3 else S.pos + 2) ≤ s.length := by
        split
        · have := nx_lt (t := s) (i := S.pos + 2) (by omega); omega
        · omega
      have hc1 : decide (nx u (S.pos + 2) = 105) = decide (nx s (S.pos + 2) = 105) := decide_eq_decide.2 (same (S.pos + 2) (by omega) 105 (by decide) (by decide))
      rw [if_neg (fun h' => h2 ((same (S.pos + 2) (by omega) 80 (by decide) (by decide)).1 h'))]
      simp only
      rw [e1, hc1]
      generalize hg1 : (if nx s (S.pos + 2) = 105 then S.pos + 3 else S.pos + 2) = i1 at h hi1 ⊢
      have e2 : (if nx u i1 = 115 then i1 + 1 else i1) = (if nx s i1 = 115 then i1 + 1 else i1) := by
        simp only [(same i1 hi1 115 (by decide) (by decide))]
      have hc2 : decide (nx u i1 = 115) = decide (nx s i1 = 115) := decide_eq_decide.2 (same i1 hi1 115 (by decide) (by decide))
      rw [e2, hc2]
      generalize hg2 : (if nx s i1 = 115 then i1 + 1 else i1) = i2 at h ⊢
      split at h
      · rename_i h58
        have := nx_lt (t := s) (i := i2) (by omega)
        rw [hB.pre i2 this, if_pos h58]
        exact h
      · cases h
  · rw [if_neg h1] at h
    rw [if_neg (fun h' => h1 ((same (S.pos + 1) (by omega) 63 (by decide) (by decide)).1 h'))]
    exact h
/-- the endings -/
def allEs : List (List Int) := [[], [110], [48, 125], [125], [58], [60, 97, 62], [97, 62], [62], [97, 93], [93], [110, 93], [52, 49], [52, 49, 93], [49], [49, 93], [125, 93], [49, 125], [49, 125, 93], [128], [128, 93], [128, 128], [128, 128, 93], [160, 128], [160, 128, 93], [144, 128, 128], [144, 128, 128, 93], [128, 128, 128], [128, 128, 128, 93]]
theorem atEs_all {e : List Int} (h : atEs e) : e ∈ allEs := by
  rcases h with h | ⟨x, h, rfl⟩
  · simp [inEs] at h
    rcases h with rfl | rfl | rfl | rfl | rfl | rfl | rfl | rfl | rfl | rfl <;> simp [allEs]
  · simp [inEs] at h
    rcases h with (rfl | rfl | rfl | rfl | rfl | rfl | rfl | rfl | rfl | rfl) | rfl | rfl <;> simp [allEs]
theorem round_fail {s : List Int} {S : St} (hl : S.pos < s.length) (h : round s S = .error s.length) : ∃ e ∈ allEs, ∃ n, n ≤ S.low.length + (if nx s S.pos = 40 then 1 else 0) ∧ ∀ u, Beg s u → At u s.length e → Stp (nx u (s.length + e.length)) → ∃ S2, round u S = .ok S2 ∧ S2.pos = s.length + e.length ∧ S2.low.length = n := by
  unfold round at h
  by_cases h1 : nx s S.pos = 124
  · rw [if_pos h1] at h; cases h
  · rw [if_neg h1] at h
    by_cases h2 : nx s S.pos = 40
    · rw [if_pos h2] at h
      obtain ⟨e, he, hf⟩ := begins_fail hl h
      refine ⟨e, ?_, S.low.length + 1, by rw [if_pos h2]; exact Nat.le_refl _, fun u hB hA _ => ?_⟩
      · rcases he with rfl | rfl | rfl | rfl <;> simp [allEs]
      · obtain ⟨S2, q1, q2, q3⟩ := hf u hB hA
        unfold round
        rw [hB.pre S.pos hl, if_neg h1, if_pos h2]
        exact ⟨S2, q1, q2, q3⟩
    · rw [if_neg h2] at h
      by_cases h3 : nx s S.pos = 41
      · rw [if_pos h3] at h
        unfold ends at h
        cases hg : S.low.getLast? with
        | none => rw [hg] at h; injection h with h; omega
        | some l =>
          rw [hg] at h
          simp only at h
          rcases Nat.lt_or_ge (S.pos + 1) s.length with hl1 | hl1
          · obtain ⟨e, he, hf⟩ := addRep_fail (S := { S with pos := S.pos + 1, low := S.low.dropLast, top := l }) hl1 h
            refine ⟨e, ?_, S.low.dropLast.length, by simp; omega, fun u hB hA hS => ?_⟩
            · rcases he with rfl | rfl <;> simp [allEs]
            · obtain ⟨S2, q1, q2, q3⟩ := hf u hB hA hS
              unfold round ends
              rw [hB.pre S.pos hl, if_neg h1, if_neg h2, if_pos h3, hg]
              exact ⟨S2, q1, q2, by rw [q3]⟩
          · exfalso
            obtain ⟨S2, q1, _⟩ := addRep_none (u := s) (x := S.top.tree) (S := { S with pos := S.pos + 1, low := S.low.dropLast, top := l }) (.inl (nx_end hl1))
            rw [q1] at h
            cases h
      · rw [if_neg h3] at h
        cases ha : atomP s S.top.fold S.top.all S.pos S.wr with
        | error k =>
          rw [ha] at h
          injection h with h
          subst h
          obtain ⟨e, he, hf⟩ := atom_fail hl ha
          refine ⟨e, atEs_all he, S.low.length, by omega, fun u hB hA hS => ?_⟩
          obtain ⟨x, wr2, hx⟩ := hf u hB hA
          unfold round
          rw [hB.pre S.pos hl, if_neg h1, if_neg h2, if_neg h3, hx]
          simp only
          obtain ⟨S2, q1, q2, q3⟩ := addRep_none (u := u) (x := x) (S := { S with pos := s.length + e.length, wr := wr2 }) hS
          exact ⟨S2, q1, q2, by rw [q3]⟩
        | ok y =>
          obtain ⟨x, k, wr2⟩ := y
          rw [ha] at h
          simp only at h
          have hk : k ≤ s.length := by
            have := atom_le (fold := S.top.fold) (all := S.top.all) (wr := S.wr) hl
            rw [ha] at this
            exact this
          rcases Nat.lt_or_ge k s.length with hkl | hkl
          · obtain ⟨e, he, hf⟩ := addRep_fail (S := { S with pos := k, wr := wr2 }) hkl h
            refine ⟨e, ?_, S.low.length, by omega, fun u hB hA hS => ?_⟩
            · rcases he with rfl | rfl <;> simp [allEs]
            · obtain ⟨S2, q1, q2, q3⟩ := hf u hB hA hS
              unfold round
              rw [hB.pre S.pos hl, if_neg h1, if_neg h2, if_neg h3, atom_end hB hl ha]
              exact ⟨S2, q1, q2, by rw [q3]⟩
          · exfalso
            obtain ⟨S2, q1, _⟩ := addRep_none (u := s) (x := x) (S := { S with pos := k, wr := wr2 }) (.inl (nx_end hkl))
            rw [q1] at h
            cases h
theorem round_end {s u : List Int} {S S2 : St} (hB : Beg s u) (hS : Stp (nx u s.length)) (hl : S.pos < s.length) (h : round s S = .ok S2) : round u S = .ok S2 := by
  unfold round at h ⊢
  rw [hB.pre S.pos hl]
  by_cases h1 : nx s S.pos = 124
  · rw [if_pos h1] at h ⊢; exact h
  · rw [if_neg h1] at h ⊢
    by_cases h2 : nx s S.pos = 40
    · rw [if_pos h2] at h ⊢
      exact begins_end hB hS hl h
    · rw [if_neg h2] at h ⊢
      by_cases h3 : nx s S.pos = 41
      · rw [if_pos h3] at h ⊢
        unfold ends at h ⊢
        cases hg : S.low.getLast? with
        | none => rw [hg] at h; cases h
        | some l =>
          rw [hg] at h
          simp only at h ⊢
          exact addRep_end hB hS (by show S.pos + 1 ≤ s.length; omega) h
      · rw [if_neg h3] at h ⊢
        cases ha : atomP s S.top.fold S.top.all S.pos S.wr with
        | error k => rw [ha] at h; cases h
        | ok y =>
          obtain ⟨x, k, wr2⟩ := y
          rw [ha] at h
          rw [atom_end hB hl ha]
          have hk : k ≤ s.length := by
            have := atom_le (fold := S.top.fold) (all := S.top.all) (wr := S.wr) hl
            rw [ha] at this
            exact this
          simp only at h ⊢
          exact addRep_end hB hS (by exact hk) h
theorem round_low {s : List Int} {S S2 : St} (h : round s S = .ok S2) : S2.low.length ≤ S.low.length + (if nx s S.pos = 40 then 1 else 0) := by
  have ar : ∀ (x : Tree) (T T2 : St), addRep s x T = .ok T2 → T2.low = T.low := by
    intro x T T2 h
    unfold addRep at h
    split at h
    · cases h
    · injection h with h
      rw [← h]
  unfold round at h
  by_cases h1 : nx s S.pos = 124
  · rw [if_pos h1] at h
    injection h with h
    rw [← h]
    simp
  · rw [if_neg h1] at h
    by_cases h2 : nx s S.pos = 40
    · rw [if_pos h2] at h
      rw [if_pos h2]
      unfold begins at h
      split at h
      · split at h
        · split at h
          · cases h
          · injection h with h
            rw [← h]
            simp [opened]
        · simp only at h
          generalize (if nx s (S.pos + 2) = 105 then S.pos + 3 else S.pos + 2) = i1 at h
          generalize (if nx s i1 = 115 then i1 + 1 else i1) = i2 at h
          by_cases h58 : nx s i2 = 58
          · rw [if_pos h58] at h
            injection h with h
            rw [← h]
            simp [opened]
          · rw [if_neg h58] at h
            cases h
      · injection h with h
        rw [← h]
        simp [opened]
    · rw [if_neg h2] at h
      by_cases h3 : nx s S.pos = 41
      · rw [if_pos h3] at h
        unfold ends at h
        split at h
        · cases h
        · have := ar _ _ _ h
          rw [this]
          simp
          omega
      · rw [if_neg h3] at h
        split at h
        · cases h
        · have := ar _ _ _ h
          rw [this]
          simp
/-- how many brackets stand ahead of a place -/
def opens (s : List Int) (n : Nat) : Nat := (s.take n).count 40
theorem opens_succ {s : List Int} {n : Nat} (hn : n < s.length) : opens s (n + 1) = opens s n + (if nx s n = 40 then 1 else 0) := by
  unfold opens
  rw [List.take_add_one, List.count_append, nx_in hn]
  simp [List.getElem?_eq_getElem hn, List.count_singleton]
theorem opens_mono {s : List Int} {n m : Nat} (h : n ≤ m) : opens s n ≤ opens s m := by
  unfold opens
  have : (s.take n) = (s.take m).take n := by rw [List.take_take, Nat.min_eq_left h]
  rw [this]
  exact List.Sublist.count_le (a := 40) (List.take_sublist _ _)
/-- brackets end the groups -/
theorem close_all : ∀ (n f : Nat) (S : St) (u : List Int), S.low.length = n → S.pos + n = u.length → (∀ i, i < n → nx u (S.pos + i) = 41) → n + 1 ≤ f → ∃ r, lastP (rounds u f S) = .ok r := by
  intro n
  induction n with
  | zero =>
    intro f S u h1 h2 h3 h4
    obtain ⟨g, rfl⟩ : ∃ g, f = g + 1 := ⟨f - 1, by omega⟩
    rw [rounds, if_pos (by omega)]
    simp only [lastP]
    rw [if_pos h1]
    exact ⟨_, rfl⟩
  | succ n ih =>
    intro f S u h1 h2 h3 h4
    obtain ⟨g, rfl⟩ : ∃ g, f = g + 1 := ⟨f - 1, by omega⟩
    have h41 : nx u S.pos = 41 := by simpa using h3 0 (by omega)
    have hne : S.low ≠ [] := fun e => by rw [e] at h1; simp at h1
    obtain ⟨l, hg⟩ : ∃ l, S.low.getLast? = some l := ⟨S.low.getLast hne, List.getLast?_eq_some_getLast hne⟩
    have hs : Stp (nx u (S.pos + 1)) := by
      cases n with
      | zero => exact .inl (nx_end (by omega))
      | succ n => exact .inr (.inl (h3 1 (by omega)))
    obtain ⟨S2, q1, q2, q3⟩ := addRep_none (u := u) (x := S.top.tree) (S := { S with pos := S.pos + 1, low := S.low.dropLast, top := l }) hs
    have hr : round u S = .ok S2 := by
      unfold round ends
      rw [h41, if_neg (by decide), if_neg (by decide), if_pos rfl, hg]
      exact q1
    rw [rounds, if_neg (by omega), hr]
    simp only
    refine ih g S2 u ?_ ?_ ?_ (by omega)
    · rw [q3]
      simp
      omega
    · rw [q2]
      show S.pos + 1 + n = u.length
      omega
    · intro i hi
      rw [q2]
      have := h3 (i + 1) (by omega)
      rw [← this]
      show nx u (S.pos + 1 + i) = _
      congr 1
      omega
end Go.Proofs.YtenanfkmmkmolaaGreatDoor
/- HELPERS: as many bytes as a fault tells can become a pattern, by one of the endings and brackets. -/
namespace Go.Proofs.YtenanfkmmkmolaaGreatDoor
open Go.RowKit Go.Mx
set_option linter.unusedVariables false
set_option linter.unusedSimpArgs false
/-- s, an ending, brackets -/
abbrev ended (s e : List Int) (k : Nat) : List Int := s ++ (e ++ List.replicate k 41)
theorem allEs_bytes {e : List Int} (h : e ∈ allEs) : ∀ x ∈ e, 0 ≤ x ∧ x < 256 := by
  have : ∀ e ∈ allEs, ∀ x ∈ e, 0 ≤ x ∧ x < 256 := by decide
  exact this e h
theorem ended_nx {s e : List Int} {k : Nat} : (∀ i, i < s.length → nx (ended s e k) i = nx s i) ∧ At (ended s e k) s.length e ∧ (∀ i, i < k → nx (ended s e k) (s.length + e.length + i) = 41) ∧ (ended s e k).length = s.length + e.length + k := by
  refine ⟨fun i hi => ?_, fun n hn => ?_, fun i hi => ?_, by simp; omega⟩
  · simp [nx, List.getD, List.getElem?_append_left hi]
  · simp [nx, List.getD]
    rw [List.getElem?_append_right (by omega), Nat.add_sub_cancel_left, List.getElem?_append_left hn, List.getElem?_eq_getElem hn]
    simp
  · simp [nx, List.getD]
    rw [List.getElem?_append_right (by omega), List.getElem?_append_right (by omega)]
    rw [show s.length + e.length + i - s.length - e.length = i by omega]
    simp [hi]
theorem ended_beg {s e : List Int} {k : Nat} (hb : ∀ x ∈ s, 0 ≤ x ∧ x < 256) (he : ∀ x ∈ e, 0 ≤ x ∧ x < 256) : Beg s (ended s e k) := by
  refine ⟨ended_nx.1, hb, fun x hx => ?_⟩
  simp only [List.mem_append, List.mem_replicate] at hx
  rcases hx with hx | hx | ⟨_, rfl⟩
  · exact hb x hx
  · exact he x hx
  · decide
theorem ended_stp {s e : List Int} {k : Nat} : Stp (nx (ended s e k) (s.length + e.length)) := by
  cases k with
  | zero => exact .inl (nx_end (by rw [ended_nx.2.2.2]; omega))
  | succ k => exact .inr (.inl (by simpa using (ended_nx (s := s) (e := e) (k := k + 1)).2.2.1 0 (by omega)))
theorem rounds_reach {s : List Int} (hb : ∀ x ∈ s, 0 ≤ x ∧ x < 256) : ∀ (f : Nat) (S : St), S.pos ≤ s.length → s.length + 1 ≤ S.pos + f → S.low.length ≤ opens s S.pos → lastP (rounds s f S) = .error s.length → ∃ e ∈ allEs, ∃ k, k ≤ opens s s.length ∧ (S.pos = s.length → e = []) ∧ ∀ f', s.length + e.length + k + 1 ≤ S.pos + f' → ∃ r, lastP (rounds (ended s e k) f' S) = .ok r := by
  intro f
  induction f with
  | zero => intro S h1 h2; omega
  | succ f ih =>
    intro S h1 h2 h3 h
    rw [rounds] at h
    by_cases hp : S.pos = s.length
    · rw [if_pos hp] at h
      refine ⟨[], by simp [allEs], S.low.length, by rw [← hp]; exact h3, fun _ => rfl, fun f' hf' => ?_⟩
      have hn := ended_nx (s := s) (e := []) (k := S.low.length)
      exact close_all S.low.length f' S _ rfl (by rw [hn.2.2.2, hp]; simp) (fun i hi => by rw [hp]; simpa using hn.2.2.1 i hi) (by simp at hf'; omega)
    · rw [if_neg hp] at h
      have hl : S.pos < s.length := by omega
      cases hr : round s S with
      | error j =>
        rw [hr] at h
        have hj : j = s.length := by
          simp only [lastP] at h
          injection h
        subst hj
        obtain ⟨e, he, n, hn, hf⟩ := round_fail hl hr
        have hno : n ≤ opens s s.length := by
          have := opens_succ hl
          have := opens_mono (s := s) (show S.pos + 1 ≤ s.length by omega)
          omega
        refine ⟨e, he, n, hno, fun e0 => absurd e0 hp, fun f' hf' => ?_⟩
        have hE := ended_nx (s := s) (e := e) (k := n)
        obtain ⟨S2, q1, q2, q3⟩ := hf _ (ended_beg (k := n) hb (allEs_bytes he)) hE.2.1 ended_stp
        obtain ⟨g, rfl⟩ : ∃ g, f' = g + 1 := ⟨f' - 1, by omega⟩
        rw [rounds, if_neg (by rw [hE.2.2.2]; omega), q1]
        simp only
        exact close_all n g S2 _ q3 (by rw [hE.2.2.2, q2]) (fun i hi => by rw [q2]; exact hE.2.2.1 i hi) (by omega)
      | ok S2 =>
        rw [hr] at h
        simp only at h
        have hpos := round_pos hr
        have hle : S2.pos ≤ s.length := by
          have := round_le (t := s) (S := S) hl
          rw [hr] at this
          exact this
        have hlow : S2.low.length ≤ opens s S2.pos := by
          have a1 := round_low hr
          have a2 := opens_succ hl
          have a3 := opens_mono (s := s) (show S.pos + 1 ≤ S2.pos by omega)
          omega
        obtain ⟨e, he, k, hk, hend, hf⟩ := ih S2 hle (by omega) hlow h
        refine ⟨e, he, k, hk, fun e0 => absurd e0 hp, fun f' hf' => ?_⟩
        have hE := ended_nx (s := s) (e := e) (k := k)
        have hB := ended_beg (k := k) hb (allEs_bytes he)
        have hru : round (ended s e k) S = .ok S2 := by
          rcases Nat.lt_or_ge S2.pos s.length with hl2 | hl2
          · rw [round_lo hB.bs hB.bu (by rw [hr]; exact hB.al hl2), hr]
          · have e0 : S2.pos = s.length := by omega
            have e1 := hend e0
            subst e1
            refine round_end hB ?_ hl hr
            have := ended_stp (s := s) (e := []) (k := k)
            simpa using this
        obtain ⟨g, rfl⟩ : ∃ g, f' = g + 1 := ⟨f' - 1, by omega⟩
        rw [rounds, if_neg (by rw [hE.2.2.2]; omega), hru]
        exact hf g (by omega)
theorem reach_end {s : List Int} (hb : ∀ x ∈ s, 0 ≤ x ∧ x < 256) (h : patternP s = .error s.length) : ∃ e ∈ allEs, ∃ k, k ≤ opens s s.length ∧ ∃ r, patternP (ended s e k) = .ok r := by
  rw [patternP_last] at h
  obtain ⟨e, he, k, hk, _, hf⟩ := rounds_reach hb (s.length + 1) S0 (by simp [S0]) (by simp [S0]) (by simp [S0]) h
  refine ⟨e, he, k, hk, ?_⟩
  rw [patternP_last]
  exact hf _ (by rw [ended_nx.2.2.2]; simp [S0])
/-- as many bytes as the fault tells can become a pattern -/
theorem reach {t : List Int} {j : Nat} (hb : ∀ x ∈ t, 0 ≤ x ∧ x < 256) (h : patternP t = .error j) : ∃ e ∈ allEs, ∃ k, k ≤ (t.take j).count 40 ∧ ∃ r, patternP (ended (t.take j) e k) = .ok r := by
  obtain ⟨hj, hd⟩ := dead_stays hb h
  have hlen : (t.take j).length = j := by simp; omega
  have hbs : ∀ x ∈ t.take j, 0 ≤ x ∧ x < 256 := fun x hx => hb x (List.mem_of_mem_take hx)
  cases hp : patternP (t.take j) with
  | ok r =>
    refine ⟨[], by simp [allEs], 0, Nat.zero_le _, r, ?_⟩
    simpa [ended] using hp
  | error j' =>
    obtain ⟨hj', hd'⟩ := dead_stays hbs hp
    have hje : j' = j := by
      rcases Nat.lt_or_ge j' j with h1 | h1
      · have := hd' t hb (fun i hi => by simp [nx, List.getD, List.getElem?_take, show i < j by omega])
        rw [h] at this
        injection this with this
        exact this.symm
      · omega
    subst hje
    have := reach_end hbs (by rw [hlen]; exact hp)
    obtain ⟨e, he, k, hk, hr⟩ := this
    refine ⟨e, he, k, ?_, hr⟩
    unfold opens at hk
    rw [List.take_of_length_le (Nat.le_refl _)] at hk
    exact hk
end Go.Proofs.YtenanfkmmkmolaaGreatDoor
/- HELPERS: rounds one after another. -/
namespace Go.Proofs.YtenanfkmmkmolaaGreatDoor
open Go.RowKit Go.Mx
set_option linter.unusedVariables false
set_option linter.unusedSimpArgs false
/-- rounds, one after another -/
inductive Run (t : List Int) : St → St → Prop
  | refl (S : St) : Run t S S
  | step {S S2 S3 : St} (hl : S.pos < t.length) (h : round t S = .ok S2) (hr : Run t S2 S3) : Run t S S3
theorem Run.trans {t : List Int} {S S2 S3 : St} (h : Run t S S2) (h2 : Run t S2 S3) : Run t S S3 := by
  induction h with
  | refl => exact h2
  | step hl h hr ih => exact .step hl h (ih h2)
theorem Run.one {t : List Int} {S S2 : St} (hl : S.pos < t.length) (h : round t S = .ok S2) : Run t S S2 := .step hl h (.refl _)
theorem Run.le {t : List Int} {S S2 : St} (h : Run t S S2) : S.pos ≤ S2.pos := by
  induction h with
  | refl => exact Nat.le_refl _
  | step hl h hr ih => have := round_pos h; omega
theorem run_of_rounds (t : List Int) : ∀ (f : Nat) (S S2 : St), S.pos ≤ t.length → t.length + 1 ≤ S.pos + f → rounds t f S = .ok S2 → Run t S S2 ∧ S2.pos = t.length := by
  intro f
  induction f with
  | zero => intro S S2 h1 h2 h; omega
  | succ f ih =>
    intro S S2 h1 h2 h
    unfold rounds at h
    by_cases hp : S.pos = t.length
    · rw [if_pos hp] at h
      injection h with h
      subst h
      exact ⟨.refl _, hp⟩
    · rw [if_neg hp] at h
      have hl : S.pos < t.length := by omega
      cases hr : round t S with
      | error k => rw [hr] at h; simp at h
      | ok S3 =>
        rw [hr] at h
        have h3 := round_pos hr
        have h4 := round_le hl
        rw [hr] at h4
        have h4' : S3.pos ≤ t.length := h4
        obtain ⟨q1, q2⟩ := ih S3 S2 h4' (by omega) h
        exact ⟨.step hl hr q1, q2⟩
theorem rounds_of_run {t : List Int} {S S2 : St} (h : Run t S S2) : S2.pos = t.length → ∀ f, t.length + 1 ≤ S.pos + f → rounds t f S = .ok S2 := by
  induction h with
  | refl S =>
    intro h f hf
    cases f with
    | zero => omega
    | succ f => unfold rounds; rw [if_pos h]
  | @step S S2 S3 hl h hr ih =>
    intro h3 f hf
    cases f with
    | zero => omega
    | succ f =>
      unfold rounds
      have := round_pos h
      rw [if_neg (by omega), h]
      exact ih h3 f (by omega)
/-- a run over s is one over what begins with s and stops behind it -/
theorem Run.goes {s u : List Int} (hB : Beg s u) (hS : Stp (nx u s.length)) {S S2 : St} (h : Run s S S2) : Run u S S2 := by
  induction h with
  | refl => exact .refl _
  | step hl h hr ih =>
    exact .step (Nat.lt_of_lt_of_le hl hB.len) (round_end hB hS hl h) ih
theorem pattern_run {t : List Int} {x : Tree} {wr : Wr} : patternP t = .ok (x, wr) ↔ ∃ S, Run t S0 S ∧ S.pos = t.length ∧ S.low = [] ∧ S.top.tree = x ∧ S.wr = wr := by
  unfold patternP
  constructor
  · intro h
    cases hr : rounds t (t.length + 1) S0 with
    | error k => rw [hr] at h; simp at h
    | ok S =>
      rw [hr] at h
      simp only at h
      obtain ⟨q1, q2⟩ := run_of_rounds t _ S0 S (Nat.zero_le _) (by simp [S0]) hr
      by_cases hl : S.low.length = 0
      · rw [if_pos hl] at h
        simp only [Except.ok.injEq, Prod.mk.injEq] at h
        exact ⟨S, q1, q2, List.eq_nil_of_length_eq_zero hl, h.1, h.2⟩
      · rw [if_neg hl] at h
        simp at h
  · rintro ⟨S, h1, h2, h3, rfl, rfl⟩
    rw [rounds_of_run h1 h2 _ (by simp [S0])]
    simp [h3]
end Go.Proofs.YtenanfkmmkmolaaGreatDoor
/- HELPERS: a text behind another one: what is read of it. -/
namespace Go.Proofs.YtenanfkmmkmolaaGreatDoor
open Go.RowKit Go.Mx
set_option linter.unusedVariables false
set_option linter.unusedSimpArgs false
/-- u is t behind d bytes -/
structure Sh (t u : List Int) (d : Nat) : Prop where
  len : u.length = t.length + d
  cut : u.drop d = t
theorem Sh.nx {t u : List Int} {d : Nat} (h : Sh t u d) (i : Nat) : nx u (i + d) = nx t i := by
  rw [← h.cut]
  unfold Go.Proofs.YtenanfkmmkmolaaGreatDoor.nx
  simp [List.getD, List.getElem?_drop, Nat.add_comm]
theorem Sh.getD {t u : List Int} {d : Nat} (h : Sh t u d) (i : Nat) : u.getD (i + d) 0 = t.getD i 0 := by
  rw [← h.cut]
  simp [List.getD, List.getElem?_drop, Nat.add_comm]
theorem Sh.nx1 {t u : List Int} {d : Nat} (h : Sh t u d) (i m : Nat) : Go.Proofs.YtenanfkmmkmolaaGreatDoor.nx u (i + d + m) = Go.Proofs.YtenanfkmmkmolaaGreatDoor.nx t (i + m) := by
  rw [show i + d + m = i + m + d by omega, h.nx]
def sh1 {α : Type} (d : Nat) : Except Nat (α × Nat) → Except Nat (α × Nat)
  | .error k => .error (k + d)
  | .ok (x, k) => .ok (x, k + d)
theorem numGo_sh {t u : List Int} {d : Nat} (h : Sh t u d) : ∀ (f i : Nat) (n : Int), numGo u f (i + d) n = ((numGo t f i n).1, (numGo t f i n).2 + d) := by
  intro f
  induction f with
  | zero => intro i n; rfl
  | succ f ih =>
    intro i n
    unfold numGo
    rw [h.nx]
    split
    · rw [show i + d + 1 = i + 1 + d by omega, ih]
    · rfl
theorem number_sh {t u : List Int} {d : Nat} (h : Sh t u d) (i : Nat) : number u (i + d) = sh1 d (number t i) := by
  unfold number
  rw [h.nx, show i + d + 1 = i + 1 + d by omega, numGo_sh h]
  split
  · rfl
  · split
    · rfl
    · rfl
theorem hexDigit_sh {t u : List Int} {d : Nat} (h : Sh t u d) (i : Nat) : hexDigit u (i + d) = sh1 d (hexDigit t i) := by
  unfold hexDigit
  rw [h.nx]
  cases hexd (nx t i) with
  | none => rfl
  | some v => simp only [sh1, Except.ok.injEq, Prod.mk.injEq, true_and]; omega
theorem hexGo_sh {t u : List Int} {d : Nat} (h : Sh t u d) : ∀ (f i : Nat) (c : Int), hexGo u f (i + d) c = sh1 d (hexGo t f i c) := by
  intro f
  induction f with
  | zero => intro i c; rfl
  | succ f ih =>
    intro i c
    unfold hexGo
    rw [h.nx, hexDigit_sh h]
    split
    · rfl
    · cases hexDigit t i with
      | error k => rfl
      | ok x => obtain ⟨v, j⟩ := x; simp only [sh1]; exact ih _ _
theorem hexNum_sh {t u : List Int} {d : Nat} (h : Sh t u d) (i : Nat) : hexNum u (i + d) = sh1 d (hexNum t i) := by
  unfold hexNum
  rw [h.nx, show i + d + 1 = i + 1 + d by omega, hexDigit_sh h, hexDigit_sh h]
  split
  · cases hexDigit t (i + 1) with
    | error k => rfl
    | ok x =>
      obtain ⟨v, j⟩ := x
      simp only [sh1]
      rw [hexGo_sh h]
      cases hexGo t 5 j v with
      | error k => rfl
      | ok x =>
        obtain ⟨c, k⟩ := x
        simp only [sh1]
        rw [h.nx]
        split
        · simp only [Except.ok.injEq, Prod.mk.injEq, true_and]; omega
        · rfl
  · cases hexDigit t i with
    | error k => rfl
    | ok x =>
      obtain ⟨v, j⟩ := x
      simp only [sh1]
      rw [hexDigit_sh h]
      cases hexDigit t j with
      | error k => rfl
      | ok x => obtain ⟨c, k⟩ := x; rfl
def shN (d : Nat) : Except Nat Nat → Except Nat Nat
  | .error k => .error (k + d)
  | .ok k => .ok (k + d)
theorem cont_sh {t u : List Int} {d : Nat} (h : Sh t u d) : ∀ (m i : Nat) (a b : Int), cont u m (i + d) a b = shN d (cont t m i a b) := by
  intro m
  induction m with
  | zero => intro i a b; rfl
  | succ m ih =>
    intro i a b
    unfold cont
    rw [h.nx, show i + d + 1 = i + 1 + d by omega, ih]
    split
    · rfl
    · rfl
theorem runeBut_sh {t u : List Int} {d : Nat} (h : Sh t u d) (s : ByteArray) (i : Nat) : runeBut u s (i + d) = sh1 d (runeBut t s i) := by
  unfold runeBut
  rw [h.nx]
  split
  · rfl
  · cases rb (nx t i) with
    | none => rfl
    | some x =>
      obtain ⟨m, a, b⟩ := x
      simp only
      rw [show i + d + 1 = i + 1 + d by omega, cont_sh h]
      cases cont t m (i + 1) a b with
      | error k => rfl
      | ok k =>
        simp only [shN, sh1]
        rw [show k + d - (i + d) = k - i by omega, show u.drop (i + d) = t.drop i by rw [← h.cut, List.drop_drop, Nat.add_comm]]
theorem single_sh {t u : List Int} {d : Nat} (h : Sh t u d) (i : Nat) : single u (i + d) = sh1 d (single t i) := by
  unfold single
  rw [h.nx, h.nx1, show i + d + 2 = i + 2 + d by omega, hexNum_sh h]
  repeat' split
  all_goals first | rfl | (simp only [sh1, Except.error.injEq]; omega)
theorem note_some (wr : Wr) (c a : Int) : note wr c a ≠ none := by
  unfold note
  cases wr with
  | none => simp
  | some x => obtain ⟨p, q⟩ := x; simp only; split <;> simp
theorem noteIf_none {b : Bool} {wr : Wr} {c a : Int} (h : noteIf b wr c a = none) : b = false ∧ wr = none := by
  unfold noteIf at h
  cases b with
  | true => exact absurd h (by simp [note_some])
  | false => exact ⟨rfl, by simpa using h⟩
theorem single2_sh {t u : List Int} {d : Nat} (h : Sh t u d) {i k : Nat} {x : Int × Bool} {wr : Wr} (wr' : Wr) (hs : single2 t i wr = .ok (x, k, none)) : single2 u (i + d) wr' = .ok (x, k + d, wr') ∧ wr = none := by
  unfold single2 at hs ⊢
  rw [single_sh h]
  cases hq : single t i with
  | error k => rw [hq] at hs; simp at hs
  | ok y =>
    obtain ⟨c, j⟩ := y
    rw [hq] at hs
    simp only [sh1] at hs ⊢
    by_cases hr : runeOK c = true
    · rw [if_pos hr] at hs ⊢
      simp only [Except.ok.injEq, Prod.mk.injEq] at hs ⊢
      obtain ⟨h1, h2, h3⟩ := hs
      exact ⟨⟨h1, by omega, trivial⟩, h3⟩
    · rw [if_neg hr] at hs
      simp only [Except.ok.injEq, Prod.mk.injEq] at hs
      exact absurd hs.2.2 (note_some _ _ _)
theorem one_sh {t u : List Int} {d : Nat} (h : Sh t u d) {i k : Nat} {x : Int × Bool} {wr : Wr} (wr' : Wr) (hs : one t i wr = .ok (x, k, none)) : one u (i + d) wr' = .ok (x, k + d, wr') ∧ wr = none := by
  unfold one at hs ⊢
  rw [h.nx]
  split at hs
  · rename_i h92
    rw [if_pos h92]
    exact single2_sh h wr' hs
  · rename_i h92
    rw [if_neg h92, runeBut_sh h]
    cases hq : runeBut t notOne i with
    | error k => rw [hq] at hs; simp at hs
    | ok y =>
      obtain ⟨c, j⟩ := y
      rw [hq] at hs
      simp only [sh1, Except.ok.injEq, Prod.mk.injEq] at hs ⊢
      obtain ⟨h1, h2, h3⟩ := hs
      exact ⟨⟨h1, by omega, trivial⟩, h3⟩
theorem itemEnd_sh {fold right : Bool} {at_ : Nat} {lo hi : Int} {k k2 : Nat} {wr : Wr} {L : Rng} (at2 : Nat) (d : Nat) (wr' : Wr) (hs : itemEnd fold right at_ lo hi k wr = .ok (L, k2, none)) : itemEnd fold right at2 lo hi (k + d) wr' = .ok (L, k2 + d, wr') ∧ wr = none := by
  unfold itemEnd at hs ⊢
  split at hs
  · rename_i hr
    rw [if_pos hr]
    split at hs
    · simp only [Except.ok.injEq, Prod.mk.injEq] at hs
      exact absurd hs.2.2 (note_some _ _ _)
    · rename_i hlo
      rw [if_neg hlo]
      simp only [Except.ok.injEq, Prod.mk.injEq] at hs ⊢
      obtain ⟨h1, h2, h3⟩ := hs
      exact ⟨⟨h1, by omega, trivial⟩, h3⟩
  · rename_i hr
    rw [if_neg hr]
    simp only [Except.ok.injEq, Prod.mk.injEq] at hs ⊢
    obtain ⟨h1, h2, h3⟩ := hs
    exact ⟨⟨h1, by omega, trivial⟩, h3⟩
theorem item_sh {t u : List Int} {d : Nat} (h : Sh t u d) {fold : Bool} {i k : Nat} {L : Rng} {wr : Wr} (wr' : Wr) (hs : item t fold i wr = .ok (L, k, none)) : item u fold (i + d) wr' = .ok (L, k + d, wr') ∧ wr = none := by
  have e : setAt u (i + d) = setAt t i := by
    unfold setAt
    rw [h.nx, show i + d + 1 = i + 1 + d by omega, h.getD]
  unfold item at hs ⊢
  rw [e]
  cases hq : setAt t i with
  | some L2 =>
    rw [hq] at hs
    simp only [Except.ok.injEq, Prod.mk.injEq] at hs ⊢
    obtain ⟨h1, h2, h3⟩ := hs
    exact ⟨⟨h1, by omega, trivial⟩, h3⟩
  | none =>
    rw [hq] at hs
    simp only at hs ⊢
    cases ho : one t i wr with
    | error k => rw [ho] at hs; simp at hs
    | ok y =>
      obtain ⟨⟨lo, r1⟩, j, wr1⟩ := y
      rw [ho] at hs
      simp only at hs
      by_cases h45 : nx t j = 45
      · rw [if_pos h45] at hs
        cases ho2 : one t (j + 1) wr1 with
        | error k => rw [ho2] at hs; simp at hs
        | ok y =>
          obtain ⟨⟨hi, r2⟩, k2, wr2⟩ := y
          rw [ho2] at hs
          simp only at hs
          obtain ⟨q1, rfl⟩ := itemEnd_sh (i + d) d wr' hs
          obtain ⟨q2, rfl⟩ := one_sh h wr' ho2
          obtain ⟨q3, rfl⟩ := one_sh h wr' ho
          rw [q3]
          simp only
          rw [h.nx, if_pos h45, show j + d + 1 = j + 1 + d by omega, q2]
          exact ⟨q1, trivial⟩
      · rw [if_neg h45] at hs
        obtain ⟨q1, rfl⟩ := itemEnd_sh (i + d) d wr' hs
        obtain ⟨q3, rfl⟩ := one_sh h wr' ho
        rw [q3]
        simp only
        rw [h.nx, if_neg h45]
        exact ⟨q1, trivial⟩
end Go.Proofs.YtenanfkmmkmolaaGreatDoor
/- HELPERS: a text behind another one: classes, atoms, counts, names. -/
namespace Go.Proofs.YtenanfkmmkmolaaGreatDoor
open Go.RowKit Go.Mx
set_option linter.unusedVariables false
set_option linter.unusedSimpArgs false
theorem items_sh {t u : List Int} {d : Nat} (h : Sh t u d) {fold : Bool} (wr' : Wr) : ∀ (f f' : Nat) (L : Rng) (k : Nat) (wr : Wr) (L' : Rng) (e : Nat), f ≤ f' → items t fold f L k wr = .ok (L', e, none) → items u fold f' L (k + d) wr' = .ok (L', e + d, wr') ∧ wr = none := by
  intro f
  induction f with
  | zero => intro f' L k wr L' e h1 h2; simp [items] at h2
  | succ f ih =>
    intro f' L k wr L' e h1 h2
    obtain ⟨g, rfl⟩ : ∃ g, f' = g + 1 := ⟨f' - 1, by omega⟩
    unfold items at h2 ⊢
    rw [h.nx]
    by_cases h93 : nx t k = 93
    · rw [if_pos h93] at h2 ⊢
      simp only [Except.ok.injEq, Prod.mk.injEq] at h2 ⊢
      obtain ⟨q1, q2, q3⟩ := h2
      exact ⟨⟨q1, by omega, trivial⟩, q3⟩
    · rw [if_neg h93] at h2 ⊢
      cases hz : item t fold k wr with
      | error j => rw [hz] at h2; simp at h2
      | ok y =>
        obtain ⟨L2, j, wr3⟩ := y
        rw [hz] at h2
        simp only at h2
        obtain ⟨q1, rfl⟩ := ih g (L ++ L2) j wr3 L' e (by omega) h2
        obtain ⟨q2, q3⟩ := item_sh h wr' hz
        rw [q2]
        exact ⟨q1, q3⟩
theorem classP_sh {t u : List Int} {d : Nat} (h : Sh t u d) {fold : Bool} {i k : Nat} {L : Rng} {wr : Wr} (wr' : Wr) (hs : classP t fold i wr = .ok (L, k, none)) : classP u fold (i + d) wr' = .ok (L, k + d, wr') ∧ wr = none := by
  unfold classP at hs ⊢
  rw [h.nx, h.nx1]
  by_cases h91 : nx t i = 91
  · rw [if_pos h91] at hs ⊢
    have e : (if nx t (i + 1) = 94 then i + d + 2 else i + d + 1) = (if nx t (i + 1) = 94 then i + 2 else i + 1) + d := by split <;> omega
    rw [e]
    cases hz : item t fold (if nx t (i + 1) = 94 then i + 2 else i + 1) wr with
    | error j => rw [hz] at hs; simp at hs
    | ok y =>
      obtain ⟨L1, k1, wr1⟩ := y
      rw [hz] at hs
      simp only at hs
      cases hy : items t fold (t.length + 1) L1 k1 wr1 with
      | error j => rw [hy] at hs; simp at hs
      | ok y =>
        obtain ⟨L2, k2, wr2⟩ := y
        rw [hy] at hs
        simp only [Except.ok.injEq, Prod.mk.injEq] at hs
        obtain ⟨q1, q2, q3⟩ := hs
        obtain ⟨b0, rfl⟩ := noteIf_none q3
        obtain ⟨q4, rfl⟩ := items_sh h wr' _ (u.length + 1) L1 k1 wr1 L2 k2 (by have := h.len; omega) hy
        obtain ⟨q5, rfl⟩ := item_sh h wr' hz
        rw [q5]
        simp only
        rw [q4]
        simp only [b0, noteIf, Except.ok.injEq, Prod.mk.injEq]
        exact ⟨⟨q1, by omega, by simp⟩, trivial⟩
  · rw [if_neg h91] at hs
    simp at hs
theorem atomP_sh {t u : List Int} {d : Nat} (h : Sh t u d) {fold all : Bool} {i k : Nat} {x : Tree} {wr : Wr} (wr' : Wr) (hs : atomP t fold all i wr = .ok (x, k, none)) : atomP u fold all (i + d) wr' = .ok (x, k + d, wr') ∧ wr = none := by
  unfold atomP at hs ⊢
  rw [h.nx, show i + d + 1 = i + 1 + d by omega, h.getD]
  by_cases h1 : nx t i = 46
  · rw [if_pos h1] at hs ⊢
    simp only [Except.ok.injEq, Prod.mk.injEq] at hs ⊢
    exact ⟨⟨hs.1, by omega, trivial⟩, hs.2.2⟩
  rw [if_neg h1] at hs ⊢
  by_cases h2 : nx t i = 94
  · rw [if_pos h2] at hs ⊢
    simp only [Except.ok.injEq, Prod.mk.injEq] at hs ⊢
    exact ⟨⟨hs.1, by omega, trivial⟩, hs.2.2⟩
  rw [if_neg h2] at hs ⊢
  by_cases h3 : nx t i = 36
  · rw [if_pos h3] at hs ⊢
    simp only [Except.ok.injEq, Prod.mk.injEq] at hs ⊢
    exact ⟨⟨hs.1, by omega, trivial⟩, hs.2.2⟩
  rw [if_neg h3] at hs ⊢
  by_cases h4 : nx t i = 91
  · rw [if_pos h4] at hs ⊢
    cases hz : classP t fold i wr with
    | error j => rw [hz] at hs; simp at hs
    | ok y =>
      obtain ⟨L, j, wr2⟩ := y
      rw [hz] at hs
      simp only [Except.ok.injEq, Prod.mk.injEq] at hs
      obtain ⟨q1, q2, rfl⟩ := hs
      obtain ⟨q4, q5⟩ := classP_sh h wr' hz
      rw [q4]
      simp only [Except.ok.injEq, Prod.mk.injEq]
      exact ⟨⟨q1, by omega, trivial⟩, q5⟩
  rw [if_neg h4] at hs ⊢
  by_cases h5 : nx t i = 92
  · rw [if_pos h5] at hs ⊢
    by_cases h6 : assertL (t.getD (i + 1) 0) = 0
    · rw [if_pos h6] at hs ⊢
      cases hz : setL (t.getD (i + 1) 0) with
      | some L =>
        rw [hz] at hs
        simp only [Except.ok.injEq, Prod.mk.injEq] at hs ⊢
        exact ⟨⟨hs.1, by omega, trivial⟩, hs.2.2⟩
      | none =>
        rw [hz] at hs
        simp only at hs ⊢
        cases hy : single2 t i wr with
        | error j => rw [hy] at hs; simp at hs
        | ok y =>
          obtain ⟨⟨c, b⟩, j, wr2⟩ := y
          rw [hy] at hs
          simp only [Except.ok.injEq, Prod.mk.injEq] at hs
          obtain ⟨q1, q2, rfl⟩ := hs
          obtain ⟨q4, q5⟩ := single2_sh h wr' hy
          rw [q4]
          simp only [Except.ok.injEq, Prod.mk.injEq]
          exact ⟨⟨q1, by omega, trivial⟩, q5⟩
    · rw [if_neg h6] at hs ⊢
      simp only [Except.ok.injEq, Prod.mk.injEq] at hs ⊢
      exact ⟨⟨hs.1, by omega, trivial⟩, hs.2.2⟩
  rw [if_neg h5] at hs ⊢
  rw [runeBut_sh h]
  cases hz : runeBut t notPlain i with
  | error j => rw [hz] at hs; simp at hs
  | ok y =>
    obtain ⟨c, j⟩ := y
    rw [hz] at hs
    simp only [sh1, Except.ok.injEq, Prod.mk.injEq] at hs ⊢
    exact ⟨⟨hs.1, by omega, trivial⟩, hs.2.2⟩
theorem numbers_sh {t u : List Int} {d : Nat} (h : Sh t u d) {i k : Nat} {x : Int × Int} {wr : Wr} (wr' : Wr) (hs : numbers t i wr = .ok (x, k, none)) : numbers u (i + d) wr' = .ok (x, k + d, wr') ∧ wr = none := by
  unfold numbers at hs ⊢
  rw [h.nx, show i + d + 1 = i + 1 + d by omega, number_sh h]
  by_cases h1 : nx t i = 123
  · rw [if_pos h1] at hs ⊢
    cases hz : number t (i + 1) with
    | error j => rw [hz] at hs; simp at hs
    | ok y =>
      obtain ⟨lo, j⟩ := y
      rw [hz] at hs
      simp only [sh1] at hs ⊢
      rw [h.nx, show j + d + 1 = j + 1 + d by omega, h.nx, number_sh h]
      by_cases h2 : nx t j = 44
      · rw [if_pos h2] at hs ⊢
        by_cases h3 : nx t (j + 1) = 125
        · rw [if_pos h3] at hs ⊢
          simp only [Except.ok.injEq, Prod.mk.injEq] at hs ⊢
          obtain ⟨q1, q2, q3⟩ := hs
          obtain ⟨b0, rfl⟩ := noteIf_none q3
          exact ⟨⟨q1, by omega, by simp [noteIf, b0]⟩, rfl⟩
        · rw [if_neg h3] at hs ⊢
          cases hy : number t (j + 1) with
          | error j => rw [hy] at hs; simp at hs
          | ok y =>
            obtain ⟨hi, k2⟩ := y
            rw [hy] at hs
            simp only [sh1] at hs ⊢
            rw [h.nx]
            by_cases h4 : nx t k2 = 125
            · rw [if_pos h4] at hs ⊢
              simp only [Except.ok.injEq, Prod.mk.injEq] at hs ⊢
              obtain ⟨q1, q2, q3⟩ := hs
              obtain ⟨b0, rfl⟩ := noteIf_none q3
              exact ⟨⟨q1, by omega, by rw [b0]; simp [noteIf]⟩, rfl⟩
            · rw [if_neg h4] at hs
              simp at hs
      · rw [if_neg h2] at hs ⊢
        by_cases h4 : nx t j = 125
        · rw [if_pos h4] at hs ⊢
          simp only [Except.ok.injEq, Prod.mk.injEq] at hs ⊢
          obtain ⟨q1, q2, q3⟩ := hs
          obtain ⟨b0, rfl⟩ := noteIf_none q3
          exact ⟨⟨q1, by omega, by rw [b0]; simp [noteIf]⟩, rfl⟩
        · rw [if_neg h4] at hs
          simp at hs
  · rw [if_neg h1] at hs
    simp at hs
theorem lazyAt_sh {t u : List Int} {d : Nat} (h : Sh t u d) (i : Nat) : lazyAt u (i + d) = ((lazyAt t i).1, (lazyAt t i).2 + d) := by
  unfold lazyAt
  rw [h.nx]
  split
  · simp only [Prod.mk.injEq, true_and]; omega
  · rfl
theorem counted_sh {t u : List Int} {d : Nat} (h : Sh t u d) {x y : Tree} {i k : Nat} {wr : Wr} (wr' : Wr) (hs : counted t x i wr = .ok (y, k, none)) : counted u x (i + d) wr' = .ok (y, k + d, wr') ∧ wr = none := by
  unfold counted at hs ⊢
  rw [h.nx, show i + d + 1 = i + 1 + d by omega, lazyAt_sh h]
  by_cases h1 : nx t i = 42
  · rw [if_pos h1] at hs ⊢
    simp only [Except.ok.injEq, Prod.mk.injEq] at hs ⊢
    exact ⟨⟨hs.1, by omega, trivial⟩, hs.2.2⟩
  rw [if_neg h1] at hs ⊢
  by_cases h2 : nx t i = 43
  · rw [if_pos h2] at hs ⊢
    simp only [Except.ok.injEq, Prod.mk.injEq] at hs ⊢
    exact ⟨⟨hs.1, by omega, trivial⟩, hs.2.2⟩
  rw [if_neg h2] at hs ⊢
  by_cases h3 : nx t i = 63
  · rw [if_pos h3] at hs ⊢
    simp only [Except.ok.injEq, Prod.mk.injEq] at hs ⊢
    exact ⟨⟨hs.1, by omega, trivial⟩, hs.2.2⟩
  rw [if_neg h3] at hs ⊢
  by_cases h4 : nx t i = 123
  · rw [if_pos h4] at hs ⊢
    cases hz : numbers t i wr with
    | error j => rw [hz] at hs; simp at hs
    | ok z =>
      obtain ⟨⟨lo, hi⟩, j, wr2⟩ := z
      rw [hz] at hs
      simp only [Except.ok.injEq, Prod.mk.injEq] at hs
      obtain ⟨q1, q2, rfl⟩ := hs
      obtain ⟨q4, q5⟩ := numbers_sh h wr' hz
      rw [q4]
      simp only [lazyAt_sh h, Except.ok.injEq, Prod.mk.injEq]
      exact ⟨⟨q1, by omega, trivial⟩, q5⟩
  rw [if_neg h4] at hs ⊢
  simp only [Except.ok.injEq, Prod.mk.injEq] at hs ⊢
  exact ⟨⟨hs.1, by omega, trivial⟩, hs.2.2⟩
theorem nameGo_sh {t u : List Int} {d : Nat} (h : Sh t u d) : ∀ (f i : Nat), nameGo u f (i + d) = nameGo t f i + d := by
  intro f
  induction f with
  | zero => intro i; rfl
  | succ f ih =>
    intro i
    unfold nameGo
    rw [h.nx, show i + d + 1 = i + 1 + d by omega, ih]
    split <;> rfl
theorem nameP_sh {t u : List Int} {d : Nat} (h : Sh t u d) (i : Nat) : nameP u (i + d) = sh1 d (nameP t i) := by
  unfold nameP
  rw [h.nx, show i + d + 1 = i + 1 + d by omega, h.nx, nameGo_sh h, h.nx, show nameGo t 32 (i + 1) + d - (i + 1 + d) = nameGo t 32 (i + 1) - (i + 1) by omega, show u.drop (i + 1 + d) = t.drop (i + 1) by rw [← h.cut, List.drop_drop, Nat.add_comm d]]
  repeat' split
  all_goals first | rfl | (simp only [sh1, Except.ok.injEq, Prod.mk.injEq, true_and]; omega)
end Go.Proofs.YtenanfkmmkmolaaGreatDoor
/- HELPERS: a text behind another one: rounds. -/
namespace Go.Proofs.YtenanfkmmkmolaaGreatDoor
open Go.RowKit Go.Mx
set_option linter.unusedVariables false
set_option linter.unusedSimpArgs false
/-- a level with more cats ahead -/
def bump (C : List Tree) (l : Lev) : Lev := { l with cats := C ++ l.cats }
/-- nothing wrong but the nesting, and nothing at all if no level lies below -/
def OkW (E : List Lev) (wr : Wr) : Prop := wr = none ∨ (E ≠ [] ∧ ∃ a, wr = some (45, a))
/-- S, seen in the longer text: below it lie the levels E, its first level has the cats C ahead -/
structure Rel (E : List Lev) (C : List Tree) (d : Nat) (S S' : St) : Prop where
  pos : S'.pos = S.pos + d
  levs : (S.low = [] ∧ S'.low = E ∧ S'.top = bump C S.top) ∨ (∃ l0 ls, S.low = l0 :: ls ∧ S'.low = E ++ bump C l0 :: ls ∧ S'.top = S.top)
  groups : S'.groups = S.groups
  names : S'.names = S.names
  ok : OkW E S'.wr
theorem Rel.fold {E : List Lev} {C : List Tree} {d : Nat} {S S' : St} (h : Rel E C d S S') : S'.top.fold = S.top.fold ∧ S'.top.all = S.top.all := by
  rcases h.levs with ⟨_, _, h3⟩ | ⟨_, _, _, _, h3⟩ <;> rw [h3]
  · exact ⟨rfl, rfl⟩
  · exact ⟨rfl, rfl⟩
theorem OkW.note {E : List Lev} {wr : Wr} (h : OkW E wr) (hE : E ≠ []) (a : Int) : OkW E (note wr 45 a) := by
  right
  refine ⟨hE, ?_⟩
  rcases h with rfl | ⟨_, b, rfl⟩
  · exact ⟨a, rfl⟩
  · unfold Go.Proofs.YtenanfkmmkmolaaGreatDoor.note
    simp only
    split
    · exact ⟨b, rfl⟩
    · exact ⟨a, rfl⟩
theorem addRep_sh {t u : List Int} {d : Nat} (h : Sh t u d) {E : List Lev} {C : List Tree} {x : Tree} {S S' S2 : St} (hR : Rel E C d S S') (hs : addRep t x S = .ok S2) (hw : S2.wr = none) : ∃ S2', addRep u x S' = .ok S2' ∧ Rel E C d S2 S2' ∧ S.wr = none := by
  unfold addRep at hs ⊢
  cases hc : counted t x S.pos S.wr with
  | error k => rw [hc] at hs; simp at hs
  | ok y =>
    obtain ⟨y, k, wr2⟩ := y
    rw [hc] at hs
    simp only [Except.ok.injEq] at hs
    subst hs
    simp only at hw
    subst hw
    obtain ⟨q1, q2⟩ := counted_sh h S'.wr hc
    rw [hR.pos, q1]
    refine ⟨_, rfl, ?_, q2⟩
    refine ⟨rfl, ?_, hR.groups, hR.names, hR.ok⟩
    rcases hR.levs with ⟨h1, h2, h3⟩ | ⟨l0, ls, h1, h2, h3⟩
    · exact .inl ⟨h1, h2, by simp only [h3]; rfl⟩
    · exact .inr ⟨l0, ls, h1, h2, by simp only [h3]⟩
theorem opened_sh {E : List Lev} {C : List Tree} {d : Nat} {S S' : St} (hR : Rel E C d S S') {i k i' k' : Nat} (hk : k' = k + d) {l l' : Lev} (hl : l' = l) (hw : (opened S i k l none).wr = none) {wr' : Wr} (hok : OkW E wr') : Rel E C d (opened S i k l none) (opened S' i' k' l' wr') := by
  subst hl hk
  unfold opened at hw ⊢
  simp only at hw
  obtain ⟨b0, _⟩ := noteIf_none hw
  simp only [decide_eq_false_iff_not] at b0
  refine ⟨rfl, ?_, hR.groups, hR.names, ?_⟩
  · rcases hR.levs with ⟨h1, h2, h3⟩ | ⟨l0, ls, h1, h2, h3⟩
    · exact .inr ⟨S.top, [], by simp [h1], by simp [h2, h3], rfl⟩
    · exact .inr ⟨l0, ls ++ [S.top], by simp [h1], by simp [h2, h3], rfl⟩
  · simp only
    have hlen : S'.low.length = E.length + S.low.length := by
      rcases hR.levs with ⟨h1, h2, h3⟩ | ⟨l0, ls, h1, h2, h3⟩
      · rw [h1, h2]; simp
      · rw [h1, h2]; simp
    unfold noteIf
    split
    · rename_i hge
      simp at hge
      have hE : E ≠ [] := by
        intro e
        rw [e] at hlen
        simp at hlen
        omega
      exact hok.note hE _
    · exact hok
theorem begins_sh {t u : List Int} {d : Nat} (h : Sh t u d) {E : List Lev} {C : List Tree} {S S' S2 : St} (hR : Rel E C d S S') (hs : begins t S = .ok S2) (hw : S2.wr = none) : ∃ S2', begins u S' = .ok S2' ∧ Rel E C d S2 S2' ∧ S.wr = none := by
  obtain ⟨f1, f2⟩ := hR.fold
  have hin : inner0 S' = inner0 S := by unfold inner0; rw [f1, f2]
  unfold begins at hs ⊢
  simp only [hR.pos, h.nx1, hin, hR.groups, hR.names, f1, f2] at hs ⊢
  by_cases h1 : nx t (S.pos + 1) = 63
  · rw [if_pos h1] at hs ⊢
    by_cases h2 : nx t (S.pos + 2) = 80
    · rw [if_pos h2] at hs ⊢
      rw [show S.pos + d + 3 = S.pos + 3 + d by omega, nameP_sh h]
      cases hz : nameP t (S.pos + 3) with
      | error k => rw [hz] at hs; simp at hs
      | ok y =>
        obtain ⟨nm, k⟩ := y
        rw [hz] at hs
        simp only [Except.ok.injEq] at hs
        subst hs
        simp only [sh1]
        simp only at hw
        have hw' := hw
        unfold opened at hw'
        simp only at hw'
        obtain ⟨_, c0⟩ := noteIf_none hw'
        unfold capWr at c0
        obtain ⟨c1, c2⟩ := noteIf_none c0
        obtain ⟨c3, c4⟩ := noteIf_none c2
        have e1 : capWr S S.pos (noteIf (hasName S.names nm) S.wr 44 S.pos) = none := by
          unfold capWr; exact c0
        have e2 : capWr S' (S.pos + d) (noteIf (hasName S.names nm) S'.wr 44 ((S.pos + d : Nat) : Int)) = S'.wr := by
          unfold capWr
          rw [hR.groups, c1, c3]
          simp [noteIf]
        rw [e1] at hw ⊢
        rw [e2]
        refine ⟨_, rfl, ?_, c4⟩
        have := opened_sh (i := S.pos) (k := k) (i' := S.pos + d) (k' := k + d) hR rfl (rfl : ({ inner0 S with index := (S.groups : Int) + 1, name := nm } : Lev) = _) hw hR.ok
        exact ⟨this.pos, this.levs, rfl, rfl, this.ok⟩
    · rw [if_neg h2] at hs ⊢
      have ei : (if nx t (S.pos + 2) = 105 then S.pos + d + 3 else S.pos + d + 2) = (if nx t (S.pos + 2) = 105 then S.pos + 3 else S.pos + 2) + d := by split <;> omega
      rw [ei]
      obtain ⟨i1, hi1⟩ : ∃ i1, i1 = (if nx t (S.pos + 2) = 105 then S.pos + 3 else S.pos + 2) := ⟨_, rfl⟩
      rw [← hi1] at hs ⊢
      rw [h.nx]
      have ej : (if nx t i1 = 115 then i1 + d + 1 else i1 + d) = (if nx t i1 = 115 then i1 + 1 else i1) + d := by split <;> omega
      rw [ej]
      obtain ⟨i2, hi2⟩ : ∃ i2, i2 = (if nx t i1 = 115 then i1 + 1 else i1) := ⟨_, rfl⟩
      rw [← hi2] at hs ⊢
      rw [h.nx]
      by_cases h3 : nx t i2 = 58
      · rw [if_pos h3] at hs ⊢
        simp only [Except.ok.injEq] at hs
        subst hs
        have hw' := hw
        unfold opened at hw'
        simp only at hw'
        obtain ⟨_, c0⟩ := noteIf_none hw'
        rw [c0] at hw ⊢
        exact ⟨_, rfl, opened_sh hR (by omega) rfl hw hR.ok, rfl⟩
      · rw [if_neg h3] at hs
        simp at hs
  · rw [if_neg h1] at hs ⊢
    simp only [Except.ok.injEq] at hs
    subst hs
    simp only at hw
    have hw' := hw
    unfold opened at hw'
    simp only at hw'
    obtain ⟨_, c0⟩ := noteIf_none hw'
    unfold capWr at c0
    obtain ⟨c1, c2⟩ := noteIf_none c0
    have e1 : capWr S S.pos S.wr = none := by unfold capWr; exact c0
    have e2 : capWr S' (S.pos + d) S'.wr = S'.wr := by
      unfold capWr
      rw [hR.groups, c1]
      simp [noteIf]
    rw [e1] at hw ⊢
    rw [e2]
    refine ⟨_, rfl, ?_, c2⟩
    have := opened_sh (i := S.pos) (k := S.pos + 1) (i' := S.pos + d) (k' := S.pos + d + 1) hR (by omega) (rfl : ({ inner0 S with index := (S.groups : Int) + 1 } : Lev) = _) hw hR.ok
    exact ⟨this.pos, this.levs, rfl, hR.names, this.ok⟩
theorem ends_sh {t u : List Int} {d : Nat} (h : Sh t u d) {E : List Lev} {C : List Tree} {S S' S2 : St} (hR : Rel E C d S S') (hs : ends t S = .ok S2) (hw : S2.wr = none) : ∃ S2', ends u S' = .ok S2' ∧ Rel E C d S2 S2' ∧ S.wr = none := by
  unfold ends at hs ⊢
  rcases hR.levs with ⟨h1, h2, h3⟩ | ⟨l0, ls, h1, h2, h3⟩
  · rw [h1] at hs
    simp at hs
  · cases hg : S.low.getLast? with
    | none => rw [hg] at hs; simp at hs
    | some l =>
      rw [hg] at hs
      simp only at hs
      rcases List.eq_nil_or_concat ls with rfl | ⟨ms, m, rfl⟩
      · have e1 : S'.low.getLast? = some (bump C l0) := by rw [h2]; simp
        have e2 : l = l0 := by rw [h1] at hg; simpa using hg.symm
        rw [e1]
        simp only
        subst e2
        rw [h3]
        have key : Rel E C d { S with pos := S.pos + 1, low := S.low.dropLast, top := l } { S' with pos := S'.pos + 1, low := S'.low.dropLast, top := bump C l } :=
          ⟨by simp only [hR.pos]; omega, .inl ⟨by simp [h1], by simp [h2], rfl⟩, hR.groups, hR.names, hR.ok⟩
        have := addRep_sh h key hs hw
        exact this
      · rw [List.concat_eq_append] at h1 h2
        have h1' : S.low = (l0 :: ms) ++ [m] := by rw [h1]; rfl
        have h2' : S'.low = (E ++ bump C l0 :: ms) ++ [m] := by rw [h2]; simp
        have e1 : S'.low.getLast? = some m := by rw [h2', List.getLast?_concat]
        have e2 : l = m := by
          rw [h1', List.getLast?_concat] at hg
          simpa using hg.symm
        rw [e1]
        simp only
        subst e2
        rw [h3]
        have key : Rel E C d { S with pos := S.pos + 1, low := S.low.dropLast, top := l } { S' with pos := S'.pos + 1, low := S'.low.dropLast, top := l } :=
          ⟨by simp only [hR.pos]; omega, .inr ⟨l0, ms, by simp only [h1', List.dropLast_concat], by simp only [h2', List.dropLast_concat], rfl⟩, hR.groups, hR.names, hR.ok⟩
        have := addRep_sh h key hs hw
        exact this
theorem round_sh {t u : List Int} {d : Nat} (h : Sh t u d) {E : List Lev} {C : List Tree} {S S' S2 : St} (hR : Rel E C d S S') (hs : round t S = .ok S2) (hw : S2.wr = none) : ∃ S2', round u S' = .ok S2' ∧ Rel E C d S2 S2' ∧ S.wr = none := by
  unfold round at hs ⊢
  rw [hR.pos, h.nx]
  by_cases h1 : nx t S.pos = 124
  · rw [if_pos h1] at hs ⊢
    simp only [Except.ok.injEq] at hs
    subst hs
    refine ⟨_, rfl, ⟨by simp only; omega, ?_, hR.groups, hR.names, hR.ok⟩, hw⟩
    rcases hR.levs with ⟨q1, q2, q3⟩ | ⟨l0, ls, q1, q2, q3⟩
    · refine .inl ⟨q1, q2, ?_⟩
      simp only [q3]
      simp [bump, Lev.endCat, Lev.catOf]
    · exact .inr ⟨l0, ls, q1, q2, by simp only [q3]⟩
  rw [if_neg h1] at hs ⊢
  by_cases h2 : nx t S.pos = 40
  · rw [if_pos h2] at hs ⊢
    exact begins_sh h hR hs hw
  rw [if_neg h2] at hs ⊢
  by_cases h3 : nx t S.pos = 41
  · rw [if_pos h3] at hs ⊢
    exact ends_sh h hR hs hw
  rw [if_neg h3] at hs ⊢
  obtain ⟨f1, f2⟩ := hR.fold
  rw [f1, f2]
  cases hz : atomP t S.top.fold S.top.all S.pos S.wr with
  | error k => rw [hz] at hs; simp at hs
  | ok y =>
    obtain ⟨x, k, wr2⟩ := y
    rw [hz] at hs
    simp only at hs
    obtain ⟨S3, q1, q2, q3⟩ := addRep_sh (S := { S with pos := k, wr := wr2 }) (S' := { S' with pos := k + d }) h (E := E) (C := C) ⟨rfl, hR.levs, hR.groups, hR.names, hR.ok⟩ hs hw
    simp only at q3
    subst q3
    obtain ⟨q4, q5⟩ := atomP_sh h S'.wr hz
    rw [q4]
    exact ⟨S3, q1, q2, q5⟩
theorem round_wr {t : List Int} {S S2 : St} (hs : round t S = .ok S2) (hw : S2.wr = none) : S.wr = none := by
  have key : Rel [] [] 0 S { S with wr := none } := by
    refine ⟨rfl, ?_, rfl, rfl, .inl rfl⟩
    cases hl : S.low with
    | nil => exact .inl ⟨rfl, by simp [hl], by simp [bump]⟩
    | cons a b => exact .inr ⟨a, b, rfl, by simp [hl, bump], rfl⟩
  obtain ⟨_, _, _, q⟩ := round_sh (t := t) (u := t) (d := 0) ⟨rfl, rfl⟩ key hs hw
  exact q
theorem Run.wr {t : List Int} {S S2 : St} (h : Run t S S2) (hw : S2.wr = none) : S.wr = none := by
  induction h with
  | refl => exact hw
  | step hl h hr ih => exact round_wr h (ih hw)
/-- a run, seen in the longer text -/
theorem Run.shift {t u : List Int} {d : Nat} (h : Sh t u d) {E : List Lev} {C : List Tree} {S S2 : St} (hr : Run t S S2) (hw : S2.wr = none) : ∀ {S' : St}, Rel E C d S S' → ∃ S2', Run u S' S2' ∧ Rel E C d S2 S2' := by
  induction hr with
  | refl S => intro S' hR; exact ⟨S', .refl _, hR⟩
  | @step S S2 S3 hl h1 hr ih =>
    intro S' hR
    obtain ⟨S2', q1, q2, q3⟩ := round_sh h hR h1 (hr.wr hw)
    obtain ⟨S3', q4, q5⟩ := ih hw q2
    exact ⟨S3', .step (by rw [hR.pos, h.len]; omega) q1 q4, q5⟩
end Go.Proofs.YtenanfkmmkmolaaGreatDoor
/- HELPERS: a scan for a bar outside of brackets and classes, against the reader's rounds. -/
namespace Go.Proofs.YtenanfkmmkmolaaGreatDoor
open Go.RowKit Go.Mx
set_option linter.unusedVariables false
set_option linter.unusedSimpArgs false
def sc1 (c o : Int) (sl cl : Bool) : Option (Int × Bool × Bool) :=
  if sl = true then some (o, false, cl) else if c = 92 then some (o, true, cl) else if cl = true then some (o, false, decide (¬ c = 93))
  else if c = 91 then some (o, false, true) else if c = 40 then some (o + 1, false, false) else if c = 41 then some (o - 1, false, false)
  else if c = 124 ∧ o = 0 then none else some (o, false, false)
/-- is there a bar outside? -/
def scan : List Int → Int → Bool → Bool → Bool
  | [], _, _, _ => false
  | c :: cs, o, sl, cl => match sc1 c o sl cl with
    | none => true
    | some (o', sl', cl') => scan cs o' sl' cl'
def sc (t : List Int) (i : Nat) (o : Int) (cl : Bool) : Bool := scan (t.drop i) o false cl
theorem drop_nx {t : List Int} {i : Nat} (h : i < t.length) : t.drop i = nx t i :: t.drop (i + 1) := by
  rw [List.drop_eq_getElem_cons h]
  simp [nx, List.getD, List.getElem?_eq_getElem h]
theorem scan_cons (c : Int) (cs : List Int) (o : Int) (sl cl : Bool) : scan (c :: cs) o sl cl = match sc1 c o sl cl with
    | none => true
    | some (o', sl', cl') => scan cs o' sl' cl' := rfl
/-- a byte that turns nothing -/
def Nt (cl : Bool) (c : Int) : Prop := 0 ≤ c ∧ c ≠ 92 ∧ (cl = true → c ≠ 93) ∧ (cl = false → c ≠ 91 ∧ c ≠ 40 ∧ c ≠ 41 ∧ c ≠ 124)
theorem sc_one {t : List Int} {i : Nat} {o : Int} {cl : Bool} (h : Nt cl (nx t i)) : sc t i o cl = sc t (i + 1) o cl := by
  obtain ⟨h0, h1, h2, h3⟩ := h
  unfold sc
  rw [drop_nx (nx_lt h0)]
  rw [scan_cons]
  unfold sc1
  cases cl with
  | true => simp [h1, h2 rfl]
  | false => obtain ⟨q1, q2, q3, q4⟩ := h3 rfl; simp [h1, q1, q2, q3, q4]
theorem sc_slash {t : List Int} {i : Nat} {o : Int} {cl : Bool} (h : nx t i = 92) (hl : i + 1 < t.length) : sc t i o cl = sc t (i + 2) o cl := by
  unfold sc
  rw [drop_nx (show i < t.length by omega), h, drop_nx hl, scan_cons, show sc1 92 o false cl = some (o, true, cl) from rfl]
  simp only
  rw [scan_cons, show sc1 (nx t (i + 1)) o true cl = some (o, false, cl) from rfl]
def Sp (t : List Int) (cl : Bool) (i k : Nat) : Prop := i ≤ k ∧ ∀ m, i ≤ m → m < k → Nt cl (nx t m)
theorem Sp.refl (t : List Int) (cl : Bool) (i : Nat) : Sp t cl i i := ⟨Nat.le_refl _, fun m h1 h2 => by omega⟩
theorem Sp.trans {t : List Int} {cl : Bool} {i j k : Nat} (h : Sp t cl i j) (h2 : Sp t cl j k) : Sp t cl i k := by
  refine ⟨Nat.le_trans h.1 h2.1, fun m m1 m2 => ?_⟩
  rcases Nat.lt_or_ge m j with q | q
  · exact h.2 m m1 q
  · exact h2.2 m q m2
theorem Sp.one {t : List Int} {cl : Bool} {i : Nat} (h : Nt cl (nx t i)) : Sp t cl i (i + 1) := ⟨by omega, fun m m1 m2 => by
  obtain rfl : m = i := by omega
  exact h⟩
theorem Sp.sc {t : List Int} {cl : Bool} {o : Int} : ∀ {i k : Nat}, Sp t cl i k → sc t i o cl = sc t k o cl := by
  intro i k h
  obtain ⟨m, rfl⟩ : ∃ m, k = i + m := ⟨k - i, by have := h.1; omega⟩
  induction m with
  | zero => rfl
  | succ m ih =>
    rw [ih ⟨by omega, fun n n1 n2 => h.2 n n1 (by omega)⟩]
    exact sc_one (h.2 (i + m) (by omega) (by omega))
theorem nt_digit {cl : Bool} {c : Int} (h : 48 ≤ c ∧ c ≤ 57) : Nt cl c := ⟨by omega, by omega, fun _ => by omega, fun _ => ⟨by omega, by omega, by omega, by omega⟩⟩
theorem nt_of {cl : Bool} {c : Int} (h : 0 ≤ c) (h1 : c ≠ 92) (h2 : c ≠ 93) (h3 : c ≠ 91) (h4 : c ≠ 40) (h5 : c ≠ 41) (h6 : c ≠ 124) : Nt cl c := ⟨h, h1, fun _ => h2, fun _ => ⟨h3, h4, h5, h6⟩⟩
theorem numGo_sp (t : List Int) (cl : Bool) : ∀ (f i : Nat) (n : Int), Sp t cl i (numGo t f i n).2 := by
  intro f
  induction f with
  | zero => intro i n; exact Sp.refl _ _ _
  | succ f ih =>
    intro i n
    unfold numGo
    split
    · rename_i h
      exact (Sp.one (nt_digit h)).trans (ih _ _)
    · exact Sp.refl _ _ _
theorem number_sp {t : List Int} {cl : Bool} {i k : Nat} {n : Int} (h : number t i = .ok (n, k)) : Sp t cl i k := by
  unfold number at h
  split at h
  · rename_i h0
    simp only [Except.ok.injEq, Prod.mk.injEq] at h
    rw [← h.2]
    exact Sp.one (nt_digit (by omega))
  · split at h
    · rename_i h0
      simp only [Except.ok.injEq] at h
      have := (Sp.one (cl := cl) (nt_digit h0)).trans (numGo_sp t cl 3 (i + 1) (nx t i - 48))
      rw [h] at this
      exact this
    · simp at h
theorem hexd_nt {cl : Bool} {c v : Int} (h : hexd c = some v) : Nt cl c := by
  unfold hexd at h
  repeat' split at h
  all_goals first | (exact nt_of (by omega) (by omega) (by omega) (by omega) (by omega) (by omega) (by omega)) | simp at h
theorem hexDigit_sp {t : List Int} {cl : Bool} {i k : Nat} {v : Int} (h : hexDigit t i = .ok (v, k)) : Sp t cl i k := by
  unfold hexDigit at h
  cases hq : hexd (nx t i) with
  | none => rw [hq] at h; simp at h
  | some x =>
    rw [hq] at h
    simp only [Except.ok.injEq, Prod.mk.injEq] at h
    rw [← h.2]
    exact Sp.one (hexd_nt hq)
theorem hexGo_sp (t : List Int) (cl : Bool) : ∀ (f i : Nat) (c v : Int) (k : Nat), hexGo t f i c = .ok (v, k) → Sp t cl i k := by
  intro f
  induction f with
  | zero =>
    intro i c v k h
    simp only [hexGo, Except.ok.injEq, Prod.mk.injEq] at h
    rw [h.2]
    exact Sp.refl _ _ _
  | succ f ih =>
    intro i c v k h
    unfold hexGo at h
    split at h
    · simp only [Except.ok.injEq, Prod.mk.injEq] at h
      rw [h.2]
      exact Sp.refl _ _ _
    · cases hq : hexDigit t i with
      | error j => rw [hq] at h; simp at h
      | ok y =>
        obtain ⟨d, j⟩ := y
        rw [hq] at h
        exact (hexDigit_sp hq).trans (ih _ _ _ _ h)
theorem hexNum_sp {t : List Int} {cl : Bool} {i k : Nat} {v : Int} (h : hexNum t i = .ok (v, k)) : Sp t cl i k := by
  unfold hexNum at h
  split at h
  · rename_i h123
    cases hq : hexDigit t (i + 1) with
    | error j => rw [hq] at h; simp at h
    | ok y =>
      obtain ⟨d, j⟩ := y
      rw [hq] at h
      simp only at h
      cases hg : hexGo t 5 j d with
      | error m => rw [hg] at h; simp at h
      | ok y =>
        obtain ⟨c, m⟩ := y
        rw [hg] at h
        simp only at h
        split at h
        · rename_i h125
          simp only [Except.ok.injEq, Prod.mk.injEq] at h
          rw [← h.2]
          exact (Sp.one (nt_of (by omega) (by omega) (by omega) (by omega) (by omega) (by omega) (by omega))).trans ((hexDigit_sp hq).trans ((hexGo_sp t cl _ _ _ _ _ hg).trans (Sp.one (nt_of (by omega) (by omega) (by omega) (by omega) (by omega) (by omega) (by omega)))))
        · simp at h
  · cases hq : hexDigit t i with
    | error j => rw [hq] at h; simp at h
    | ok y =>
      obtain ⟨d, j⟩ := y
      rw [hq] at h
      simp only at h
      cases hg : hexDigit t j with
      | error m => rw [hg] at h; simp at h
      | ok y =>
        obtain ⟨c, m⟩ := y
        rw [hg] at h
        simp only [Except.ok.injEq, Prod.mk.injEq] at h
        rw [← h.2]
        exact (hexDigit_sp hq).trans (hexDigit_sp hg)
theorem cont_sp (t : List Int) (cl : Bool) : ∀ (m i : Nat) (a b : Int) (k : Nat), 127 < a → cont t m i a b = .ok k → Sp t cl i k := by
  intro m
  induction m with
  | zero =>
    intro i a b k ha h
    simp only [cont, Except.ok.injEq] at h
    rw [h]
    exact Sp.refl _ _ _
  | succ m ih =>
    intro i a b k ha h
    unfold cont at h
    split at h
    · rename_i hq
      exact (Sp.one (nt_of (by omega) (by omega) (by omega) (by omega) (by omega) (by omega) (by omega))).trans (ih _ _ _ _ (by omega) h)
    · simp at h
theorem oneOf_ne {s : ByteArray} {x : Int} (h0 : 0 ≤ x) (h : ¬ oneOf s x = true) (y : Nat) (hy : y < 256) (hm : s.data.toList.contains y.toUInt8 = true) : x ≠ (y : Int) := by
  intro e
  apply h
  unfold oneOf
  subst e
  simp only [Int.toNat_natCast, hm, Bool.and_true, decide_eq_true_eq]
  omega
theorem rb_nonneg {x : Int} {y : Nat × Int × Int} (h : rb x = some y) : 0 ≤ x ∧ (0 < y.1 → 127 < y.2.1) := by
  unfold rb at h
  repeat' split at h
  all_goals first | (simp only [Option.some.injEq] at h; subst h; exact ⟨by omega, by decide⟩) | simp at h
theorem runeBut_sp {t : List Int} {cl : Bool} {s : ByteArray} {i k : Nat} {c : Int} (hN : ∀ x, 0 ≤ x → ¬ oneOf s x = true → Nt cl x) (h : runeBut t s i = .ok (c, k)) : Sp t cl i k := by
  unfold runeBut at h
  split at h
  · simp at h
  · rename_i ho
    cases hq : rb (nx t i) with
    | none => rw [hq] at h; simp at h
    | some y =>
      obtain ⟨m, a, b⟩ := y
      rw [hq] at h
      simp only at h
      have hr := rb_nonneg hq
      cases hc : cont t m (i + 1) a b with
      | error j => rw [hc] at h; simp at h
      | ok j =>
        rw [hc] at h
        simp only [Except.ok.injEq, Prod.mk.injEq] at h
        rw [← h.2]
        refine (Sp.one (hN _ hr.1 ho)).trans ?_
        cases m with
        | zero => simp only [cont, Except.ok.injEq] at hc; rw [hc]; exact Sp.refl _ _ _
        | succ m => exact cont_sp t cl _ _ _ _ _ (hr.2 (by simp)) hc
theorem plain_nt {cl : Bool} (x : Int) (h0 : 0 ≤ x) (h : ¬ oneOf notPlain x = true) : Nt cl x :=
  nt_of h0 (oneOf_ne h0 h 92 (by decide) (by decide)) (oneOf_ne h0 h 93 (by decide) (by decide)) (oneOf_ne h0 h 91 (by decide) (by decide)) (oneOf_ne h0 h 40 (by decide) (by decide)) (oneOf_ne h0 h 41 (by decide) (by decide)) (oneOf_ne h0 h 124 (by decide) (by decide))
theorem one_nt (x : Int) (h0 : 0 ≤ x) (h : ¬ oneOf notOne x = true) : Nt true x :=
  ⟨h0, oneOf_ne h0 h 92 (by decide) (by decide), fun _ => oneOf_ne h0 h 93 (by decide) (by decide), fun h => by simp at h⟩
theorem single_sc {t : List Int} {cl : Bool} {o : Int} {i k : Nat} {c : Int} (h : single t i = .ok (c, k)) : sc t i o cl = sc t k o cl := by
  unfold single at h
  split at h
  · rename_i h92
    have hl : 0 ≤ nx t (i + 1) → sc t i o cl = sc t (i + 2) o cl := fun h0 => sc_slash h92 (nx_lt h0)
    repeat' split at h
    · rename_i h1
      rw [hl (by omega)]
      exact (hexNum_sp h).sc
    all_goals first | (simp only [Except.ok.injEq, Prod.mk.injEq] at h; rw [← h.2]; exact hl (by omega)) | simp at h
  · simp at h
theorem single2_sc {t : List Int} {cl : Bool} {o : Int} {i k : Nat} {x : Int × Bool} {wr wr2 : Wr} (h : single2 t i wr = .ok (x, k, wr2)) : sc t i o cl = sc t k o cl := by
  unfold single2 at h
  cases hq : single t i with
  | error k => rw [hq] at h; simp at h
  | ok y =>
    obtain ⟨c, j⟩ := y
    rw [hq] at h
    simp only at h
    split at h
    · simp only [Except.ok.injEq, Prod.mk.injEq] at h
      rw [← h.2.1]
      exact single_sc hq
    · simp only [Except.ok.injEq, Prod.mk.injEq] at h
      rw [← h.2.1]
      exact single_sc hq
theorem one_sc {t : List Int} {o : Int} {i k : Nat} {x : Int × Bool} {wr wr2 : Wr} (h : one t i wr = .ok (x, k, wr2)) : sc t i o true = sc t k o true := by
  unfold one at h
  split at h
  · exact single2_sc h
  · cases hq : runeBut t notOne i with
    | error k => rw [hq] at h; simp at h
    | ok y =>
      obtain ⟨c, j⟩ := y
      rw [hq] at h
      simp only [Except.ok.injEq, Prod.mk.injEq] at h
      rw [← h.2.1]
      exact (runeBut_sp one_nt hq).sc
theorem itemEnd_k {fold right : Bool} {at_ : Nat} {lo hi : Int} {k k2 : Nat} {wr wr2 : Wr} {L : Rng} (h : itemEnd fold right at_ lo hi k wr = .ok (L, k2, wr2)) : k2 = k := by
  unfold itemEnd at h
  repeat' split at h
  all_goals (simp only [Except.ok.injEq, Prod.mk.injEq] at h; exact h.2.1.symm)
theorem setL_in {t : List Int} {i : Nat} {L : Rng} (h : setL (t.getD i 0) = some L) : i < t.length := by
  rcases Nat.lt_or_ge i t.length with h' | h'
  · exact h'
  · rw [getD_off t h'] at h
    simp [setL] at h
theorem item_sc {t : List Int} {fold : Bool} {o : Int} {i k : Nat} {L : Rng} {wr wr2 : Wr} (h : item t fold i wr = .ok (L, k, wr2)) : sc t i o true = sc t k o true := by
  unfold item at h
  cases hq : setAt t i with
  | some L2 =>
    rw [hq] at h
    simp only [Except.ok.injEq, Prod.mk.injEq] at h
    rw [← h.2.1]
    unfold setAt at hq
    split at hq
    · rename_i h92
      exact sc_slash h92 (setL_in hq)
    · simp at hq
  | none =>
    rw [hq] at h
    simp only at h
    cases ho : one t i wr with
    | error k => rw [ho] at h; simp at h
    | ok y =>
      obtain ⟨⟨lo, r1⟩, j, wr1⟩ := y
      rw [ho] at h
      simp only at h
      split at h
      · rename_i h45
        cases ho2 : one t (j + 1) wr1 with
        | error k => rw [ho2] at h; simp at h
        | ok y =>
          obtain ⟨⟨hi, r2⟩, k2, wr3⟩ := y
          rw [ho2] at h
          simp only at h
          rw [itemEnd_k h, one_sc ho, sc_one (i := j) ⟨by omega, by omega, fun _ => by omega, fun h => by simp at h⟩]
          exact one_sc ho2
      · rw [itemEnd_k h]
        exact one_sc ho
theorem items_sc {t : List Int} {fold : Bool} {o : Int} : ∀ (f : Nat) (L : Rng) (k : Nat) (wr : Wr) (L' : Rng) (e : Nat) (wr2 : Wr), items t fold f L k wr = .ok (L', e, wr2) → sc t k o true = sc t e o false := by
  intro f
  induction f with
  | zero => intro L k wr L' e wr2 h; simp [items] at h
  | succ f ih =>
    intro L k wr L' e wr2 h
    unfold items at h
    split at h
    · rename_i h93
      simp only [Except.ok.injEq, Prod.mk.injEq] at h
      rw [← h.2.1]
      unfold sc
      rw [drop_nx (nx_lt (by omega)), h93, scan_cons]
      rfl
    · cases hz : item t fold k wr with
      | error j => rw [hz] at h; simp at h
      | ok y =>
        obtain ⟨L2, j, wr3⟩ := y
        rw [hz] at h
        simp only at h
        rw [item_sc hz]
        exact ih _ _ _ _ _ _ h
theorem classP_sc {t : List Int} {fold : Bool} {o : Int} {i k : Nat} {L : Rng} {wr wr2 : Wr} (h : classP t fold i wr = .ok (L, k, wr2)) : sc t i o false = sc t k o false := by
  unfold classP at h
  split at h
  · rename_i h91
    have e0 : sc t i o false = sc t (i + 1) o true := by
      unfold sc
      rw [drop_nx (nx_lt (by omega)), h91, scan_cons]
      rfl
    have e1 : sc t (i + 1) o true = sc t (if nx t (i + 1) = 94 then i + 2 else i + 1) o true := by
      split
      · rename_i h94
        exact sc_one ⟨by omega, by omega, fun _ => by omega, fun h => by simp at h⟩
      · rfl
    rw [e0, e1]
    cases hz : item t fold (if nx t (i + 1) = 94 then i + 2 else i + 1) wr with
    | error j => rw [hz] at h; simp at h
    | ok y =>
      obtain ⟨L1, k1, wr1⟩ := y
      rw [hz] at h
      simp only at h
      cases hy : items t fold (t.length + 1) L1 k1 wr1 with
      | error j => rw [hy] at h; simp at h
      | ok y =>
        obtain ⟨L2, k2, wr3⟩ := y
        rw [hy] at h
        simp only [Except.ok.injEq, Prod.mk.injEq] at h
        rw [item_sc hz, items_sc _ _ _ _ _ _ _ hy, h.2.1]
  · simp at h
end Go.Proofs.YtenanfkmmkmolaaGreatDoor
/- HELPERS: the scan for a bar: rounds. -/
namespace Go.Proofs.YtenanfkmmkmolaaGreatDoor
open Go.RowKit Go.Mx
set_option linter.unusedVariables false
set_option linter.unusedSimpArgs false
theorem nt_eq {cl : Bool} {c y : Int} (h : c = y) (hy : 0 ≤ y ∧ y ≠ 92 ∧ y ≠ 93 ∧ y ≠ 91 ∧ y ≠ 40 ∧ y ≠ 41 ∧ y ≠ 124) : Nt cl c := by
  subst h
  exact nt_of hy.1 hy.2.1 hy.2.2.1 hy.2.2.2.1 hy.2.2.2.2.1 hy.2.2.2.2.2.1 hy.2.2.2.2.2.2
theorem assertL_in {t : List Int} {i : Nat} (h : ¬ assertL (t.getD i 0) = 0) : i < t.length := by
  rcases Nat.lt_or_ge i t.length with h' | h'
  · exact h'
  · rw [getD_off t h'] at h
    exact absurd assertL_zero h
theorem atomP_sc {t : List Int} {fold all : Bool} {o : Int} {i k : Nat} {x : Tree} {wr wr2 : Wr} (h : atomP t fold all i wr = .ok (x, k, wr2)) : sc t i o false = sc t k o false := by
  unfold atomP at h
  by_cases h1 : nx t i = 46
  · rw [if_pos h1] at h
    simp only [Except.ok.injEq, Prod.mk.injEq] at h
    rw [← h.2.1]
    exact sc_one (nt_eq h1 (by decide))
  rw [if_neg h1] at h
  by_cases h2 : nx t i = 94
  · rw [if_pos h2] at h
    simp only [Except.ok.injEq, Prod.mk.injEq] at h
    rw [← h.2.1]
    exact sc_one (nt_eq h2 (by decide))
  rw [if_neg h2] at h
  by_cases h3 : nx t i = 36
  · rw [if_pos h3] at h
    simp only [Except.ok.injEq, Prod.mk.injEq] at h
    rw [← h.2.1]
    exact sc_one (nt_eq h3 (by decide))
  rw [if_neg h3] at h
  by_cases h4 : nx t i = 91
  · rw [if_pos h4] at h
    cases hz : classP t fold i wr with
    | error j => rw [hz] at h; simp at h
    | ok y =>
      obtain ⟨L, j, wr3⟩ := y
      rw [hz] at h
      simp only [Except.ok.injEq, Prod.mk.injEq] at h
      rw [← h.2.1]
      exact classP_sc hz
  rw [if_neg h4] at h
  by_cases h5 : nx t i = 92
  · rw [if_pos h5] at h
    by_cases h6 : assertL (t.getD (i + 1) 0) = 0
    · rw [if_pos h6] at h
      cases hz : setL (t.getD (i + 1) 0) with
      | some L =>
        rw [hz] at h
        simp only [Except.ok.injEq, Prod.mk.injEq] at h
        rw [← h.2.1]
        exact sc_slash h5 (setL_in hz)
      | none =>
        rw [hz] at h
        simp only at h
        cases hy : single2 t i wr with
        | error j => rw [hy] at h; simp at h
        | ok y =>
          obtain ⟨⟨c, b⟩, j, wr3⟩ := y
          rw [hy] at h
          simp only [Except.ok.injEq, Prod.mk.injEq] at h
          rw [← h.2.1]
          exact single2_sc hy
    · rw [if_neg h6] at h
      simp only [Except.ok.injEq, Prod.mk.injEq] at h
      rw [← h.2.1]
      exact sc_slash h5 (assertL_in h6)
  rw [if_neg h5] at h
  cases hz : runeBut t notPlain i with
  | error j => rw [hz] at h; simp at h
  | ok y =>
    obtain ⟨c, j⟩ := y
    rw [hz] at h
    simp only [Except.ok.injEq, Prod.mk.injEq] at h
    rw [← h.2.1]
    exact (runeBut_sp plain_nt hz).sc
theorem numbers_sp {t : List Int} {i k : Nat} {x : Int × Int} {wr wr2 : Wr} (h : numbers t i wr = .ok (x, k, wr2)) : Sp t false i k := by
  unfold numbers at h
  by_cases h1 : nx t i = 123
  · rw [if_pos h1] at h
    have s1 : Sp t false i (i + 1) := Sp.one (nt_eq h1 (by decide))
    cases hz : number t (i + 1) with
    | error j => rw [hz] at h; simp at h
    | ok y =>
      obtain ⟨lo, j⟩ := y
      rw [hz] at h
      simp only at h
      have s2 := s1.trans (number_sp hz)
      by_cases h2 : nx t j = 44
      · rw [if_pos h2] at h
        have s3 := s2.trans (Sp.one (nt_eq h2 (by decide)))
        by_cases h3 : nx t (j + 1) = 125
        · rw [if_pos h3] at h
          simp only [Except.ok.injEq, Prod.mk.injEq] at h
          rw [← h.2.1]
          exact s3.trans (Sp.one (nt_eq h3 (by decide)))
        · rw [if_neg h3] at h
          cases hy : number t (j + 1) with
          | error j => rw [hy] at h; simp at h
          | ok y =>
            obtain ⟨hi, k2⟩ := y
            rw [hy] at h
            simp only at h
            by_cases h4 : nx t k2 = 125
            · rw [if_pos h4] at h
              simp only [Except.ok.injEq, Prod.mk.injEq] at h
              rw [← h.2.1]
              exact (s3.trans (number_sp hy)).trans (Sp.one (nt_eq h4 (by decide)))
            · rw [if_neg h4] at h
              simp at h
      · rw [if_neg h2] at h
        by_cases h4 : nx t j = 125
        · rw [if_pos h4] at h
          simp only [Except.ok.injEq, Prod.mk.injEq] at h
          rw [← h.2.1]
          exact s2.trans (Sp.one (nt_eq h4 (by decide)))
        · rw [if_neg h4] at h
          simp at h
  · rw [if_neg h1] at h
    simp at h
theorem lazyAt_sp (t : List Int) (i : Nat) : Sp t false i (lazyAt t i).2 := by
  unfold lazyAt
  split
  · rename_i h
    exact Sp.one (nt_eq h (by decide))
  · exact Sp.refl _ _ _
theorem counted_sp {t : List Int} {x y : Tree} {i k : Nat} {wr wr2 : Wr} (h : counted t x i wr = .ok (y, k, wr2)) : Sp t false i k := by
  unfold counted at h
  by_cases h1 : nx t i = 42
  · rw [if_pos h1] at h
    simp only [Except.ok.injEq, Prod.mk.injEq] at h
    rw [← h.2.1]
    exact (Sp.one (nt_eq h1 (by decide))).trans (lazyAt_sp _ _)
  rw [if_neg h1] at h
  by_cases h2 : nx t i = 43
  · rw [if_pos h2] at h
    simp only [Except.ok.injEq, Prod.mk.injEq] at h
    rw [← h.2.1]
    exact (Sp.one (nt_eq h2 (by decide))).trans (lazyAt_sp _ _)
  rw [if_neg h2] at h
  by_cases h3 : nx t i = 63
  · rw [if_pos h3] at h
    simp only [Except.ok.injEq, Prod.mk.injEq] at h
    rw [← h.2.1]
    exact (Sp.one (nt_eq h3 (by decide))).trans (lazyAt_sp _ _)
  rw [if_neg h3] at h
  by_cases h4 : nx t i = 123
  · rw [if_pos h4] at h
    cases hz : numbers t i wr with
    | error j => rw [hz] at h; simp at h
    | ok z =>
      obtain ⟨⟨lo, hi⟩, j, wr3⟩ := z
      rw [hz] at h
      simp only [Except.ok.injEq, Prod.mk.injEq] at h
      rw [← h.2.1]
      exact (numbers_sp hz).trans (lazyAt_sp _ _)
  rw [if_neg h4] at h
  simp only [Except.ok.injEq, Prod.mk.injEq] at h
  rw [← h.2.1]
  exact Sp.refl _ _ _
theorem addRep_sc {t : List Int} {x : Tree} {S S2 : St} {o : Int} (h : addRep t x S = .ok S2) : sc t S.pos o false = sc t S2.pos o false ∧ S2.low = S.low ∧ S2.top.cats = S.top.cats := by
  unfold addRep at h
  cases hc : counted t x S.pos S.wr with
  | error k => rw [hc] at h; simp at h
  | ok y =>
    obtain ⟨y, k, wr2⟩ := y
    rw [hc] at h
    simp only [Except.ok.injEq] at h
    subst h
    exact ⟨(counted_sp hc).sc, rfl, rfl⟩
theorem word_nt {c : Int} (h : wordB c = true) : Nt false c := by
  unfold wordB at h
  simp only [decide_eq_true_eq] at h
  exact nt_of (by omega) (by omega) (by omega) (by omega) (by omega) (by omega) (by omega)
theorem nameGo_sp (t : List Int) : ∀ (f i : Nat), Sp t false i (nameGo t f i) := by
  intro f
  induction f with
  | zero => intro i; exact Sp.refl _ _ _
  | succ f ih =>
    intro i
    unfold nameGo
    split
    · rename_i h
      exact (Sp.one (word_nt h)).trans (ih _)
    · exact Sp.refl _ _ _
theorem nameP_sp {t : List Int} {i k : Nat} {nm : ByteArray} (h : nameP t i = .ok (nm, k)) : Sp t false i k := by
  unfold nameP at h
  repeat' split at h
  all_goals first | (simp at h; done) | skip
  rename_i h1 h2 h3
  simp only [Except.ok.injEq, Prod.mk.injEq] at h
  rw [← h.2]
  exact (Sp.one (nt_eq h1 (by decide))).trans ((nameGo_sp t _ _).trans (Sp.one (nt_eq h3 (by decide))))
theorem begins_sp {t : List Int} {S S2 : St} (h : begins t S = .ok S2) : Sp t false (S.pos + 1) S2.pos ∧ S2.low = S.low ++ [S.top] := by
  unfold begins at h
  simp only at h
  by_cases h1 : nx t (S.pos + 1) = 63
  · rw [if_pos h1] at h
    have s1 : Sp t false (S.pos + 1) (S.pos + 2) := Sp.one (nt_eq h1 (by decide))
    by_cases h2 : nx t (S.pos + 2) = 80
    · rw [if_pos h2] at h
      cases hz : nameP t (S.pos + 3) with
      | error k => rw [hz] at h; simp at h
      | ok y =>
        obtain ⟨nm, k⟩ := y
        rw [hz] at h
        simp only [Except.ok.injEq] at h
        subst h
        exact ⟨(s1.trans (Sp.one (nt_eq h2 (by decide)))).trans (nameP_sp hz), rfl⟩
    · rw [if_neg h2] at h
      obtain ⟨i1, hi1⟩ : ∃ i1, i1 = (if nx t (S.pos + 2) = 105 then S.pos + 3 else S.pos + 2) := ⟨_, rfl⟩
      have s2 : Sp t false (S.pos + 2) i1 := by
        rw [hi1]
        split
        · rename_i q; exact Sp.one (nt_eq q (by decide))
        · exact Sp.refl _ _ _
      rw [← hi1] at h
      obtain ⟨i2, hi2⟩ : ∃ i2, i2 = (if nx t i1 = 115 then i1 + 1 else i1) := ⟨_, rfl⟩
      have s3 : Sp t false i1 i2 := by
        rw [hi2]
        split
        · rename_i q; exact Sp.one (nt_eq q (by decide))
        · exact Sp.refl _ _ _
      rw [← hi2] at h
      by_cases h3 : nx t i2 = 58
      · rw [if_pos h3] at h
        simp only [Except.ok.injEq] at h
        subst h
        exact ⟨((s1.trans s2).trans s3).trans (Sp.one (nt_eq h3 (by decide))), rfl⟩
      · rw [if_neg h3] at h
        simp at h
  · rw [if_neg h1] at h
    simp only [Except.ok.injEq] at h
    subst h
    exact ⟨Sp.refl _ _ _, rfl⟩
/-- the first level's cats -/
def St.base (S : St) : List Tree := match S.low with | [] => S.top.cats | l :: _ => l.cats
/-- one round: the scan goes on, or it was a bar outside -/
theorem round_sc {t : List Int} {S S2 : St} (hl : S.pos < t.length) (h : round t S = .ok S2) :
    (nx t S.pos = 124 ∧ S.low = [] ∧ sc t S.pos (S.low.length : Int) false = true ∧ S2.base ≠ []) ∨ (sc t S.pos (S.low.length : Int) false = sc t S2.pos (S2.low.length : Int) false ∧ S2.base = S.base) := by
  unfold round at h
  by_cases h1 : nx t S.pos = 124
  · rw [if_pos h1] at h
    simp only [Except.ok.injEq] at h
    subst h
    cases hlow : S.low with
    | nil =>
      left
      refine ⟨h1, rfl, ?_, by simp [St.base, Lev.endCat, hlow]⟩
      unfold sc
      rw [drop_nx hl, h1, scan_cons]
      rfl
    | cons a b =>
      right
      refine ⟨?_, by simp [St.base, hlow]⟩
      unfold sc
      rw [drop_nx hl, h1, scan_cons]
      have : sc1 124 ((a :: b).length : Int) false false = some (((a :: b).length : Int), false, false) := by
        unfold sc1
        simp
        omega
      rw [this]
  rw [if_neg h1] at h
  right
  by_cases h2 : nx t S.pos = 40
  · rw [if_pos h2] at h
    obtain ⟨q1, q2⟩ := begins_sp h
    refine ⟨?_, ?_⟩
    · rw [← q1.sc, q2]
      unfold sc
      rw [drop_nx hl, h2, scan_cons]
      have : sc1 40 (S.low.length : Int) false false = some ((((S.low ++ [S.top]).length : Nat) : Int), false, false) := by
        unfold sc1
        simp
      rw [this]
    · unfold St.base
      rw [q2]
      cases S.low with
      | nil => rfl
      | cons a b => rfl
  rw [if_neg h2] at h
  by_cases h3 : nx t S.pos = 41
  · rw [if_pos h3] at h
    unfold ends at h
    cases hg : S.low.getLast? with
    | none => rw [hg] at h; simp at h
    | some l =>
      rw [hg] at h
      simp only at h
      obtain ⟨q1, q2, q3⟩ := addRep_sc (o := (S2.low.length : Int)) h
      simp only at q1 q2 q3
      have hne : S.low ≠ [] := fun e => by rw [e] at hg; simp at hg
      have hc : S.low = S.low.dropLast ++ [l] := by
        have := List.dropLast_concat_getLast hne
        rw [List.getLast?_eq_some_getLast hne] at hg
        simp only [Option.some.injEq] at hg
        rw [hg] at this
        exact this.symm
      refine ⟨?_, ?_⟩
      · rw [← q1]
        unfold sc
        rw [drop_nx hl, h3, scan_cons]
        have : sc1 41 (S.low.length : Int) false false = some ((S2.low.length : Int), false, false) := by
          rw [q2]
          unfold sc1
          have : 0 < S.low.length := List.length_pos_iff.2 hne
          simp
          omega
        rw [this]
      · unfold St.base
        rw [q2, q3]
        cases hd : S.low.dropLast with
        | nil =>
          rw [hd] at hc
          rw [hc]
          rfl
        | cons a b =>
          rw [hd] at hc
          rw [hc]
          rfl
  rw [if_neg h3] at h
  cases hz : atomP t S.top.fold S.top.all S.pos S.wr with
  | error k => rw [hz] at h; simp at h
  | ok y =>
    obtain ⟨x, k, wr2⟩ := y
    rw [hz] at h
    simp only at h
    obtain ⟨q1, q2, q3⟩ := addRep_sc (o := (S2.low.length : Int)) h
    simp only at q1 q2 q3
    refine ⟨?_, ?_⟩
    · rw [← q1, q2]
      exact atomP_sc hz
    · unfold St.base
      rw [q2, q3]
theorem Run.base {t : List Int} {S S2 : St} (h : Run t S S2) (hb : S.base ≠ []) : S2.base ≠ [] := by
  induction h with
  | refl => exact hb
  | step hl h hr ih =>
    rcases round_sc hl h with ⟨_, _, _, q⟩ | ⟨_, q⟩
    · exact ih q
    · exact ih (by rw [q]; exact hb)
theorem Run.sc {t : List Int} {S S2 : St} (h : Run t S S2) : (sc t S.pos (S.low.length : Int) false = true ∧ S2.base ≠ []) ∨ (sc t S.pos (S.low.length : Int) false = sc t S2.pos (S2.low.length : Int) false ∧ S2.base = S.base) := by
  induction h with
  | refl => exact .inr ⟨rfl, rfl⟩
  | step hl h hr ih =>
    rcases round_sc hl h with ⟨_, _, q1, q2⟩ | ⟨q1, q2⟩
    · exact .inl ⟨q1, hr.base q2⟩
    · rw [q1]
      rcases ih with ⟨a, b⟩ | ⟨a, b⟩
      · exact .inl ⟨a, b⟩
      · exact .inr ⟨a, by rw [b, q2]⟩
/-- the scan sees a bar where the reader has cats -/
theorem scan_cats {t : List Int} {S : St} (h : Run t S0 S) (hp : S.pos = t.length) (hl : S.low = []) : scan t 0 false false = decide (S.top.cats ≠ []) := by
  have e0 : Go.Proofs.YtenanfkmmkmolaaGreatDoor.sc t S0.pos (S0.low.length : Int) false = scan t 0 false false := rfl
  have e1 : S.base = S.top.cats := by unfold St.base; rw [hl]
  rcases h.sc with ⟨a, b⟩ | ⟨a, b⟩
  · rw [← e0, a]
    rw [e1] at b
    simp [b]
  · rw [← e0, a, hp, hl]
    rw [e1] at b
    rw [b]
    unfold Go.Proofs.YtenanfkmmkmolaaGreatDoor.sc
    simp [scan, St.base, S0]
end Go.Proofs.YtenanfkmmkmolaaGreatDoor
/- HELPERS: no group in the tree: none was read; the first level stays what it is. -/
namespace Go.Proofs.YtenanfkmmkmolaaGreatDoor
open Go.RowKit Go.Mx
set_option linter.unusedVariables false
set_option linter.unusedSimpArgs false
def Lev.g (l : Lev) : Prop := ¬ l.index = 0 ∨ groupedTs l.cats = true ∨ groupedTs l.reps = true
theorem catOf_g {l : Lev} (h : groupedTs l.reps = true) : groupedT l.catOf = true := by
  unfold Lev.catOf
  cases hr : l.reps with
  | nil => rw [hr] at h; simp [groupedTs] at h
  | cons x xs =>
    rw [hr] at h
    cases xs with
    | nil => simpa [groupedTs] using h
    | cons y ys => simp only [groupedT]; rw [h]; simp
theorem inner_g {l : Lev} (h : groupedTs l.cats = true ∨ groupedTs l.reps = true) : groupedT l.inner = true := by
  have hg : groupedTs (l.cats ++ [l.catOf]) = true := by
    rw [groupedTs_app]
    rcases h with h | h
    · simp [h]
    · simp [groupedTs, catOf_g h]
  unfold Lev.inner
  cases hr : l.cats ++ [l.catOf] with
  | nil => rw [hr] at hg; simp [groupedTs] at hg
  | cons x xs =>
    rw [hr] at hg
    cases xs with
    | nil => simpa [groupedTs] using hg
    | cons y ys => simp only [groupedT]; rw [hg]; simp
theorem tree_g {l : Lev} (h : l.g) : groupedT l.tree = true := by
  unfold Lev.tree
  by_cases hi : l.index = 0
  · rw [if_pos hi]
    rcases h with h | h
    · exact absurd hi h
    · exact inner_g h
  · rw [if_neg hi]
    simp [groupedT]
def St.g (S : St) : Prop := S.top.g ∨ ∃ l ∈ S.low, l.g
theorem counted_g {t : List Int} {x y : Tree} {i k : Nat} {wr wr2 : Wr} (h : counted t x i wr = .ok (y, k, wr2)) : groupedT y = groupedT x := by
  unfold counted at h
  repeat' split at h
  all_goals first | (simp at h; done) | skip
  all_goals (simp only [Except.ok.injEq, Prod.mk.injEq] at h; rw [← h.1])
  all_goals simp [groupedT, groupedTs]
theorem addRep_g {t : List Int} {x : Tree} {S S2 : St} (h : addRep t x S = .ok S2) : S2.groups = S.groups ∧ S2.names = S.names ∧ (S.g ∨ groupedT x = true → S2.g) := by
  unfold addRep at h
  cases hc : counted t x S.pos S.wr with
  | error k => rw [hc] at h; simp at h
  | ok y =>
    obtain ⟨y, k, wr2⟩ := y
    rw [hc] at h
    simp only [Except.ok.injEq] at h
    subst h
    refine ⟨rfl, rfl, ?_⟩
    have hy := counted_g hc
    rintro ((h | h) | h)
    · rcases h with h | h | h
      · exact .inl (.inl h)
      · exact .inl (.inr (.inl h))
      · exact .inl (.inr (.inr (by simp [groupedTs_app, h])))
    · exact .inr h
    · exact .inl (.inr (.inr (by simp [groupedTs_app, groupedTs, hy, h])))
theorem begins_g {t : List Int} {S S2 : St} (h : begins t S = .ok S2) : (S2.groups = S.groups ∧ S2.names = S.names ∨ S2.g) ∧ (S.g → S2.g) := by
  have up : ∀ {l : Lev} {S3 : St}, S3.low = S.low ++ [S.top] → S.g → S3.g := by
    intro l S3 e hg
    right
    rw [e]
    rcases hg with hg | ⟨m, hm, hg⟩
    · exact ⟨S.top, by simp, hg⟩
    · exact ⟨m, by simp [hm], hg⟩
  have hlow := (begins_sp h).2
  refine ⟨?_, up (l := S.top) hlow⟩
  unfold begins at h
  simp only at h
  repeat' split at h
  all_goals first | (simp at h; done) | skip
  all_goals (simp only [Except.ok.injEq] at h; subst h)
  all_goals first
    | exact .inl ⟨rfl, rfl⟩
    | (right; left; left; show ¬ ((S.groups : Int) + 1) = 0; omega)
theorem round_g {t : List Int} {S S2 : St} (h : round t S = .ok S2) : (S2.groups = S.groups ∧ S2.names = S.names ∨ S2.g) ∧ (S.g → S2.g) := by
  unfold round at h
  by_cases h1 : nx t S.pos = 124
  · rw [if_pos h1] at h
    simp only [Except.ok.injEq] at h
    subst h
    refine ⟨.inl ⟨rfl, rfl⟩, ?_⟩
    rintro (h | h)
    · left
      rcases h with h | h | h
      · exact .inl h
      · exact .inr (.inl (by simp [Lev.endCat, groupedTs_app, h]))
      · exact .inr (.inl (by simp [Lev.endCat, groupedTs_app, groupedTs, catOf_g h]))
    · exact .inr h
  rw [if_neg h1] at h
  by_cases h2 : nx t S.pos = 40
  · rw [if_pos h2] at h
    exact begins_g h
  rw [if_neg h2] at h
  by_cases h3 : nx t S.pos = 41
  · rw [if_pos h3] at h
    unfold ends at h
    cases hg : S.low.getLast? with
    | none => rw [hg] at h; simp at h
    | some l =>
      rw [hg] at h
      simp only at h
      obtain ⟨q1, q2, q3⟩ := addRep_g h
      refine ⟨.inl ⟨q1, q2⟩, fun hS => q3 ?_⟩
      have hne : S.low ≠ [] := fun e => by rw [e] at hg; simp at hg
      have hc : S.low = S.low.dropLast ++ [l] := by
        have := List.dropLast_concat_getLast hne
        rw [List.getLast?_eq_some_getLast hne] at hg
        simp only [Option.some.injEq] at hg
        rw [hg] at this
        exact this.symm
      rcases hS with hS | ⟨m, hm, hS⟩
      · exact .inr (tree_g hS)
      · rw [hc] at hm
        simp only [List.mem_append, List.mem_singleton] at hm
        rcases hm with hm | rfl
        · exact .inl (.inr ⟨m, hm, hS⟩)
        · exact .inl (.inl hS)
  rw [if_neg h3] at h
  cases hz : atomP t S.top.fold S.top.all S.pos S.wr with
  | error k => rw [hz] at h; simp at h
  | ok y =>
    obtain ⟨x, k, wr2⟩ := y
    rw [hz] at h
    simp only at h
    obtain ⟨q1, q2, q3⟩ := addRep_g h
    exact ⟨.inl ⟨q1, q2⟩, fun hS => q3 (.inl hS)⟩
theorem Run.g {t : List Int} {S S2 : St} (h : Run t S S2) : (S2.groups = S.groups ∧ S2.names = S.names ∨ S2.g) ∧ (S.g → S2.g) := by
  induction h with
  | refl => exact ⟨.inl ⟨rfl, rfl⟩, id⟩
  | step hl h hr ih =>
    obtain ⟨q1, q2⟩ := round_g h
    refine ⟨?_, fun hg => ih.2 (q2 hg)⟩
    rcases q1 with ⟨a, b⟩ | q1
    · rcases ih.1 with ⟨c, d⟩ | q
      · exact .inl ⟨by rw [c, a], by rw [d, b]⟩
      · exact .inr q
    · exact .inr (ih.2 q1)
/-- what of the first level does not change -/
def St.first (S : St) : Bool × Bool × Int × ByteArray := match S.low with | [] => (S.top.fold, S.top.all, S.top.index, S.top.name) | l :: _ => (l.fold, l.all, l.index, l.name)
theorem addRep_first {t : List Int} {x : Tree} {S S2 : St} (h : addRep t x S = .ok S2) : S2.first = S.first := by
  unfold addRep at h
  cases hc : counted t x S.pos S.wr with
  | error k => rw [hc] at h; simp at h
  | ok y =>
    obtain ⟨y, k, wr2⟩ := y
    rw [hc] at h
    simp only [Except.ok.injEq] at h
    subst h
    unfold St.first
    cases S.low with
    | nil => rfl
    | cons a b => rfl
theorem round_first {t : List Int} {S S2 : St} (h : round t S = .ok S2) : S2.first = S.first := by
  unfold round at h
  by_cases h1 : nx t S.pos = 124
  · rw [if_pos h1] at h
    simp only [Except.ok.injEq] at h
    subst h
    unfold St.first
    cases S.low with
    | nil => rfl
    | cons a b => rfl
  rw [if_neg h1] at h
  by_cases h2 : nx t S.pos = 40
  · rw [if_pos h2] at h
    have q := (begins_sp h).2
    unfold St.first
    rw [q]
    cases S.low with
    | nil => rfl
    | cons a b => rfl
  rw [if_neg h2] at h
  by_cases h3 : nx t S.pos = 41
  · rw [if_pos h3] at h
    unfold ends at h
    cases hg : S.low.getLast? with
    | none => rw [hg] at h; simp at h
    | some l =>
      rw [hg] at h
      simp only at h
      rw [addRep_first h]
      have hne : S.low ≠ [] := fun e => by rw [e] at hg; simp at hg
      have hc : S.low = S.low.dropLast ++ [l] := by
        have := List.dropLast_concat_getLast hne
        rw [List.getLast?_eq_some_getLast hne] at hg
        simp only [Option.some.injEq] at hg
        rw [hg] at this
        exact this.symm
      unfold St.first
      simp only
      cases hd : S.low.dropLast with
      | nil => rw [hd] at hc; rw [hc]; rfl
      | cons a b => rw [hd] at hc; rw [hc]; rfl
  rw [if_neg h3] at h
  cases hz : atomP t S.top.fold S.top.all S.pos S.wr with
  | error k => rw [hz] at h; simp at h
  | ok y =>
    obtain ⟨x, k, wr2⟩ := y
    rw [hz] at h
    simp only at h
    rw [addRep_first h]
    rfl
theorem Run.first {t : List Int} {S S2 : St} (h : Run t S S2) : S2.first = S.first := by
  induction h with
  | refl => rfl
  | step hl h hr ih => rw [ih, round_first h]
/-- a text of the grammar, with nothing wrong, whose tree has no groups: how the reader ends -/
theorem ends_plain {t : List Int} {x : Tree} (h : patternP t = .ok (x, none)) : ∃ S, Run t S0 S ∧ S.pos = t.length ∧ S.low = [] ∧ S.top.inner = x ∧ S.wr = none ∧ S.top.fold = false ∧ S.top.all = false ∧ S.top.index = 0 ∧ S.top.name = ⟨#[]⟩ ∧ (groupedT x = false → S.groups = 0 ∧ S.names = []) := by
  obtain ⟨S, h1, h2, h3, h4, h5⟩ := pattern_run.1 h
  have hf := h1.first
  unfold St.first at hf
  rw [h3] at hf
  simp only [S0, Prod.mk.injEq] at hf
  obtain ⟨f1, f2, f3, f4⟩ := hf
  have ht : S.top.tree = S.top.inner := by unfold Lev.tree; rw [if_pos f3]
  refine ⟨S, h1, h2, h3, by rw [← ht, h4], h5, f1, f2, f3, f4, fun hx => ?_⟩
  rcases h1.g.1 with ⟨a, b⟩ | hg
  · exact ⟨a, b⟩
  · exfalso
    rcases hg with hg | ⟨m, hm, _⟩
    · have := tree_g hg
      rw [h4, hx] at this
      simp at this
    · rw [h3] at hm
      simp at hm
end Go.Proofs.YtenanfkmmkmolaaGreatDoor
/- HELPERS: two patterns with a bar between; one in brackets: what the reader makes of them. -/
namespace Go.Proofs.YtenanfkmmkmolaaGreatDoor
open Go.RowKit Go.Mx
set_option linter.unusedVariables false
set_option linter.unusedSimpArgs false
/-- the cats of an alt, or a tree alone -/
def catsT : Tree → List Tree
  | .node kind r a subs mi ma l i n => if kind = 5 then subs else [.node kind r a subs mi ma l i n]
def altsT (t : List Int) (x : Tree) : List Tree := if scan t 0 false false = true then catsT x else [x]
theorem alts_list {t : List Int} {S : St} (h : Run t S0 S) (hp : S.pos = t.length) (hl : S.low = []) : altsT t S.top.inner = S.top.cats ++ [S.top.catOf] := by
  unfold altsT
  rw [scan_cats h hp hl]
  cases hc : S.top.cats with
  | nil =>
    have : S.top.inner = S.top.catOf := by unfold Lev.inner; rw [hc]; rfl
    rw [this]
    simp
  | cons a b =>
    have : S.top.inner = .alt (a :: (b ++ [S.top.catOf])) := by
      unfold Lev.inner
      rw [hc]
      cases b with
      | nil => rfl
      | cons c d => rfl
    rw [this]
    simp [catsT]
theorem nx_app_l {p q : List Int} {i : Nat} (h : i < p.length) : nx (p ++ q) i = nx p i := by
  unfold nx
  simp [List.getD, List.getElem?_append_left h]
theorem nx_app_at {p q : List Int} {x : Int} : nx (p ++ x :: q) p.length = x := by
  unfold nx
  simp [List.getD]
theorem beg_app {p q : List Int} (hp : ∀ x ∈ p, 0 ≤ x ∧ x < 256) (hq : ∀ x ∈ q, 0 ≤ x ∧ x < 256) : Beg p (p ++ q) :=
  ⟨fun i hi => nx_app_l hi, hp, fun x hx => by
    rcases List.mem_append.1 hx with h | h
    · exact hp x h
    · exact hq x h⟩
theorem inner_alt {l : Lev} (h : l.cats ≠ []) : l.inner = .alt (l.cats ++ [l.catOf]) := by
  unfold Lev.inner
  cases hc : l.cats with
  | nil => exact absurd hc h
  | cons a b =>
    cases b with
    | nil => rfl
    | cons c d => rfl
/-- a bar between -/
theorem join_bar {p q : List Int} {a b : Tree} (hp : ∀ x ∈ p, 0 ≤ x ∧ x < 256) (hq : ∀ x ∈ q, 0 ≤ x ∧ x < 256) (h : patternP p = .ok (a, none)) (h2 : patternP q = .ok (b, none)) (hg : groupedT a = false) : patternP (p ++ 124 :: q) = .ok (.alt (altsT p a ++ altsT q b), none) := by
  obtain ⟨S, r1, r2, r3, r4, r5, f1, f2, f3, f4, f5⟩ := ends_plain h
  obtain ⟨T, s1, s2, s3, s4, s5, _, _, g3, _, _⟩ := ends_plain h2
  obtain ⟨f6, f7⟩ := f5 hg
  have hq' : ∀ x ∈ (124 :: q : List Int), 0 ≤ x ∧ x < 256 := by
    intro x hx
    rcases List.mem_cons.1 hx with rfl | hx
    · decide
    · exact hq x hx
  have R1 : Run (p ++ 124 :: q) S0 S := r1.goes (beg_app hp hq') (.inr (.inr nx_app_at))
  have hl : S.pos < (p ++ 124 :: q).length := by rw [r2]; simp
  have hr : round (p ++ 124 :: q) S = .ok { S with pos := S.pos + 1, top := S.top.endCat } := by
    unfold round
    rw [r2, nx_app_at, if_pos rfl]
  have R2 := R1.trans (Run.one hl hr)
  have hsh : Sh q (p ++ 124 :: q) (p.length + 1) := by
    refine ⟨by simp; omega, ?_⟩
    rw [← List.drop_drop, List.drop_left']
    · rfl
    · rfl
  have hrel : Rel [] (S.top.cats ++ [S.top.catOf]) (p.length + 1) S0 { S with pos := S.pos + 1, top := S.top.endCat } := by
    refine ⟨by simp only [r2, S0]; omega, .inl ⟨rfl, r3, ?_⟩, f6, f7, .inl r5⟩
    simp [bump, Lev.endCat, S0, f1, f2, f3, f4]
  obtain ⟨T2, R3, rel⟩ := s1.shift hsh s5 hrel
  obtain ⟨q1, q2⟩ : T2.low = [] ∧ T2.top = bump (S.top.cats ++ [S.top.catOf]) T.top := by
    rcases rel.levs with ⟨_, b, c⟩ | ⟨l0, ls, e, _⟩
    · exact ⟨b, c⟩
    · rw [s3] at e
      simp at e
  have q3 : T2.wr = none := by
    rcases rel.ok with h | ⟨h, _⟩
    · exact h
    · exact absurd rfl h
  refine pattern_run.2 ⟨T2, R2.trans R3, ?_, q1, ?_, q3⟩
  · rw [rel.pos, s2, hsh.len]
  · rw [q2, ← r4, ← s4, alts_list r1 r2 r3, alts_list s1 s2 s3]
    have hi : (bump (S.top.cats ++ [S.top.catOf]) T.top).index = 0 := g3
    unfold Lev.tree
    rw [if_pos hi]
    have e : (bump (S.top.cats ++ [S.top.catOf]) T.top).cats ++ [(bump (S.top.cats ++ [S.top.catOf]) T.top).catOf] = S.top.cats ++ [S.top.catOf] ++ (T.top.cats ++ [T.top.catOf]) := by
      simp [bump, Lev.catOf]
    rw [inner_alt (by simp [bump]), e]
/-- in brackets that do not capture -/
theorem join_brackets {p : List Int} {a : Tree} (hp : ∀ x ∈ p, 0 ≤ x ∧ x < 256) (h : patternP p = .ok (a, none)) : ∃ wr, patternP (40 :: 63 :: 58 :: (p ++ [41])) = .ok (a, wr) ∧ (wr = none ∨ ∃ k, wr = some (45, k)) := by
  obtain ⟨S, r1, r2, r3, r4, r5, f1, f2, f3, f4, _⟩ := ends_plain h
  have h41 : ∀ x ∈ ([41] : List Int), 0 ≤ x ∧ x < 256 := by
    intro x hx
    simp only [List.mem_singleton] at hx
    subst hx
    decide
  have R1 : Run (p ++ [41]) S0 S := r1.goes (beg_app hp h41) (.inr (.inl nx_app_at))
  have hsh : Sh (p ++ [41]) (40 :: 63 :: 58 :: (p ++ [41])) 3 := ⟨by simp, rfl⟩
  obtain ⟨u, hu⟩ : ∃ u, u = (40 :: 63 :: 58 :: (p ++ [41]) : List Int) := ⟨_, rfl⟩
  have n0 : nx u 0 = 40 := by rw [hu]; rfl
  have n1 : nx u 1 = 63 := by rw [hu]; rfl
  have n2 : nx u 2 = 58 := by rw [hu]; rfl
  rw [← hu] at hsh ⊢
  have hr : round u S0 = .ok { S0 with pos := 3, low := [S0.top] } := by
    unfold round
    rw [show S0.pos = 0 from rfl, n0, if_neg (by decide), if_pos rfl]
    unfold begins
    simp only [show S0.pos = 0 from rfl, Nat.zero_add]
    rw [n1, if_pos rfl, n2, if_neg (by decide)]
    simp only [show ¬ (58 : Int) = 105 by decide, if_false, n2, show ¬ (58 : Int) = 115 by decide, if_true]
    simp [opened, inner0, S0, noteIf]
  have hlen : u.length = p.length + 4 := by rw [hu]; simp
  have R2 : Run u S0 { S0 with pos := 3, low := [S0.top] } := Run.one (by rw [hlen]; show 0 < _; omega) hr
  have hrel : Rel [S0.top] [] 3 S0 { S0 with pos := 3, low := [S0.top] } := ⟨rfl, .inl ⟨rfl, rfl, by simp [bump, S0]⟩, rfl, rfl, .inl rfl⟩
  obtain ⟨T, R3, rel⟩ := R1.shift hsh r5 hrel
  obtain ⟨q1, q2⟩ : T.low = [S0.top] ∧ T.top = S.top := by
    rcases rel.levs with ⟨_, b, c⟩ | ⟨l0, ls, e, _⟩
    · exact ⟨b, by rw [c]; simp [bump]⟩
    · rw [r3] at e
      simp at e
  have hpos : T.pos = p.length + 3 := by rw [rel.pos, r2]
  have n41 : nx u T.pos = 41 := by
    rw [hpos, hsh.nx]
    exact nx_app_at
  have nend : nx u (T.pos + 1) = -1 := nx_end (by omega)
  have ht : T.top.tree = a := by
    rw [q2]
    unfold Lev.tree
    rw [if_pos f3, r4]
  have hr2 : round u T = .ok { T with pos := T.pos + 1, low := [], top := { S0.top with reps := [a] } } := by
    unfold round
    rw [n41, if_neg (by decide), if_neg (by decide), if_pos rfl]
    unfold ends
    rw [q1]
    simp only [List.getLast?_singleton, List.dropLast_singleton]
    unfold addRep
    rw [ht]
    simp only
    rw [counted_none (.inl nend)]
    simp [S0]
  refine ⟨T.wr, pattern_run.2 ⟨_, (R2.trans R3).trans (Run.one (by omega) hr2), ?_, rfl, ?_, rfl⟩, ?_⟩
  · show T.pos + 1 = u.length
    omega
  · simp [Lev.tree, Lev.inner, Lev.catOf, S0]
  · rcases rel.ok with h | ⟨_, h⟩
    · exact .inl h
    · exact .inr h
end Go.Proofs.YtenanfkmmkmolaaGreatDoor
/- HELPERS: the cats of a tree. -/
namespace Go.Proofs.YtenanfkmmkmolaaGreatDoor
open Go.RowKit Go.Mx
set_option linter.unusedVariables false
set_option linter.unusedSimpArgs false
set_option maxRecDepth 100000 in
set_option maxHeartbeats 2000000 in
theorem cats20_alt (a2 a4 a5 a7 : Int) (a6 : Bool) (a8 : ByteArray) (r1 s1 : Option Addr) (r2 r3 s2 s3 : Nat) (w : World) :
    Calls Tryz.prog 20 #[.agg #[.int .i64 5, .slice r1 r2 r3, .int .i64 a2, .slice s1 s2 s3, .int .i64 a4, .int .i64 a5, .bool a6, .int .i64 a7, .string a8]] w fun e w' => e = .returned (.slice s1 s2 s3) ∧ Below w.heap.size w w' := by
  go_enter Tryz.func20, Tryz.ntmps20
  go_wp2
  go_ret
  exact ⟨rfl, Joins.below_alloc1 w _⟩
set_option maxRecDepth 100000 in
set_option maxHeartbeats 2000000 in
theorem cats20_one (a0 a2 a4 a5 a7 : Int) (a6 : Bool) (a8 : ByteArray) (r1 s1 : Option Addr) (r2 r3 s2 s3 : Nat) (w : World) (h : ¬ a0 = 5) :
    Calls Tryz.prog 20 #[.agg #[.int .i64 a0, .slice r1 r2 r3, .int .i64 a2, .slice s1 s2 s3, .int .i64 a4, .int .i64 a5, .bool a6, .int .i64 a7, .string a8]] w fun e w' => ∃ b, e = .returned (.slice (some ⟨b, 0, none⟩) 1 1) ∧ Below w.heap.size w w' ∧ w.heap.size ≤ b ∧ w'.heap[b]? = some (.cells #[.int .i64 a0, .slice r1 r2 r3, .int .i64 a2, .slice s1 s2 s3, .int .i64 a4, .int .i64 a5, .bool a6, .int .i64 a7, .string a8] 26 (0, 0)) := by
  have h5 : (a0 == 5) = false := by simpa using h
  go_enter Tryz.func20, Tryz.ntmps20
  go_wp2
  go_ret
  refine ⟨w.heap.size + 1, rfl, Joins.below_alloc2 w _ _, by omega, ?_⟩
  have := heap_alloc_new (w.alloc (.cells #[.int .i64 a0, .slice r1 r2 r3, .int .i64 a2, .slice s1 s2 s3, .int .i64 a4, .int .i64 a5, .bool a6, .int .i64 a7, .string a8] 26)) (.cells #[.int .i64 a0, .slice r1 r2 r3, .int .i64 a2, .slice s1 s2 s3, .int .i64 a4, .int .i64 a5, .bool a6, .int .i64 a7, .string a8] 26)
  simpa using this
/-- a row of trees came out -/
def Came (N : Nat) (w : World) (F : List Nat) (l : List Tree) (e : Ending) (w' : World) : Prop := ∃ v cl G, e = .returned v ∧ w'.ownsRow N 26 9 v l.length cl ∧ TVs N w' cl l G ∧ Below w.heap.size w w' ∧ ∀ k ∈ G, k ∈ F
theorem came_one {N : Nat} {w w' : World} {cells : List Value} {x : Tree} {F : List Nat} (hT : TV N w cells x F) (hB : Below w.heap.size w w') {b : Nat} (hN : N ≤ b) (hb : w'.heap[b]? = some (.cells cells.toArray 26 (0, 0))) : Came N w F [x] (.returned (.slice (some ⟨b, 0, none⟩) 1 1)) w' :=
  ⟨_, cells ++ [], F ++ [], rfl, by rw [List.append_nil]; exact own_node hb hN hT.nine, .cons (hT.kept fun k hk => hB.block k (hT.low k hk).2) .nil, hB, fun k hk => by simpa using hk⟩
theorem cats20 {N : Nat} {w : World} {cells : List Value} {x : Tree} {F : List Nat} (hT : TV N w cells x F) (hN : N ≤ w.heap.size) : Calls Tryz.prog 20 #[.agg cells.toArray] w (Came N w F (catsT x)) := by
  have hT' := hT
  cases hT with
  | @mk a0 rg a2 sb a4 a5 a6 a7 a8 rv sv cl F1 hr hs ht =>
    obtain ⟨r1, r2, r3, rfl⟩ := row_slice hr
    obtain ⟨s1, s2, s3, rfl⟩ := row_slice hs
    by_cases h5 : a0 = 5
    · subst h5
      refine (cats20_alt a2 a4 a5 a7 a6 a8 r1 s1 r2 r3 s2 s3 w).mono ?_
      rintro e w' ⟨rfl, hB⟩
      have e : catsT (.node 5 rg a2 sb a4 a5 a6 a7 a8) = sb := by simp [catsT]
      rw [e]
      exact ⟨_, cl, F1, rfl, row_kept hs fun k hk => hB.block k (hs.lt k hk).2, ht.kept fun k hk => hB.block k (ht.low k hk).2, hB, fun k hk => by simp [hk]⟩
    · refine (cats20_one a0 a2 a4 a5 a7 a6 a8 r1 s1 r2 r3 s2 s3 w h5).mono ?_
      rintro e w' ⟨b, rfl, hB, hb, hh⟩
      have e : catsT (.node a0 rg a2 sb a4 a5 a6 a7 a8) = [.node a0 rg a2 sb a4 a5 a6 a7 a8] := by simp [catsT, h5]
      rw [e]
      exact came_one hT' hB (by omega) hh
end Go.Proofs.YtenanfkmmkmolaaGreatDoor
/- HELPERS: the cats of a pattern (alts). -/
namespace Go.Proofs.YtenanfkmmkmolaaGreatDoor
open Go.RowKit Go.Mx
set_option linter.unusedVariables false
set_option linter.unusedSimpArgs false
theorem scan_at {p : ByteArray} {i : Nat} (h : i < p.size) (o : Int) (sl cl : Bool) : scan ((txt p).drop i) o sl cl = match sc1 ((p[i]'h).toNat : Int) o sl cl with
    | none => true
    | some (o', sl', cl') => scan ((txt p).drop (i + 1)) o' sl' cl' := by
  rw [drop_nx (by rw [txt_len]; exact h), txt_nx p i h, scan_cons]
  rfl
set_option maxRecDepth 100000 in
set_option maxHeartbeats 4000000 in
theorem alts15 (p : ByteArray) (hs : p.size ≤ 140737488355328) {N : Nat} {w : World} {cells : List Value} {x : Tree} {F : List Nat} (hT : TV N w cells x F) (hN : N ≤ w.heap.size) : Calls Tryz.prog 15 #[.string p, .agg cells.toArray] w (Came N w F (altsT (txt p) x)) := by
  have HT := hid hT
  have hc := tv_cells hT
  obtain ⟨c0, c2, c4, c5, c7, c6, c8, q1, t1, q2, q3, t2, t3, rfl⟩ := hc
  clear hT
  obtain ⟨W, hW⟩ : ∃ W, W = w.alloc (.cells #[.int .i64 c0, .slice q1 q2 q3, .int .i64 c2, .slice t1 t2 t3, .int .i64 c4, .int .i64 c5, .bool c6, .int .i64 c7, .string c8] 26) := ⟨_, rfl⟩
  have HBW : Hid (Below w.heap.size w W) := by rw [hW]; exact Joins.below_alloc1 w _
  obtain ⟨bx, hbx⟩ : ∃ bx, bx = w.heap.size := ⟨_, rfl⟩
  have HBX : W.heap[bx]? = some (.cells #[.int .i64 c0, .slice q1 q2 q3, .int .i64 c2, .slice t1 t2 t3, .int .i64 c4, .int .i64 c5, .bool c6, .int .i64 c7, .string c8] 26 (0, 0)) := by rw [hW, hbx]; exact heap_alloc_new w _
  obtain ⟨o0, o1, o2, o3, o4, o5, o6, o7, o8⟩ := blk9 HBX
  have HTW : Hid (TV N W [.int .i64 c0, .slice q1 q2 q3, .int .i64 c2, .slice t1 t2 t3, .int .i64 c4, .int .i64 c5, .bool c6, .int .i64 c7, .string c8] x F) := HT.out.kept fun k hk => HBW.out.block k (HT.out.low k hk).2
  have C20 := (cats20 HTW.out (Nat.le_trans hN HBW.out.size))
  clear HBX
  have HN := hid hN
  clear hN
  go_enter Tryz.func15, Tryz.ntmps15
  go_wp2_with fail
  rw [← hW, ← hbx]
  have HW := hid hW
  have HX := hid hbx
  clear hW hbx
  go_loopw [5, 6, 7, 8] (fun x5 x6 x7 x8 wq => ∃ (i : Nat) (o : Int) (sl cl : Bool), x5 = .int .i64 o ∧ x6 = .bool sl ∧ x7 = .bool cl ∧ x8 = .int .i64 (i : Int) ∧ i ≤ p.size ∧ -(i : Int) ≤ o ∧ o ≤ (i : Int) ∧ wq = W ∧ Hid (scan (txt p) 0 false false = scan ((txt p).drop i) o sl cl)) (fun _ _ _ x8 _ => p.size - (intOf x8).toNat)
  case atStart => exact ⟨0, 0, false, false, rfl, rfl, rfl, rfl, by omega, by simp, by simp, rfl, by rw [List.drop_zero]; exact hid rfl⟩
  case round =>
    obtain ⟨i, o, sl, cl, rfl, rfl, rfl, rfl, hi, ho1, ho2, rfl, HS⟩ := hrel
    by_cases hij : i < p.size
    · have b1 : decide ((i : Int) < (p.size : Int)) = true := by simp; omega
      have ib : (i : Int) < (p.size : Int) := by omega
      have HST := hid (HS.out.trans (scan_at hij o sl cl))
      have wp : IntKind.i64.wrap (o + 1) = o + 1 := by simp [IntKind.wrap, IntKind.bits, IntKind.signed]; omega
      have wm : IntKind.i64.wrap (o - 1) = o - 1 := by simp [IntKind.wrap, IntKind.bits, IntKind.signed]; omega
      have wi : IntKind.i64.wrap ((i : Int) + 1) = (i : Int) + 1 := by simp [IntKind.wrap, IntKind.bits, IntKind.signed]; omega
      have fin : ∀ (o' : Int) (sl' cl' : Bool), -((i : Int) + 1) ≤ o' → o' ≤ (i : Int) + 1 → sc1 ((p[i]'hij).toNat : Int) o sl cl = some (o', sl', cl') → ∃ (i2 : Nat) (o2 : Int) (sl2 cl2 : Bool), Value.int .i64 o' = .int .i64 o2 ∧ Value.bool sl' = .bool sl2 ∧ Value.bool cl' = .bool cl2 ∧ Value.int .i64 ((i : Int) + 1) = .int .i64 (i2 : Int) ∧ i2 ≤ p.size ∧ -(i2 : Int) ≤ o2 ∧ o2 ≤ (i2 : Int) ∧ True ∧ Hid (scan (txt p) 0 false false = scan ((txt p).drop i2) o2 sl2 cl2) := by
        intro o' sl' cl' h1 h2 h3
        refine ⟨i + 1, o', sl', cl', rfl, rfl, rfl, by push_cast; rfl, by omega, by push_cast; omega, by push_cast; omega, trivial, ?_⟩
        have := HST.out
        rw [h3] at this
        exact this
      have FIN := hid fin
      clear fin
      have ms : p.size - (intOf (Value.int .i64 ((i : Int) + 1))).toNat < p.size - (intOf (Value.int .i64 (i : Int))).toNat := by simp [intOf]; omega
      have MS := hid ms
      clear ms
      cases sl with
      | true =>
        go_wp2
        exact ⟨FIN.out o false cl (by omega) (by omega) (by simp [sc1]), MS.out⟩
      | false =>
        cases h92 : (((p[i]'hij).toNat : Int) == 92) with
        | true =>
          have e92 := eq_of_beq h92
          have E92 := hid e92
          clear e92
          go_wp2
          exact ⟨FIN.out o true cl (by omega) (by omega) (by rw [E92.out]; rfl), MS.out⟩
        | false =>
          have n92 := hid (ne_of_beq_false h92)
          cases cl with
          | true =>
            have hb : (((p[i]'hij).toNat : Int) != 93) = decide (¬ ((p[i]'hij).toNat : Int) = 93) := Bool.eq_iff_iff.2 (by simp)
            have HB := hid hb
            clear hb
            go_wp2
            exact ⟨FIN.out o false (((p[i]'hij).toNat : Int) != 93) (by omega) (by omega) (by have a1 := n92.out; rw [HB.out]; unfold sc1; rw [if_neg (by decide), if_neg a1, if_pos rfl]), MS.out⟩
          | false =>
            cases h91 : (((p[i]'hij).toNat : Int) == 91) with
            | true =>
              have E91 := hid (eq_of_beq h91)
              go_wp2
              exact ⟨FIN.out o false true (by omega) (by omega) (by rw [E91.out]; rfl), MS.out⟩
            | false =>
              have n91 := hid (ne_of_beq_false h91)
              cases h40 : (((p[i]'hij).toNat : Int) == 40) with
              | true =>
                have E40 := hid (eq_of_beq h40)
                go_wp2
                exact ⟨FIN.out (o + 1) false false (by omega) (by omega) (by rw [E40.out]; rfl), MS.out⟩
              | false =>
                have n40 := hid (ne_of_beq_false h40)
                cases h41 : (((p[i]'hij).toNat : Int) == 41) with
                | true =>
                  have E41 := hid (eq_of_beq h41)
                  go_wp2
                  exact ⟨FIN.out (o - 1) false false (by omega) (by omega) (by rw [E41.out]; rfl), MS.out⟩
                | false =>
                  have n41 := hid (ne_of_beq_false h41)
                  cases h124 : (((p[i]'hij).toNat : Int) == 124) with
                  | false =>
                    have n124 := hid (ne_of_beq_false h124)
                    go_wp2
                    exact ⟨FIN.out o false false (by omega) (by omega) (by have a1 := n92.out; have a2 := n91.out; have a3 := n40.out; have a4 := n41.out; have a5 := n124.out; simp [sc1, a1, a2, a3, a4, a5]), MS.out⟩
                  | true =>
                    have E124 := hid (eq_of_beq h124)
                    cases h0 : (o == 0) with
                    | false =>
                      have n0 := hid (ne_of_beq_false h0)
                      go_wp2
                      exact ⟨FIN.out o false false (by omega) (by omega) (by have a5 := n0.out; rw [E124.out]; simp [sc1, a5]), MS.out⟩
                    | true =>
                      have e0 : o = 0 := eq_of_beq h0
                      have hsc : scan (txt p) 0 false false = true := by
                        have := HST.out
                        rw [E124.out, e0] at this
                        exact this
                      have HSC := hid hsc
                      clear hsc e0
                      go_wp2_with (go_at_call 20; (with_reducible refine C20.mono ?_); rintro e w6 ⟨v, cl, G, rfl, k1, k2, k3, k4⟩; have K1 := hid k1; have K2 := hid k2; have K3 := hid k3; have K4 := hid k4; clear k1 k2 k3 k4)
                      go_ret
                      have e1 : altsT (txt p) x = catsT x := by unfold altsT; rw [if_pos HSC.out]
                      rw [e1]
                      exact ⟨v, cl, G, rfl, K1.out, K2.out, HBW.out.trans (Joins.below_le K3.out HBW.out.size), K4.out⟩
    · have b1 : decide ((i : Int) < (p.size : Int)) = false := by simp; omega
      have hsc : scan (txt p) 0 false false = false := by
        rw [HS.out, List.drop_of_length_le (by rw [txt_len]; omega)]
        rfl
      have HSC := hid hsc
      clear hsc
      go_wp2
      go_ret
      have e1 : altsT (txt p) x = [x] := by unfold altsT; rw [if_neg (by rw [HSC.out]; decide)]
      rw [e1]
      refine came_one HT.out (HBW.out.trans (Joins.below_le (Joins.below_alloc1 wr _) HBW.out.size)) (Nat.le_trans HN.out HBW.out.size) ?_
      exact heap_alloc_new wr _
end Go.Proofs.YtenanfkmmkmolaaGreatDoor
/- HELPERS: parsed, with its tree, whatever the pattern. -/
namespace Go.Proofs.YtenanfkmmkmolaaGreatDoor
open Go.RowKit Go.Mx
set_option linter.unusedVariables false
set_option linter.unusedSimpArgs false
abbrev Tree.zero : Tree := .node 0 [] 0 [] 0 0 false 0 ⟨#[]⟩
def treeP (p : ByteArray) : Tree := match faultP p with
  | some _ => .zero
  | none => match patternP (txt p) with
    | .ok (x, _) => x
    | .error _ => .zero
theorem zero_tv (w : World) : TV 0 w [.int .i64 0, .slice none 0 0, .int .i64 0, .slice none 0 0, .int .i64 0, .int .i64 0, .bool false, .int .i64 0, .string ⟨#[]⟩] .zero ((Value.slice none 0 0).ownBlock.toList ++ ((Value.slice none 0 0).ownBlock.toList ++ [])) := .mk (World.ownsRow_nil _ _ _ _) (World.ownsRow_nil _ _ _ _) .nil
theorem parsed9_tv (p : ByteArray) (hs : p.size ≤ 9223372036854775807) (w : World) (hgl : Gl w) :
    Calls Tryz.prog 9 #[.string p] w fun e w' => ∃ cells F, e = .returned (.tuple #[.agg cells.toArray, .agg #[.int .i64 (codeP p).1, .int .i64 (codeP p).2], .bool true]) ∧ TV 0 w' cells (treeP p) F ∧ Below w.heap.size w w' := by
  unfold codeP treeP
  cases h : faultP p with
  | none =>
    obtain ⟨hp, x, hx⟩ := faultP_none h
    refine (parsed9_ok p hp w hgl hx).mono ?_
    rintro e w' ⟨v, rfl, ⟨cells, F, rfl, hT, hN⟩, hB⟩
    rw [hx]
    exact ⟨cells, F, rfl, hT.le (by omega), hB⟩
  | some y =>
    obtain ⟨co, ca⟩ := y
    refine (parsed9_bad p hs w hgl h).mono ?_
    rintro e w' ⟨rfl, hB⟩
    exact ⟨_, _, rfl, zero_tv w', hB⟩
/-- a pattern with nothing wrong -/
theorem code_zero {p : ByteArray} (h : (codeP p).1 = 0) : p.size ≤ 65536 ∧ patternP (txt p) = .ok (treeP p, none) := by
  unfold codeP at h
  cases hf : faultP p with
  | some y =>
    exfalso
    obtain ⟨co, ca⟩ := y
    rw [hf] at h
    simp only at h
    rcases faultP_ok hf with h1 | h1 | h1
    · omega
    · obtain ⟨_, k, h2, _⟩ := h1
      omega
    · have := h1.2.1
      unfold okC at this
      omega
  | none =>
    obtain ⟨hp, x, hx⟩ := faultP_none hf
    refine ⟨hp, ?_⟩
    unfold treeP
    rw [hf, hx]
theorem txt_app (a b : ByteArray) : txt (a ++ b) = txt a ++ txt b := by
  unfold txt
  rw [ByteArray.data_append]
  simp
/-- p, a bar, q -/
theorem bar_code {p q : ByteArray} (hp : (codeP p).1 = 0) (hq : (codeP q).1 = 0) (hg : groupedT (treeP p) = false) (hl : p.size + q.size + 4 ≤ 65536) : codeP (p ++ ⟨#[124]⟩ ++ q) = (0, 0) ∧ treeP (p ++ ⟨#[124]⟩ ++ q) = .alt (altsT (txt p) (treeP p) ++ altsT (txt q) (treeP q)) := by
  have hb : ∀ (b : ByteArray), ∀ x ∈ txt b, 0 ≤ x ∧ x < 256 := txt_bytes
  have e : txt (p ++ ⟨#[124]⟩ ++ q) = txt p ++ 124 :: txt q := by
    rw [txt_app, txt_app]
    simp [txt]
  have hj := join_bar (hb p) (hb q) (code_zero hp).2 (code_zero hq).2 hg
  rw [← e] at hj
  have hsz : ¬ 65536 < (p ++ ⟨#[124]⟩ ++ q).size := by
    rw [ByteArray.size_append, ByteArray.size_append]
    show ¬ 65536 < p.size + 1 + q.size
    omega
  have hf : faultP (p ++ ⟨#[124]⟩ ++ q) = none := by
    unfold faultP
    rw [if_neg hsz, hj]
  unfold codeP treeP
  rw [hf, hj]
  exact ⟨rfl, rfl⟩
/-- p in brackets -/
theorem brackets_code {p : ByteArray} (hp : (codeP p).1 = 0) (hl : p.size + 4 ≤ 65536) : ((codeP (⟨#[40, 63, 58]⟩ ++ p ++ ⟨#[41]⟩)).1 = 0 ∧ treeP (⟨#[40, 63, 58]⟩ ++ p ++ ⟨#[41]⟩) = treeP p) ∨ (codeP (⟨#[40, 63, 58]⟩ ++ p ++ ⟨#[41]⟩)).1 = 45 := by
  have e : txt (⟨#[40, 63, 58]⟩ ++ p ++ ⟨#[41]⟩) = 40 :: 63 :: 58 :: (txt p ++ [41]) := by
    rw [txt_app, txt_app]
    simp [txt]
  obtain ⟨wr, hj, hw⟩ := join_brackets (txt_bytes p) (code_zero hp).2
  rw [← e] at hj
  have hsz : ¬ 65536 < ((⟨#[40, 63, 58]⟩ : ByteArray) ++ p ++ ⟨#[41]⟩).size := by
    rw [ByteArray.size_append, ByteArray.size_append]
    show ¬ 65536 < 3 + p.size + 1
    omega
  have hf : faultP (⟨#[40, 63, 58]⟩ ++ p ++ ⟨#[41]⟩) = wr := by
    unfold faultP
    rw [if_neg hsz, hj]
  rcases hw with rfl | ⟨k, rfl⟩
  · left
    constructor
    · unfold codeP
      rw [hf]
    · conv => lhs; unfold treeP
      rw [hf, hj]
  · right
    unfold codeP
    rw [hf]
end Go.Proofs.YtenanfkmmkmolaaGreatDoor
/- HELPERS: how many cats a pattern has at most. -/
namespace Go.Proofs.YtenanfkmmkmolaaGreatDoor
open Go.RowKit Go.Mx
set_option linter.unusedVariables false
set_option linter.unusedSimpArgs false
theorem round_base {t : List Int} {S S2 : St} (hl : S.pos < t.length) (h : round t S = .ok S2) : S2.base.length ≤ S.base.length + 1 := by
  rcases round_sc hl h with ⟨h1, h2, _, _⟩ | ⟨_, q⟩
  · unfold round at h
    rw [if_pos h1] at h
    simp only [Except.ok.injEq] at h
    subst h
    simp [St.base, h2, Lev.endCat]
  · rw [q]
    omega
theorem Run.base_len {t : List Int} {S S2 : St} (h : Run t S S2) : S2.base.length + S.pos ≤ S.base.length + S2.pos := by
  induction h with
  | refl => exact Nat.le_refl _
  | step hl h hr ih =>
    have h1 := round_base hl h
    have h2 := round_pos h
    omega
theorem alts_len {p : ByteArray} (h : (codeP p).1 = 0) : (altsT (txt p) (treeP p)).length ≤ p.size + 1 := by
  obtain ⟨S, r1, r2, r3, r4, _⟩ := ends_plain (code_zero h).2
  rw [← r4, alts_list r1 r2 r3]
  have hb := r1.base_len
  have e : S.base = S.top.cats := by unfold St.base; rw [r3]
  rw [e, r2, txt_len] at hb
  have e0 : S0.base = [] := rfl
  have e1 : S0.pos = 0 := rfl
  rw [e0, e1] at hb
  simp at hb ⊢
  omega
end Go.Proofs.YtenanfkmmkmolaaGreatDoor
/- HELPERS: the walk of SyntaxJoins where it ends early. -/
namespace Go.Proofs.YtenanfkmmkmolaaGreatDoor
open Go.RowKit Go.Mx
set_option linter.unusedVariables false
set_option linter.unusedSimpArgs false
theorem tvs_one {N : Nat} {w : World} : ∀ {ts : List Tree} {c : List Value} {F : List Nat}, TVs N w c ts F → ∀ u ∈ c, u.oneCell' = true := by
  intro ts
  induction ts with
  | nil => intro c F h u hu; cases h; simp at hu
  | cons t ts ih =>
    intro c F h u hu
    cases h with
    | cons h1 h2 =>
      rcases List.mem_append.1 hu with q | q
      · exact h1.oneCells u q
      · exact ih h2 u q
theorem alts_pos {p : ByteArray} (h : (codeP p).1 = 0) : 0 < (altsT (txt p) (treeP p)).length := by
  obtain ⟨S, r1, r2, r3, r4, _⟩ := ends_plain (code_zero h).2
  rw [← r4, alts_list r1 r2 r3]
  simp
theorem tvs_app {N : Nat} {w : World} : ∀ {ts us : List Tree} {c d : List Value} {F G : List Nat}, TVs N w c ts F → TVs N w d us G → ∃ H, TVs N w (c ++ d) (ts ++ us) H := by
  intro ts
  induction ts with
  | nil => intro us c d F G h h2; cases h; exact ⟨G, h2⟩
  | cons t ts ih =>
    intro us c d F G h h2
    cases h with
    | @cons c1 cs _ _ F1 G1 q1 q2 =>
      obtain ⟨H, h3⟩ := ih q2 h2
      exact ⟨_, by rw [List.append_assoc]; exact .cons q1 h3⟩
mutual
theorem sameT_refl : ∀ x : Tree, sameT x x = true
  | .node k r a s mi ma l i n => by simp [sameT, sameTs_refl s]
theorem sameTs_refl : ∀ s : List Tree, sameTs s s = true
  | [] => rfl
  | t :: ts => by simp [sameTs, sameT_refl t, sameTs_refl ts]
end
theorem two_new (w : World) (o o' : Obj) : ((w.alloc o).alloc o').heap[w.heap.size]? = some o ∧ ((w.alloc o).alloc o').heap[w.heap.size + 1]? = some o' := by
  refine ⟨(heap_alloc_old _ _ (by simp)).trans (heap_alloc_new w _), ?_⟩
  have := heap_alloc_new (w.alloc o) o'
  rw [show (w.alloc o).heap.size = w.heap.size + 1 by simp] at this
  exact this
set_option maxRecDepth 100000 in
set_option maxHeartbeats 4000000 in
theorem joins6 (p q : ByteArray) (w : World) (hgl : Gl w) (hp : p.size ≤ 140737488355328) (hq : q.size ≤ 140737488355328) {fc fa gc ga : Int} {x y : Tree} {gx gy : Bool} (h1 : codeP p = (fc, fa)) (h2 : codeP q = (gc, ga)) (h3 : treeP p = x) (h4 : treeP q = y) (h5 : groupedT x = gx) (h6 : groupedT y = gy)  :
    Calls Tryz.prog 6 #[.string p, .string q] w fun e w' => e = .returned (.bool true) ∧ Below w.heap.size w w' := by
  have C0 := awake7 w hgl
  go_enter Tryz.func6, Tryz.ntmps6
  go_wp2_with (go_at_call 7; (with_reducible refine C0.mono ?_); rintro e w1 ⟨rfl, B1⟩; have G1 := hgl.below B1 (by have := hgl.big; omega); have C1 := parsed9_tv p (by omega) w1 G1; rw [h1, h3] at C1; have HB1 := hid B1; clear B1 G1)
  refine C1.mono ?_
  rintro e w2 ⟨cells, F, rfl, hT, B2⟩
  have HT := hid hT
  obtain ⟨a0, a2, a4, a5, a7, a6, a8, r1, s1, r2, r3, s2, s3, rfl⟩ := tv_cells hT
  have HB2 : Hid (Below w.heap.size w w2) := hid (HB1.out.trans (Joins.below_le B2 HB1.out.size))
  clear hT B2 C1 C0
  go_wp2_with fail
  obtain ⟨W1, hW1⟩ : ∃ W, W = ((w2.alloc (.cells #[.int .i64 a0, .slice r1 r2 r3, .int .i64 a2, .slice s1 s2 s3, .int .i64 a4, .int .i64 a5, .bool a6, .int .i64 a7, .string a8] 26)).alloc (.cells #[.int .i64 fc, .int .i64 fa] 29)) := ⟨_, rfl⟩
  obtain ⟨xa, hxa⟩ : ∃ v, v = w2.heap.size := ⟨_, rfl⟩
  obtain ⟨xf, hxf⟩ : ∃ v, v = w2.heap.size + 1 := ⟨_, rfl⟩
  have LA : Hid (W1.heap[xa]? = some (.cells #[.int .i64 a0, .slice r1 r2 r3, .int .i64 a2, .slice s1 s2 s3, .int .i64 a4, .int .i64 a5, .bool a6, .int .i64 a7, .string a8] 26 (0, 0))) := by rw [hW1, hxa]; exact (two_new w2 _ _).1
  have LF : Hid (W1.heap[xf]? = some (.cells #[.int .i64 fc, .int .i64 fa] 29 (0, 0))) := by rw [hW1, hxf]; exact (two_new w2 _ _).2
  have B21 : Hid (Below w2.heap.size w2 W1) := by rw [hW1]; exact Joins.below_alloc2 w2 _ _
  have BW1 : Hid (Below w.heap.size w W1) := hid (HB2.out.trans (Joins.below_le B21.out HB2.out.size))
  have TA : Hid (TV 0 W1 #[.int .i64 a0, .slice r1 r2 r3, .int .i64 a2, .slice s1 s2 s3, .int .i64 a4, .int .i64 a5, .bool a6, .int .i64 a7, .string a8].toList x F) := HT.out.kept fun k hk => B21.out.block k (HT.out.low k hk).2
  have lA : xa < W1.heap.size := (Array.getElem?_eq_some_iff.1 LA.out).1
  have lF : xf < W1.heap.size := (Array.getElem?_eq_some_iff.1 LF.out).1
  have C2 := parsed9_tv q (by omega) W1 (hgl.below BW1.out (by have := hgl.big; omega))
  rw [h2, h4] at C2
  rw [← hW1, ← hxf, ← hxa]
  clear hW1 hxf hxa
  refine C2.mono ?_
  rintro e w3 ⟨cells2, G, rfl, hU, B3⟩
  have HU := hid hU
  obtain ⟨b0, b2, b4, b5, b7, b6, b8, m1, n1, m2, m3, n2, n3, rfl⟩ := tv_cells hU
  have HB3 := hid B3
  clear hU B3 C2
  go_upto_region 6 with fail
  obtain ⟨W2, hW2⟩ : ∃ W, W = ((w3.alloc (.cells #[.int .i64 b0, .slice m1 m2 m3, .int .i64 b2, .slice n1 n2 n3, .int .i64 b4, .int .i64 b5, .bool b6, .int .i64 b7, .string b8] 26)).alloc (.cells #[.int .i64 gc, .int .i64 ga] 29)) := ⟨_, rfl⟩
  obtain ⟨xb, hxb⟩ : ∃ v, v = w3.heap.size := ⟨_, rfl⟩
  obtain ⟨xg, hxg⟩ : ∃ v, v = w3.heap.size + 1 := ⟨_, rfl⟩
  have LB : Hid (W2.heap[xb]? = some (.cells #[.int .i64 b0, .slice m1 m2 m3, .int .i64 b2, .slice n1 n2 n3, .int .i64 b4, .int .i64 b5, .bool b6, .int .i64 b7, .string b8] 26 (0, 0))) := by rw [hW2, hxb]; exact (two_new w3 _ _).1
  have LG : Hid (W2.heap[xg]? = some (.cells #[.int .i64 gc, .int .i64 ga] 29 (0, 0))) := by rw [hW2, hxg]; exact (two_new w3 _ _).2
  have B32 : Hid (Below w3.heap.size w3 W2) := by rw [hW2]; exact Joins.below_alloc2 w3 _ _
  have B12 : Hid (Below W1.heap.size W1 W2) := hid (HB3.out.trans (Joins.below_le B32.out HB3.out.size))
  have BW2 : Hid (Below w.heap.size w W2) := hid (BW1.out.trans (Joins.below_le B12.out BW1.out.size))
  have TB : Hid (TV 0 W2 #[.int .i64 b0, .slice m1 m2 m3, .int .i64 b2, .slice n1 n2 n3, .int .i64 b4, .int .i64 b5, .bool b6, .int .i64 b7, .string b8].toList y G) := HU.out.kept fun k hk => B32.out.block k (HU.out.low k hk).2
  have TA2 : Hid (TV 0 W2 #[.int .i64 a0, .slice r1 r2 r3, .int .i64 a2, .slice s1 s2 s3, .int .i64 a4, .int .i64 a5, .bool a6, .int .i64 a7, .string a8].toList x F) := TA.out.kept fun k hk => B12.out.block k (TA.out.low k hk).2
  have LA2 := hid ((B12.out.block xa lA).trans LA.out)
  have LF2 := hid ((B12.out.block xf lF).trans LF.out)
  have lA2 : xa < W2.heap.size := Nat.lt_of_lt_of_le lA B12.out.size
  have lF2 : xf < W2.heap.size := Nat.lt_of_lt_of_le lF B12.out.size
  have lB2 : xb < W2.heap.size := (Array.getElem?_eq_some_iff.1 LB.out).1
  have lG2 : xg < W2.heap.size := (Array.getElem?_eq_some_iff.1 LG.out).1
  rw [← hW2, ← hxg, ← hxb]
  clear hW2 hxg hxb lA lF LA LF TA HU HT B21 B32 HB3 HB2 HB1
  have C3 := grouped14_all (tsize x) x 0 W2 _ F (Nat.le_refl _) TA2.out
  rw [h5] at C3
  obtain ⟨o0, o1, o2, o3, o4, o5, o6, o7, o8⟩ := blk9 LA2.out
  go_upto_region 7 with (go_at_call 14; (with_reducible refine C3.mono ?_); rintro e w4 ⟨rfl, B4⟩; have HB4 := hid B4; clear B4)
  clear C3 o0 o1 o2 o3 o4 o5 o6 o7 o8
  obtain ⟨o0, o1, o2, o3, o4, o5, o6, o7, o8⟩ := blk9 ((HB4.out.block xb lB2).trans LB.out)
  have C4 := grouped14_all (tsize y) y 0 w4 _ G (Nat.le_refl _) (TB.out.kept fun k hk => HB4.out.block k (TB.out.low k hk).2)
  rw [h6] at C4
  go_upto_region 8 with (go_at_call 14; (with_reducible refine C4.mono ?_); rintro e w5 ⟨rfl, B5⟩; have HB5 := hid B5; clear B5)
  clear C4 o0 o1 o2 o3 o4 o5 o6 o7 o8
  have HB25 : Hid (Below W2.heap.size W2 w5) := hid (HB4.out.trans (Joins.below_le HB5.out HB4.out.size))
  have BW5 : Hid (Below w.heap.size w w5) := hid (BW2.out.trans (Joins.below_le HB25.out BW2.out.size))
  clear HB4 HB5
  obtain ⟨f0, f1⟩ := blk2 ((HB25.out.block xf lF2).trans LF2.out)
  obtain ⟨g0, g1⟩ := blk2 ((HB25.out.block xg lG2).trans LG.out)
  have W1' : IntKind.i64.wrap ((p.size : Int) + (q.size : Int)) = (p.size : Int) + (q.size : Int) := by simp [IntKind.wrap, IntKind.bits, IntKind.signed]; omega
  have W2' : IntKind.i64.wrap ((p.size : Int) + (q.size : Int) + 4) = (p.size : Int) + (q.size : Int) + 4 := by simp [IntKind.wrap, IntKind.bits, IntKind.signed]; omega
  cases h7 : (fc != 0) with
  | true =>
    go_wp2
    go_ret
    exact ⟨rfl, BW5.out⟩
  | false =>
  cases h8 : (gc != 0) with
  | true =>
    go_wp2
    go_ret
    exact ⟨rfl, BW5.out⟩
  | false =>
  cases gx with
  | true =>
    go_wp2
    go_ret
    exact ⟨rfl, BW5.out⟩
  | false =>
  cases gy with
  | true =>
    go_wp2
    go_ret
    exact ⟨rfl, BW5.out⟩
  | false =>
  by_cases hl : p.size + q.size + 4 ≤ 65536
  rotate_left
  · have hd : decide (65536 < (p.size : Int) + (q.size : Int) + 4) = true := by simp; omega
    go_wp2
    go_ret
    exact ⟨rfl, BW5.out⟩
  have hd : decide (65536 < (p.size : Int) + (q.size : Int) + 4) = false := by simp; omega
  go_upto_region 10 with fail
  have z1 : fc = 0 := by simpa using h7
  have z2 : gc = 0 := by simpa using h8
  have hcp : (codeP p).1 = 0 := by rw [h1]; exact z1
  have hcq : (codeP q).1 = 0 := by rw [h2]; exact z2
  have hbar := bar_code hcp hcq (by rw [h3]; exact h5) hl
  rw [h3, h4] at hbar
  have hbr := brackets_code (p := p) hcp (by omega)
  rw [h3] at hbr
  have C5 := parsed9_tv (p ++ ⟨#[124]⟩ ++ q) (by rw [ByteArray.size_append, ByteArray.size_append]; show p.size + 1 + q.size ≤ _; omega) w5 (hgl.below BW5.out (by have := hgl.big; omega))
  rw [hbar.1, hbar.2] at C5
  simp only at C5
  have HBR := hid hbr
  have HCP := hid hcp
  have HCQ := hid hcq
  have HLN := hid hl
  clear hbar hbr hcp hcq hd h7 h8 f0 f1 g0 g1 W1' W2' h1 h2 z1 z2 h5 h6
  go_upto_region 11 with (go_at_call 9; (with_reducible refine C5.mono ?_); rintro e w6 ⟨cells3, F3, rfl, hV, B6⟩; have HV := hid hV; obtain ⟨u0, u2, u4, u5, u7, u6, u8, v1, y1, v2, v3, y2, y3, rfl⟩ := tv_cells hV; have HB6 := hid B6; clear hV B6)
  clear C5
  obtain ⟨W3, hW3⟩ : ∃ W, W = ((w6.alloc (.cells #[.int .i64 u0, .slice v1 v2 v3, .int .i64 u2, .slice y1 y2 y3, .int .i64 u4, .int .i64 u5, .bool u6, .int .i64 u7, .string u8] 26)).alloc (.cells #[.int .i64 0, .int .i64 0] 29)) := ⟨_, rfl⟩
  obtain ⟨xc, hxc⟩ : ∃ v, v = w6.heap.size := ⟨_, rfl⟩
  obtain ⟨xh, hxh⟩ : ∃ v, v = w6.heap.size + 1 := ⟨_, rfl⟩
  have LC : Hid (W3.heap[xc]? = some (.cells #[.int .i64 u0, .slice v1 v2 v3, .int .i64 u2, .slice y1 y2 y3, .int .i64 u4, .int .i64 u5, .bool u6, .int .i64 u7, .string u8] 26 (0, 0))) := by rw [hW3, hxc]; exact (two_new w6 _ _).1
  have LH : Hid (W3.heap[xh]? = some (.cells #[.int .i64 0, .int .i64 0] 29 (0, 0))) := by rw [hW3, hxh]; exact (two_new w6 _ _).2
  have B63 : Hid (Below w6.heap.size w6 W3) := by rw [hW3]; exact Joins.below_alloc2 w6 _ _
  have B23 : Hid (Below W2.heap.size W2 W3) := hid ((HB25.out.trans (Joins.below_le HB6.out HB25.out.size)).trans (Joins.below_le B63.out (Nat.le_trans HB25.out.size HB6.out.size)))
  have BW3 : Hid (Below w.heap.size w W3) := hid (BW2.out.trans (Joins.below_le B23.out BW2.out.size))
  have TC : Hid (TV 0 W3 #[.int .i64 u0, .slice v1 v2 v3, .int .i64 u2, .slice y1 y2 y3, .int .i64 u4, .int .i64 u5, .bool u6, .int .i64 u7, .string u8].toList (.alt (altsT (txt p) x ++ altsT (txt q) y)) F3) := HV.out.kept fun k hk => B63.out.block k (HV.out.low k hk).2
  have lC3 : xc < W3.heap.size := (Array.getElem?_eq_some_iff.1 LC.out).1
  have lH3 : xh < W3.heap.size := (Array.getElem?_eq_some_iff.1 LH.out).1
  rw [← hW3, ← hxh, ← hxc]
  clear hW3 hxh hxc HV B63 HB6 HB25
  obtain ⟨⟨ic, ia⟩, hic⟩ : ∃ c, codeP (⟨#[40, 63, 58]⟩ ++ p ++ ⟨#[41]⟩) = c := ⟨_, rfl⟩
  obtain ⟨z, hz⟩ : ∃ z, treeP (⟨#[40, 63, 58]⟩ ++ p ++ ⟨#[41]⟩) = z := ⟨_, rfl⟩
  have C6 := parsed9_tv (⟨#[40, 63, 58]⟩ ++ p ++ ⟨#[41]⟩) (by rw [ByteArray.size_append, ByteArray.size_append]; show 3 + p.size + 1 ≤ _; omega) W3 (hgl.below BW3.out (by have := hgl.big; omega))
  have HBR2 := HBR.out
  rw [hic, hz] at C6 HBR2
  have HBR3 := hid HBR2
  clear HBR HBR2 hic hz
  simp only at C6
  go_upto_region 12 with (go_at_call 9; (with_reducible refine C6.mono ?_); rintro e w7 ⟨cells4, F4, rfl, hV, B7⟩; have HV := hid hV; obtain ⟨d0, d2, d4, d5, d7, d6, d8, k1, l1, k2, k3, l2, l3, rfl⟩ := tv_cells hV; have HB7 := hid B7; clear hV B7)
  clear C6
  obtain ⟨W4, hW4⟩ : ∃ W, W = ((w7.alloc (.cells #[.int .i64 d0, .slice k1 k2 k3, .int .i64 d2, .slice l1 l2 l3, .int .i64 d4, .int .i64 d5, .bool d6, .int .i64 d7, .string d8] 26)).alloc (.cells #[.int .i64 ic, .int .i64 ia] 29)) := ⟨_, rfl⟩
  obtain ⟨xd, hxd⟩ : ∃ v, v = w7.heap.size := ⟨_, rfl⟩
  obtain ⟨xi, hxi⟩ : ∃ v, v = w7.heap.size + 1 := ⟨_, rfl⟩
  have LD : Hid (W4.heap[xd]? = some (.cells #[.int .i64 d0, .slice k1 k2 k3, .int .i64 d2, .slice l1 l2 l3, .int .i64 d4, .int .i64 d5, .bool d6, .int .i64 d7, .string d8] 26 (0, 0))) := by rw [hW4, hxd]; exact (two_new w7 _ _).1
  have LI : Hid (W4.heap[xi]? = some (.cells #[.int .i64 ic, .int .i64 ia] 29 (0, 0))) := by rw [hW4, hxi]; exact (two_new w7 _ _).2
  have B74 : Hid (Below w7.heap.size w7 W4) := by rw [hW4]; exact Joins.below_alloc2 w7 _ _
  have B34 : Hid (Below W3.heap.size W3 W4) := hid (HB7.out.trans (Joins.below_le B74.out HB7.out.size))
  have B24 : Hid (Below W2.heap.size W2 W4) := hid (B23.out.trans (Joins.below_le B34.out B23.out.size))
  have BW4 : Hid (Below w.heap.size w W4) := hid (BW3.out.trans (Joins.below_le B34.out BW3.out.size))
  have TD : Hid (TV 0 W4 #[.int .i64 d0, .slice k1 k2 k3, .int .i64 d2, .slice l1 l2 l3, .int .i64 d4, .int .i64 d5, .bool d6, .int .i64 d7, .string d8].toList z F4) := HV.out.kept fun k hk => B74.out.block k (HV.out.low k hk).2
  have TC4 : Hid (TV 0 W4 #[.int .i64 u0, .slice v1 v2 v3, .int .i64 u2, .slice y1 y2 y3, .int .i64 u4, .int .i64 u5, .bool u6, .int .i64 u7, .string u8].toList (.alt (altsT (txt p) x ++ altsT (txt q) y)) F3) := TC.out.kept fun k hk => B34.out.block k (TC.out.low k hk).2
  have TA4 : Hid (TV 0 W4 #[.int .i64 a0, .slice r1 r2 r3, .int .i64 a2, .slice s1 s2 s3, .int .i64 a4, .int .i64 a5, .bool a6, .int .i64 a7, .string a8].toList x F) := TA2.out.kept fun k hk => B24.out.block k (TA2.out.low k hk).2
  have TB4 : Hid (TV 0 W4 #[.int .i64 b0, .slice m1 m2 m3, .int .i64 b2, .slice n1 n2 n3, .int .i64 b4, .int .i64 b5, .bool b6, .int .i64 b7, .string b8].toList y G) := TB.out.kept fun k hk => B24.out.block k (TB.out.low k hk).2
  have LA4 := hid ((B24.out.block xa lA2).trans LA2.out)
  have LB4 := hid ((B24.out.block xb lB2).trans LB.out)
  have LC4 := hid ((B34.out.block xc lC3).trans LC.out)
  have LH4 := hid ((B34.out.block xh lH3).trans LH.out)
  have lA4 : xa < W4.heap.size := (Array.getElem?_eq_some_iff.1 LA4.out).1
  have lB4 : xb < W4.heap.size := (Array.getElem?_eq_some_iff.1 LB4.out).1
  have lC4 : xc < W4.heap.size := (Array.getElem?_eq_some_iff.1 LC4.out).1
  have lD4 : xd < W4.heap.size := (Array.getElem?_eq_some_iff.1 LD.out).1
  have lI4 : xi < W4.heap.size := (Array.getElem?_eq_some_iff.1 LI.out).1
  obtain ⟨g0, g1⟩ := blk2 LH4.out
  rw [← hW4, ← hxi, ← hxd]
  clear hW4 hxi hxd HV B74 HB7 LA2 LF2 LB LG LC LH TA2 TB TC lA2 lF2 lB2 lG2 lC3 lH3 B34 B23
  go_upto_region 15 with fail
  clear g0 g1
  obtain ⟨i0, hi0, hz0, hz1, hz2⟩ := info_parts info26
  have np0 := alts_pos HCP.out
  have np1 := alts_len HCP.out
  have nq0 := alts_pos HCQ.out
  have nq1 := alts_len HCQ.out
  rw [h3] at np0 np1
  rw [h4] at nq0 nq1
  have hl := HLN.out
  have C7 := alts15 p hp TA4.out (Nat.zero_le _)
  obtain ⟨o0, o1, o2, o3, o4, o5, o6, o7, o8⟩ := blk9 LA4.out
  go_upto_region 16 with (first
    | (go_at_call 15; (with_reducible refine C7.mono ?_); rintro e w8 ⟨v, cl1, G1, rfl, k1, k2, k3, k4⟩; obtain ⟨gb, gcap, rfl⟩ := Joins.ownsRow_form k1 np0; have K1 := hid k1; have K2 := hid k2; have K3 := hid k3; have K4 := hid k4; clear k1 k2 k3 k4)
    | (at_builtin; refine wpList_append_lies _ rfl (.tmp 101) (.tmp 104) 24 rfl 0 26 i0 (.agg Z9) 9 112 Tryz.underlying24 hi0 hz0 hz1 hz2 rfl (by decide) (.slice none 0 0) 0 [] rfl (World.ownsRow_nil _ _ _ _) ⟨gb, 0, none⟩ _ gcap cl1 rfl K1.out.1 (K1.out.cells rfl) (tvs_one K2.out) np0 (by unfold maxLen; omega) (by omega) (Nat.zero_le _) _ rfl ?_; intro g1 cap1 w9 p1 p2 p3 p4; have P1 := hid p1; have P2 := hid p2; have P3 := hid p3; clear p1 p2 p3))
  clear C7 o0 o1 o2 o3 o4 o5 o6 o7 o8
  have hg1 : Hid (g1 = w8.heap.size) := by
    rcases P3.out with h | h
    · simp [Value.ownBlock] at h
    · exact h
  have B9 : Hid (Below W4.heap.size W4 w9) := hid (K3.out.grown P2.out K3.out.size (fun k hk => by simp [Value.ownBlock] at hk))
  have TB9 := hid (TB4.out.kept fun k hk => B9.out.block k (TB4.out.low k hk).2)
  have C8 := alts15 q hq TB9.out (Nat.zero_le _)
  obtain ⟨o0, o1, o2, o3, o4, o5, o6, o7, o8⟩ := blk9 ((B9.out.block xb lB4).trans LB4.out)
  go_upto_region 17 with (first
    | (go_at_call 15; (with_reducible refine C8.mono ?_); rintro e w10 ⟨v, cl2, G2, rfl, k1, k2, k3, k4⟩; obtain ⟨gb2, gcap2, rfl⟩ := Joins.ownsRow_form k1 nq0; have K5 := hid k1; have K6 := hid k2; have K7 := hid k3; have K8 := hid k4; have P5 := hid (row_kept P1.out fun k hk => k3.block k (P1.out.lt k hk).2); clear k1 k2 k3 k4)
    | (at_builtin; refine wpList_append_lies _ rfl (.tmp 106) (.tmp 109) 24 rfl 0 26 i0 (.agg Z9) 9 112 Tryz.underlying24 hi0 hz0 hz1 hz2 rfl (by decide) (.slice (some ⟨g1, 0, none⟩) (0 + (altsT (txt p) x).length) cap1) (0 + (altsT (txt p) x).length) ([] ++ cl1) (by simp [Act.eval, Act.put]) P5.out ⟨gb2, 0, none⟩ _ gcap2 cl2 rfl K5.out.1 (K5.out.cells rfl) (tvs_one K6.out) nq0 (by unfold maxLen; omega) (by omega) (Nat.zero_le _) _ rfl ?_; intro g2 cap2 w11 q1 q2 q3 q4; have Q1 := hid q1; have Q2 := hid q2; clear q1 q2 q3))
  clear C8 o0 o1 o2 o3 o4 o5 o6 o7 o8
  have B10 : Hid (Below W4.heap.size W4 w10) := hid (B9.out.trans (Joins.below_le K7.out B9.out.size))
  have B11 : Hid (Below W4.heap.size W4 w11) := hid (B10.out.grown Q2.out B10.out.size (fun k hk => by
    simp only [Value.ownBlock, Option.some.injEq] at hk
    have := hg1.out
    have := K3.out.size
    omega))
  have R1 : w11.ownsRow 0 26 9 (.slice (some ⟨g2, 0, none⟩) ((altsT (txt p) x).length + (altsT (txt q) y).length) cap2) ((altsT (txt p) x).length + (altsT (txt q) y).length) (cl1 ++ cl2) := by
    have := Q1.out
    rw [Nat.zero_add, List.nil_append] at this
    exact this
  have T1 : TVs 0 w11 cl1 (altsT (txt p) x) G1 := K2.out.kept fun k hk => by
    have hf := K4.out k hk
    have hlt := (TA4.out.low k hf).2
    rw [B11.out.block k hlt, K3.out.block k hlt]
  have T2 : TVs 0 w11 cl2 (altsT (txt q) y) G2 := K6.out.kept fun k hk => by
    have hf := K8.out k hk
    have hlt := (TB4.out.low k hf).2
    rw [B11.out.block k hlt, B10.out.block k hlt]
  obtain ⟨H12, T12⟩ := tvs_app T1 T2
  rw [← List.length_append] at R1
  have TL : TV 0 w11 [.int .i64 5, .slice none 0 0, .int .i64 0, .slice (some ⟨g2, 0, none⟩) (altsT (txt p) x ++ altsT (txt q) y).length cap2, .int .i64 0, .int .i64 0, .bool false, .int .i64 0, .string ⟨#[]⟩] (.alt (altsT (txt p) x ++ altsT (txt q) y)) _ := .mk (World.ownsRow_nil _ _ _ _) R1 T12
  have C9 := same10_all _ _ _ 0 w11 _ _ _ _ (Nat.le_refl _) (TC4.out.kept fun k hk => B11.out.block k (TC4.out.low k hk).2) TL
  rw [sameT_refl, List.length_append] at C9
  obtain ⟨o0, o1, o2, o3, o4, o5, o6, o7, o8⟩ := blk9 ((B11.out.block xc lC4).trans LC4.out)
  clear T1 T2 T12 TL R1
  go_upto_region 18 with (go_at_call 10; (with_reducible refine C9.mono ?_); rintro e w12 ⟨rfl, B⟩; have B12' := hid B; clear B)
  clear C9 o0 o1 o2 o3 o4 o5 o6 o7 o8
  have B13 : Hid (Below W4.heap.size W4 w12) := hid (B11.out.trans (Joins.below_le B12'.out B11.out.size))
  have C10 := same10_all _ _ _ 0 w12 _ _ _ _ (Nat.le_refl _) (TD.out.kept fun k hk => B13.out.block k (TD.out.low k hk).2) (TA4.out.kept fun k hk => B13.out.block k (TA4.out.low k hk).2)
  obtain ⟨o0, o1, o2, o3, o4, o5, o6, o7, o8⟩ := blk9 ((B13.out.block xd lD4).trans LD.out)
  obtain ⟨e0, e1, e2, e3, e4, e5, e6, e7, e8⟩ := blk9 ((B13.out.block xa lA4).trans LA4.out)
  obtain ⟨sv, hsv⟩ : ∃ b, sameT z x = b := ⟨_, rfl⟩
  rw [hsv] at C10
  have HSV := hid hsv
  clear hsv
  go_upto_region 19 with (go_at_call 10; (with_reducible refine C10.mono ?_); rintro e w13 ⟨rfl, B⟩; have B14' := hid B; clear B)
  clear C10 o0 o1 o2 o3 o4 o5 o6 o7 o8 e0 e1 e2 e3 e4 e5 e6 e7 e8
  have B15 : Hid (Below W4.heap.size W4 w13) := hid (B13.out.trans (Joins.below_le B14'.out B13.out.size))
  have BZ : Hid (Below w.heap.size w w13) := hid (BW4.out.trans (Joins.below_le B15.out BW4.out.size))
  obtain ⟨g0, g1'⟩ := blk2 ((B15.out.block xi lI4).trans LI.out)
  rcases HBR3.out with ⟨hz, ht⟩ | hz
  · have hs1 : sv = true := by rw [← HSV.out, ht]; exact sameT_refl x
    have e1 : (ic == 0) = true := by simp [hz]
    clear HBR3 hz
    subst hs1
    go_wp2
    go_ret
    exact ⟨rfl, BZ.out⟩
  · subst hz
    clear HBR3
    cases sv with
    | true =>
      go_wp2
      go_ret
      exact ⟨rfl, BZ.out⟩
    | false =>
      go_wp2
      go_ret
      exact ⟨rfl, BZ.out⟩
end Go.Proofs.YtenanfkmmkmolaaGreatDoor
namespace Go.Proofs.YtenanfkmmkmolaaGreatDoor
open Go.ChangeShapes Go.WideShapes Go.ChangeAt Go.RowKit Go.Mx
open Go.ChangeMaps (open_string shut_string)
set_option linter.unusedVariables false
set_option linter.unusedSimpArgs false
theorem big_of_shapedJ {W : World} (h : W.ShapedOpen Tryz.prog) : 4 ≤ W.heap.size := by
  obtain ⟨cs, hc, _⟩ := h.1 3 #[.int .i64 0] 3 (of_decide_eq_true (by kernel_rfl)) (by kernel_rfl)
  have := (Array.getElem?_eq_some_iff.1 hc).1
  omega
set_option maxRecDepth 100000 in
theorem joinsContract (H : Type) (enc : TypeId × Value → H) (W : World) (base : Nat) (args : Array Value) (ds gs : List (DataW H)) (before : List MemPlace)
    (hval : ∀ (j : Nat) t v, Tryz.f6.params[j]? = some t → args[j]? = some v → Value.okWide Tryz.prog W .any base t v)
    (hW : DataW.Whole enc Tryz.prog Tryz.f6.params.toList Rows.syntaxJoinsSpec.vars false W args.toList ds gs before)
    (hsz : (DataW.weightsEach Tryz.prog (Tryz.f6.params.toList ++ Rows.syntaxJoinsSpec.plain.varTypes Tryz.prog) (ds ++ gs)).all (· ≤ reachBytes) = true)
    (hL : laidMetH Tryz.prog Rows.syntaxJoinsRow.laid W) (hS : W.ShapedOpen Tryz.prog) :
    Calls Tryz.prog 6 args W fun e W' => ∃ v, e = .returned v ∧ Rows.syntaxJoinsSpec.post enc Tryz.prog Tryz.f6 false true false false W args v W' := by
  have hW' := hW
  obtain ⟨p, q, hA0, hV, rfl, hfz, hnd⟩ := hW
  have hA : DataW.TrodAll enc Tryz.prog W 0 (fun _ => true) true Tryz.f6.params.toList args.toList ds p := hA0
  rw [Tryz.params6] at hA hval hsz
  obtain ⟨v0, vs0, d0, ds0, p0, q0, hargs, rfl, rfl, h0, r0⟩ := trodAll_cons hA
  obtain ⟨v1, vs1, d1, ds1, p1, q1, rfl, rfl, rfl, h1, r1⟩ := trodAll_cons r0
  obtain ⟨rfl, rfl, rfl⟩ := trodAll_nil r1
  obtain rfl : args = #[v0, v1] := by cases args; simp_all
  obtain ⟨rfl, rfl⟩ := trodVars_none hV
  obtain ⟨s0, rfl, rfl, rfl, hs0⟩ := open_string Tryz.underlying9 (hval 0 9 v0 rfl rfl) h0
  obtain ⟨s1, rfl, rfl, rfl, hs1⟩ := open_string Tryz.underlying9 (hval 1 9 v1 rfl rfl) h1
  have z0 : s0.size ≤ reachBytes := by
    have := sized_string hsz (j := 0) (t := 9) (bytes := s0.data.toList) rfl rfl
    simpa using this
  have z1 : s1.size ≤ reachBytes := by
    have := sized_string hsz (j := 1) (t := 9) (bytes := s1.data.toList) rfl rfl
    simpa using this
  unfold reachBytes at z0 z1
  refine (joins6 s0 s1 W (gl_of_laid (show laidMetH Tryz.prog Rows.syntaxBeginsRow.laid W from hL) (big_of_shapedJ hS)) (by omega) (by omega) rfl rfl rfl rfl rfl rfl).mono fun e W' ⟨he, hb⟩ => ?_
  subst he
  exact ⟨_, rfl, _, _, _, [], [], [], hW', trodAll_cons_mk (shut_bool Tryz.underlying4 _) trodAll_mk0, trodAll_cons_mk (shut_string Tryz.underlying9 hs0) (trodAll_cons_mk (shut_string Tryz.underlying9 hs1) trodAll_mk0), rfl, hb.frame _, fun h => by cases h⟩
theorem joinsLaid (os : Os) : laidMetH Tryz.prog Rows.syntaxJoinsRow.laid ((fixWorld (World.holding Tryz.prog os ⟨#[], #[], []⟩)).forCall (fun _ _ => 0) ⟨#[], #[.string ⟨#[]⟩, .string ⟨#[]⟩], []⟩).memory :=
  laidMetH_of_parts (laidMet_of_run' 8 (by kernel_rfl) (by kernel_rfl)) (by kernel_rfl)
theorem joinsReads (os : Os) {H : Type} (enc : TypeId × Value → H) : ∃ places, DataW.whole enc Tryz.prog ((fixWorld (World.holding Tryz.prog os ⟨#[], #[], []⟩)).forCall (fun _ _ => 0) ⟨#[], #[.string ⟨#[]⟩, .string ⟨#[]⟩], []⟩).memory Tryz.f6.params.toList Rows.syntaxJoinsSpec.vars false (#[Value.string ⟨#[]⟩, .string ⟨#[]⟩] : Array Value).toList 8 = some ([.lit (.string []), .lit (.string [])], [], places) :=
  ⟨[], by kernel_rfl⟩
set_option maxRecDepth 100000 in
theorem joinsLifted (os : Os) (started : os.Started) (H : Type) (enc : TypeId × Value → H) (F : Stop.Interp) :
    ReturnsInHanded {} Tryz.checked os 6 .any ((OpenSpec.ofChange Rows.syntaxJoinsSpec).preRow enc Tryz.prog Tryz.f6 Rows.syntaxJoinsRow.domain false Rows.syntaxJoinsRow.laid) (((OpenSpec.ofChange Rows.syntaxJoinsSpec).at F).post enc Tryz.prog Tryz.f6 false true false false) := by
  obtain ⟨places, hx⟩ := joinsReads os enc
  refine returnsInHanded_of_row (C := Tryz.checked) (s := OpenSpec.ofChange Rows.syntaxJoinsSpec) own started (by kernel_rfl) Tryz.func6
    (witness_row_at (enc := enc) (C := Tryz.checked) false (fixWorld (World.holding Tryz.prog os ⟨#[], #[], []⟩)) #[.string ⟨#[]⟩, .string ⟨#[]⟩] rfl (by kernel_rfl) (by kernel_rfl) (by kernel_rfl)
      (OpenSpec.preRow_of_cond 8 hx (by kernel_rfl) (fun k hk => by cases hk) (by kernel_rfl) (joinsLaid os))) ?_
  intro W base args ds gs before hval hW _ _ hsz hL hS _
  exact joinsContract H enc W base args ds gs before hval hW hsz hL hS
theorem joinsSaid : Rows.SyntaxJoinsSaid :=
  OpenClaim.holds_of_cond 6 Tryz.f6 rfl rfl rfl rfl rfl rfl rfl ⟨rfl, rfl, rfl, rfl, rfl⟩ rfl rfl rfl rfl rfl (by kernel_rfl) Tryz.func6 (by kernel_rfl)
    (of_decide_eq_true (by kernel_rfl)) (by unfold Func.isWrapper; first | (rw [if_pos (by decide +kernel)]; kernel_rfl) | (rw [if_neg (by decide +kernel)]; exact ⟨rfl, rfl⟩))
    (fun os started H enc _ F => by rw [OpenClaim.pre_eq_preRow]; exact joinsLifted os started H enc F)
theorem joinsPlain (f : FuncId) (fn : Func) (hf : Tryz.pinned.checked.prog.funcNamed Tryz.f6.name = some f) (hfn : Tryz.pinned.checked.prog.funcs[f]? = some fn) :
    true = Tryz.pinned.checked.prog.looks [] ∧ ∀ (j : Nat) t, fn.params[j]? = some t → Tryz.pinned.checked.prog.wantsStandIn t = false := by
  obtain rfl : f = 6 := Option.some.inj ((show Tryz.prog.funcNamed Tryz.f6.name = some 6 by kernel_rfl).symm.trans hf) |>.symm
  obtain rfl : fn = Tryz.f6 := (Option.some.inj (Tryz.func6.symm.trans hfn)).symm
  refine ⟨by kernel_rfl, fun j t ht => ?_⟩
  rw [Tryz.params6] at ht
  have hm : t = 9 := by
    rcases j with _ | _ | j
    · simpa using ht.symm
    · simpa using ht.symm
    · simp at ht
  subst hm
  exact (show Tryz.prog.wantsStandIn 9 = false by kernel_rfl)
theorem syntaxJoins_holds : Rows.SyntaxJoinsCardSaid :=
  Claim7.holds_tied_plain_at .later [] _ _ _ _ joinsSaid (fun _ h => by cases h) (by kernel_rfl) (fun _ h => by cases h) syntaxJoins_row_tie rfl ⟨rfl, rfl⟩ (by kernel_rfl) rfl joinsPlain (by kernel_rfl)
end Go.Proofs.YtenanfkmmkmolaaGreatDoor
