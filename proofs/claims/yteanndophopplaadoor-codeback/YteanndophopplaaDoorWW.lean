/- HELPERS: the document's number of a word. -/
import Derived.Test.YteanndophopplaaDoorPP
import Derived.Test.YteanndophopplaaDoorEd
import Derived.Test.YteanndophopplaaDoorGA
import Derived.Deep.QuietTactic
import Derived.BigQuiet
/- HELPERS: the words of a text, in plain words. -/
namespace Go.Proofs.YteanndophopplaaDoor
open Go.RowKit
set_option linter.unusedVariables false
set_option linter.unusedSimpArgs false
def blankB (x : Nat) : Bool := decide (x = 32) || decide (x = 9) || decide (x = 10) || decide (x = 13)
/-- the words of a text, behind the beginning of one -/
def wsp : List Nat → List Nat → List (List Nat)
  | cur, [] => if cur = [] then [] else [cur]
  | cur, x :: r => if blankB x = true then (if cur = [] then wsp [] r else cur :: wsp [] r) else wsp (cur ++ [x]) r
theorem wsp_blank {x : Nat} {r : List Nat} (h : blankB x = true) : wsp [] (x :: r) = wsp [] r := by simp [wsp, h]
theorem wsp_more {cur r : List Nat} {x : Nat} (h : blankB x = false) : wsp cur (x :: r) = wsp (cur ++ [x]) r := by simp [wsp, h]
theorem wsp_end {cur : List Nat} (h : cur ≠ []) : wsp cur [] = [cur] := by simp [wsp, h]
theorem wsp_stop {cur r : List Nat} {x : Nat} (h : blankB x = true) (hc : cur ≠ []) : wsp cur (x :: r) = cur :: wsp [] (x :: r) := by simp [wsp, h, hc]
/-- all the words -/
def wordsL (l : List Nat) : List (List Nat) := wsp [] l
theorem wsp_ne : ∀ (l cur : List Nat), ∀ w ∈ wsp cur l, w ≠ [] := by
  intro l
  induction l with
  | nil =>
    intro cur w hw
    unfold wsp at hw
    split at hw
    · simp at hw
    · simp at hw; rw [hw]; assumption
  | cons x r ih =>
    intro cur w hw
    unfold wsp at hw
    split at hw
    · split at hw
      · exact ih [] w hw
      · rcases List.mem_cons.1 hw with h | h
        · rw [h]; assumption
        · exact ih [] w h
    · exact ih _ w hw
theorem wsp_len : ∀ (l cur : List Nat), (wsp cur l).length ≤ cur.length + l.length := by
  intro l
  induction l with
  | nil =>
    intro cur
    unfold wsp
    split
    · simp
    · have : 0 < cur.length := List.length_pos_iff.2 (by assumption)
      simp; omega
  | cons x r ih =>
    intro cur
    unfold wsp
    split
    · split
      · have := ih []; simp at this ⊢; omega
      · have := ih []
        have h : 0 < cur.length := List.length_pos_iff.2 (by assumption)
        simp at this ⊢; omega
    · have := ih (cur ++ [x]); simp at this ⊢; omega
theorem bs_lt (s : ByteArray) : ∀ x ∈ bs s, x < 256 := by
  intro x hx
  simp only [bs, List.mem_map] at hx
  obtain ⟨y, _, rfl⟩ := hx
  exact y.toNat_lt
theorem bs_at (s : ByteArray) (i : Nat) (h : i < s.size) : (bs s)[i]'(by rw [bs_len]; exact h) = s[i].toNat := by simp [bs]; rfl
theorem bs_drop (s : ByteArray) (i : Nat) (h : i < s.size) : (bs s).drop i = s[i].toNat :: (bs s).drop (i + 1) := by
  rw [List.drop_eq_getElem_cons (by rw [bs_len]; exact h), bs_at s i h]
theorem blank66 (x : Nat) (w : World) (hx : x < 256) : Calls Tryd.prog 66 #[.int .u8 (x : Int)] w fun e w' => e = .returned (.bool (blankB x)) ∧ w' = w := by
  by_cases h1 : x = 32
  · subst h1
    go_enter Tryd.func66, Tryd.ntmps66
    go_wp2
    all_goals go_ret
    all_goals exact ⟨rfl, rfl⟩
  by_cases h2 : x = 9
  · subst h2
    go_enter Tryd.func66, Tryd.ntmps66
    go_wp2
    all_goals go_ret
    all_goals exact ⟨rfl, rfl⟩
  by_cases h3 : x = 10
  · subst h3
    go_enter Tryd.func66, Tryd.ntmps66
    go_wp2
    all_goals go_ret
    all_goals exact ⟨rfl, rfl⟩
  by_cases h4 : x = 13
  · subst h4
    go_enter Tryd.func66, Tryd.ntmps66
    go_wp2
    all_goals go_ret
    all_goals exact ⟨rfl, rfl⟩
  have e1 : ¬ (x : Int) = 32 := by omega
  have e2 : ¬ (x : Int) = 9 := by omega
  have e3 : ¬ (x : Int) = 10 := by omega
  have e4 : ¬ (x : Int) = 13 := by omega
  have d1 : ((x : Int) == 32) = false := by simp; omega
  have d2 : ((x : Int) == 9) = false := by simp; omega
  have d3 : ((x : Int) == 10) = false := by simp; omega
  have d4 : ((x : Int) == 13) = false := by simp; omega
  have eb : blankB x = false := by simp [blankB, h1, h2, h3, h4]
  rw [eb]
  go_enter Tryd.func66, Tryd.ntmps66
  go_wp2
  all_goals go_ret
  all_goals exact ⟨rfl, rfl⟩
abbrev RW (rb : Nat) (w : World) (s : ByteArray) : Prop := w.heap[rb]? = some (.cells #[.string s] 80 (0, 0))
theorem take_more {l : List Nat} {i j : Nat} (hj : j < l.length) (hij : i ≤ j) : (l.drop i).take (j - i + 1) = (l.drop i).take (j - i) ++ [l[j]] := by
  rw [List.take_succ_eq_append_getElem (by rw [List.length_drop]; omega), List.getElem_drop]
  congr 2
  simp only [show i + (j - i) = j by omega]
theorem bs_extract (s : ByteArray) (i j : Nat) (hj : j ≤ s.size) : bs (s.extract i j) = ((bs s).drop i).take (j - i) := by
  unfold bs
  rw [ByteArray.data_extract, Array.toList_extract, List.extract_eq_take_drop, List.map_take, List.map_drop]
theorem word_cut {s : ByteArray} {i j : Nat} (hij : i ≤ j) (hj : j ≤ s.size) (hW : wsp (((bs s).drop i).take (j - i)) ((bs s).drop j) = wordsL (bs s)) (hS : i = s.size ∨ ∃ h : i < s.size, blankB s[i].toNat = false) (hj' : j = s.size ∨ ∃ h : j < s.size, blankB s[j].toNat = true) :
    (bs (s.extract i j) = [] ∧ wordsL (bs s) = [] ∧ wordsL (bs (s.extract j s.size)) = []) ∨ (bs (s.extract i j) ≠ [] ∧ wordsL (bs s) = bs (s.extract i j) :: wordsL (bs (s.extract j s.size))) := by
  have e1 := bs_extract s i j hj
  have e2 : bs (s.extract j s.size) = (bs s).drop j := by
    rw [bs_extract s j s.size (Nat.le_refl _), List.take_of_length_le (by rw [List.length_drop, bs_len]; omega)]
  rw [e1, e2, ← hW]
  rcases hj' with hj' | ⟨h, hb⟩
  · subst hj'
    have e3 : (bs s).drop s.size = [] := List.drop_eq_nil_of_le (by rw [bs_len]; omega)
    rw [e3]
    by_cases hc : ((bs s).drop i).take (s.size - i) = []
    · left
      rw [hc]
      exact ⟨rfl, rfl, rfl⟩
    · right
      exact ⟨hc, wsp_end hc⟩
  · have hne : ((bs s).drop i).take (j - i) ≠ [] := by
      intro hc
      have hl := congrArg List.length hc
      rw [List.length_take, List.length_drop, bs_len] at hl
      simp at hl
      have : i = j := by omega
      subst this
      rcases hS with hS | ⟨h', hb'⟩
      · omega
      · rw [hb] at hb'; cases hb'
    right
    rw [bs_drop s j h]
    exact ⟨hne, wsp_stop hb hne⟩
set_option maxRecDepth 100000 in
set_option maxHeartbeats 4000000 in
theorem word50 {rb : Nat} {w : World} {s : ByteArray} (h : RW rb w s) (hs : s.size ≤ 8388608) :
    Calls Tryd.prog 50 #[pt rb] w fun e w' => ∃ (v s' : ByteArray), e = .returned (.string v) ∧ RW rb w' s' ∧ Mo w w' rb ∧ s'.size ≤ 8388608 ∧ v.size ≤ 8388608 ∧ ((bs v = [] ∧ wordsL (bs s) = [] ∧ wordsL (bs s') = []) ∨ (bs v ≠ [] ∧ wordsL (bs s) = bs v :: wordsL (bs s'))) := by
  have c0 := Joins.cell_of_block h 0
  have f0 := Joins.unfrozen_of_block h 0
  simp at c0
  have H := hid h
  obtain ⟨n, hn⟩ : ∃ n, n = s.size := ⟨_, rfl⟩
  have HN := hid hn
  clear h
  go_enter Tryd.func50, Tryd.ntmps50
  go_wp2_with fail
  go_loopw [3] (fun y wq => ∃ i : Nat, y = .int .i64 (i : Int) ∧ i ≤ s.size ∧ wq = w ∧ Hid (wsp [] ((bs s).drop i) = wordsL (bs s))) (fun y _ => s.size - (intOf y).toNat)
  case atStart => exact ⟨0, rfl, by omega, rfl, rfl⟩
  case round =>
    obtain ⟨i, rfl, hi, rfl, HW⟩ := hrel
    by_cases hil : i < s.size
    · have b1 : decide ((i : Int) < (s.size : Int)) = true := by simp; omega
      have b2 : (i : Int) < (s.size : Int) := by omega
      have ad1 : IntKind.i64.wrap ((i : Int) + 1) = (i : Int) + 1 := by simp [IntKind.wrap, IntKind.bits, IntKind.signed]; omega
      have C66 := blank66 (s[i].toNat) wr s[i].toNat_lt
      obtain ⟨bb, hbb⟩ : ∃ bb, bb = blankB s[i].toNat := ⟨_, rfl⟩
      rw [← hbb] at C66
      have HBB := hid hbb
      clear hbb
      cases bb with
      | true =>
        go_wp2_with (go_at_call 66; (with_reducible refine C66.mono ?_); rintro e w2 ⟨rfl, hw⟩; obtain rfl := hw.symm)
        refine ⟨⟨i + 1, by push_cast; rfl, by omega, by trivial, ?_⟩, by simp [intOf]; omega⟩
        show _ = _
        rw [← HW.out, bs_drop s i hil, wsp_blank HBB.out.symm]
      | false =>
        go_upto_region 4 with (go_at_call 66; (with_reducible refine C66.mono ?_); rintro e w2 ⟨rfl, hw⟩; obtain rfl := hw.symm)
        have HS : Hid (i = s.size ∨ ∃ h : i < s.size, blankB s[i].toNat = false) := .inr ⟨hil, HBB.out.symm⟩
        go_wp2_with fail
        go_loopw [4] (fun y wq => ∃ j : Nat, y = .int .i64 (j : Int) ∧ i ≤ j ∧ j ≤ s.size ∧ wq = wr ∧ Hid (wsp (((bs s).drop i).take (j - i)) ((bs s).drop j) = wordsL (bs s))) (fun y _ => s.size - (intOf y).toNat)
        case atStart => exact ⟨i, rfl, by omega, by omega, rfl, by rw [Nat.sub_self]; exact HW.out⟩
        case round =>
          obtain ⟨j, rfl, hij, hj, rfl, HW⟩ := hrel
          have hsz : j - i + 1 = j + 1 - i := by omega
          have a2 : IntKind.i64.wrap ((j : Int) + 1) = (j : Int) + 1 := by simp [IntKind.wrap, IntKind.bits, IntKind.signed]; omega
          have FIN : Hid (∀ (bad : Bool), (j = s.size ∨ ∃ h : j < s.size, blankB s[j].toNat = true) → (bs (s.extract i j) = [] ∧ wordsL (bs s) = [] ∧ wordsL (bs (s.extract j s.size)) = []) ∨ (bs (s.extract i j) ≠ [] ∧ wordsL (bs s) = bs (s.extract i j) :: wordsL (bs (s.extract j s.size)))) := fun _ hj' => word_cut hij hj HW.out HS.out hj'
          by_cases hjl : j < s.size
          · have d1 : decide ((j : Int) < (s.size : Int)) = true := by simp; omega
            have d2 : (j : Int) < (s.size : Int) := by omega
            have C66 := blank66 (s[j].toNat) wr s[j].toNat_lt
            obtain ⟨bb, hbb⟩ : ∃ bb, bb = blankB s[j].toNat := ⟨_, rfl⟩
            rw [← hbb] at C66
            have HBJ := hid hbb
            clear hbb
            cases bb with
            | false =>
              go_wp2_with (go_at_call 66; (with_reducible refine C66.mono ?_); rintro e w2 ⟨rfl, hw⟩; obtain rfl := hw.symm)
              refine ⟨⟨j + 1, by push_cast; rfl, by omega, by omega, by trivial, ?_⟩, by simp [intOf]; omega⟩
              show _ = _
              rw [← HW.out, bs_drop s j hjl, wsp_more HBJ.out.symm]
              congr 1
              rw [← hsz, take_more (by rw [bs_len]; exact hjl) hij, bs_at s j hjl]
            | true =>
              have HF := hid (FIN.out true (.inr ⟨hjl, HBJ.out.symm⟩))
              go_wp2_with (go_at_call 66; (with_reducible refine C66.mono ?_); rintro e w2 ⟨rfl, hw⟩; obtain rfl := hw.symm)
              all_goals go_ret
              all_goals first | exact ⟨_, rfl, _, Joins.block_setCell H.out _, Mo.set _ _ _ _, by simp; omega, by simp; omega, HF.out⟩ | exact ⟨_, _, rfl, Joins.block_setCell H.out _, Mo.set _ _ _ _, by simp; omega, by simp; omega, HF.out⟩
          · have d1 : decide ((j : Int) < (s.size : Int)) = false := by simp; omega
            have d2 : ¬ (j : Int) < (s.size : Int) := by omega
            have HF := hid (FIN.out true (.inl (by omega)))
            go_wp2
            all_goals go_ret
            all_goals first | exact ⟨_, rfl, _, Joins.block_setCell H.out _, Mo.set _ _ _ _, by simp; omega, by simp; omega, HF.out⟩ | exact ⟨_, _, rfl, Joins.block_setCell H.out _, Mo.set _ _ _ _, by simp; omega, by simp; omega, HF.out⟩
    · have b1 : decide ((i : Int) < (s.size : Int)) = false := by simp; omega
      have b2 : ¬ (i : Int) < (s.size : Int) := by omega
      go_upto_region 4 with fail
      have HS : Hid (i = s.size ∨ ∃ h : i < s.size, blankB s[i].toNat = false) := .inl (by omega)
      go_wp2_with fail
      go_loopw [4] (fun y wq => ∃ j : Nat, y = .int .i64 (j : Int) ∧ i ≤ j ∧ j ≤ s.size ∧ wq = wr ∧ Hid (wsp (((bs s).drop i).take (j - i)) ((bs s).drop j) = wordsL (bs s))) (fun y _ => s.size - (intOf y).toNat)
      case atStart => exact ⟨i, rfl, by omega, by omega, rfl, by rw [Nat.sub_self]; exact HW.out⟩
      case round =>
        obtain ⟨j, rfl, hij, hj, rfl, HW⟩ := hrel
        have hsz : j - i + 1 = j + 1 - i := by omega
        have a2 : IntKind.i64.wrap ((j : Int) + 1) = (j : Int) + 1 := by simp [IntKind.wrap, IntKind.bits, IntKind.signed]; omega
        have FIN : Hid (∀ (bad : Bool), (j = s.size ∨ ∃ h : j < s.size, blankB s[j].toNat = true) → (bs (s.extract i j) = [] ∧ wordsL (bs s) = [] ∧ wordsL (bs (s.extract j s.size)) = []) ∨ (bs (s.extract i j) ≠ [] ∧ wordsL (bs s) = bs (s.extract i j) :: wordsL (bs (s.extract j s.size)))) := fun _ hj' => word_cut hij hj HW.out HS.out hj'
        by_cases hjl : j < s.size
        · exfalso; omega
        · have d1 : decide ((j : Int) < (s.size : Int)) = false := by simp; omega
          have d2 : ¬ (j : Int) < (s.size : Int) := by omega
          have HF := hid (FIN.out true (.inl (by omega)))
          go_wp2
          all_goals go_ret
          all_goals first | exact ⟨_, rfl, _, Joins.block_setCell H.out _, Mo.set _ _ _ _, by simp; omega, by simp; omega, HF.out⟩ | exact ⟨_, _, rfl, Joins.block_setCell H.out _, Mo.set _ _ _ _, by simp; omega, by simp; omega, HF.out⟩
end Go.Proofs.YteanndophopplaaDoor
/- HELPERS: a word that is a number. -/
namespace Go.Proofs.YteanndophopplaaDoor
open Go.RowKit
set_option linter.unusedVariables false
set_option linter.unusedSimpArgs false
theorem isNum_no {w : List Nat} (h : w.length < 1 ∨ 9 < w.length ∨ (w.head? = some 48 ∧ 1 < w.length) ∨ ∃ i, ∃ h : i < w.length, digB w[i] = false) : isNumB w = false := by
  unfold isNumB
  rcases h with h | h | ⟨h1, h2⟩ | ⟨i, hi, h⟩
  · rw [decide_eq_false (show ¬ 1 ≤ w.length by omega)]; simp
  · rw [decide_eq_false (show ¬ w.length ≤ 9 by omega)]; simp
  · rw [h1, decide_eq_true h2]; simp
  · have : w.all digB = false := by
      rw [List.all_eq_false]
      exact ⟨w[i], List.getElem_mem hi, by rw [h]; simp⟩
    rw [this]; simp
theorem isNum_yes {w : List Nat} (h1 : 1 ≤ w.length) (h9 : w.length ≤ 9) (hh : ¬ (w.head? = some 48 ∧ 1 < w.length)) (h : ∀ i (hi : i < w.length), digB w[i] = true) : isNumB w = true := by
  unfold isNumB
  have e : w.all digB = true := by
    rw [List.all_eq_true]
    intro x hx
    obtain ⟨i, hi, rfl⟩ := List.getElem_of_mem hx
    exact h i hi
  rw [decide_eq_true h1, decide_eq_true h9, e]
  by_cases e1 : w.head? = some 48
  · have : ¬ 1 < w.length := fun h2 => hh ⟨e1, h2⟩
    rw [decide_eq_false this]; simp
  · have : (w.head? == some 48) = false := by simpa using e1
    rw [this]; simp
theorem bs_head (s : ByteArray) (h : 0 < s.size) : (bs s).head? = some (s[0].toNat) := by
  have := bs_drop s 0 h
  rw [List.drop_zero] at this
  rw [this]; rfl
set_option maxRecDepth 100000 in
set_option maxHeartbeats 4000000 in
theorem isNumber65 (s : ByteArray) (w : World) (hs : s.size ≤ 8388608) : Calls Tryd.prog 65 #[.string s] w fun e w' => e = .returned (.bool (isNumB (bs s))) ∧ w' = w := by
  by_cases h1 : s.size < 1
  · have b1 : decide ((s.size : Int) < 1) = true := by simp; omega
    have b2 : (s.size : Int) < 1 := by omega
    rw [isNum_no (.inl (by rw [bs_len]; exact h1))]
    go_enter Tryd.func65, Tryd.ntmps65
    go_wp2
    all_goals go_ret
    all_goals exact ⟨rfl, rfl⟩
  have b1 : decide ((s.size : Int) < 1) = false := by simp; omega
  have b2 : ¬ (s.size : Int) < 1 := by omega
  by_cases h9 : 9 < s.size
  · have b3 : decide ((s.size : Int) > 9) = true := by simp; omega
    have b4 : (9 : Int) < (s.size : Int) := by omega
    rw [isNum_no (.inr (.inl (by rw [bs_len]; exact h9)))]
    go_enter Tryd.func65, Tryd.ntmps65
    go_wp2
    all_goals go_ret
    all_goals exact ⟨rfl, rfl⟩
  have b3 : decide ((s.size : Int) > 9) = false := by simp; omega
  have b4 : ¬ (9 : Int) < (s.size : Int) := by omega
  have h0 : 0 < s.size := by omega
  have b5 : (0 : Int) < (s.size : Int) := by omega
  obtain ⟨c0, hc0⟩ : ∃ c0, c0 = s[0].toNat := ⟨_, rfl⟩
  by_cases hz : c0 = 48 ∧ 1 < s.size
  · obtain ⟨z1, z2⟩ := hz
    have b6 : (s[0].toNat : Int) = 48 := by rw [← hc0, z1]; rfl
    have b7 : decide ((s.size : Int) > 1) = true := by simp; omega
    have b8 : (1 : Int) < (s.size : Int) := by omega
    rw [isNum_no (.inr (.inr (.inl ⟨by rw [bs_head s h0, ← hc0, z1], by rw [bs_len]; exact z2⟩)))]
    clear hc0
    go_enter Tryd.func65, Tryd.ntmps65
    go_wp2
    all_goals go_ret
    all_goals exact ⟨rfl, rfl⟩
  · have HZ : Hid (¬ ((bs s).head? = some 48 ∧ 1 < (bs s).length)) := by
      rintro ⟨e1, e2⟩
      rw [bs_head s h0, ← hc0] at e1
      rw [bs_len] at e2
      exact hz ⟨Option.some.inj e1, e2⟩
    obtain ⟨r, hr⟩ : ∃ r, r = isNumB (bs s) := ⟨_, rfl⟩
    rw [← hr]
    have HR := hid hr
    clear hr
    by_cases hc : c0 = 48
    · have z2 : ¬ 1 < s.size := fun h => hz ⟨hc, h⟩
      have b6 : (s[0].toNat : Int) = 48 := by rw [← hc0, hc]; rfl
      have b7 : decide ((s.size : Int) > 1) = false := by simp; omega
      have b8 : ¬ (1 : Int) < (s.size : Int) := by omega
      clear hc0 hz
      go_enter Tryd.func65, Tryd.ntmps65
      go_wp2_with fail
      go_loopw [24] (fun y wq => ∃ i : Nat, y = .int .i64 (i : Int) ∧ i ≤ s.size ∧ wq = w ∧ Hid (∀ j (h : j < s.size), j < i → digB s[j].toNat = true)) (fun y _ => s.size - (intOf y).toNat)
      case atStart => exact ⟨0, rfl, by omega, rfl, fun j _ hj => by omega⟩
      case round =>
        obtain ⟨i, rfl, hi, rfl, HJ⟩ := hrel
        by_cases hil : i < s.size
        · have e1 : decide ((i : Int) < (s.size : Int)) = true := by simp; omega
          have e2 : (i : Int) < (s.size : Int) := by omega
          have ad1 : IntKind.i64.wrap ((i : Int) + 1) = (i : Int) + 1 := by simp [IntKind.wrap, IntKind.bits, IntKind.signed]; omega
          obtain ⟨ci, hci⟩ : ∃ ci, ci = s[i].toNat := ⟨_, rfl⟩
          have HCI := hid hci
          by_cases hlo : ci < 48
          · have e3 : decide ((s[i].toNat : Int) < 48) = true := by rw [← hci]; simp; omega
            have e4 : (s[i].toNat : Int) < 48 := by rw [← hci]; omega
            have HR0 : Hid (r = false) := by
              show _ = _
              rw [HR.out]
              exact isNum_no (.inr (.inr (.inr ⟨i, by rw [bs_len]; exact hil, by rw [bs_at s i hil, ← hci]; simp [digB]; omega⟩)))
            clear hci
            go_wp2
            all_goals go_ret
            all_goals exact ⟨ret_bool HR0.out.symm, rfl⟩
          · have e3 : decide ((s[i].toNat : Int) < 48) = false := by rw [← hci]; simp; omega
            have e4 : ¬ (s[i].toNat : Int) < 48 := by rw [← hci]; omega
            by_cases hhi : 57 < ci
            · have e5 : decide ((s[i].toNat : Int) > 57) = true := by rw [← hci]; simp; omega
              have e6 : (57 : Int) < (s[i].toNat : Int) := by rw [← hci]; omega
              have HR0 : Hid (r = false) := by
                show _ = _
                rw [HR.out]
                exact isNum_no (.inr (.inr (.inr ⟨i, by rw [bs_len]; exact hil, by rw [bs_at s i hil, ← hci]; simp [digB]; omega⟩)))
              clear hci
              go_wp2
              all_goals go_ret
              all_goals exact ⟨ret_bool HR0.out.symm, rfl⟩
            · have e5 : decide ((s[i].toNat : Int) > 57) = false := by rw [← hci]; simp; omega
              have e6 : ¬ (57 : Int) < (s[i].toNat : Int) := by rw [← hci]; omega
              have HJ2 : Hid (∀ j (h : j < s.size), j < i + 1 → digB s[j].toNat = true) := fun j h hj => by
                by_cases e : j = i
                · subst e; rw [← hci]; simp [digB]; omega
                · exact HJ.out j h (by omega)
              clear hci
              go_wp2
              exact ⟨⟨i + 1, by push_cast; rfl, by omega, by trivial, HJ2.out⟩, by simp [intOf]; omega⟩
        · have e1 : decide ((i : Int) < (s.size : Int)) = false := by simp; omega
          have e2 : ¬ (i : Int) < (s.size : Int) := by omega
          have HR1 : Hid (r = true) := by
            show _ = _
            rw [HR.out]
            exact isNum_yes (by rw [bs_len]; omega) (by rw [bs_len]; omega) (HZ.out) (fun j hj => by rw [bs_len] at hj; rw [bs_at s j hj]; exact HJ.out j hj (by omega))
          go_wp2
          all_goals go_ret
          all_goals exact ⟨ret_bool HR1.out.symm, rfl⟩
    · have b6 : ¬ (s[0].toNat : Int) = 48 := by rw [← hc0]; omega
      have b7 : ((s[0].toNat : Int) == 48) = false := by simp only [beq_eq_false_iff_ne]; exact b6
      clear hc0 hz
      go_enter Tryd.func65, Tryd.ntmps65
      go_wp2_with fail
      go_loopw [24] (fun y wq => ∃ i : Nat, y = .int .i64 (i : Int) ∧ i ≤ s.size ∧ wq = w ∧ Hid (∀ j (h : j < s.size), j < i → digB s[j].toNat = true)) (fun y _ => s.size - (intOf y).toNat)
      case atStart => exact ⟨0, rfl, by omega, rfl, fun j _ hj => by omega⟩
      case round =>
        obtain ⟨i, rfl, hi, rfl, HJ⟩ := hrel
        by_cases hil : i < s.size
        · have e1 : decide ((i : Int) < (s.size : Int)) = true := by simp; omega
          have e2 : (i : Int) < (s.size : Int) := by omega
          have ad1 : IntKind.i64.wrap ((i : Int) + 1) = (i : Int) + 1 := by simp [IntKind.wrap, IntKind.bits, IntKind.signed]; omega
          obtain ⟨ci, hci⟩ : ∃ ci, ci = s[i].toNat := ⟨_, rfl⟩
          have HCI := hid hci
          by_cases hlo : ci < 48
          · have e3 : decide ((s[i].toNat : Int) < 48) = true := by rw [← hci]; simp; omega
            have e4 : (s[i].toNat : Int) < 48 := by rw [← hci]; omega
            have HR0 : Hid (r = false) := by
              show _ = _
              rw [HR.out]
              exact isNum_no (.inr (.inr (.inr ⟨i, by rw [bs_len]; exact hil, by rw [bs_at s i hil, ← hci]; simp [digB]; omega⟩)))
            clear hci
            go_wp2
            all_goals go_ret
            all_goals exact ⟨ret_bool HR0.out.symm, rfl⟩
          · have e3 : decide ((s[i].toNat : Int) < 48) = false := by rw [← hci]; simp; omega
            have e4 : ¬ (s[i].toNat : Int) < 48 := by rw [← hci]; omega
            by_cases hhi : 57 < ci
            · have e5 : decide ((s[i].toNat : Int) > 57) = true := by rw [← hci]; simp; omega
              have e6 : (57 : Int) < (s[i].toNat : Int) := by rw [← hci]; omega
              have HR0 : Hid (r = false) := by
                show _ = _
                rw [HR.out]
                exact isNum_no (.inr (.inr (.inr ⟨i, by rw [bs_len]; exact hil, by rw [bs_at s i hil, ← hci]; simp [digB]; omega⟩)))
              clear hci
              go_wp2
              all_goals go_ret
              all_goals exact ⟨ret_bool HR0.out.symm, rfl⟩
            · have e5 : decide ((s[i].toNat : Int) > 57) = false := by rw [← hci]; simp; omega
              have e6 : ¬ (57 : Int) < (s[i].toNat : Int) := by rw [← hci]; omega
              have HJ2 : Hid (∀ j (h : j < s.size), j < i + 1 → digB s[j].toNat = true) := fun j h hj => by
                by_cases e : j = i
                · subst e; rw [← hci]; simp [digB]; omega
                · exact HJ.out j h (by omega)
              clear hci
              go_wp2
              exact ⟨⟨i + 1, by push_cast; rfl, by omega, by trivial, HJ2.out⟩, by simp [intOf]; omega⟩
        · have e1 : decide ((i : Int) < (s.size : Int)) = false := by simp; omega
          have e2 : ¬ (i : Int) < (s.size : Int) := by omega
          have HR1 : Hid (r = true) := by
            show _ = _
            rw [HR.out]
            exact isNum_yes (by rw [bs_len]; omega) (by rw [bs_len]; omega) (HZ.out) (fun j hj => by rw [bs_len] at hj; rw [bs_at s j hj]; exact HJ.out j hj (by omega))
          go_wp2
          all_goals go_ret
          all_goals exact ⟨ret_bool HR1.out.symm, rfl⟩
/-- a reader of words -/
def RDw (B rb : Nat) (w : World) (m : List (List Nat)) : Prop := B ≤ rb ∧ ∃ s, RW rb w s ∧ s.size ≤ 8388608 ∧ wordsL (bs s) = m
theorem rdr_w {B rb : Nat} (h : B ≤ rb) : Rdr B rb (RDw B rb) where
  kept := fun w w' l ⟨h0, s, h1, h2, h3⟩ hb hk => ⟨h0, s, hb.trans h1, h2, h3⟩
  lt := fun w l ⟨h0, s, h1, h2, h3⟩ => (Array.getElem?_eq_some_iff.1 h1).1
  low := h
theorem val_take {l : List Nat} {i : Nat} (h : i < l.length) : valW (l.take (i + 1)) = 10 * valW (l.take i) + (l[i] - 48) := by
  rw [List.take_succ_eq_append_getElem h, valW_snoc]
theorem val_take_lt {l : List Nat} {i : Nat} (h : ∀ x ∈ l, 48 ≤ x ∧ x ≤ 57) (h9 : i ≤ 9) : valW (l.take i) < 1000000000 := by
  have h1 := val_lt (l.take i) (fun x hx => h x (List.mem_of_mem_take hx))
  have h2 : 10 ^ (l.take i).length ≤ 10 ^ 9 := Nat.pow_le_pow_right (by omega) (by rw [List.length_take]; omega)
  omega
set_option maxRecDepth 100000 in
set_option maxHeartbeats 4000000 in
theorem number49 {B rb : Nat} : NumR 49 rb (RDw B rb) wordC := by
  intro w m hm
  obtain ⟨hB, s, h1, h2, h3⟩ := hm
  have C50 := word50 h1 h2
  have HB := hid hB
  have H3 := hid h3
  clear h1 h3 hB
  go_enter Tryd.func49, Tryd.ntmps49
  go_upto_region 2 with (go_at_call 50; (with_reducible refine C50.mono ?_); rintro e w1 ⟨v, s', rfl, hR, hM, hs', hvs, hx⟩; have HR := hid hR; have HM := hid hM; have HX := hid hx; clear hR hM hx C50)
  have C65 := isNumber65 v w1 hvs
  cases hb : isNumB (bs v) with
  | false =>
    rw [hb] at C65
    have HNO : Hid (wordC.get m = none) := by
      show _ = _
      rw [← H3.out]
      rcases HX.out with ⟨_, h, _⟩ | ⟨_, h⟩
      · rw [h]; rfl
      · rw [h]
        show (numW (bs v)).map _ = none
        unfold numW; rw [if_neg (by rw [hb]; simp)]; rfl
    clear hb
    go_wp2_with (go_at_call 65; (with_reducible refine C65.mono ?_); rintro e w2 ⟨rfl, hw⟩; obtain rfl := hw.symm)
    exact ⟨rfl, HM.out, .inl ⟨HNO.out, rfl⟩⟩
  | true =>
    rw [hb] at C65
    have hnb := hb
    simp only [isNumB, Bool.and_eq_true, decide_eq_true_eq, List.all_eq_true] at hnb
    obtain ⟨⟨⟨hn1, hn9⟩, _⟩, hdg⟩ := hnb
    rw [bs_len] at hn1 hn9
    have hd : ∀ x ∈ bs v, 48 ≤ x ∧ x ≤ 57 := fun x hx => by have := hdg x hx; simpa [digB] using this
    have HD := hid hd
    have HYE : Hid (wordC.get m = some (valW (bs v), wordsL (bs s'))) := by
      show _ = _
      rw [← H3.out]
      rcases HX.out with ⟨h, _, _⟩ | ⟨_, h⟩
      · have := congrArg List.length h
        rw [bs_len, List.length_nil] at this
        omega
      · rw [h]
        show (numW (bs v)).map _ = _
        unfold numW; rw [if_pos hb]; rfl
    clear hb hdg hd
    go_upto_region 5 with (go_at_call 65; (with_reducible refine C65.mono ?_); rintro e w2 ⟨rfl, hw⟩; obtain rfl := hw.symm)
    go_wp2_with fail
    go_loopw [4, 15] (fun y z wq => ∃ (i acc : Nat), y = .int .i64 (acc : Int) ∧ z = .int .i64 (i : Int) ∧ i ≤ v.size ∧ wq = w1 ∧ acc < 1000000000 ∧ Hid (acc = valW ((bs v).take i))) (fun _ z _ => v.size - (intOf z).toNat)
    case atStart => exact ⟨0, 0, rfl, rfl, by omega, rfl, by omega, rfl⟩
    case round =>
      obtain ⟨i, acc, rfl, rfl, hi, hw, hacc, HA⟩ := hrel
      obtain rfl := hw
      by_cases hil : i < v.size
      · have e1 : decide ((i : Int) < (v.size : Int)) = true := by simp; omega
        have e2 : (i : Int) < (v.size : Int) := by omega
        have ad1 : IntKind.i64.wrap ((i : Int) + 1) = (i : Int) + 1 := by simp [IntKind.wrap, IntKind.bits, IntKind.signed]; omega
        have hcb := HD.out ((bs v)[i]'(by rw [bs_len]; exact hil)) (List.getElem_mem _)
        rw [bs_at v i hil] at hcb
        have e3 : IntKind.u8.wrap ((v[i].toNat : Int) - 48) = ((v[i].toNat - 48 : Nat) : Int) := by
          obtain ⟨c, hc⟩ : ∃ c, c = v[i].toNat := ⟨_, rfl⟩
          rw [← hc] at hcb ⊢
          simp only [IntKind.wrap, IntKind.bits, IntKind.signed]
          simp
          omega
        have hlt := val_take_lt (l := bs v) (i := i + 1) HD.out (by omega)
        have hvt := val_take (l := bs v) (i := i) (by rw [bs_len]; exact hil)
        rw [bs_at v i hil, ← HA.out] at hvt
        obtain ⟨d, hdd⟩ : ∃ d, d = v[i].toNat - 48 := ⟨_, rfl⟩
        rw [← hdd] at e3 hvt
        have e4 : IntKind.i64.wrap (10 * (acc : Int)) = 10 * (acc : Int) := by simp [IntKind.wrap, IntKind.bits, IntKind.signed]; omega
        have hdb : d ≤ 9 := by rw [hdd]; omega
        have e5 : IntKind.i64.wrap (10 * (acc : Int) + (d : Int)) = 10 * (acc : Int) + (d : Int) := by simp [IntKind.wrap, IntKind.bits, IntKind.signed]; omega
        rw [hvt] at hlt
        have HV := hid hvt
        clear hvt hdd hcb
        go_wp2
        refine ⟨⟨i + 1, 10 * acc + d, by push_cast; rfl, by push_cast; rfl, by omega, by trivial, by omega, HV.out.symm⟩, by simp [intOf]; omega⟩
      · have e1 : decide ((i : Int) < (v.size : Int)) = false := by simp; omega
        have e2 : ¬ (i : Int) < (v.size : Int) := by omega
        have HAV : Hid (acc = valW (bs v)) := by
          show _ = _
          rw [HA.out, List.take_of_length_le (by rw [bs_len]; omega)]
        go_wp2
        all_goals go_ret
        all_goals refine ⟨HM.out, .inr ⟨acc, wordsL (bs s'), by rw [HAV.out]; exact HYE.out, rfl, HB.out, s', HR.out, hs', rfl⟩⟩
theorem bs_inj {a b : ByteArray} (h : bs a = bs b) : a.data.toList = b.data.toList := by
  unfold bs at h
  exact List.map_inj_right (fun x y hxy => UInt8.toNat_inj.1 hxy) |>.1 h
theorem bs_eq (a b : ByteArray) : (a.toList == b.toList) = true ↔ bs a = bs b := by
  rw [beq_iff_eq, ByteArray.toList_eq, ByteArray.toList_eq]
  constructor
  · intro h; unfold bs; rw [h]
  · exact bs_inj
theorem en49 : Enters 49 := enter_of Tryd.func49 (by kernel_rfl) rfl
/-- a word that must stand there -/
theorem expect48 {B rb : Nat} {w : World} {m : List (List Nat)} {x : ByteArray} (hm : RDw B rb w m) (hx : bs x ≠ []) :
    Calls Tryd.prog 48 #[pt rb, .string x] w fun e w' => Mo w w' rb ∧ ((m.head? ≠ some (bs x) ∧ e = Broke) ∨ (∃ u, m = bs x :: u ∧ e = .returned (.tuple #[]) ∧ RDw B rb w' u)) := by
  obtain ⟨hB, s, h1, h2, h3⟩ := hm
  have C50 := word50 h1 h2
  have HB := hid hB
  have H3 := hid h3
  have HXN := hid hx
  clear h1 h3 hB hx
  go_enter Tryd.func48, Tryd.ntmps48
  go_wp2_with (go_at_call 50; (with_reducible refine C50.mono ?_); rintro e w1 ⟨v, s', rfl, hR, hM, hs', hvs, hx⟩; have HR := hid hR; have HM := hid hM; have HX := hid hx; clear hR hM hx C50)
  · rename_i hc _ _
    refine ⟨rfl, HM.out, .inl ⟨fun hh => ?_, rfl⟩⟩
    have hne : bs v ≠ bs x := by
      intro e
      rw [(bs_eq v x).2 e] at hc
      cases hc
    rw [← H3.out] at hh
    rcases HX.out with ⟨_, h, _⟩ | ⟨_, h⟩
    · rw [h] at hh; cases hh
    · rw [h] at hh; exact hne (Option.some.inj hh)
  · rename_i hc
    have he : bs v = bs x := by
      by_cases e : (v.toList == x.toList) = true
      · exact (bs_eq v x).1 e
      · rw [Bool.not_eq_true] at e
        rw [e] at hc
        simp at hc
    go_end0
    refine ⟨HM.out, .inr ⟨wordsL (bs s'), ?_, rfl, HB.out, s', HR.out, hs', rfl⟩⟩
    rw [← H3.out]
    rcases HX.out with ⟨h, _, _⟩ | ⟨_, h⟩
    · exact absurd (he.symm.trans h) HXN.out
    · rw [h, he]
end Go.Proofs.YteanndophopplaaDoor
namespace Go.Proofs.YteanndophopplaaDoor
open Go.RowKit
set_option linter.unusedVariables false
set_option linter.unusedSimpArgs false
/-- a word's number, or one that is none -/
def numI (w : List Nat) : Int := match numW w with | none => -1 | some n => (n : Int)
theorem numI_no {w : List Nat} (h : isNumB w = false) : numI w = -1 := by
  unfold numI numW; rw [if_neg (by rw [h]; simp)]
theorem numI_yes {w : List Nat} (h : isNumB w = true) : numI w = (valW w : Int) := by
  unfold numI numW; rw [if_pos h]
set_option maxRecDepth 100000 in
set_option maxHeartbeats 8000000 in
theorem number27 (s : ByteArray) (w : World) (hs : s.size ≤ 8388608) : Calls Tryd.prog 27 #[.string s] w fun e w' => e = .returned (.int .i64 (numI (bs s))) ∧ w' = w := by
  by_cases h1 : s.size < 1
  · have b1 : decide ((s.size : Int) < 1) = true := by simp; omega
    have b2 : (s.size : Int) < 1 := by omega
    rw [numI_no (isNum_no (.inl (by rw [bs_len]; exact h1)))]
    go_enter Tryd.func27, Tryd.ntmps27
    go_wp2
    all_goals go_ret
    all_goals exact ⟨rfl, rfl⟩
  have b1 : decide ((s.size : Int) < 1) = false := by simp; omega
  have b2 : ¬ (s.size : Int) < 1 := by omega
  by_cases h9 : 9 < s.size
  · have b3 : decide ((s.size : Int) > 9) = true := by simp; omega
    have b4 : (9 : Int) < (s.size : Int) := by omega
    rw [numI_no (isNum_no (.inr (.inl (by rw [bs_len]; exact h9))))]
    go_enter Tryd.func27, Tryd.ntmps27
    go_wp2
    all_goals go_ret
    all_goals exact ⟨rfl, rfl⟩
  have b3 : decide ((s.size : Int) > 9) = false := by simp; omega
  have b4 : ¬ (9 : Int) < (s.size : Int) := by omega
  have h0 : 0 < s.size := by omega
  have b5 : (0 : Int) < (s.size : Int) := by omega
  obtain ⟨c0, hc0⟩ : ∃ c0, c0 = s[0].toNat := ⟨_, rfl⟩
  by_cases hz : c0 = 48 ∧ 1 < s.size
  · obtain ⟨z1, z2⟩ := hz
    have b6 : (s[0].toNat : Int) = 48 := by rw [← hc0, z1]; rfl
    have b7 : decide ((s.size : Int) > 1) = true := by simp; omega
    have b8 : (1 : Int) < (s.size : Int) := by omega
    rw [numI_no (isNum_no (.inr (.inr (.inl ⟨by rw [bs_head s h0, ← hc0, z1], by rw [bs_len]; exact z2⟩))))]
    clear hc0
    go_enter Tryd.func27, Tryd.ntmps27
    go_wp2
    all_goals go_ret
    all_goals exact ⟨rfl, rfl⟩
  · have HZ : Hid (¬ ((bs s).head? = some 48 ∧ 1 < (bs s).length)) := by
      rintro ⟨e1, e2⟩
      rw [bs_head s h0, ← hc0] at e1
      rw [bs_len] at e2
      exact hz ⟨Option.some.inj e1, e2⟩
    obtain ⟨r, hr⟩ : ∃ r, r = numI (bs s) := ⟨_, rfl⟩
    rw [← hr]
    have HR := hid hr
    clear hr
    have LOOP : Hid (∀ (i : Nat), True) := fun _ => trivial
    have hcc : c0 = 48 ∧ ¬ 1 < s.size ∨ c0 ≠ 48 := by
      by_cases hc : c0 = 48
      · exact .inl ⟨hc, fun h => hz ⟨hc, h⟩⟩
      · exact .inr hc
    rcases hcc with ⟨hc, z2⟩ | hc
    · have b6 : (s[0].toNat : Int) = 48 := by rw [← hc0, hc]; rfl
      have b7 : decide ((s.size : Int) > 1) = false := by simp; omega
      have b8 : ¬ (1 : Int) < (s.size : Int) := by omega
      clear hc0 hz
      go_enter Tryd.func27, Tryd.ntmps27
      go_wp2_with fail
      clear b6 b7 b8
      go_loopw [3, 4] (fun y z wq => ∃ (i acc : Nat), y = .int .i64 (acc : Int) ∧ z = .int .i64 (i : Int) ∧ i ≤ s.size ∧ wq = w ∧ acc < 1000000000 ∧ Hid (acc = valW ((bs s).take i)) ∧ Hid (∀ j (h : j < s.size), j < i → digB s[j].toNat = true)) (fun _ z _ => s.size - (intOf z).toNat)
      case atStart => exact ⟨0, 0, rfl, rfl, by omega, rfl, by omega, rfl, fun j _ hj => by omega⟩
      case round =>
        obtain ⟨i, acc, rfl, rfl, hi, rfl, hacc, HA, HJ⟩ := hrel
        by_cases hil : i < s.size
        · have e1 : decide ((i : Int) < (s.size : Int)) = true := by simp; omega
          have e2 : (i : Int) < (s.size : Int) := by omega
          have ad1 : IntKind.i64.wrap ((i : Int) + 1) = (i : Int) + 1 := by simp [IntKind.wrap, IntKind.bits, IntKind.signed]; omega
          obtain ⟨ci, hci⟩ : ∃ ci, ci = s[i].toNat := ⟨_, rfl⟩
          have HCI := hid hci
          by_cases hlo : ci < 48
          · have e3 : decide ((s[i].toNat : Int) < 48) = true := by rw [← hci]; simp; omega
            have e4 : (s[i].toNat : Int) < 48 := by rw [← hci]; omega
            have HR0 : Hid (r = -1) := by
              show _ = _
              rw [HR.out]
              exact numI_no (isNum_no (.inr (.inr (.inr ⟨i, by rw [bs_len]; exact hil, by rw [bs_at s i hil, ← hci]; simp [digB]; omega⟩))))
            clear hci
            go_wp2
            all_goals go_ret
            all_goals exact ⟨ret_int HR0.out.symm, rfl⟩
          · have e3 : decide ((s[i].toNat : Int) < 48) = false := by rw [← hci]; simp; omega
            have e4 : ¬ (s[i].toNat : Int) < 48 := by rw [← hci]; omega
            by_cases hhi : 57 < ci
            · have e5 : decide ((s[i].toNat : Int) > 57) = true := by rw [← hci]; simp; omega
              have e6 : (57 : Int) < (s[i].toNat : Int) := by rw [← hci]; omega
              have HR0 : Hid (r = -1) := by
                show _ = _
                rw [HR.out]
                exact numI_no (isNum_no (.inr (.inr (.inr ⟨i, by rw [bs_len]; exact hil, by rw [bs_at s i hil, ← hci]; simp [digB]; omega⟩))))
              clear hci
              go_wp2
              all_goals go_ret
              all_goals exact ⟨ret_int HR0.out.symm, rfl⟩
            · have e5 : decide ((s[i].toNat : Int) > 57) = false := by rw [← hci]; simp; omega
              have e6 : ¬ (57 : Int) < (s[i].toNat : Int) := by rw [← hci]; omega
              have HJ2 : Hid (∀ j (h : j < s.size), j < i + 1 → digB s[j].toNat = true) := fun j h hj => by
                by_cases e : j = i
                · subst e; rw [← hci]; simp [digB]; omega
                · exact HJ.out j h (by omega)
              have e7 : IntKind.u8.wrap ((s[i].toNat : Int) - 48) = ((s[i].toNat - 48 : Nat) : Int) := by
                rw [← hci]
                have := s[i].toNat_lt
                rw [← hci] at this
                simp only [IntKind.wrap, IntKind.bits, IntKind.signed]
                simp
                omega
              have hvt := val_take (l := bs s) (i := i) (by rw [bs_len]; exact hil)
              rw [bs_at s i hil, ← HA.out] at hvt
              have hlt : valW ((bs s).take (i + 1)) < 1000000000 := by
                have q1 := val_lt ((bs s).take (i + 1)) (fun x hx => by
                  obtain ⟨j, hj, rfl⟩ := List.getElem_of_mem hx
                  rw [List.length_take, bs_len] at hj
                  rw [List.getElem_take, bs_at s j (by omega)]
                  have := HJ2.out j (by omega) (by omega)
                  simpa [digB] using this)
                have q2 : 10 ^ ((bs s).take (i + 1)).length ≤ 10 ^ 9 := Nat.pow_le_pow_right (by omega) (by rw [List.length_take, bs_len]; omega)
                omega
              obtain ⟨d, hdd⟩ : ∃ d, d = s[i].toNat - 48 := ⟨_, rfl⟩
              rw [← hdd] at e7 hvt
              have hdb : d ≤ 9 := by rw [hdd, ← hci]; omega
              have e8 : IntKind.i64.wrap (10 * (acc : Int)) = 10 * (acc : Int) := by simp [IntKind.wrap, IntKind.bits, IntKind.signed]; omega
              have e9 : IntKind.i64.wrap (10 * (acc : Int) + (d : Int)) = 10 * (acc : Int) + (d : Int) := by simp [IntKind.wrap, IntKind.bits, IntKind.signed]; omega
              rw [hvt] at hlt
              have HV := hid hvt
              clear hci hdd hvt
              go_wp2
              exact ⟨⟨i + 1, 10 * acc + d, by push_cast; rfl, by push_cast; rfl, by omega, by trivial, by omega, HV.out.symm, HJ2.out⟩, by simp [intOf]; omega⟩
        · have e1 : decide ((i : Int) < (s.size : Int)) = false := by simp; omega
          have e2 : ¬ (i : Int) < (s.size : Int) := by omega
          have HR1 : Hid (r = (acc : Int)) := by
            show _ = _
            rw [HR.out, HA.out, List.take_of_length_le (by rw [bs_len]; omega)]
            exact numI_yes (isNum_yes (by rw [bs_len]; omega) (by rw [bs_len]; omega) (HZ.out) (fun j hj => by rw [bs_len] at hj; rw [bs_at s j hj]; exact HJ.out j hj (by omega)))
          go_wp2
          all_goals go_ret
          all_goals exact ⟨ret_int HR1.out.symm, rfl⟩
    · have b6 : ¬ (s[0].toNat : Int) = 48 := by rw [← hc0]; omega
      have b7 : ((s[0].toNat : Int) == 48) = false := by simp only [beq_eq_false_iff_ne]; exact b6
      clear hc0 hz
      by_cases z2 : 1 < s.size
      · have b8 : decide ((s.size : Int) > 1) = true := by simp; omega
        have b9 : (1 : Int) < (s.size : Int) := by omega
        go_enter Tryd.func27, Tryd.ntmps27
        go_wp2_with fail
        clear b6 b7 b8 b9
        go_loopw [3, 4] (fun y z wq => ∃ (i acc : Nat), y = .int .i64 (acc : Int) ∧ z = .int .i64 (i : Int) ∧ i ≤ s.size ∧ wq = w ∧ acc < 1000000000 ∧ Hid (acc = valW ((bs s).take i)) ∧ Hid (∀ j (h : j < s.size), j < i → digB s[j].toNat = true)) (fun _ z _ => s.size - (intOf z).toNat)
        case atStart => exact ⟨0, 0, rfl, rfl, by omega, rfl, by omega, rfl, fun j _ hj => by omega⟩
        case round =>
          obtain ⟨i, acc, rfl, rfl, hi, rfl, hacc, HA, HJ⟩ := hrel
          by_cases hil : i < s.size
          · have e1 : decide ((i : Int) < (s.size : Int)) = true := by simp; omega
            have e2 : (i : Int) < (s.size : Int) := by omega
            have ad1 : IntKind.i64.wrap ((i : Int) + 1) = (i : Int) + 1 := by simp [IntKind.wrap, IntKind.bits, IntKind.signed]; omega
            obtain ⟨ci, hci⟩ : ∃ ci, ci = s[i].toNat := ⟨_, rfl⟩
            have HCI := hid hci
            by_cases hlo : ci < 48
            · have e3 : decide ((s[i].toNat : Int) < 48) = true := by rw [← hci]; simp; omega
              have e4 : (s[i].toNat : Int) < 48 := by rw [← hci]; omega
              have HR0 : Hid (r = -1) := by
                show _ = _
                rw [HR.out]
                exact numI_no (isNum_no (.inr (.inr (.inr ⟨i, by rw [bs_len]; exact hil, by rw [bs_at s i hil, ← hci]; simp [digB]; omega⟩))))
              clear hci
              go_wp2
              all_goals go_ret
              all_goals exact ⟨ret_int HR0.out.symm, rfl⟩
            · have e3 : decide ((s[i].toNat : Int) < 48) = false := by rw [← hci]; simp; omega
              have e4 : ¬ (s[i].toNat : Int) < 48 := by rw [← hci]; omega
              by_cases hhi : 57 < ci
              · have e5 : decide ((s[i].toNat : Int) > 57) = true := by rw [← hci]; simp; omega
                have e6 : (57 : Int) < (s[i].toNat : Int) := by rw [← hci]; omega
                have HR0 : Hid (r = -1) := by
                  show _ = _
                  rw [HR.out]
                  exact numI_no (isNum_no (.inr (.inr (.inr ⟨i, by rw [bs_len]; exact hil, by rw [bs_at s i hil, ← hci]; simp [digB]; omega⟩))))
                clear hci
                go_wp2
                all_goals go_ret
                all_goals exact ⟨ret_int HR0.out.symm, rfl⟩
              · have e5 : decide ((s[i].toNat : Int) > 57) = false := by rw [← hci]; simp; omega
                have e6 : ¬ (57 : Int) < (s[i].toNat : Int) := by rw [← hci]; omega
                have HJ2 : Hid (∀ j (h : j < s.size), j < i + 1 → digB s[j].toNat = true) := fun j h hj => by
                  by_cases e : j = i
                  · subst e; rw [← hci]; simp [digB]; omega
                  · exact HJ.out j h (by omega)
                have e7 : IntKind.u8.wrap ((s[i].toNat : Int) - 48) = ((s[i].toNat - 48 : Nat) : Int) := by
                  rw [← hci]
                  have := s[i].toNat_lt
                  rw [← hci] at this
                  simp only [IntKind.wrap, IntKind.bits, IntKind.signed]
                  simp
                  omega
                have hvt := val_take (l := bs s) (i := i) (by rw [bs_len]; exact hil)
                rw [bs_at s i hil, ← HA.out] at hvt
                have hlt : valW ((bs s).take (i + 1)) < 1000000000 := by
                  have q1 := val_lt ((bs s).take (i + 1)) (fun x hx => by
                    obtain ⟨j, hj, rfl⟩ := List.getElem_of_mem hx
                    rw [List.length_take, bs_len] at hj
                    rw [List.getElem_take, bs_at s j (by omega)]
                    have := HJ2.out j (by omega) (by omega)
                    simpa [digB] using this)
                  have q2 : 10 ^ ((bs s).take (i + 1)).length ≤ 10 ^ 9 := Nat.pow_le_pow_right (by omega) (by rw [List.length_take, bs_len]; omega)
                  omega
                obtain ⟨d, hdd⟩ : ∃ d, d = s[i].toNat - 48 := ⟨_, rfl⟩
                rw [← hdd] at e7 hvt
                have hdb : d ≤ 9 := by rw [hdd, ← hci]; omega
                have e8 : IntKind.i64.wrap (10 * (acc : Int)) = 10 * (acc : Int) := by simp [IntKind.wrap, IntKind.bits, IntKind.signed]; omega
                have e9 : IntKind.i64.wrap (10 * (acc : Int) + (d : Int)) = 10 * (acc : Int) + (d : Int) := by simp [IntKind.wrap, IntKind.bits, IntKind.signed]; omega
                rw [hvt] at hlt
                have HV := hid hvt
                clear hci hdd hvt
                go_wp2
                exact ⟨⟨i + 1, 10 * acc + d, by push_cast; rfl, by push_cast; rfl, by omega, by trivial, by omega, HV.out.symm, HJ2.out⟩, by simp [intOf]; omega⟩
          · have e1 : decide ((i : Int) < (s.size : Int)) = false := by simp; omega
            have e2 : ¬ (i : Int) < (s.size : Int) := by omega
            have HR1 : Hid (r = (acc : Int)) := by
              show _ = _
              rw [HR.out, HA.out, List.take_of_length_le (by rw [bs_len]; omega)]
              exact numI_yes (isNum_yes (by rw [bs_len]; omega) (by rw [bs_len]; omega) (HZ.out) (fun j hj => by rw [bs_len] at hj; rw [bs_at s j hj]; exact HJ.out j hj (by omega)))
            go_wp2
            all_goals go_ret
            all_goals exact ⟨ret_int HR1.out.symm, rfl⟩
      · have b8 : decide ((s.size : Int) > 1) = false := by simp; omega
        have b9 : ¬ (1 : Int) < (s.size : Int) := by omega
        go_enter Tryd.func27, Tryd.ntmps27
        go_wp2_with fail
        clear b6 b7 b8 b9
        go_loopw [3, 4] (fun y z wq => ∃ (i acc : Nat), y = .int .i64 (acc : Int) ∧ z = .int .i64 (i : Int) ∧ i ≤ s.size ∧ wq = w ∧ acc < 1000000000 ∧ Hid (acc = valW ((bs s).take i)) ∧ Hid (∀ j (h : j < s.size), j < i → digB s[j].toNat = true)) (fun _ z _ => s.size - (intOf z).toNat)
        case atStart => exact ⟨0, 0, rfl, rfl, by omega, rfl, by omega, rfl, fun j _ hj => by omega⟩
        case round =>
          obtain ⟨i, acc, rfl, rfl, hi, rfl, hacc, HA, HJ⟩ := hrel
          by_cases hil : i < s.size
          · have e1 : decide ((i : Int) < (s.size : Int)) = true := by simp; omega
            have e2 : (i : Int) < (s.size : Int) := by omega
            have ad1 : IntKind.i64.wrap ((i : Int) + 1) = (i : Int) + 1 := by simp [IntKind.wrap, IntKind.bits, IntKind.signed]; omega
            obtain ⟨ci, hci⟩ : ∃ ci, ci = s[i].toNat := ⟨_, rfl⟩
            have HCI := hid hci
            by_cases hlo : ci < 48
            · have e3 : decide ((s[i].toNat : Int) < 48) = true := by rw [← hci]; simp; omega
              have e4 : (s[i].toNat : Int) < 48 := by rw [← hci]; omega
              have HR0 : Hid (r = -1) := by
                show _ = _
                rw [HR.out]
                exact numI_no (isNum_no (.inr (.inr (.inr ⟨i, by rw [bs_len]; exact hil, by rw [bs_at s i hil, ← hci]; simp [digB]; omega⟩))))
              clear hci
              go_wp2
              all_goals go_ret
              all_goals exact ⟨ret_int HR0.out.symm, rfl⟩
            · have e3 : decide ((s[i].toNat : Int) < 48) = false := by rw [← hci]; simp; omega
              have e4 : ¬ (s[i].toNat : Int) < 48 := by rw [← hci]; omega
              by_cases hhi : 57 < ci
              · have e5 : decide ((s[i].toNat : Int) > 57) = true := by rw [← hci]; simp; omega
                have e6 : (57 : Int) < (s[i].toNat : Int) := by rw [← hci]; omega
                have HR0 : Hid (r = -1) := by
                  show _ = _
                  rw [HR.out]
                  exact numI_no (isNum_no (.inr (.inr (.inr ⟨i, by rw [bs_len]; exact hil, by rw [bs_at s i hil, ← hci]; simp [digB]; omega⟩))))
                clear hci
                go_wp2
                all_goals go_ret
                all_goals exact ⟨ret_int HR0.out.symm, rfl⟩
              · have e5 : decide ((s[i].toNat : Int) > 57) = false := by rw [← hci]; simp; omega
                have e6 : ¬ (57 : Int) < (s[i].toNat : Int) := by rw [← hci]; omega
                have HJ2 : Hid (∀ j (h : j < s.size), j < i + 1 → digB s[j].toNat = true) := fun j h hj => by
                  by_cases e : j = i
                  · subst e; rw [← hci]; simp [digB]; omega
                  · exact HJ.out j h (by omega)
                have e7 : IntKind.u8.wrap ((s[i].toNat : Int) - 48) = ((s[i].toNat - 48 : Nat) : Int) := by
                  rw [← hci]
                  have := s[i].toNat_lt
                  rw [← hci] at this
                  simp only [IntKind.wrap, IntKind.bits, IntKind.signed]
                  simp
                  omega
                have hvt := val_take (l := bs s) (i := i) (by rw [bs_len]; exact hil)
                rw [bs_at s i hil, ← HA.out] at hvt
                have hlt : valW ((bs s).take (i + 1)) < 1000000000 := by
                  have q1 := val_lt ((bs s).take (i + 1)) (fun x hx => by
                    obtain ⟨j, hj, rfl⟩ := List.getElem_of_mem hx
                    rw [List.length_take, bs_len] at hj
                    rw [List.getElem_take, bs_at s j (by omega)]
                    have := HJ2.out j (by omega) (by omega)
                    simpa [digB] using this)
                  have q2 : 10 ^ ((bs s).take (i + 1)).length ≤ 10 ^ 9 := Nat.pow_le_pow_right (by omega) (by rw [List.length_take, bs_len]; omega)
                  omega
                obtain ⟨d, hdd⟩ : ∃ d, d = s[i].toNat - 48 := ⟨_, rfl⟩
                rw [← hdd] at e7 hvt
                have hdb : d ≤ 9 := by rw [hdd, ← hci]; omega
                have e8 : IntKind.i64.wrap (10 * (acc : Int)) = 10 * (acc : Int) := by simp [IntKind.wrap, IntKind.bits, IntKind.signed]; omega
                have e9 : IntKind.i64.wrap (10 * (acc : Int) + (d : Int)) = 10 * (acc : Int) + (d : Int) := by simp [IntKind.wrap, IntKind.bits, IntKind.signed]; omega
                rw [hvt] at hlt
                have HV := hid hvt
                clear hci hdd hvt
                go_wp2
                exact ⟨⟨i + 1, 10 * acc + d, by push_cast; rfl, by push_cast; rfl, by omega, by trivial, by omega, HV.out.symm, HJ2.out⟩, by simp [intOf]; omega⟩
          · have e1 : decide ((i : Int) < (s.size : Int)) = false := by simp; omega
            have e2 : ¬ (i : Int) < (s.size : Int) := by omega
            have HR1 : Hid (r = (acc : Int)) := by
              show _ = _
              rw [HR.out, HA.out, List.take_of_length_le (by rw [bs_len]; omega)]
              exact numI_yes (isNum_yes (by rw [bs_len]; omega) (by rw [bs_len]; omega) (HZ.out) (fun j hj => by rw [bs_len] at hj; rw [bs_at s j hj]; exact HJ.out j hj (by omega)))
            go_wp2
            all_goals go_ret
            all_goals exact ⟨ret_int HR1.out.symm, rfl⟩
end Go.Proofs.YteanndophopplaaDoor
