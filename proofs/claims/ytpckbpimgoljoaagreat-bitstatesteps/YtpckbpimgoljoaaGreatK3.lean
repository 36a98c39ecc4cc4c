/- HELPERS: which trees are sound. -/
import Derived.Test.YtpckbpimgoljoaaGreatK2
import Derived.Deep.Cut
import Derived.Deep.CutRange
/- HELPERS: names. -/
namespace Go.Proofs.YtpckbpimgoljoaaGreat
open Go.RowKit
set_option linter.unusedVariables false
set_option linter.unusedSimpArgs false
/-- a byte that may stand in a name -/
def okC (c : Int) (i : Nat) : Bool := decide (97 ≤ c ∧ c ≤ 122 ∨ 65 ≤ c ∧ c ≤ 90 ∨ c = 95 ∨ 48 ≤ c ∧ c ≤ 57 ∧ i ≠ 0)
def okAt (s : ByteArray) (i : Nat) : Bool := if h : i < s.size then okC (s[i].toNat : Int) i else true
/-- a name -/
def nameB (s : ByteArray) : Bool := decide (1 ≤ s.size) && decide (s.size ≤ 32) && (List.range s.size).all (okAt s)
theorem okAt_eq {s : ByteArray} {i : Nat} (h : i < s.size) : okAt s i = okC (s[i].toNat : Int) i := by unfold okAt; rw [dif_pos h]
theorem name_false {s : ByteArray} (i : Nat) (hi : i < s.size) (h : okC (s[i].toNat : Int) i = false) : nameB s = false := by
  have e : (List.range s.size).all (okAt s) = false := by
    rw [List.all_eq_false]
    exact ⟨i, by simpa using hi, by rw [okAt_eq hi, h]; simp⟩
  unfold nameB
  rw [e]; simp
theorem name_true {s : ByteArray} (h1 : 1 ≤ s.size) (h2 : s.size ≤ 32) (h : ∀ j, j < s.size → okAt s j = true) : nameB s = true := by
  unfold nameB
  rw [decide_eq_true h1, decide_eq_true h2]
  simpa using h
theorem name_long {s : ByteArray} (h : ¬ (1 ≤ s.size ∧ s.size ≤ 32)) : nameB s = false := by
  unfold nameB
  by_cases h1 : 1 ≤ s.size
  · rw [decide_eq_false (show ¬ s.size ≤ 32 by omega)]; simp
  · rw [decide_eq_false h1]; simp
set_option maxRecDepth 100000 in
set_option maxHeartbeats 4000000 in
theorem word103 (c : Nat) (w : World) (hc : c < 256) : Calls Tryz.prog 97 #[.int .i64 (c : Int)] w fun e w' => e = .returned (.bool (okC (c : Int) 1)) ∧ w' = w := by
  go_enter Tryz.func97, Tryz.ntmps97
  go_wp2
  all_goals go_ret
  all_goals exact ⟨ret_bool (by rw [Bool.eq_iff_iff]; simp [okC]; omega), rfl⟩
theorem digit102 (c : Nat) (w : World) (hc : c < 256) : Calls Tryz.prog 96 #[.int .u8 (c : Int)] w fun e w' => e = .returned (.bool (decide (48 ≤ (c : Int) ∧ (c : Int) ≤ 57))) ∧ w' = w := by
  go_enter Tryz.func96, Tryz.ntmps96
  go_wp2
  all_goals go_ret
  all_goals exact ⟨ret_bool (by rw [Bool.eq_iff_iff]; simp; omega), rfl⟩
set_option maxRecDepth 100000 in
set_option maxHeartbeats 4000000 in
theorem name79s (s : ByteArray) (w : World) (h1 : 1 ≤ s.size) (h2 : s.size ≤ 32) : Calls Tryz.prog 64 #[.string s] w fun e w' => e = .returned (.bool (nameB s)) ∧ w' = w := by
  have e1 : s.toList.isEmpty = false := by
    cases h : s.toList.isEmpty
    · rfl
    · exfalso
      rw [List.isEmpty_iff] at h
      have : s.toList.length = s.size := by rw [ByteArray.toList_eq]; exact Array.length_toList
      rw [h] at this
      simp at this
      omega
  have b2 : decide ((s.size : Int) > 32) = false := by simp; omega
  have b2' : decide (32 < (s.size : Int)) = false := by simp; omega
  have b3 : (0 : Int) < (s.size : Int) := by omega
  have HD := digit102 (s[0].toNat) w (by have := s[0].toNat_lt; omega)
  obtain ⟨r, hr⟩ : ∃ r, r = nameB s := ⟨_, rfl⟩
  rw [← hr]
  have HR := hid' hr
  clear hr
  by_cases hd : (48 : Int) ≤ (s[0].toNat : Int) ∧ (s[0].toNat : Int) ≤ 57
  · rw [decide_eq_true hd] at HD
    have e : r = false := by rw [HR.out]; exact name_false 0 (by omega) (by simp [okC]; omega)
    subst e
    go_enter Tryz.func64, Tryz.ntmps64
    go_wp2_with (first | (go_at_call 96; (with_reducible refine HD.mono ?_); rintro e w2 ⟨rfl, hww⟩; have hwv := hww.symm; subst hwv; clear hww))
    go_ret
    exact ⟨rfl, rfl⟩
  · rw [decide_eq_false hd] at HD
    go_enter Tryz.func64, Tryz.ntmps64
    go_wp2_with (first | (go_at_call 96; (with_reducible refine HD.mono ?_); rintro e w2 ⟨rfl, hww⟩; have hwv := hww.symm; subst hwv; clear hww))
    go_loopw [18] (fun y wq => ∃ i : Nat, y = .int .i64 (i : Int) ∧ i ≤ s.size ∧ Hid (∀ j, j < i → okAt s j = true) ∧ wq = w) (fun y _ => s.size - (intOf y).toNat)
    case atStart => exact ⟨0, rfl, by omega, fun j hj => by omega, rfl⟩
    case round =>
      obtain ⟨i, rfl, hi, HJ, rfl⟩ := hrel
      by_cases hil : i < s.size
      · have b1 : decide ((i : Int) < (s.size : Int)) = true := by simp; omega
        have b2 : (i : Int) < (s.size : Int) := by omega
        have ad1 : IntKind.i64.wrap ((i : Int) + 1) = (i : Int) + 1 := by simp [IntKind.wrap, IntKind.bits, IntKind.signed]; omega
        have hlt := s[i].toNat_lt
        have HW := word103 (s[i].toNat) wr (by omega)
        have ad2 : IntKind.i64.wrap ((s[i].toNat : Nat) : Int) = (s[i].toNat : Int) := by simp [IntKind.wrap, IntKind.bits, IntKind.signed]; omega
        by_cases hw : okC (s[i].toNat : Int) 1 = true
        · have HC : ∀ j, j < i + 1 → okAt s j = true := fun j hj => by
            by_cases e : j = i
            · subst e
              rw [okAt_eq hil]
              by_cases e0 : j = 0
              · subst e0
                simp [okC] at hw hd ⊢
                omega
              · simp [okC] at hw ⊢
                omega
            · exact HJ.out j (by omega)
          have HC' := hid' HC
          rw [hw] at HW
          clear HC hlt HJ
          go_wp2_with (first | (go_at_call 97; (with_reducible refine HW.mono ?_); rintro e w2 ⟨rfl, rfl⟩))
          refine ⟨⟨i + 1, by push_cast; rfl, by omega, HC'.out, by trivial⟩, ?_⟩
          simp [intOf]
          omega
        · have hw' : okC (s[i].toNat : Int) 1 = false := by simpa using hw
          have e : r = false := by
            rw [HR.out]
            refine name_false i hil ?_
            simp [okC] at hw' ⊢
            omega
          rw [hw'] at HW
          subst e
          clear hlt HJ
          go_wp2_with (first | (go_at_call 97; (with_reducible refine HW.mono ?_); rintro e w2 ⟨rfl, rfl⟩))
          go_ret
          exact ⟨rfl, rfl⟩
      · have b1 : decide ((i : Int) < (s.size : Int)) = false := by simp; omega
        have e : r = true := by rw [HR.out]; exact name_true h1 h2 fun j hj => HJ.out j (by omega)
        subst e
        go_wp2
        go_ret
        exact ⟨rfl, rfl⟩
theorem name79 (s : ByteArray) (w : World) (hs : s.size ≤ 9223372036854775807) : Calls Tryz.prog 64 #[.string s] w fun e w' => e = .returned (.bool (nameB s)) ∧ w' = w := by
  by_cases h : 1 ≤ s.size ∧ s.size ≤ 32
  · exact name79s s w h.1 h.2
  · rw [name_long h]
    by_cases h1 : 1 ≤ s.size
    · have e1 : s.toList.isEmpty = false := by
        cases h : s.toList.isEmpty
        · rfl
        · exfalso
          rw [List.isEmpty_iff] at h
          have : s.toList.length = s.size := by rw [ByteArray.toList_eq]; exact Array.length_toList
          rw [h] at this
          simp at this
          omega
      have b2 : decide ((s.size : Int) > 32) = true := by simp; omega
      have b2' : decide (32 < (s.size : Int)) = true := by simp; omega
      go_enter Tryz.func64, Tryz.ntmps64
      go_wp2
      go_ret
      exact ⟨rfl, rfl⟩
    · have e1 : s.toList.isEmpty = true := by
        rw [List.isEmpty_iff, ← List.length_eq_zero_iff, ByteArray.toList_eq]
        exact Array.length_toList.trans (show s.size = 0 by omega)
      go_enter Tryz.func64, Tryz.ntmps64
      go_wp2
      go_ret
      exact ⟨rfl, rfl⟩
end Go.Proofs.YtpckbpimgoljoaaGreat
/- HELPERS: the document's side of classes: Right. -/
namespace Go.Proofs.YtpckbpimgoljoaaGreat
open Go.RowKit
set_option linter.unusedVariables false
set_option linter.unusedSimpArgs false
end Go.Proofs.YtpckbpimgoljoaaGreat
/- HELPERS: which nodes may be: the document's answer. -/
namespace Go.Proofs.YtpckbpimgoljoaaGreat
open Go.RowKit
set_option linter.unusedVariables false
set_option linter.unusedSimpArgs false
/-- may a node be, those below it apart? -/
def nodeB (k : Int) (R : List (Int × Int)) (a : Int) (n : Nat) (mn mx : Int) (lz : Bool) (ix : Int) (nm : ByteArray) : Bool :=
  if k = 1 then bareB R.length a n mn mx lz ix nm false false false false false
  else if k = 2 then rightB R && bareB R.length a n mn mx lz ix nm true false false false false
  else if k = 3 then assertB a && bareB R.length a n mn mx lz ix nm false true false false false
  else if k = 4 ∨ k = 5 then decide (2 ≤ n) && bareB R.length a n mn mx lz ix nm false false true false false
  else if k = 6 then decide (n = 1) && decide (0 ≤ mn) && decide (mn ≤ 1000) && (decide (mx = -1) || decide (mn ≤ mx) && decide (mx ≤ 1000)) && bareB R.length a n mn mx lz ix nm false false true true false
  else if k = 7 then decide (n = 1) && decide (1 ≤ ix) && decide (ix ≤ 500) && (nm.toList.isEmpty || nameB nm) && bareB R.length a n mn mx lz ix nm false false true false true
  else false
theorem R2.row {w : World} {B : Nat} {N : Nv} {R : List (Int × Int)} (h : R2 w B N.r1 R) (hr : N.r2 = R.length) : RowAt B w (.slice N.r1 N.r2 N.r3) R := by
  refine ⟨N.r1, N.r3, by rw [hr], ?_⟩
  rcases R with _ | ⟨x, R⟩
  · exact .inl rfl
  · obtain ⟨b, o, h1, h2, h3⟩ := h (by simp)
    refine .inr ⟨b, o, h1, h2, fun k hk => ?_, fun k hk => ?_⟩
    · rw [(h3 k hk).1]; simp only [List.getD_eq_getElem?_getD, List.getElem?_eq_getElem hk, Option.getD_some]
    · rw [(h3 k hk).2]; simp only [List.getD_eq_getElem?_getD, List.getElem?_eq_getElem hk, Option.getD_some]
theorem nodeB_ne {k : Int} {R : List (Int × Int)} {a : Int} {n : Nat} {mn mx : Int} {lz : Bool} {ix : Int} {nm : ByteArray} (h : k ≠ 1 ∧ k ≠ 2 ∧ k ≠ 3 ∧ k ≠ 4 ∧ k ≠ 5 ∧ k ≠ 6 ∧ k ≠ 7) : nodeB k R a n mn mx lz ix nm = false := by
  simp [nodeB, h]
end Go.Proofs.YtpckbpimgoljoaaGreat
namespace Go.Proofs.YtpckbpimgoljoaaGreat
open Go.RowKit
set_option linter.unusedVariables false
set_option linter.unusedSimpArgs false
mutual
/-- each node of it may be -/
def Tn.fine : Tn → Bool
  | .mk k R a s mn mx lz ix nm => nodeB k R a s.length mn mx lz ix nm && fineL s
def fineL : List Tn → Bool
  | [] => true
  | t :: ts => t.fine && fineL ts
end
/-- a sound tree -/
def Tn.sound (t : Tn) : Bool := t.fine && decide (t.depth ≤ 10000) && decide (t.nodes ≤ 200000)
mutual
/-- the program's census: how many it has counted; none: it gave up -/
def Tn.tk : Tn → Int → Int → Option Int
  | .mk k R a s mn mx lz ix nm, c, d => if c + 1 ≤ 200000 ∧ d ≤ 10000 ∧ nodeB k R a s.length mn mx lz ix nm = true then tkL s (c + 1) (d + 1) else none
def tkL : List Tn → Int → Int → Option Int
  | [], c, _ => some c
  | t :: ts, c, d => match t.tk c d with
    | none => none
    | some c' => tkL ts c' d
end
mutual
theorem Tn.tk_spec : ∀ (t : Tn) (c d : Int), c ≤ 200000 → d ≤ 10001 → t.tk c d = if t.fine = true ∧ (t.depth : Int) + d ≤ 10001 ∧ c + t.nodes ≤ 200000 then some (c + t.nodes) else none
  | .mk k R a s mn mx lz ix nm, c, d, hc, hd => by
    simp only [Tn.tk, Tn.nodes, Tn.fine, Tn.depth, Bool.and_eq_true]
    by_cases hn : c + 1 ≤ 200000 ∧ d ≤ 10000 ∧ nodeB k R a s.length mn mx lz ix nm = true
    · rw [if_pos hn, tkL_spec s (c + 1) (d + 1) (by omega) (by omega)]
      by_cases hs : fineL s = true ∧ (depthL s : Int) + (d + 1) ≤ 10001 ∧ c + 1 + nodesL s ≤ 200000
      · rw [if_pos hs, if_pos ⟨⟨hn.2.2, hs.1⟩, by omega, by omega⟩]
        congr 1
        push_cast
        omega
      · rw [if_neg hs, if_neg]
        rintro ⟨⟨h1, h2⟩, h3, h4⟩
        exact hs ⟨h2, by omega, by omega⟩
    · rw [if_neg hn, if_neg]
      rintro ⟨⟨h1, h2⟩, h3, h4⟩
      exact hn ⟨by omega, by omega, h1⟩
theorem tkL_spec : ∀ (ts : List Tn) (c d : Int), c ≤ 200000 → d ≤ 10001 → tkL ts c d = if fineL ts = true ∧ (depthL ts : Int) + d ≤ 10001 ∧ c + nodesL ts ≤ 200000 then some (c + nodesL ts) else none
  | [], c, d, hc, hd => by simp [tkL, nodesL, fineL, depthL]; omega
  | t :: ts, c, d, hc, hd => by
    simp only [tkL, nodesL, fineL, depthL, Bool.and_eq_true]
    rw [Tn.tk_spec t c d hc hd]
    by_cases h1 : t.fine = true ∧ (t.depth : Int) + d ≤ 10001 ∧ c + t.nodes ≤ 200000
    · rw [if_pos h1]
      simp only
      rw [tkL_spec ts (c + t.nodes) d (by omega) hd]
      by_cases h2 : fineL ts = true ∧ (depthL ts : Int) + d ≤ 10001 ∧ c + t.nodes + nodesL ts ≤ 200000
      · rw [if_pos h2, if_pos ⟨⟨h1.1, h2.1⟩, by omega, by omega⟩]
        congr 1
        push_cast
        omega
      · rw [if_neg h2, if_neg]
        rintro ⟨⟨a1, a2⟩, a3, a4⟩
        exact h2 ⟨a2, by omega, by omega⟩
    · rw [if_neg h1, if_neg]
      rintro ⟨⟨a1, a2⟩, a3, a4⟩
      exact h1 ⟨a1, by omega, by omega⟩
end
theorem tkL_drop (ts : List Tn) (i : Nat) (hi : i < ts.length) (c d : Int) : tkL (ts.drop i) c d = (match ts[i].tk c d with | none => none | some c' => tkL (ts.drop (i + 1)) c' d) := by
  rw [List.drop_eq_getElem_cons hi]
  simp only [tkL]
theorem sound_tk (t : Tn) : (t.tk 0 1).isSome = t.sound := by
  rw [t.tk_spec 0 1 (by omega) (by omega)]
  simp only [Tn.sound]
  by_cases h : t.fine = true ∧ (t.depth : Int) + 1 ≤ 10001 ∧ (0 : Int) + t.nodes ≤ 200000
  · rw [if_pos h, h.1, decide_eq_true (show t.depth ≤ 10000 by omega), decide_eq_true (show t.nodes ≤ 200000 by omega)]
    rfl
  · rw [if_neg h]
    cases hf : t.fine
    · rfl
    · by_cases h1 : t.depth ≤ 10000
      · rw [decide_eq_false (show ¬ t.nodes ≤ 200000 from fun h2 => h ⟨hf, by omega, by omega⟩)]; simp
      · rw [decide_eq_false h1]; simp
end Go.Proofs.YtpckbpimgoljoaaGreat
