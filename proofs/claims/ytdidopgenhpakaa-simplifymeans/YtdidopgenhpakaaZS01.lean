/- HELPERS: the contracts of the methods of a spot: what holds at a place. -/
import Derived.Test.YtdidopgenhpakaaOb
import Derived.DeepKeys3
import Derived.MapKept
import Derived.Lib.Small
import Derived.Test.YtdidopgenhpakaaRi
import Derived.Test.YtdidopgenhpakaaProg
import Derived.WalkKit
import Derived.ProofKit
import Derived.BigQuiet
import Derived.WalkSmall
import Derived.Deep.QuietTactic
import Derived.Deep.RegionWith
import Derived.Laws.EntriesVeiled
import Derived.Deep.WholeRow
/- HELPERS: the map of what was done. -/
namespace Go.Proofs.Ytdidopgenhpakaa
open Go.RowKit Go.WideMaps
set_option linter.unusedVariables false
set_option linter.unusedSimpArgs false
abbrev dk (a b : Int) : Value := .agg #[.int .i64 a, .int .i64 b]
theorem law_of {P : Program} {k : TypeId} {fs : Array Field} (hu : P.underlying k = some (.struct fs)) (h1 : P.keyTypeAt 2 k = true) (h2 : P.tiled 2 k = true) : KeyLaw P k := deep_law (by decide : 2 + 1 ≤ 10000) h1 h2 (by rw [hu])
theorem key108 : Try.prog.keyTypeAt 2 128 = true := by kernel_rfl
theorem tiled108 : Try.prog.tiled 2 128 = true := by kernel_rfl
theorem law108 : KeyLaw Try.prog 128 := law_of Try.underlying128 key108 tiled108
theorem keyType108 : Try.prog.keyType 128 = true := by kernel_rfl
theorem size_types : Try.prog.types.size = 167 + 1 := by kernel_rfl
theorem cells108 : Try.prog.cellsOf 128 = 2 := by kernel_rfl
theorem cells3 : Try.prog.cellsOf 3 = 1 := by kernel_rfl
theorem keyOf_two {P : Program} {k e : TypeId} {f0 f1 : Field} {m : Nat} (hu : P.underlying k = some (.struct #[f0, f1])) (e0 : f0.type = e) (e1 : f1.type = e) (o0 : f0.offset = 0) (o1 : f1.offset = 1) (n0 : (f0.name != "_") = true) (n1 : (f1.name != "_") = true)
    (he : P.underlying e = some (.int .i64)) (hc : P.cellsOf k = 2) (hce : P.cellsOf e = 1) (hkt : P.keyType k = true) (hsz : P.types.size = m + 1) (a b : Int) (wa : (Lit.int .i64 a).wf = true) (wb : (Lit.int .i64 b).wf = true) :
    keyOf P k (dk a b) = some (.string (keyBytes [.int .i64 a, .int .i64 b])) := by
  unfold keyOf
  simp only [hu]
  rw [if_pos (by simp [hkt, Value.formed, hu, hc]), hsz]
  unfold Program.keyLits
  simp only [hu, Value.cells]
  rw [if_pos (by simp [hc, n0, n1])]
  simp [Program.keyLits, e0, e1, o0, o1, hce, he, wa, wb]
theorem key_dk (a b : Int) (wa : (Lit.int .i64 a).wf = true) (wb : (Lit.int .i64 b).wf = true) : keyOf Try.prog 128 (dk a b) = some (.string (keyBytes [.int .i64 a, .int .i64 b])) :=
  keyOf_two (m := 167) Try.underlying128 rfl rfl rfl rfl rfl rfl Try.underlying3 cells108 cells3 keyType108 size_types a b wa wb
theorem zero109 (w : World) : (zeroValue 129).run Try.prog w = .ok (.agg #[]) w := by kernel_rfl
def wf2 (x : Int × Int) : Prop := (Lit.int .i64 x.1).wf = true ∧ (Lit.int .i64 x.2).wf = true
/-- the map in block b holds just these pairs, in the order in which they came -/
def MP (w : World) (b : Nat) (D : List (Int × Int)) : Prop := ∃ es clock, w.heap[b]? = some (.map es clock) ∧ es.toList.map (·.key) = D.map (fun x => dk x.1 x.2) ∧ (∀ x ∈ es.toList, x.val = .agg #[]) ∧ ∀ x ∈ D, wf2 x
theorem MP.keys {D : List (Int × Int)} {es : List MapEntry} (h : es.map (·.key) = D.map (fun x => dk x.1 x.2)) (hD : ∀ x ∈ D, wf2 x) : ∀ e ∈ es, ∃ l, keyOf Try.prog 128 e.key = some l := by
  intro e he
  have : e.key ∈ D.map (fun x => dk x.1 x.2) := by rw [← h]; exact List.mem_map_of_mem he
  obtain ⟨x, hx, e1⟩ := List.mem_map.1 this
  rw [← e1]
  exact ⟨_, key_dk _ _ (hD x hx).1 (hD x hx).2⟩
theorem dk_inj {a b c d : Int} (h : dk a b = dk c d) : a = c ∧ b = d := by simpa using h
theorem MP.look {w : World} {b : Nat} {D : List (Int × Int)} (h : MP w b D) (a p : Int) (hw : wf2 (a, p)) : (Instr.lookup 82 (.map (some b)) (dk a p) true).run Try.prog w = .ok (.tuple #[.agg #[], .bool (decide ((a, p) ∈ D))]) w := by
  obtain ⟨es, clock, hb, hk, hv, hD⟩ := h
  have hkey := key_dk a p hw.1 hw.2
  rcases law108.find w hkey es.toList (MP.keys hk hD) with ⟨h1, h2⟩ | ⟨j, e0, h1, h2, h3⟩
  · have hn : decide ((a, p) ∈ D) = false := by
      rw [decide_eq_false_iff_not]
      intro hm
      have : dk a p ∈ es.toList.map (·.key) := by rw [hk]; exact List.mem_map.2 ⟨_, hm, rfl⟩
      obtain ⟨e, he, e1⟩ := List.mem_map.1 this
      exact h2 e he e1
    rw [hn]
    simp [Instr.lookup, run_underlying Try.underlying82, MapKept.run_getObj_map hb, law108.check w _ hkey, h1, zero109, Result.andThen]
  · have hm : e0 ∈ es.toList := List.mem_of_getElem? h2
    have hn : decide ((a, p) ∈ D) = true := by
      rw [decide_eq_true_eq]
      have : e0.key ∈ D.map (fun x => dk x.1 x.2) := by rw [← hk]; exact List.mem_map_of_mem hm
      obtain ⟨x, hx, e1⟩ := List.mem_map.1 this
      rw [h3] at e1
      obtain ⟨rfl, rfl⟩ := dk_inj e1
      exact hx
    rw [hn]
    simp [Instr.lookup, run_underlying Try.underlying82, MapKept.run_getObj_map hb, law108.check w _ hkey, h1, hv e0 hm, Result.andThen]
def putB (w : World) (b : Nat) (o : Obj) : World := { w with heap := w.heap.setIfInBounds b o }
theorem putB_size (w : World) (b : Nat) (o : Obj) : (putB w b o).heap.size = w.heap.size := by simp [putB]
theorem putB_other (w : World) {b k : Nat} (o : Obj) (h : k ≠ b) : (putB w b o).heap[k]? = w.heap[k]? := by
  simp only [putB]
  rw [Array.getElem?_setIfInBounds_ne (fun e => h e.symm)]
theorem MP.put {w : World} {b : Nat} {D : List (Int × Int)} (h : MP w b D) (a p : Int) (hw : wf2 (a, p)) (hn : (a, p) ∉ D) : ∃ o, (Instr.mapUpdate 82 (.map (some b)) (dk a p) (.agg #[])).run Try.prog w = .ok () (putB w b o) ∧ MP (putB w b o) b (D ++ [(a, p)]) := by
  obtain ⟨es, clock, hb, hk, hv, hD⟩ := h
  have hkey := key_dk a p hw.1 hw.2
  rcases law108.find w hkey es.toList (MP.keys hk hD) with ⟨h1, h2⟩ | ⟨j, e0, h1, h2, h3⟩
  · refine ⟨Obj.map (es.push ⟨dk a p, .agg #[], clock⟩) (clock + 1), ?_, es.push ⟨dk a p, .agg #[], clock⟩, clock + 1, ?_, ?_, ?_, ?_⟩
    · simp [Instr.mapUpdate, run_underlying Try.underlying82, MapKept.run_getObj_map hb, law108.check w false hkey, h1, MapKept.run_setObj_map _ hb, Result.andThen, putB]
    · have := (Array.getElem?_eq_some_iff.1 hb).1
      simp [putB, this]
    · simp [hk]
    · intro x hx
      simp only [Array.toList_push, List.mem_append, List.mem_singleton] at hx
      rcases hx with hx | rfl
      · exact hv x hx
      · rfl
    · intro x hx
      simp only [List.mem_append, List.mem_singleton] at hx
      rcases hx with hx | rfl
      · exact hD x hx
      · exact hw
  · exfalso
    have hm : e0 ∈ es.toList := List.mem_of_getElem? h2
    have : e0.key ∈ D.map (fun x => dk x.1 x.2) := by rw [← hk]; exact List.mem_map_of_mem hm
    obtain ⟨x, hx, e1⟩ := List.mem_map.1 this
    rw [h3] at e1
    obtain ⟨rfl, rfl⟩ := dk_inj e1
    exact hn hx
end Go.Proofs.Ytdidopgenhpakaa
/- HELPERS: runes.Right and runes.Has. -/
namespace Go.Proofs.Ytdidopgenhpakaa
open Go.RowKit Go.Lib
set_option linter.unusedVariables false
set_option linter.unusedSimpArgs false
theorem nan52 (a : Int) (w : World) : Calls Try.prog 128 #[.int .i64 a] w fun e w' => e = .returned (.bool false) ∧ w' = w := by
  go_enter Try.func128, Try.ntmps128
  go_wp2
  go_ret
  exact ⟨ret_bool (by simp), rfl⟩
theorem cmp51 (a b : Int) (w : World) : Calls Try.prog 125 #[.int .i64 a, .int .i64 b] w fun e w' => e = .returned (.int .i64 (Lib.compareInt a b)) ∧ w' = w := by
  go_enter Try.func125, Try.ntmps125
  go_wp2_with (go_at_call 128; (with_reducible refine (nan52 _ _).mono ?_); rintro e w' ⟨rfl, rfl⟩)
  all_goals go_ret
  all_goals exact ⟨ret_int (by unfold Lib.compareInt; (repeat' split) <;> omega), rfl⟩
set_option maxHeartbeats 1000000 in
theorem closure50 (lo hi r : Int) (W : World) : Calls Try.prog 124 #[.agg #[.int .i64 lo, .int .i64 hi], .int .i64 r] W fun e w' => e = .returned (.int .i64 (Lib.compareInt hi r)) ∧ Below W.heap.size W w' := by
  have hcon := fun W' => cmp51 hi r W'
  generalize Lib.compareInt hi r = c at hcon ⊢
  go_enter Try.func124, Try.ntmps124
  go_wp2_with (go_at_call 125; refine (hcon _).mono ?_; rintro e w' ⟨rfl, rfl⟩)
  go_ret
  exact ⟨rfl, (Below.refl _ _).alloc (Nat.le_refl _) _⟩
theorem cmp_lt (a b : Int) : Lib.compareInt a b < 0 ↔ a < b := by
  unfold Lib.compareInt
  by_cases h1 : a < b
  · simp [h1]
  · by_cases h2 : b < a <;> simp [h1, h2]
set_option maxHeartbeats 3000000 in
set_option maxRecDepth 1000000 in
theorem bs49 (L : List (Int × Int)) (ad : Option Addr) (n cap : Nat) (r : Int) (w : World) (hn : Hid (n = L.length)) (hl : Hid (RowAt w.heap.size w (.slice ad n cap) L)) (hS : n ≤ 5000) :
    Calls Try.prog 123 #[.slice ad n cap, .int .i64 r, .func (.func 124) #[] #[]] w fun e w' => ∃ (i : Nat) (f : Bool), e = .returned (.tuple #[.int .i64 i, .bool f]) ∧ Below w.heap.size w w' ∧ i ≤ n ∧ (i = 0 ∨ (L.getD (i - 1) (0, 0)).2 < r) ∧ (i = n ∨ r ≤ (L.getD i (0, 0)).2) := by
  go_enter Try.func123, Try.ntmps123
  go_wp2
  go_loopw [9, 10] (fun a b wr => ∃ (i j : Nat), a = .int .i64 i ∧ b = .int .i64 j ∧ i ≤ j ∧ j ≤ n ∧ Below w.heap.size w wr ∧ Hid ((i = 0 ∨ (L.getD (i - 1) (0, 0)).2 < r) ∧ (j = n ∨ r ≤ (L.getD j (0, 0)).2)))
    (fun a b _ => (intOf b).toNat - (intOf a).toNat)
  case atStart => exact ⟨0, n, rfl, rfl, by omega, by omega, Below.refl _ _, by exact ⟨.inl rfl, .inl rfl⟩⟩
  case round =>
    obtain ⟨i, j, rfl, rfl, hij, hjn, hbw, HR⟩ := hrel
    have hsz := hbw.size
    by_cases hlt : i < j
    · obtain ⟨ad', cap', he, h | ⟨b, off, rfl, hbN, hc0, hc1⟩⟩ := hl.out
      · exact absurd h (by rw [← hn.out]; omega)
      · have hn' := hn.out
        simp only [Value.slice.injEq] at he
        obtain ⟨rfl, -, rfl⟩ := he
        have hm1 : i ≤ (i + j) / 2 := by omega
        have hm2 : (i + j) / 2 < j := by omega
        have d0 := (hbw.cell (p := ⟨b, off + (i + j) / 2 * 2, none⟩) hbN).trans (hc0 ((i + j) / 2) (by omega))
        have d1 := (hbw.cell (p := ⟨b, off + (i + j) / 2 * 2 + 1, none⟩) hbN).trans (hc1 ((i + j) / 2) (by omega))
        generalize hg : L.getD ((i + j) / 2) (0, 0) = g at d0 d1
        obtain ⟨lo, hi⟩ := g
        simp only at d0 d1
        have HG : Hid (L.getD ((i + j) / 2) (0, 0) = (lo, hi)) := hg
        clear hg hc0 hc1 hn'
        have hcl := closure50 lo hi r
        have hcmp := cmp_lt hi r
        generalize Lib.compareInt hi r = c at hcl hcmp
        by_cases hc : c < 0
        · have HX : Hid (hi < r) := hcmp.1 hc
          clear hcmp
          go_wp2_with (go_at_call 124; refine (hcl _).mono ?_; rintro e w2 ⟨rfl, hb2⟩)
          go_roundw
          case rel => exact ⟨(i + j) / 2 + 1, j, by go_num, rfl, by omega, by omega, hbw.trans (hb2.mono hsz), by exact ⟨.inr (by rw [Nat.add_sub_cancel, HG.out]; exact HX.out), HR.out.2⟩⟩
          case measure => simp [intOf]; omega
        · have HX : Hid (r ≤ hi) := by show r ≤ hi; have := mt hcmp.2 hc; omega
          clear hcmp
          go_wp2_with (go_at_call 124; refine (hcl _).mono ?_; rintro e w2 ⟨rfl, hb2⟩)
          go_roundw
          case rel => exact ⟨i, (i + j) / 2, rfl, by go_num, by omega, by omega, hbw.trans (hb2.mono hsz), by exact ⟨HR.out.1, .inr (by rw [HG.out]; exact HX.out)⟩⟩
          case measure => simp [intOf]; omega
    · obtain rfl : i = j := by omega
      by_cases hin : i < n
      · obtain ⟨ad', cap', he, h | ⟨b, off, rfl, hbN, hc0, hc1⟩⟩ := hl.out
        · exact absurd h (by rw [← hn.out]; omega)
        · have hn' := hn.out
          simp only [Value.slice.injEq] at he
          obtain ⟨rfl, -, rfl⟩ := he
          have d0 := (hbw.cell (p := ⟨b, off + i * 2, none⟩) hbN).trans (hc0 i (by omega))
          have d1 := (hbw.cell (p := ⟨b, off + i * 2 + 1, none⟩) hbN).trans (hc1 i (by omega))
          generalize L.getD i (0, 0) = g at d0 d1
          obtain ⟨lo, hi⟩ := g
          simp only at d0 d1
          clear hc0 hc1 hn'
          have hcl := closure50 lo hi r
          generalize Lib.compareInt hi r = c at hcl
          go_wp2_with (go_at_call 124; refine (hcl _).mono ?_; rintro e w2 ⟨rfl, hb2⟩)
          go_ret2
          exact ⟨i, _, rfl, hbw.trans (hb2.mono hsz), by omega, HR.out.1, HR.out.2⟩
      · go_wp2
        go_ret2
        exact ⟨i, _, rfl, hbw, by omega, HR.out.1, HR.out.2⟩
theorem right_rise (L : List (Int × Int)) : ∀ (ls : Int) (k : Nat), rightFrom ls L = true → k + 1 < L.length → (L.getD k (0, 0)).2 < (L.getD (k + 1) (0, 0)).1 ∧ (L.getD (k + 1) (0, 0)).1 ≤ (L.getD (k + 1) (0, 0)).2 := by
  induction L with
  | nil => intro ls k _ h; simp at h
  | cons a t ih =>
    intro ls k h hk
    simp only [rightFrom, Bool.and_eq_true] at h
    cases k with
    | zero =>
      cases t with
      | nil => simp at hk
      | cons b t =>
        have h2 := h.2
        simp only [rightFrom, okG, Bool.and_eq_true, decide_eq_true_eq] at h2
        have := h2.1.1.1.1.1
        have := h2.1.1.1.1.2
        simp
        omega
    | succ k => simpa using ih _ k h.2 (by simpa using hk)
theorem right_mono (L : List (Int × Int)) (ls : Int) (h : rightFrom ls L = true) : ∀ (d k : Nat), k + d < L.length → (L.getD k (0, 0)).2 ≤ (L.getD (k + d) (0, 0)).2 := by
  intro d
  induction d with
  | zero => intro k _; simp
  | succ d ih =>
    intro k hk
    have h1 := ih k (by omega)
    have h2 := right_rise L ls (k + d) h (by omega)
    have e : k + (d + 1) = k + d + 1 := by omega
    rw [e]
    omega
theorem right_lo (L : List (Int × Int)) (ls : Int) (h : rightFrom ls L = true) (a b : Nat) (hab : a < b) (hb : b < L.length) : (L.getD a (0, 0)).2 < (L.getD b (0, 0)).1 := by
  obtain ⟨d, rfl⟩ := Nat.exists_eq_add_of_le (show a + 1 ≤ b by omega)
  have h1 := right_mono L ls h d a (by omega)
  have h2 := right_rise L ls (a + d) h (by omega)
  have e : a + 1 + d = a + d + 1 := by omega
  rw [e]
  omega
theorem has_search (L : List (Int × Int)) (r : Int) (i : Nat) (h : rightB L = true) (hi : i ≤ L.length) (h0 : i = 0 ∨ (L.getD (i - 1) (0, 0)).2 < r) (h1 : i = L.length ∨ r ≤ (L.getD i (0, 0)).2) :
    hasB L r = (decide (i < L.length) && decide ((L.getD i (0, 0)).1 ≤ r)) := by
  have hr : rightFrom 0 L = true := by unfold rightB at h; rw [Bool.and_eq_true] at h; exact h.2
  have hge : ∀ k (hk : k < L.length), L[k] = L.getD k (0, 0) := fun k hk => by simp [List.getD, hk]
  rw [Bool.eq_iff_iff]
  unfold hasB
  rw [List.any_eq_true]
  simp only [Bool.and_eq_true, decide_eq_true_eq]
  constructor
  · rintro ⟨g, hg, ha, hb⟩
    obtain ⟨k, hk, rfl⟩ := List.getElem_of_mem hg
    rw [hge k hk] at ha hb
    have hki : ¬ k < i := fun hlt => by
      rcases h0 with h0 | h0
      · omega
      · have := right_mono L 0 hr (i - 1 - k) k (by omega)
        rw [show k + (i - 1 - k) = i - 1 by omega] at this
        omega
    have hik : ¬ i < k := fun hlt => by
      rcases h1 with h1 | h1
      · omega
      · have := right_lo L 0 hr i k hlt hk
        omega
    obtain rfl : k = i := by omega
    exact ⟨hk, ha⟩
  · rintro ⟨hk, ha⟩
    refine ⟨L[i], List.getElem_mem hk, ?_⟩
    rw [hge i hk]
    rcases h1 with h1 | h1
    · omega
    · exact ⟨ha, h1⟩
set_option maxHeartbeats 2000000 in
set_option maxRecDepth 1000000 in
theorem has30 (L : List (Int × Int)) (ad : Option Addr) (n cap : Nat) (r : Int) (w : World) (hn : Hid (n = L.length)) (hS2 : n ≤ 17592186044416) (hl : Hid (RowAt w.heap.size w (.slice ad n cap) L)) :
    Calls Try.prog 108 #[.slice ad n cap, .int .i64 r] w fun e w' => e = .returned (.bool (rightB L && hasB L r)) ∧ Below w.heap.size w w' := by
  have hr1 := right25 L ad n cap w hn.out hS2 hl.out
  cases hr : rightB L
  · rw [hr] at hr1
    clear hr
    go_enter Try.func108, Try.ntmps108
    go_wp2_with (go_at_call 90; refine hr1.mono ?_; rintro e w1 ⟨rfl, hb1⟩)
    go_ret
    exact ⟨rfl, hb1⟩
  · rw [hr] at hr1
    have hlen := rightB_len hr
    rw [← hn.out] at hlen
    have HRB : Hid (rightB L = true) := hr
    clear hr
    go_enter Try.func108, Try.ntmps108
    go_wp2_with fail
    refine hr1.mono ?_
    rintro e w1 ⟨rfl, hb1⟩
    have hs1 := hb1.size
    have hb := bs49 L ad n cap r w1 hn (hl.out.below hb1 (Nat.le_refl _) hs1) hlen
    go_wp2_with fail
    refine hb.mono ?_
    rintro e w2 ⟨i, f, rfl, hb2, hin, h0, h1⟩
    have hbw := hb1.trans (hb2.mono hs1)
    have HE : Hid (hasB L r = (decide (i < n) && decide ((L.getD i (0, 0)).1 ≤ r))) := by
      show hasB L r = _
      have := has_search L r i HRB.out (by rw [← hn.out]; exact hin) h0 (by rw [← hn.out]; exact h1)
      rw [← hn.out] at this
      exact this
    clear h0 h1
    by_cases hlt : i < n
    · obtain ⟨ad', cap', he, h | ⟨b, off, rfl, hbN, hc0, hc1⟩⟩ := hl.out
      · exact absurd h (by rw [← hn.out]; omega)
      · have hn' := hn.out
        simp only [Value.slice.injEq] at he
        obtain ⟨rfl, -, rfl⟩ := he
        have d0 := (hbw.cell (p := ⟨b, off + i * 2, none⟩) hbN).trans (hc0 i (by omega))
        have d1 := (hbw.cell (p := ⟨b, off + i * 2 + 1, none⟩) hbN).trans (hc1 i (by omega))
        have hE := HE.out
        generalize L.getD i (0, 0) = g at d0 d1 hE
        obtain ⟨lo, hi⟩ := g
        simp only at d0 d1 hE
        have HE2 : Hid ((true && hasB L r) = decide (lo ≤ r)) := by show _ = _; rw [hE]; simp [hlt]
        clear hE HE hc0 hc1 hn'
        go_wp2
        go_ret
        exact ⟨ret_bool HE2.out.symm, hbw⟩
    · have HE2 : Hid ((true && hasB L r) = false) := by show _ = _; rw [HE.out]; simp [hlt]
      go_wp2
      go_ret
      exact ⟨ret_bool HE2.out.symm, hbw⟩
end Go.Proofs.Ytdidopgenhpakaa
/- HELPERS: the contracts of the small functions of package look: the table of rows, Holds, Word, the methods of a spot. -/
namespace Go.Proofs.Ytdidopgenhpakaa.Look
open Go.RowKit
set_option linter.unusedVariables false
set_option linter.unusedSimpArgs false
/-- a whole array into the block that was made last -/
theorem wpList_store_new {P : Program} {ops : Array Oper} {rest : List Oper} {op : Oper} {a : Act} {w : World} {Q : Exit → Act → World → Prop} (hgd : op.guard = none) (ty : TypeId) (x y : Operand) (ho : op.op = .store ty x y)
    (c c' : Array Value) (hx : a.eval x = .pointer (some ⟨w.heap.size, 0, none⟩)) (hy : a.eval y = .agg c') (hi : (P.info? ty).map (·.size) = some c'.size) (hc : c.size = c'.size) (h1 : c'.all (·.oneCell') = true)
    (h : wpList P ops Q rest (a.put op.dst undef) (w.alloc (.cells c' ty))) : wpList P ops Q (op :: rest) a (w.alloc (.cells c ty)) :=
  wpList_plain hgd fun K hK => by
    unfold Oper.wp execOp
    simp only [ho, hx, hy, Sem.run_bind, Sem.run_pure, Result.andThen_ok, run_storeAt_new w ty c c' hi hc h1]
    exact hK _ _ h
theorem results_cell1 {fn : Func} {p : Tmp} {ty : TypeId} (h : fn.results = #[.cell p ty]) (tmps : Array Value) (P : Program) (w : World) :
    (results fn tmps).run P w = ((asAddr (tmps.getD p undef)).run P w).andThen fun a w₁ => ((loadVar ty a).run P w₁).andThen fun v w₂ => .ok v w₂ := by
  simp only [results, h]
  simp [Sem.run_bind, Result.andThen]
  cases (asAddr (tmps[p]?.getD undef)).run P w with
  | halt h w => rfl
  | ok a w => show (loadVar ty a).run P w = _; cases h : (loadVar ty a).run P w <;> simp [h]
def fv (f : Nat) : Value := .func (.func f) #[] #[]
def rowsV : Array Value := #[.int .i64 1, .int .i64 2, fv 99, .int .i64 2, .int .i64 1, fv 100, .int .i64 4, .int .i64 8, fv 101, .int .i64 8, .int .i64 4, fv 102, .int .i64 16, .int .i64 16, fv 103, .int .i64 32, .int .i64 32, fv 104]
theorem info37 : (Try.prog.info? 116).map (·.size) = some 18 := by kernel_rfl
theorem one37 : (rowsV.all (·.oneCell')) = true := by simp [rowsV, fv, Value.oneCell']
set_option maxRecDepth 100000 in
theorem rows17 (w : World) : Calls Try.prog 80 #[] w fun e w' => e = .returned (.agg rowsV) ∧ w' = w.alloc (.cells rowsV 116) := by
  go_enter Try.func80, Try.ntmps80
  go_wp2_with (refine wpList_store_new rfl 116 (.tmp 0) (.tmp 7) rfl _ rowsV rfl rfl info37 rfl one37 ?_)
  refine bodyPost_ret (v := .agg rowsV) ?_ rfl ⟨rfl, rfl⟩
  rw [results_cell1 Try.results80]
  have h := run_loadVar_new (P := Try.prog) w 116 rowsV 6 115 Try.underlying116 info37
  simp [asAddr, Result.andThen, h, Act.put]
theorem holds13 (x y : Int) (w : World) : Calls Try.prog 110 #[.int .i64 x, .int .i64 y] w fun e w' => e = .returned (.bool (bits .andNot .i64 x y == 0)) ∧ w' = w := by
  go_enter Try.func110, Try.ntmps110
  go_wp2
  go_ret
  exact ⟨rfl, rfl⟩
/-- is a rune one of a word -/
def wordR (r : Int) : Bool := decide (48 ≤ r ∧ r ≤ 57 ∨ 65 ≤ r ∧ r ≤ 90 ∨ 97 ≤ r ∧ r ≤ 122 ∨ r = 95)
theorem dom28 (r : Int) (w : World) : Calls Try.prog 117 #[.int .i64 r] w fun e w' => e = .returned (.bool (dom r)) ∧ w' = w := by
  go_enter Try.func117, Try.ntmps117
  go_wp2
  all_goals go_ret
  all_goals exact ⟨ret_bool (by rw [Bool.eq_iff_iff]; simp [dom]; omega), rfl⟩
theorem word27 (r : Int) (w : World) : Calls Try.prog 120 #[.int .i64 r] w fun e w' => e = .returned (.bool (wordR r)) ∧ w' = w := by
  have hd := dom28 r w
  by_cases hD : dom r = true
  · rw [hD] at hd
    have hr : 0 ≤ r ∧ r ≤ 1114111 := by simp [dom] at hD; omega
    have hw : IntKind.i32.wrap r = r := by simp [IntKind.wrap, IntKind.bits, IntKind.signed]; omega
    clear hD
    go_enter Try.func120, Try.ntmps120
    go_wp2_with (go_at_call 117; refine hd.mono ?_; rintro e w' ⟨rfl, rfl⟩)
    all_goals go_ret
    all_goals exact ⟨ret_bool (by rw [Bool.eq_iff_iff]; simp [wordR, hw]; omega), rfl⟩
  · have hD' : dom r = false := by simpa using hD
    rw [hD'] at hd
    have hr : wordR r = false := by simp [dom] at hD; simp [wordR]; omega
    rw [hr]
    go_enter Try.func120, Try.ntmps120
    go_wp2_with (go_at_call 117; refine hd.mono ?_; rintro e w' ⟨rfl, rfl⟩)
    go_ret
    exact ⟨rfl, rfl⟩
end Go.Proofs.Ytdidopgenhpakaa.Look
namespace Go.Proofs.Ytdidopgenhpakaa.Look
open Go.RowKit
set_option linter.unusedVariables false
set_option linter.unusedSimpArgs false
/-- a text in memory, below N -/
def TextAt (N : Nat) (w : World) (ad : Option Addr) (n : Nat) (l : List Int) : Prop :=
  n = l.length ∧ n ≤ 35184372088832 ∧ (n = 0 ∨ ∃ b off, ad = some ⟨b, off, none⟩ ∧ b < N ∧ ∀ k, k < n → w.cell? ⟨b, off + k, none⟩ = some (.int .i64 (l.getD k 0)))
theorem TextAt.below {N : Nat} {w w' : World} {ad : Option Addr} {n : Nat} {l : List Int} (h : TextAt N w ad n l) (hb : Below N w w') : TextAt N w' ad n l := by
  obtain ⟨h1, h2, h | ⟨b, off, ha, hbN, hc⟩⟩ := h
  · exact ⟨h1, h2, .inl h⟩
  · exact ⟨h1, h2, .inr ⟨b, off, ha, hbN, fun k hk => (hb.cell (p := ⟨b, off + k, none⟩) hbN).trans (hc k hk)⟩⟩
theorem TextAt.mono {N M : Nat} {w : World} {ad : Option Addr} {n : Nat} {l : List Int} (h : TextAt N w ad n l) (hNM : N ≤ M) : TextAt M w ad n l := by
  obtain ⟨h1, h2, h | ⟨b, off, ha, hbN, hc⟩⟩ := h
  · exact ⟨h1, h2, .inl h⟩
  · exact ⟨h1, h2, .inr ⟨b, off, ha, by omega, hc⟩⟩
def spot (ad : Option Addr) (n cap : Nat) (p : Int) : Value := .agg #[.slice ad n cap, .int .i64 p]
def begB (p : Nat) : Bool := decide (p = 0)
def endB (l : List Int) (p : Nat) : Bool := decide (p = l.length)
def blB (l : List Int) (p : Nat) : Bool := decide (p = 0) || decide (l.getD (p - 1) 0 = 10)
def elB (l : List Int) (p : Nat) : Bool := decide (p = l.length) || decide (l.getD p 0 = 10)
def waB (l : List Int) (p : Nat) : Bool := decide (0 < p) && wordR (l.getD (p - 1) 0)
def wbB (l : List Int) (p : Nat) : Bool := decide (p < l.length) && wordR (l.getD p 0)
theorem beg19 (ad : Option Addr) (n cap p : Nat) (w : World) : Calls Try.prog 99 #[.agg #[.slice ad n cap, .int .i64 p]] w fun e w' => e = .returned (.bool (begB p)) ∧ Below w.heap.size w w' := by
  go_enter Try.func99, Try.ntmps99
  go_wp2
  go_ret
  exact ⟨ret_bool (by rw [Bool.eq_iff_iff]; simp [begB]), (Below.refl _ _).alloc (Nat.le_refl _) _⟩
theorem end20 (ad : Option Addr) (n cap p : Nat) (l : List Int) (w : World) (hn : n = l.length) : Calls Try.prog 100 #[.agg #[.slice ad n cap, .int .i64 p]] w fun e w' => e = .returned (.bool (endB l p)) ∧ Below w.heap.size w w' := by
  go_enter Try.func100, Try.ntmps100
  go_wp2
  go_ret
  exact ⟨ret_bool (by rw [Bool.eq_iff_iff]; simp [endB, hn]; omega), (Below.refl _ _).alloc (Nat.le_refl _) _⟩
/-- the box of a spot and a cell of its text, behind a call -/
theorem box_cells {w w' : World} {v : Value} {p : Int} (hb : Below (w.alloc (.cells #[v, .int .i64 p] 112)).heap.size (w.alloc (.cells #[v, .int .i64 p] 112)) w') :
    w'.cell? ⟨w.heap.size, 0, none⟩ = some v ∧ w'.cell? ⟨w.heap.size, 1, none⟩ = some (.int .i64 p) ∧ (∀ b o : Nat, b < w.heap.size → w'.cell? ⟨b, o, none⟩ = w.cell? ⟨b, o, none⟩) ∧ Below w.heap.size w w' := by
  refine ⟨(hb.cell (p := ⟨w.heap.size, 0, none⟩) (by simp)).trans ?_, (hb.cell (p := ⟨w.heap.size, 1, none⟩) (by simp)).trans ?_, fun b o ha => (hb.cell (p := ⟨b, o, none⟩) (by simp; omega)).trans ?_, ((Below.refl _ _).alloc (Nat.le_refl _) _).trans (hb.mono (by simp))⟩
  · rw [World.cell?_alloc_at _ _ _ _ rfl]; rfl
  · rw [World.cell?_alloc_at _ _ _ _ rfl]; rfl
  · exact World.cell?_alloc_past _ _ _ (by omega)
set_option maxHeartbeats 1000000 in
theorem bl21 (ad : Option Addr) (n cap p : Nat) (l : List Int) (w : World) (hT : Hid (TextAt w.heap.size w ad n l)) (hp : p ≤ n) : Calls Try.prog 101 #[.agg #[.slice ad n cap, .int .i64 p]] w fun e w' => e = .returned (.bool (blB l p)) ∧ Below w.heap.size w w' := by
  have hbeg := fun w => beg19 ad n cap p w
  by_cases h0 : p = 0
  · subst h0
    have e1 : begB 0 = true := by decide
    have e2 : blB l 0 = true := by simp [blB]
    rw [e1] at hbeg
    rw [e2]
    go_enter Try.func101, Try.ntmps101
    go_wp2_with (go_at_call 99; refine (hbeg _).mono ?_; rintro e w' ⟨rfl, hb⟩)
    go_ret
    exact ⟨rfl, ((Below.refl _ _).alloc (Nat.le_refl _) _).trans (hb.mono (by simp))⟩
  · have e1 : begB p = false := by simp [begB, h0]
    have e2 : blB l p = decide (l.getD (p - 1) 0 = 10) := by simp [blB, h0]
    rw [e1] at hbeg
    rw [e2]
    obtain ⟨hn, hmax, h | ⟨b, off, rfl, hbN, hc⟩⟩ := hT.out
    · omega
    · have d0 := hc (p - 1) (by omega)
      generalize l.getD (p - 1) 0 = x at d0
      clear hc e1 e2 hn
      go_enter Try.func101, Try.ntmps101
      go_wp2_with fail
      refine (hbeg _).mono ?_
      rintro e w' ⟨rfl, hb⟩
      obtain ⟨c0, c1, hk, hb2⟩ := box_cells hb
      have d1 := (hk b (off + (p - 1)) hbN).trans d0
      clear hb hk d0 hbeg
      go_wp2
      go_ret
      exact ⟨ret_bool (by rw [Bool.eq_iff_iff]; simp), hb2⟩
set_option maxHeartbeats 1000000 in
theorem el22 (ad : Option Addr) (n cap p : Nat) (l : List Int) (w : World) (hT : Hid (TextAt w.heap.size w ad n l)) (hp : p ≤ n) : Calls Try.prog 102 #[.agg #[.slice ad n cap, .int .i64 p]] w fun e w' => e = .returned (.bool (elB l p)) ∧ Below w.heap.size w w' := by
  have hend := fun w => end20 ad n cap p l w hT.out.1
  have hn := hT.out.1
  by_cases h0 : p = n
  · subst h0
    have e1 : endB l p = true := by simp [endB, hn]
    have e2 : elB l p = true := by simp [elB, hn]
    rw [e1] at hend
    rw [e2]
    clear hn e1 e2
    go_enter Try.func102, Try.ntmps102
    go_wp2_with (go_at_call 100; refine (hend _).mono ?_; rintro e w' ⟨rfl, hb⟩)
    go_ret
    exact ⟨rfl, ((Below.refl _ _).alloc (Nat.le_refl _) _).trans (hb.mono (by simp))⟩
  · have e1 : endB l p = false := by simp [endB]; omega
    have e2 : elB l p = decide (l.getD p 0 = 10) := by
      have : ¬ p = l.length := by omega
      simp [elB, this]
    rw [e1] at hend
    rw [e2]
    obtain ⟨hn', hmax, h | ⟨b, off, rfl, hbN, hc⟩⟩ := hT.out
    · omega
    · have d0 := hc p (by omega)
      generalize l.getD p 0 = x at d0
      have hp2 : p < n := by omega
      clear hc e1 e2 hn hn'
      go_enter Try.func102, Try.ntmps102
      go_wp2_with fail
      refine (hend _).mono ?_
      rintro e w' ⟨rfl, hb⟩
      obtain ⟨c0, c1, hk, hb2⟩ := box_cells hb
      have d1 := (hk b (off + p) hbN).trans d0
      clear hb hk d0 hend
      go_wp2
      go_ret
      exact ⟨ret_bool (by rw [Bool.eq_iff_iff]; simp), hb2⟩
set_option maxHeartbeats 1000000 in
theorem wa25 (ad : Option Addr) (n cap p : Nat) (l : List Int) (w : World) (hT : Hid (TextAt w.heap.size w ad n l)) (hp : p ≤ n) : Calls Try.prog 121 #[.agg #[.slice ad n cap, .int .i64 p]] w fun e w' => e = .returned (.bool (waB l p)) ∧ Below w.heap.size w w' := by
  have hbeg := fun w => beg19 ad n cap p w
  by_cases h0 : p = 0
  · subst h0
    have e1 : begB 0 = true := by decide
    have e2 : waB l 0 = false := by simp [waB]
    rw [e1] at hbeg
    rw [e2]
    go_enter Try.func121, Try.ntmps121
    go_wp2_with (go_at_call 99; refine (hbeg _).mono ?_; rintro e w' ⟨rfl, hb⟩)
    go_ret
    exact ⟨rfl, ((Below.refl _ _).alloc (Nat.le_refl _) _).trans (hb.mono (by simp))⟩
  · have e1 : begB p = false := by simp [begB, h0]
    have e2 : waB l p = wordR (l.getD (p - 1) 0) := by
      have : 0 < p := by omega
      simp [waB, this]
    rw [e1] at hbeg
    rw [e2]
    obtain ⟨hn, hmax, h | ⟨b, off, rfl, hbN, hc⟩⟩ := hT.out
    · omega
    · have d0 := hc (p - 1) (by omega)
      generalize l.getD (p - 1) 0 = x at d0
      have hword := fun w => word27 x w
      clear hc e1 e2 hn
      generalize wordR x = bx at hword
      go_enter Try.func121, Try.ntmps121
      go_wp2_with fail
      refine (hbeg _).mono ?_
      rintro e w' ⟨rfl, hb⟩
      obtain ⟨c0, c1, hk, hb2⟩ := box_cells hb
      have d1 := (hk b (off + (p - 1)) hbN).trans d0
      clear hb hk d0 hbeg
      go_wp2_with (go_at_call 120; refine (hword _).mono ?_; rintro e w'' ⟨rfl, rfl⟩)
      go_ret
      exact ⟨rfl, hb2⟩
set_option maxHeartbeats 1000000 in
theorem wb26 (ad : Option Addr) (n cap p : Nat) (l : List Int) (w : World) (hT : Hid (TextAt w.heap.size w ad n l)) (hp : p ≤ n) : Calls Try.prog 122 #[.agg #[.slice ad n cap, .int .i64 p]] w fun e w' => e = .returned (.bool (wbB l p)) ∧ Below w.heap.size w w' := by
  have hend := fun w => end20 ad n cap p l w hT.out.1
  have hn := hT.out.1
  by_cases h0 : p = n
  · subst h0
    have e1 : endB l p = true := by simp [endB, hn]
    have e2 : wbB l p = false := by simp [wbB, hn]
    rw [e1] at hend
    rw [e2]
    clear hn e1 e2
    go_enter Try.func122, Try.ntmps122
    go_wp2_with (go_at_call 100; refine (hend _).mono ?_; rintro e w' ⟨rfl, hb⟩)
    go_ret
    exact ⟨rfl, ((Below.refl _ _).alloc (Nat.le_refl _) _).trans (hb.mono (by simp))⟩
  · have e1 : endB l p = false := by simp [endB]; omega
    have e2 : wbB l p = wordR (l.getD p 0) := by
      have : p < l.length := by omega
      simp [wbB, this]
    rw [e1] at hend
    rw [e2]
    obtain ⟨hn', hmax, h | ⟨b, off, rfl, hbN, hc⟩⟩ := hT.out
    · omega
    · have d0 := hc p (by omega)
      generalize l.getD p 0 = x at d0
      have hp2 : p < n := by omega
      have hword := fun w => word27 x w
      clear hc e1 e2 hn hn'
      generalize wordR x = bx at hword
      go_enter Try.func122, Try.ntmps122
      go_wp2_with fail
      refine (hend _).mono ?_
      rintro e w' ⟨rfl, hb⟩
      obtain ⟨c0, c1, hk, hb2⟩ := box_cells hb
      have d1 := (hk b (off + p) hbN).trans d0
      clear hb hk d0 hend
      go_wp2_with (go_at_call 120; refine (hword _).mono ?_; rintro e w'' ⟨rfl, rfl⟩)
      go_ret
      exact ⟨rfl, hb2⟩
end Go.Proofs.Ytdidopgenhpakaa.Look
