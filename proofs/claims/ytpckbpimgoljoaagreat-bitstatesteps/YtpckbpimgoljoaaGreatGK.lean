/- HELPERS: what the law BitstateSteps leans on, of bitstate's Run, in plain words. -/
import Derived.Test.YtpckbpimgoljoaaGreatKJ
import Derived.Test.YtpckbpimgoljoaaGreatZC
import Derived.Test.YtpckbpimgoljoaaGreatZB
import Derived.Test.YtpckbpimgoljoaaGreatZH
import Derived.Test.YtpckbpimgoljoaaGreatZI
/- HELPERS: of a tree's program: capture 0 is written at the start alone, and nothing leads back to it. -/
namespace Go.Proofs.YtpckbpimgoljoaaGreat
open Go.RowKit
set_option linter.unusedVariables false
set_option linter.unusedSimpArgs false
/-- an instruction that leads to none before number one, and writes no capture 0 -/
def In.far (I : In) : Prop := (I.op ≠ 5 → I.op ≠ 6 → I.op ≠ 0 → 1 ≤ I.x) ∧ (I.op = 2 → 1 ≤ I.y) ∧ (I.op = 3 → 1 ≤ I.a)
theorem fork_far {r p : Nat} {lz : Bool} (hr : 1 ≤ r) (hp : 1 ≤ p) : (forkI r p lz).far := by
  unfold forkI
  cases lz <;> simp [In.far] <;> omega
theorem layL_far : ∀ (s : List Tn), (∀ u ∈ s, ∀ n, 1 ≤ n → ∀ I ∈ u.lay n, I.far) → ∀ n, 1 ≤ n → ∀ I ∈ layL s n, I.far
  | [], _, _, _ => fun I hI => by simp [layL] at hI
  | t :: ts, h, n, hn => fun I hI => by
    simp only [layL, List.mem_append] at hI
    rcases hI with hI | hI
    · exact h t (by simp) n hn I hI
    · exact layL_far ts (fun u hu => h u (by simp [hu])) (n + t.len) (by omega) I hI
theorem layA_far : ∀ (s : List Tn), (∀ u ∈ s, ∀ n, 1 ≤ n → ∀ I ∈ u.lay n, I.far) → ∀ (n f : Nat), 1 ≤ n → 1 ≤ f → ∀ I ∈ layA s n (f : Int), I.far
  | [], _, _, _, _, _ => fun I hI => by simp [layA] at hI
  | [t], h, n, f, hn, hf => fun I hI => by
    simp only [layA] at hI
    exact h t (by simp) n hn I hI
  | t :: u :: ts, h, n, f, hn, hf => fun I hI => by
    simp only [layA, List.mem_cons, List.mem_append] at hI
    rcases hI with rfl | hI | rfl | hI
    · simp [In.far]; omega
    · exact h t (by simp) (n + 1) (by omega) I hI
    · simp [In.far]; omega
    · exact layA_far (u :: ts) (fun v hv => h v (by simp at hv ⊢; exact .inr hv)) (n + t.len + 2) f (by omega) hf I hI
theorem lay_far {t : Tn} (h : Nf t) : (∀ q, t.inG q → 1 ≤ q.1) → ∀ n, 1 ≤ n → ∀ I ∈ t.lay n, I.far := by
  induction h with
  | @leaf k R a mn mx lz ix nm hk hn =>
    intro hg n hl I hI
    rcases hk with rfl | rfl | rfl
    · simp [Tn.lay] at hI
    · simp only [Tn.lay, if_true] at hI
      split at hI
      · simp at hI; subst hI; simp [In.far]
      · simp at hI; subst hI; simp [In.far]; omega
    · simp [Tn.lay] at hI; subst hI
      simp [In.far]; omega
  | @cat s h2 h hs ih =>
    intro hg n hl I hI
    have e2 : (zN 4 s).lay n = layL s n := by simp [Tn.lay]
    rw [e2] at hI
    exact layL_far s (fun u hu => ih u hu fun q hq => hg q (by simp only [Tn.inG]; exact ⟨by omega, .inr (inGL_iff.2 ⟨u, hu, hq⟩)⟩)) n hl I hI
  | @alt s h2 h hs ih =>
    intro hg n hl I hI
    have e2 : (zN 5 s).lay n = layA s n ((n + (lenL s + 2 * (s.length - 1)) : Nat) : Int) := by simp [Tn.lay]
    rw [e2] at hI
    exact layA_far s (fun u hu => ih u hu fun q hq => hg q (by simp only [Tn.inG]; exact ⟨by omega, .inr (inGL_iff.2 ⟨u, hu, hq⟩)⟩)) n _ hl (by omega) I hI
  | @loop mn mx lz y h hy ih =>
    intro hg n hl I hI
    have ih' := ih fun q hq => hg q (by simp only [Tn.inG, inGL]; exact ⟨by omega, .inr (.inl hq)⟩)
    have hL : ∀ n, 1 ≤ n → ∀ I ∈ layL [y] n, I.far := layL_far [y] (fun u hu => by simp at hu; subst hu; exact ih')
    rcases h with ⟨rfl, rfl⟩ | ⟨rfl, rfl⟩ | ⟨rfl, rfl⟩
    · have e2 : (loopT 0 1 lz y).lay n = forkI (n + 1) (n + 1 + lenL [y]) lz :: layL [y] (n + 1) := by simp [Tn.lay]
      rw [e2, List.mem_cons] at hI
      rcases hI with rfl | hI
      · exact fork_far (by omega) (by omega)
      · exact hL (n + 1) (by omega) I hI
    · have e2 : (loopT 0 (-1) lz y).lay n = forkI (n + 1) (n + 1 + lenL [y] + 1) lz :: (layL [y] (n + 1) ++ [⟨7, (n : Int), 0, 0, []⟩]) := by simp [Tn.lay]
      rw [e2, List.mem_cons, List.mem_append, List.mem_singleton] at hI
      rcases hI with rfl | hI | rfl
      · exact fork_far (by omega) (by omega)
      · exact hL (n + 1) (by omega) I hI
      · simp [In.far]; omega
    · have e2 : (loopT 1 (-1) lz y).lay n = layL [y] n ++ [forkI n (n + lenL [y] + 1) lz] := by simp [Tn.lay]
      rw [e2, List.mem_append, List.mem_singleton] at hI
      rcases hI with hI | rfl
      · exact hL n (by omega) I hI
      · exact fork_far (by omega) (by omega)
  | @grp ix nm y hn hy ih =>
    intro hg n hl I hI
    have h0 := hg (ix, nm.toList) (by simp only [Tn.inG]; exact ⟨by omega, .inl ⟨trivial, trivial⟩⟩)
    simp only at h0
    have ih' := ih fun q hq => hg q (by simp only [Tn.inG, inGL]; exact ⟨by omega, .inr (.inl hq)⟩)
    have hL : ∀ n, 1 ≤ n → ∀ I ∈ layL [y] n, I.far := layL_far [y] (fun u hu => by simp at hu; subst hu; exact ih')
    have e2 : (Tn.mk 7 [] 0 [y] 0 0 false ix nm).lay n = ⟨3, ((n + 1 : Nat) : Int), 0, 2 * ix, []⟩ :: (layL [y] (n + 1) ++ [⟨3, ((n + 1 + lenL [y] + 1 : Nat) : Int), 0, 2 * ix + 1, []⟩]) := by simp [Tn.lay]
    rw [e2, List.mem_cons, List.mem_append, List.mem_singleton] at hI
    rcases hI with rfl | hI | rfl
    · simp [In.far]; omega
    · exact hL (n + 1) (by omega) I hI
    · simp [In.far]; omega
/-- all instructions of a tree's program but the first -/
theorem prog_far {t : Tn} (hf : t.fine = true) : ∀ i, 0 < i → ((progT t).getD i default).far := by
  intro i hi
  obtain ⟨k, rfl⟩ : ∃ k, i = k + 1 := ⟨i - 1, by omega⟩
  unfold progT
  rw [List.getD_cons_succ]
  by_cases hk : k < (t.S.lay 1 ++ [⟨3, ((t.S.len + 2 : Nat) : Int), 0, 1, []⟩, ⟨5, 0, 0, 0, []⟩] : List In).length
  · rw [getD_in' hk]
    have hm := List.getElem_mem hk
    generalize (t.S.lay 1 ++ [⟨3, ((t.S.len + 2 : Nat) : Int), 0, 1, []⟩, ⟨5, 0, 0, 0, []⟩] : List In)[k] = I at hm
    simp only [List.mem_append, List.mem_cons, List.not_mem_nil, or_false] at hm
    rcases hm with h | rfl | rfl
    · exact lay_far (nf_S t hf) (fun q hq => inG_pos t hf q ((S_inG t q hf).1 hq)) 1 (by omega) I h
    · simp [In.far]; omega
    · simp [In.far]
  · rw [List.getD_eq_getElem?_getD, List.getElem?_eq_none (by omega)]
    simp [In.far, default]
theorem act_start (t : Tn) (tx : List Int) (j : Nat) : act (progT t) tx j 0 = .cap 1 0 := by simp [act, actI, progT]
theorem act_zero {t : Tn} (hf : t.fine = true) (tx : List Int) : ∀ i j x b, act (progT t) tx j i = .cap x b → b = 0 → i = 0 := by
  intro i j x b h hb
  by_cases hi : i = 0
  · exact hi
  · have hF := prog_far hf i (by omega)
    unfold act at h
    generalize (progT t).getD i default = I at h hF
    unfold actI at h
    have h3 := hF.2.2
    split at h
    · cases h
    · split at h
      · cases h
      · split at h
        · rename_i e
          have := h3 e
          injection h with h4 h5
          omega
        · split at h
          · split at h <;> cases h
          · split at h
            · split at h <;> cases h
            · split at h <;> cases h
theorem act_back {t : Tn} (hf : t.fine = true) (tx : List Int) : ∀ i j q, Goes (act (progT t) tx) (i, j) q → q.1 ≠ 0 := by
  intro i j q h
  by_cases hi : i = 0
  · subst hi
    simp only [Goes, act_start] at h
    subst h
    simp
  · have hF := prog_far hf i (by omega)
    simp only [Goes] at h
    unfold act at h
    generalize (progT t).getD i default = I at h hF
    unfold actI at h
    obtain ⟨h1, h2, h3⟩ := hF
    by_cases o2 : I.op = 2
    · have := h1 (by omega) (by omega) (by omega); have := h2 o2
      simp only [o2, if_true] at h
      rcases h with rfl | rfl <;> simp <;> omega
    by_cases o7 : I.op = 7
    · have := h1 (by omega) (by omega) (by omega)
      simp [o7] at h; subst h; simp; omega
    by_cases o3 : I.op = 3
    · have := h1 (by omega) (by omega) (by omega)
      simp [o3] at h; subst h; simp; omega
    by_cases o4 : I.op = 4
    · have := h1 (by omega) (by omega) (by omega)
      simp only [o4] at h
      simp at h
      split at h
      · rename_i e; split at e <;> cases e
      · rename_i e; split at e
        · cases e; subst h; simp; omega
        · cases e
      · rename_i e; split at e <;> cases e
      · rename_i e; split at e <;> cases e
      · exact h.elim
      · exact h.elim
    by_cases o1 : I.op = 1
    · have := h1 (by omega) (by omega) (by omega)
      simp only [o1] at h
      simp at h
      split at h
      · rename_i e; split at e <;> cases e
      · rename_i e; split at e <;> cases e
      · rename_i e; split at e <;> cases e
      · rename_i e; split at e
        · cases e; subst h; simp; omega
        · cases e
      · exact h.elim
      · exact h.elim
    by_cases o5 : I.op = 5
    · simp [o5] at h
    · simp [o2, o7, o3, o4, o1, o5] at h
/-- where what a tree's program finds begins -/
theorem prog_begin {t : Tn} (hf : t.fine = true) {tx : List Int} {m : List Pt} {j : Nat} {c : List Int} (hc : 0 < c.length) {m' : List Pt} {z : Int × List Int} (h : Df (act (progT t) tx) m 0 j c m' (some z)) : z.2[0]? = some (j : Int) :=
  df_begin (act_zero hf tx) (act_back hf tx) (act_start t tx j) hc h
end Go.Proofs.YtpckbpimgoljoaaGreat
namespace Go.Proofs.YtpckbpimgoljoaaGreat
open Go.RowKit Go.Lk
set_option linter.unusedVariables false
set_option linter.unusedSimpArgs false
def whF : Fd → Int
  | none => 0
  | some y => y.1
def capsF : Fd → List Int
  | none => []
  | some y => y.2
/-- an answer of Run that is no fault: found or not, what, so many steps -/
def FS (r : Fd) (st : Nat) (w : World) (e : Ending) (w' : World) : Prop :=
  ∃ a1 n1 c1, e = .returned (.tuple #[.agg #[.bool r.isSome, .slice a1 n1 c1, .int .i64 (whF r), .int .i64 (st : Int)], .int .i64 0]) ∧ IR w' (.slice a1 n1 c1) (capsF r) ∧ Below w.heap.size w w'
theorem FR.fs {K : Nat} {r : Fd} {st : Nat} {w w' : World} {e : Ending} (h : FR K (r, st) w e w') : FS r st w e w' := by
  obtain ⟨h1, h2⟩ := h
  cases r with
  | none => exact ⟨_, _, _, h2, IR.nil _, h1⟩
  | some y =>
    obtain ⟨g, h2, h3⟩ := h2
    exact ⟨_, _, _, h2, IR.row h3, h1⟩
theorem run8S {w : World} {ad tad : Option Addr} {n c tn tc : Nat} {s k a : Int} {anch : Bool} {l : List In} {tx : List Int} {r : Fd} {m' : List Pt} (hP : PI w w.heap.size ad n l) (hT : TextAt w.heap.size w tad tn tx) (he : errB l s k tx.length a = 0) (hd : BitA l tx s k a anch r m') :
    Calls Tryz.prog 8 #[pv ad n c s k, .slice tad tn tc, .int .i64 a, .bool anch] w (FS r m'.length w) :=
  (run9 hP hT (fun _ => hd)).mono fun e w' h => by
    rcases h with ⟨_, h⟩ | ⟨h, _⟩
    · exact h.fs
    · exact absurd he h
theorem run8E {w : World} {ad tad : Option Addr} {n c tn tc : Nat} {s k a : Int} {anch : Bool} {l : List In} {tx : List Int} (hP : PI w w.heap.size ad n l) (hT : TextAt w.heap.size w tad tn tx) (he : errB l s k tx.length a ≠ 0) :
    Calls Tryz.prog 8 #[pv ad n c s k, .slice tad tn tc, .int .i64 a, .bool anch] w (FE (errB l s k tx.length a) w) := by
  by_cases h0 : errR l s k tx.length a = 0
  · obtain ⟨r, m', hd, _⟩ := bit_ex (tx := tx) anch h0
    refine (run9 hP hT (fun _ => hd)).mono fun e w' h => ?_
    rcases h with ⟨h, _⟩ | ⟨_, h⟩
    · exact absurd h he
    · exact h
  · refine (run9 (r := none) (m' := []) hP hT (fun h => absurd h h0)).mono fun e w' h => ?_
    rcases h with ⟨h, _⟩ | ⟨_, h⟩
    · exact absurd h he
    · exact h
theorem errB_R {l : List In} {s k : Int} {n : Nat} {a : Int} (h : errB l s k n a = 0) : errR l s k n a = 0 := by
  unfold errB at h
  split at h
  · rename_i h1; exact absurd h h1
  · rename_i h1; simpa using h1
theorem errB_on {l : List In} {s k : Int} {n : Nat} {a q : Int} (h : errB l s k n a = 0) (h1 : a ≤ q) (h2 : q ≤ n) : errB l s k n q = 0 := by
  have hR := errB_R h
  obtain ⟨g1, g2, g3, g4⟩ := errR_ok hR
  have hq : errR l s k n q = 0 := by unfold errR; rw [if_neg (by omega), if_neg (by rw [g2]; decide), if_neg (by omega)]
  unfold errB at h ⊢
  rw [if_neg (by simp [hR])] at h
  rw [if_neg (by simp [hq])]
  split at h
  · cases h
  · rename_i hb
    rw [if_neg]
    intro hc
    have : l.length * (n - q.toNat + 1) ≤ l.length * (n - a.toNat + 1) := Nat.mul_le_mul_left _ (by omega)
    omega
theorem errB_le {l : List In} {s k : Int} {n : Nat} {a : Int} (h : errB l s k n a = 0) : l.length * (n - a.toNat + 1) ≤ 16777216 := by
  have hR := errB_R h
  unfold errB at h
  rw [if_neg (by simp [hR])] at h
  split at h
  · cases h
  · omega
/-- the two runs from one place: their steps, and that what the anchored one finds the other finds -/
theorem bit_steps {l : List In} {tx : List Int} {s k a : Int} {r r1 : Fd} {m' m1 : List Pt} (he : errR l s k tx.length a = 0) (hf : BitA l tx s k a false r m') (hg : BitA l tx s k a true r1 m1) :
    1 ≤ m'.length ∧ 1 ≤ m1.length ∧ m1.length ≤ m'.length ∧ m'.length ≤ l.length * (tx.length - a.toNat + 1) ∧ (r1.isSome = true → r.isSome = true) := by
  obtain ⟨h1, h2, h3, h4⟩ := errR_ok he
  have hmo := may_ok h2
  obtain ⟨S, rfl⟩ := Int.eq_ofNat_of_zero_le hmo.2.1
  obtain ⟨K, rfl⟩ := Int.eq_ofNat_of_zero_le (show 0 ≤ k by omega)
  have hP := pr_ok (tx := tx) h2
  have hl : ∀ i x, (prOf l tx S K).A tx.length i ≠ .rune x := fun i x => act_end l tx i x
  have hT : ∀ t ∈ bgs (prOf l tx S K) a.toNat false none (tx.length + 1 - a.toNat) a.toNat, t.1 < (prOf l tx S K).n ∧ a.toNat ≤ t.2.1 ∧ t.2.1 ≤ tx.length ∧ t.2.2.length = (prOf l tx S K).K := fun t ht => by
    obtain ⟨g1, g2, g3, g4⟩ := bgs_from _ _ _ _ _ _ t ht
    exact ⟨by rw [g1]; exact hP.S, g2, by omega, by rw [g4]; simp⟩
  have hsm := (da_ok hP hl hf hT (OkP.nil _ _ _)).1.small
  unfold BitA at hf hg
  rw [show tx.length + 1 - a.toNat = (tx.length - a.toNat) + 1 by omega] at hf hg
  obtain ⟨e1, e2, e3⟩ := steps_plain (P := prOf l tx S K) hf hg
  exact ⟨by omega, e1, e2, hsm, e3⟩
/-- a run from all places finds what the first of them finds alone -/
theorem bit_first {l : List In} {tx : List Int} {s k a : Int} {r : Fd} {m' : List Pt} (he : errR l s k tx.length a = 0) (hf : BitA l tx s k a false r m') :
    (r = none ∧ ∀ (i : Nat) r1 m1, a.toNat ≤ i → i ≤ tx.length → BitA l tx s k i true r1 m1 → r1 = none) ∨
    ∃ z j, r = some z ∧ a.toNat ≤ j ∧ j ≤ tx.length ∧ (∀ (i : Nat) r1 m1, a.toNat ≤ i → i < j → BitA l tx s k i true r1 m1 → r1 = none) ∧ (∀ r1 m1, BitA l tx s k (j : Int) true r1 m1 → r1 = some z) ∧ ∃ m2, Df (act l tx) [] s.toNat j (List.replicate k.toNat (-1)) m2 (some z) := by
  obtain ⟨h1, h2, h3, h4⟩ := errR_ok he
  have hmo := may_ok h2
  obtain ⟨S, rfl⟩ := Int.eq_ofNat_of_zero_le hmo.2.1
  obtain ⟨K, rfl⟩ := Int.eq_ofNat_of_zero_le (show 0 ≤ k by omega)
  have hP := pr_ok (tx := tx) h2
  have hl : ∀ i x, (prOf l tx S K).A tx.length i ≠ .rune x := fun i x => act_end l tx i x
  have hone : ∀ (i : Nat) r1 m1, i ≤ tx.length → BitA l tx (S : Int) (K : Int) (i : Int) true r1 m1 → Df (act l tx) [] S i (List.replicate K (-1)) m1 r1 := fun i r1 m1 hi h => by
    unfold BitA at h
    rw [show tx.length + 1 - ((i : Int)).toNat = (tx.length - i) + 1 by omega, Int.toNat_natCast, bgs_oneG] at h
    exact da_single h
  rcases first_plain hP hl (by omega) hf with ⟨e, h⟩ | ⟨z, j, m2, e1, e2, e3, e4, e5⟩
  · refine .inl ⟨e, fun i r1 m1 g1 g2 g3 => ?_⟩
    obtain ⟨m2, hd⟩ := h i g1 g2
    exact (df_det (hone i r1 m1 g2 g3) hd).2
  · refine .inr ⟨z, j, e1, e2, e3, fun i r1 m1 g1 g2 g3 => ?_, fun r1 m1 g => ?_, m2, e5⟩
    · obtain ⟨m3, hd⟩ := e4 i g1 g2
      exact (df_det (hone i r1 m1 (by omega) g3) hd).2
    · exact (df_det (hone j r1 m1 e3 g) e5).2
/-- how many captures what is found has -/
theorem bit_caps {l : List In} {tx : List Int} {s k a : Int} {anch : Bool} {r : Fd} {m' : List Pt} (he : errR l s k tx.length a = 0) (hf : BitA l tx s k a anch r m') : ∀ y, r = some y → y.2.length = k.toNat := by
  obtain ⟨h1, h2, h3, h4⟩ := errR_ok he
  have hmo := may_ok h2
  obtain ⟨S, rfl⟩ := Int.eq_ofNat_of_zero_le hmo.2.1
  obtain ⟨K, rfl⟩ := Int.eq_ofNat_of_zero_le (show 0 ≤ k by omega)
  have hP := pr_ok (tx := tx) h2
  have hl : ∀ i x, (prOf l tx S K).A tx.length i ≠ .rune x := fun i x => act_end l tx i x
  have hT : ∀ t ∈ bgs (prOf l tx S K) a.toNat anch none (tx.length + 1 - a.toNat) a.toNat, t.1 < (prOf l tx S K).n ∧ a.toNat ≤ t.2.1 ∧ t.2.1 ≤ tx.length ∧ t.2.2.length = (prOf l tx S K).K := fun t ht => by
    obtain ⟨g1, g2, g3, g4⟩ := bgs_from _ _ _ _ _ _ t ht
    exact ⟨by rw [g1]; exact hP.S, g2, by omega, by rw [g4]; simp⟩
  exact (da_ok hP hl hf hT (OkP.nil _ _ _)).2.2.2
end Go.Proofs.YtpckbpimgoljoaaGreat
