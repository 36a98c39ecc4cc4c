/- HELPERS: to go through what stands below a form. -/
import Derived.Test.YtdidopgenhpakaaGb
namespace Go.Proofs.Ytdidopgenhpakaa
open Go.RowKit
set_option linter.unusedVariables false
set_option linter.unusedSimpArgs false
abbrev dv (b : Nat) : Value := .func (.func 49) #[] #[pt b]
/-- a form's walk puts its trees behind the others -/
def EQ (x : Nat) (l : List Tn) (ev : Value) (w0 : World) : Prop := ∀ W b uv us, x ≤ W.heap.size → (∀ c, c < x → W.heap[c]? = w0.heap[c]?) → ROv x W b uv us → us.length + l.length < 200000 →
  ∃ n ca, ev = .func (.func n) #[] ca ∧ (∀ args w, (callFunc n args).run Try.prog w = .ok (.enter n args) w) ∧ Calls Try.prog n (#[dv b] ++ ca) W (EPost x b W uv (us ++ l))
theorem leaf68 (v : Value) (w : World) : Calls Try.prog 68 #[v] w fun e w' => e = .returned (.tuple #[]) ∧ w' = w := by
  go_enter Try.func68, Try.ntmps68
  go_wp2
  all_goals go_end0
  all_goals exact ⟨rfl, rfl⟩
/-- building works for all trees below a size -/
def BPs (N : Nat) : Prop := ∀ (s : Tn) (W : World) (g : Nat) (A : Nat → Prop), s.nodes < N → FA W A g s → (∀ c, A c → c < W.heap.size) → BP s g W
theorem bp_below {N : Nat} (HP : BPs N) {s : Tn} {w : World} {g : Nat} {A : Nat → Prop} (hs : s.nodes < N) (hg : FA w A g s) (hA : ∀ c, A c → c < w.heap.size) : ∀ W', Below w.heap.size w W' → BP s g W' := fun W' hb =>
  HP s W' g A hs (hg.up hA hb (fun _ h => h)) (fun c hc => by have := hA c hc; have := hb.size; omega)
set_option maxRecDepth 100000 in
set_option maxHeartbeats 4000000 in
theorem over67 {x b bx g : Nat} {w : World} {uv : Value} {us : List Tn} {s : Tn} (hR : ROv x w b uv us) (hx : x ≤ w.heap.size) (hb : Bx w bx 55 (pt g)) (HP : ∀ W', Below w.heap.size w W' → BP s g W') (hn : us.length < 200000) :
    Calls Try.prog 67 #[dv b, pt bx] w (EPost x b w uv (us ++ [s])) := by
  have HC := do49 hR hx g s HP hn
  have c0 := bx0 hb
  clear hR HP hn hb
  go_enter Try.func67, Try.ntmps67
  go_wp2_with (first | (go_at_call 49; (with_reducible refine HC.mono ?_); rintro e w2 ⟨rfl, hr2⟩; have HR2 := hid hr2; clear hr2 HC))
  all_goals go_end0
  all_goals exact ⟨rfl, HR2.out⟩
set_option maxRecDepth 100000 in
set_option maxHeartbeats 4000000 in
theorem within64 {x b f : Nat} {k : Int} {w : World} {uv : Value} {us : List Tn} {t : Tn} {N0 : Nv} {ev : Value} (hR : ROv x w b uv us) (hx : x ≤ w.heap.size) (hc : FC w f N0 ev t) (hk : N0.k = t.kind) (HE : t.kind = k → EQ x t.subs ev w) (HP : t.kind ≠ k → ∀ W', Below w.heap.size w W' → BP t f W') (hn : us.length + (within k t).length < 200000) :
    Calls Try.prog 64 #[pt f, .int .i64 k, dv b] w (EPost x b w uv (us ++ within k t)) := by
  obtain ⟨c0, c9, c10, c11⟩ := hc.num
  rw [hk] at c0
  by_cases h : t.kind = k
  · have hw : within k t = t.subs := by unfold within; rw [if_pos h]
    rw [hw] at hn ⊢
    obtain ⟨n, ca, rfl, hen, HC⟩ := HE h w b uv us hx (fun _ _ => rfl) hR hn
    have bk : (t.kind == k) = true := by simpa using h
    obtain ⟨kd, hkd⟩ : ∃ kd, kd = t.kind := ⟨_, rfl⟩
    rw [← hkd] at c0 bk
    clear HE HP hR hn hc hk h hw hkd c10 c11
    go_enter Try.func64, Try.ntmps64
    go_wp2_with (first | (with_reducible refine HC.mono ?_; rintro e w2 ⟨rfl, hr2⟩; have HR2 := hid hr2; clear hr2 HC))
    all_goals first | go_end0 | (refine bodyPost_ret (v := .tuple #[]) rfl rfl ?_)
    all_goals exact ⟨rfl, HR2.out⟩
  · have hw : within k t = [t] := by unfold within; rw [if_neg h]
    rw [hw] at hn ⊢
    have HC := do49 hR hx f t (HP h) (by simp at hn; omega)
    have bk : (t.kind == k) = false := by simpa using h
    obtain ⟨kd, hkd⟩ : ∃ kd, kd = t.kind := ⟨_, rfl⟩
    rw [← hkd] at c0 bk
    clear HE HP hR hn hc hk h hw hkd c10 c11 c9
    go_enter Try.func64, Try.ntmps64
    go_wp2_with (first | (go_at_call 49; (with_reducible refine HC.mono ?_); rintro e w2 ⟨rfl, hr2⟩; have HR2 := hid hr2; clear hr2 HC))
    all_goals first | go_end0 | (refine bodyPost_ret (v := .tuple #[]) rfl rfl ?_)
    all_goals exact ⟨rfl, HR2.out⟩
end Go.Proofs.Ytdidopgenhpakaa
