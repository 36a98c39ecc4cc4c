/- HELPERS: to go a way in memory is to go it. -/
import Derived.Test.YtnpocciioedgpaaWr
import Derived.Test.YtnpocciioedgpaaWt
namespace Go.Proofs.Ytnpocciioedgpaa
open Go.RowKit
set_option linter.unusedVariables false
set_option linter.unusedSimpArgs false
/-- the loops' boxes: each holds its way -/
def Env (g K : Nat) (L : List Nat) (w : World) (E : Nat → Way) (FE : List Nat) : Prop := ∀ b ∈ L, b ∈ FE ∧ ∃ v F, Bx w b 84 v ∧ Rep g K L w v (E b) F ∧ ∀ k ∈ F, k ∈ FE
theorem Env.kept {g K : Nat} {L : List Nat} {w w' : World} {E : Nat → Way} {FE : List Nat} (h : Env g K L w E FE) (hk : ∀ k ∈ FE, k < w.heap.size → w'.heap[k]? = w.heap[k]?) : Env g K L w' E FE := by
  intro b hb
  obtain ⟨h1, v, F, h2, h3, h4⟩ := h b hb
  exact ⟨h1, v, F, (hk b h1 (bx_lt h2)).trans h2, h3.kept fun k hkk => hk k (h4 k hkk) (h3.low k hkk), h4⟩
/-- away: blocks that are none of B -/
def Away (F B : List Nat) : Prop := ∀ k ∈ F, k ∉ B
theorem Away.next {w w' : World} {F B B' : List Nat} (h : Away F B) (hc : Chg w w' B B') (hl : ∀ k ∈ F, k < w.heap.size) : Away F B' := hc.away hl h
mutual
/-- small classes -/
def Way.few : Way → Prop
  | .through => True
  | .once _ d => d.few
  | .noted _ d => d.few
  | .runeOf L d => L.length ≤ 1000000 ∧ d.few
  | .inOrder l => Ways.few l
  | .again _ => True
def Ways.few : List Way → Prop
  | [] => True
  | d :: l => d.few ∧ Ways.few l
end
theorem Ways.few_get : ∀ {l : List Way}, Ways.few l → ∀ (i : Nat) (hi : i < l.length), (l[i]'hi).few := by
  intro l
  induction l with
  | nil => intro _ i hi; simp at hi
  | cons d l ih =>
    intro h i hi
    simp only [Ways.few] at h
    cases i with
    | zero => exact h.1
    | succ i => exact ih h.2 i (by simpa using hi)
theorem enter_of {P : Program} {f : FuncId} {fn : Func} {c : Code} (hf : P.funcs[f]? = some fn) (hname : (fn.name == "runtime.NumGoroutine") = false) (hb : fn.body = some c) : ∀ (args : Array Value) (w : World), (callFunc f args).run P w = .ok (.enter f args) w := by
  intro args w
  have h1 : fn.name ≠ "runtime.NumGoroutine" := by simpa using hname
  simp [callFunc, hf, h1, hb]
theorem en55 : ∀ (args : Array Value) (w : World), (callFunc 55 args).run Try.prog w = .ok (.enter 55 args) w := enter_of Try.func55 (by kernel_rfl) rfl
theorem en70 : ∀ (args : Array Value) (w : World), (callFunc 70 args).run Try.prog w = .ok (.enter 70 args) w := enter_of Try.func70 (by kernel_rfl) rfl
theorem en95 : ∀ (args : Array Value) (w : World), (callFunc 95 args).run Try.prog w = .ok (.enter 95 args) w := enter_of Try.func95 (by kernel_rfl) rfl
theorem en89 : ∀ (args : Array Value) (w : World), (callFunc 89 args).run Try.prog w = .ok (.enter 89 args) w := enter_of Try.func89 (by kernel_rfl) rfl
theorem en109 : ∀ (args : Array Value) (w : World), (callFunc 109 args).run Try.prog w = .ok (.enter 109 args) w := enter_of Try.func109 (by kernel_rfl) rfl
theorem en110 : ∀ (args : Array Value) (w : World), (callFunc 110 args).run Try.prog w = .ok (.enter 110 args) w := enter_of Try.func110 (by kernel_rfl) rfl
theorem Ex.more {tx : List Int} {E : Nat → Way} {W : Way} {p : Nat} {s s' : Sg} (h : Ex tx E W p s s') : s.parses.length ≤ s'.parses.length := by
  induction h with
  | through p s => simp
  | skip h => exact Nat.le_refl _
  | once h hd ih => exact ih
  | noted hd ih => exact ih
  | over h => exact Nat.le_refl _
  | other h hr => exact Nat.le_refl _
  | rune h hr hd ih => exact ih
  | @inOrder l p ss h ih =>
    have : ∀ i, i ≤ l.length → (ss 0).parses.length ≤ (ss i).parses.length := by
      intro i
      induction i with
      | zero => intro _; exact Nat.le_refl _
      | succ i ihi => intro hi; exact Nat.le_trans (ihi (by omega)) (ih i (by omega))
    exact this _ (Nat.le_refl _)
  | again h ih => exact ih
theorem Ex.more_at {tx : List Int} {E : Nat → Way} {l : List Way} {p : Nat} {ss : Nat → Sg} (h : ∀ i (hi : i < l.length), Ex tx E (l[i]'hi) p (ss i) (ss (i + 1))) : ∀ d i, i + d = l.length → (ss i).parses.length ≤ (ss l.length).parses.length := by
  intro d
  induction d with
  | zero => intro i hi; rw [show i = l.length by omega]; exact Nat.le_refl _
  | succ d ih => intro i hi; exact Nat.le_trans (h i (by omega)).more (ih (i + 1) (by omega))
theorem WS.below {N : Nat} {w w' : World} {g : Nat} {C : Cx} {s : Sg} {B : List Nat} (h : WS N w g C s B) (hb : Below w.heap.size w w') : WS N w' g C s B := by
  obtain ⟨pv, cs, F, h1, h2, h3, h4, rfl⟩ := h.ex
  obtain ⟨es, cl, hm, hm2⟩ := h.map
  exact ⟨⟨pv, cs, F, (hb.block g (Array.getElem?_eq_some_iff.1 h1).1).trans h1, row_kept h2 fun b hb2 => hb.block b (h2.lt b hb2).2, h3.kept fun k hk => hb.block k (h3.low k hk).2, h4, rfl⟩, ⟨es, cl, (hb.block _ (Array.getElem?_eq_some_iff.1 hm).1).trans hm, hm2⟩,
    row_kept h.notes fun b hb2 => hb.block b (h.notes.lt b hb2).2, h.len, h.two, h.few, h.low⟩
theorem exec {N g : Nat} {C : Cx} {L FE Ft : List Nat} {tx : List Int} {E : Nat → Way} (hE : ∀ b, (E b).few) (htx : tx.length ≤ 100000) {W : Way} {p : Nat} {s s' : Sg} (hx : Ex tx E W p s s') :
    ∀ (w : World) (v : Value) (F B : List Nat), W.few → p ≤ tx.length → s'.parses.length < 1000000 → N ≤ w.heap.size → WS N w g C s B → Rep g C.K L w v W F → Env g C.K L w E FE → TX w C.tv tx Ft → Away F B → Away FE B → Away Ft B → (∀ k ∈ FE, k < w.heap.size) → (∀ k ∈ Ft, k < w.heap.size) →
      CallsV v p w fun e w2 => e = .returned (.tuple #[]) ∧ ∃ B', WS N w2 g C s' B' ∧ Chg w w2 B B' := by
  induction hx with
  | through p s =>
    intro w v F B hf hp hl hN hW hR hEn hT aF aE aT lE lT
    cases hR with
    | through =>
      refine ⟨55, _, _, rfl, en55, ?_⟩
      exact through55 N g C s B w hW p hN (by simp at hl; omega)
  | @skip n d p s h =>
    intro w v F B hf hp hl hN hW hR hEn hT aF aE aT lE lT
    cases hR with
    | once h5 h2 h3 hn hd =>
      refine ⟨70, _, _, rfl, en70, ?_⟩
      refine Calls.mono (skip70 N g C s B w hW _ _ _ _ n p h5 h2 h3 hn (by omega) h) ?_
      rintro e w2 ⟨rfl, hb⟩
      exact ⟨rfl, B, hW.below hb, Chg.of_below hb⟩
  | @once n d p s s' h hd ih =>
    intro w v F B hf hp hl hN hW hR hEn hT aF aE aT lE lT
    cases hR with
    | @once b5 b2 b3 v1 _ F1 _ h5 h2 h3 hn hd1 =>
      refine ⟨70, _, _, rfl, en70, ?_⟩
      refine go70 N g C s B w hW b5 b2 b3 v1 n p h5 h2 h3 (aF _ (by simp)) (aF _ (by simp)) hn (by omega) h (fun w2 => ∃ B', WS N w2 g C s' B' ∧ Chg w w2 B B') ?_
      intro w' hW' hC'
      have := ih w' v1 F1 B hf hp hl (Nat.le_trans hN hC'.size) hW' (hd1.kept fun k hk => hC'.block k (hd1.low k hk) (aF k (by simp [hk]))) (hEn.kept fun k hk hk2 => hC'.block k hk2 (aE k hk)) (hT.kept (fun k hk hk2 => hC'.block k hk2 (aT k hk)) hC'.size)
        (fun k hk => aF k (by simp [hk])) aE aT (fun k hk => Nat.lt_of_lt_of_le (lE k hk) hC'.size) (fun k hk => Nat.lt_of_lt_of_le (lT k hk) hC'.size)
      obtain ⟨f, fi, ca, e1, e2, e3⟩ := this
      exact ⟨f, fi, ca, e1, e2, e3.mono fun e w2 h => ⟨h.1, by obtain ⟨B', q1, q2⟩ := h.2; exact ⟨B', q1, hC'.trans q2⟩⟩⟩
  | @noted c d p s s' hd ih =>
    intro w v F B hf hp hl hN hW hR hEn hT aF aE aT lE lT
    cases hR with
    | @noted b3 b4 b5 _ v1 _ F1 h3 h4 h5 hc hd1 =>
      refine ⟨95, _, _, rfl, en95, ?_⟩
      refine noted95 N g C s B w hW b3 b4 b5 c v1 p h3 h4 h5 (aF _ (by simp)) (aF _ (by simp)) (aF _ (by simp)) hc s' ?_
      intro w' hW' hC'
      exact ih w' v1 F1 B hf hp hl (Nat.le_trans hN hC'.size) hW' (hd1.kept fun k hk => hC'.block k (hd1.low k hk) (aF k (by simp [hk]))) (hEn.kept fun k hk hk2 => hC'.block k hk2 (aE k hk)) (hT.kept (fun k hk hk2 => hC'.block k hk2 (aT k hk)) hC'.size)
        (fun k hk => aF k (by simp [hk])) aE aT (fun k hk => Nat.lt_of_lt_of_le (lE k hk) hC'.size) (fun k hk => Nat.lt_of_lt_of_le (lT k hk) hC'.size)
  | @over R d p s h =>
    intro w v F B hf hp hl hN hW hR hEn hT aF aE aT lE lT
    cases hR with
    | runeOf h3 h4 h5 hr hd1 =>
      refine ⟨89, _, _, rfl, en89, ?_⟩
      obtain ⟨pv, cs, F0, hg, _⟩ := hW.ex
      refine Calls.mono (over89 g _ _ _ _ _ _ _ w tx Ft hg hT _ _ _ p h3 h) ?_
      rintro e w2 ⟨rfl, hb⟩
      exact ⟨rfl, B, hW.below hb, Chg.of_below hb⟩
  | @other R d p s h hr2 =>
    intro w v F B hf hp hl hN hW hR hEn hT aF aE aT lE lT
    cases hR with
    | runeOf h3 h4 h5 hr hd1 =>
      refine ⟨89, _, _, rfl, en89, ?_⟩
      obtain ⟨pv, cs, F0, hg, _⟩ := hW.ex
      refine Calls.mono (other89 g _ _ _ _ _ _ _ _ _ w tx Ft R hg hT _ _ _ p h3 h4 hr hf.1 h hr2) ?_
      rintro e w2 ⟨rfl, hb⟩
      exact ⟨rfl, B, hW.below hb, Chg.of_below hb⟩
  | @rune R d p s s' h hr2 hd ih =>
    intro w v F B hf hp hl hN hW hR hEn hT aF aE aT lE lT
    cases hR with
    | @runeOf b3 b4 b5 N0 v1 rv _ F1 _ h3 h4 h5 hr hd1 =>
      refine ⟨89, _, _, rfl, en89, ?_⟩
      obtain ⟨pv, cs, F0, hg, _⟩ := hW.ex
      refine rune89 g N0 _ _ _ _ _ _ _ _ w tx Ft R hg hT b3 b4 b5 p h3 h4 hr hf.1 h hr2 v1 h5 (by omega) (fun w2 => ∃ B', WS N w2 g C s' B' ∧ Chg w w2 B B') ?_
      intro w' hb
      have := ih w' v1 F1 B hf.2 (by omega) hl (Nat.le_trans hN hb.size) (hW.below hb) (hd1.kept fun k hk => hb.block k (hd1.low k hk)) (hEn.kept fun k hk hk2 => hb.block k hk2) (hT.kept (fun k hk hk2 => hb.block k hk2) hb.size)
        (fun k hk => aF k (by simp [hk])) aE aT (fun k hk => Nat.lt_of_lt_of_le (lE k hk) hb.size) (fun k hk => Nat.lt_of_lt_of_le (lT k hk) hb.size)
      obtain ⟨f, fi, ca, e1, e2, e3⟩ := this
      exact ⟨f, fi, ca, e1, e2, e3.mono fun e w2 h => ⟨h.1, by obtain ⟨B', q1, q2⟩ := h.2; exact ⟨B', q1, (Chg.of_below hb).trans q2⟩⟩⟩
  | @inOrder l p ss h ih =>
    intro w v F B hf hp hl hN hW hR hEn hT aF aE aT lE lT
    cases hR with
    | @inOrder b1 N0 sv _ vs F1 h1 hs hl1 =>
      refine ⟨109, _, _, rfl, en109, ?_⟩
      refine inOrder109 N N0 g C ss B w hW b1 l.length sv vs p h1 hs (aF _ (by simp)) (fun k hk => aF k (by simp [hk])) hl1.len ?_
      intro i v1 w' B' hi hv1 hW' hC'
      obtain ⟨u, Fi, q1, q2, q3⟩ := hl1.get i hi
      rw [hv1] at q1
      cases q1
      have hlF : ∀ k ∈ Fi, k < w.heap.size := q2.low
      have aFi : Away Fi B := fun k hk => aF k (by simp [q3 k hk])
      exact ih i hi w' v1 Fi B' (Ways.few_get hf i hi) hp (Nat.lt_of_le_of_lt (Ex.more_at h (l.length - (i + 1)) (i + 1) (by omega)) hl) (Nat.le_trans hN hC'.size) hW'
        (q2.kept fun k hk => hC'.block k (hlF k hk) (aFi k hk)) (hEn.kept fun k hk hk2 => hC'.block k hk2 (aE k hk)) (hT.kept (fun k hk hk2 => hC'.block k hk2 (aT k hk)) hC'.size)
        (aFi.next hC' hlF) (aE.next hC' lE) (aT.next hC' lT) (fun k hk => Nat.lt_of_lt_of_le (lE k hk) hC'.size) (fun k hk => Nat.lt_of_lt_of_le (lT k hk) hC'.size)
  | @again b p s s' h ih =>
    intro w v F B hf hp hl hN hW hR hEn hT aF aE aT lE lT
    cases hR with
    | again hb =>
      refine ⟨110, _, _, rfl, en110, ?_⟩
      obtain ⟨h1, v1, F1, h2, h3, h4⟩ := hEn b hb
      exact again110 b v1 p w h2 _ (ih w v1 F1 B (hE b) hp hl hN hW h3 hEn hT (fun k hk => aE k (h4 k hk)) aE aT lE lT)
end Go.Proofs.Ytnpocciioedgpaa
