/- HELPERS: texts of ours put together. -/
import Derived.Test.YtjdbnoccdefnaaaGreatK12
import Derived.Test.YtjdbnoccdefnaaaGreatK14
namespace Go.Proofs.YtjdbnoccdefnaaaGreat
open Go Go.RowKit
set_option linter.unusedVariables false
section
variable {P:Program} {ops:Array Oper} {Q:Exit → Act → World → Prop} {md:Region.Mode} {S:World → Prop} {L:Nat}
def lexK (md:Region.Mode) (ops:Array Oper) (L:Nat):List Nat → Array Bool → Bool
  | [],_ => true
  | k :: ks,listed => (Region.ready md ops listed).contains k && Region.free md ops listed k && Region.waitsFor md ops L k && lexK md ops L ks (listed.setIfInBounds k true)
def marksK:List Nat → Array Bool → Array Bool
  | [],listed => listed
  | k :: ks,listed => marksK ks (listed.setIfInBounds k true)
def seqK (md:Region.Mode) (ops:Array Oper):List Nat → Array Bool → Bool
  | [],listed => (Region.ready md ops listed).isEmpty
  | k :: ks,listed => decide (Region.ready md ops listed = [k]) && seqK md ops ks (listed.setIfInBounds k true)
def opsAt (ops:Array Oper):List Nat → List Oper
  | [] => []
  | k :: ks => match ops[k]? with | some o => o :: opsAt ops ks | none => opsAt ops ks
def opsNo (ops:Array Oper):List Nat → List (Nat × Oper)
  | [] => []
  | k :: ks => match ops[k]? with | some o => (k,o) :: opsNo ops ks | none => opsNo ops ks
theorem wpAnyX_lexK {g:Nat} {w:World} (hsel:Region.noSelect ops = true) (hS:S w) :
    ∀ (ks:List Nat) (listed:Array Bool) (a:Act),lexK md ops L ks listed = true →
    wpLex P ops Q S (fun a' => wpAnyX P md ops Q S L g (marksK ks listed) a' w) (opsAt ops ks) a → wpAnyX P md ops Q S L (ks.length + g) listed a w
  | [],listed,a,_,h => by simpa [marksK,opsAt,wpLex] using h
  | k :: ks,listed,a,hB,h => by
    simp only [lexK,Bool.and_eq_true] at hB
    obtain ⟨⟨⟨hr,hf⟩,hL⟩,hB'⟩:=hB
    have hr':k ∈ Region.ready md ops listed:=by simpa using hr
    obtain ⟨_,o,h0,_⟩:=mem_ready.1 hr'
    simp only [opsAt,h0] at h
    obtain ⟨v,hy,hQ,hK⟩:=h
    rw [show (k :: ks).length + g = (ks.length + g) + 1 by simp only [List.length_cons];omega]
    exact wpAnyX_first h0 (Region.noSelect_spec hsel) hQ hL (ks.length + g) listed a w (Region.free_spec h0 hf) hr' hy hS
      (wpAnyX_lexK hsel hS ks _ _ hB' hK)
def wpTailK (P:Program) (ops:Array Oper) (Q:Exit → Act → World → Prop) (S:World → Prop) (L:Nat):List (Nat × Oper) → Act → World → Prop
  | [],a,w => Q .normal a w
  | (k,o) :: l,a,w => ∀ K:Act → World → Prop,Hid (∀ a' w',(k ≠ L → S w') → wpTailK P ops Q S L l a' w' → K a' w') → if Region.wanted o (yielded ops a.tmps) = true then Oper.wp P o a w K Q else K (a.put o.dst undef) w
theorem tailK_cons {o:Oper} {l:List (Nat × Oper)} {k:Nat} {a:Act} {w:World} (h:∀ K:Act → World → Prop,Hid (∀ a' w',(k ≠ L → S w') → wpTailK P ops Q S L l a' w' → K a' w') → if Region.wanted o (yielded ops a.tmps) = true then Oper.wp P o a w K Q else K (a.put o.dst undef) w):wpTailK P ops Q S L ((k,o) :: l) a w:=h
theorem tailK_nil {a:Act} {w:World} (h:Q .normal a w):wpTailK P ops Q S L [] a w:=h
theorem wpAnyX_of_tailK:∀ (js:List Nat) (listed:Array Bool) (a:Act) (w:World),
    seqK md ops js listed = true → wpTailK P ops Q S L (opsNo ops js) a w → wpAnyX P md ops Q S L js.length listed a w
  | [],_,_,_,hB,h => ⟨by simpa [seqK] using hB,h⟩
  | k :: js,listed,a,w,hB,h => by
    simp only [seqK,Bool.and_eq_true,decide_eq_true_eq] at hB
    have hr:k ∈ Region.ready md ops listed:=by rw [hB.1];simp
    obtain ⟨_,o,h0,_⟩:=mem_ready.1 hr
    simp only [opsNo,h0] at h
    refine ⟨fun h1 => absurd (hB.1.symm.trans h1) (by simp),fun j hj => ?_⟩
    rw [hB.1] at hj
    have:j = k:=by simpa using hj
    subst this
    have h1:=h (fun a' w' => (j ≠ L → S w') ∧ wpAnyX P md ops Q S L js.length (listed.setIfInBounds j true) a' w') ((fun a' w' h1 h2 => ⟨h1,wpAnyX_of_tailK js _ a' w' hB.2 h2⟩))
    unfold wpOp
    simp only [h0]
    split
    · rename_i hw;rw [if_pos hw] at h1;exact .inl h1
    · rename_i hw;rw [if_neg hw] at h1;exact h1
theorem wp_region_lexK {id:Nat} {a:Act} {w:World} (ks js:List Nat) (L:Nat) (S:World → Prop) (hm:P.follows .mixedOrders = true) (hsel:Region.noSelect ops = true) (hn:ks.length + js.length = ops.size) (hB:lexK .any ops L ks (Array.replicate ops.size false) = true)
    (hT:seqK .any ops js (marksK ks (Array.replicate ops.size false)) = true) (hS:S w.drew)
    (h:wpLex P ops Q S (fun a' => wpTailK P ops Q S L (opsNo ops js) a' w.drew) (opsAt ops ks) a):(Code.region id ops true).wp P Q a w:=by
  have hlex:∀ (l':List Oper) (a:Act),wpLex P ops Q S (fun a' => wpTailK P ops Q S L (opsNo ops js) a' w.drew) l' a → wpLex P ops Q S (fun a' => wpAnyX P .any ops Q S L js.length (marksK ks (Array.replicate ops.size false)) a' w.drew) l' a:=by
    intro l'
    induction l' with
    | nil => intro a h;exact wpAnyX_of_tailK (md:=.any) js _ a w.drew hT h
    | cons o l' ih => rintro a ⟨v,h1,h2,h3⟩;exact ⟨v,h1,h2,ih _ h3⟩
  have H:=wpAnyX_lexK (md:=.any) (L:=L) (Q:=Q) (g:=js.length) (P:=P) (w:=w.drew) hsel hS ks (Array.replicate ops.size false) a hB (hlex _ _ h)
  rw [hn] at H
  exact wp_region_any hm (by simpa using wpAny_of_X _ _ _ _ H)
end
section
variable {P:Program} {ops:Array Oper} {Q:Exit → Act → World → Prop} {md:Region.Mode} {S:World → Prop} {L:Nat}
theorem wpAnyX_far {i:Nat} {oi:Oper} {v:Value} (hi:ops[i]? = some oi) (hsel:∀ (j:Nat) (o:Oper) cs b,ops[j]? = some o → o.op ≠ .select cs b)
    (hQ:∀ c a w,Q (.panic c) (a.put oi.dst v) w → Q (.panic c) a w) (hL:ops.size ≤ L) :
    ∀ (fuel:Nat) (listed:Array Bool) (a:Act) (w:World),
      (∀ j oj,ops[j]? = some oj → j ≠ i → listed.getD j true = false → (∀ e ∈ oj.after,Region.binds md e = true → e.on ≠ i) → oi.apart ops oj = true) →
      i ∈ Region.ready md ops listed → YieldsIf P ops S oi v a → S w →
      wpAnyX P md ops Q S L fuel (listed.setIfInBounds i true) (a.put oi.dst v) w → wpAnyX P md ops Q S L (fuel + 1) listed a w:=by
  intro fuel
  induction fuel with
  | zero =>
    intro listed a w _ hr hy hS H
    refine ⟨fun h => (by rw [h] at hr;cases hr),fun j hj => ?_⟩
    by_cases hji:j = i
    · subst hji;exact hy.wpOp hi hS ⟨fun _ => hS,H⟩
    · have:=ready_mono hj hji
      rw [H.1] at this
      cases this
  | succ fuel ih =>
    intro listed a w hfree hr hy hS H
    refine ⟨fun h => (by rw [h] at hr;cases hr),fun j hj => ?_⟩
    by_cases hji:j = i
    · subst hji;exact hy.wpOp hi hS ⟨fun _ => hS,H⟩
    · have h1:=H.2 j (ready_mono hj hji)
      obtain ⟨hjun,oj,hoj,hall⟩:=mem_ready.1 hj
      have hnot:∀ e ∈ oj.after,Region.binds md e = true → e.on ≠ i:=fun e he hb heq => by
        have h1:=hall e he hb
        have h0:=(mem_ready.1 hr).1
        rw [heq] at h1
        rcases Nat.lt_or_ge i listed.size with h' | h'
        · simp [h'] at h0 h1;rw [h0] at h1;cases h1
        · simp [Array.getElem?_eq_none h'] at h1
      have hjL:j ≠ L:=fun e => by
        have:=(Array.getElem?_eq_some_iff.1 hoj).1
        omega
      have h2:=wpOp_putIf hoj (hfree j oj hoj hji hjun hnot) (fun cs b => hsel i oi cs b hi) (fun cs b => hsel j oj cs b hoj) hQ hy h1
      have hfree':∀ k ok,ops[k]? = some ok → k ≠ i → (listed.setIfInBounds j true).getD k true = false →
          (∀ e ∈ ok.after,Region.binds md e = true → e.on ≠ i) → oi.apart ops ok = true:=fun k ok hk hki hun hno => by
        refine hfree k ok hk hki ?_ hno
        by_cases hjk:j = k
        · subst hjk;exact hjun
        · rw [getD_set_ne true hjk] at hun;exact hun
      refine wpOp_mono (fun a' w' h3 => ⟨fun _ => h3.2.1 hjL,ih (listed.setIfInBounds j true) a' w' hfree' (ready_mono hr (Ne.symm hji)) h3.1 (h3.2.1 hjL) ?_⟩) h2
      rw [Array.setIfInBounds_comm _ _ hji]
      exact h3.2.2
def lexF (md:Region.Mode) (ops:Array Oper):List Nat → Array Bool → Bool
  | [],_ => true
  | k :: ks,listed => (Region.ready md ops listed).contains k && Region.free md ops listed k && lexF md ops ks (listed.setIfInBounds k true)
theorem wpAnyX_lexF {g:Nat} {w:World} (hsel:Region.noSelect ops = true) (hS:S w) (hL:ops.size ≤ L) :
    ∀ (ks:List Nat) (listed:Array Bool) (a:Act),lexF md ops ks listed = true →
    wpLex P ops Q S (fun a' => wpAnyX P md ops Q S L g (marksK ks listed) a' w) (opsAt ops ks) a → wpAnyX P md ops Q S L (ks.length + g) listed a w
  | [],listed,a,_,h => by simpa [marksK,opsAt,wpLex] using h
  | k :: ks,listed,a,hB,h => by
    simp only [lexF,Bool.and_eq_true] at hB
    obtain ⟨⟨hr,hf⟩,hB'⟩:=hB
    have hr':k ∈ Region.ready md ops listed:=by simpa using hr
    obtain ⟨_,o,h0,_⟩:=mem_ready.1 hr'
    simp only [opsAt,h0] at h
    obtain ⟨v,hy,hQ,hK⟩:=h
    rw [show (k :: ks).length + g = (ks.length + g) + 1 by simp only [List.length_cons];omega]
    exact wpAnyX_far h0 (Region.noSelect_spec hsel) hQ hL (ks.length + g) listed a w (Region.free_spec h0 hf) hr' hy hS
      (wpAnyX_lexF hsel hS hL ks _ _ hB' hK)
theorem wp_region_lexF {id:Nat} {a:Act} {w:World} (ks js:List Nat) (S:World → Prop) (hm:P.follows .mixedOrders = true) (hsel:Region.noSelect ops = true) (hn:ks.length + js.length = ops.size) (hB:lexF .any ops ks (Array.replicate ops.size false) = true)
    (hT:seqK .any ops js (marksK ks (Array.replicate ops.size false)) = true) (hS:S w.drew)
    (h:wpLex P ops Q S (fun a' => wpTailK P ops Q S ops.size (opsNo ops js) a' w.drew) (opsAt ops ks) a):(Code.region id ops true).wp P Q a w:=by
  have hlex:∀ (l':List Oper) (a:Act),wpLex P ops Q S (fun a' => wpTailK P ops Q S ops.size (opsNo ops js) a' w.drew) l' a → wpLex P ops Q S (fun a' => wpAnyX P .any ops Q S ops.size js.length (marksK ks (Array.replicate ops.size false)) a' w.drew) l' a:=by
    intro l'
    induction l' with
    | nil => intro a h;exact wpAnyX_of_tailK (md:=.any) js _ a w.drew hT h
    | cons o l' ih => rintro a ⟨v,h1,h2,h3⟩;exact ⟨v,h1,h2,ih _ h3⟩
  have H:=wpAnyX_lexF (md:=.any) (L:=ops.size) (Q:=Q) (g:=js.length) (P:=P) (w:=w.drew) hsel hS (Nat.le_refl _) ks (Array.replicate ops.size false) a hB (hlex _ _ h)
  rw [hn] at H
  exact wp_region_any hm (by simpa using wpAny_of_X _ _ _ _ H)
end
section
variable {P:Program} {ops:Array Oper} {Q:Exit → Act → World → Prop} {md:Region.Mode} {S:World → Prop} {L:Nat}
def stepX (P:Program) (md:Region.Mode) (ops:Array Oper) (Q:Exit → Act → World → Prop) (S:World → Prop) (L f:Nat) (listed:Array Bool) (i:Nat) (o:Oper) (a:Act) (w:World):Prop:=
  ∀ K:Act → World → Prop,Hid (∀ a' w',(i ≠ L → S w') → wpAnyX P md ops Q S L f (listed.setIfInBounds i true) a' w' → K a' w') → if Region.wanted o (yielded ops a.tmps) = true then Oper.wp P o a w K Q else K (a.put o.dst undef) w
theorem stepX_op {f i:Nat} {o:Oper} {listed:Array Bool} {a:Act} {w:World} (h0:ops[i]? = some o) (h:stepX P md ops Q S L f listed i o a w) :
    wpOp P ops Q i (fun a' w' => (i ≠ L → S w') ∧ wpAnyX P md ops Q S L f (listed.setIfInBounds i true) a' w') a w:=by
  have h1:=h (fun a' w' => (i ≠ L → S w') ∧ wpAnyX P md ops Q S L f (listed.setIfInBounds i true) a' w') (fun a' w' h1 h2 => ⟨h1,h2⟩)
  unfold wpOp
  simp only [h0]
  split
  · rename_i hw;rw [if_pos hw] at h1;exact .inl h1
  · rename_i hw;rw [if_neg hw] at h1;exact h1
theorem wpAnyX_alt {f i j:Nat} {o o':Oper} {listed:Array Bool} {a:Act} {w:World} (hr:Region.ready md ops listed = [i,j]) (hi:ops[i]? = some o) (hj:ops[j]? = some o')
    (h1:stepX P md ops Q S L f listed i o a w) (h2:stepX P md ops Q S L f listed j o' a w):wpAnyX P md ops Q S L (f + 1) listed a w:=by
  refine ⟨fun h => absurd (hr.symm.trans h) (by simp),fun k hk => ?_⟩
  rw [hr] at hk
  rcases List.mem_cons.1 hk with rfl | hk
  · exact stepX_op hi h1
  · obtain rfl:k = j:=by simpa using hk
    exact stepX_op hj h2
theorem wp_region_lexT {id:Nat} {a:Act} {w:World} (ks:List Nat) (g L:Nat) (S:World → Prop) (hm:P.follows .mixedOrders = true) (hsel:Region.noSelect ops = true) (hn:ks.length + g = ops.size) (hB:lexK .any ops L ks (Array.replicate ops.size false) = true)
    (hS:S w.drew)
    (h:wpLex P ops Q S (fun a' => wpAnyX P .any ops Q S L g (marksK ks (Array.replicate ops.size false)) a' w.drew) (opsAt ops ks) a):(Code.region id ops true).wp P Q a w:=by
  have H:=wpAnyX_lexK (md:=.any) (L:=L) (Q:=Q) (g:=g) (P:=P) (w:=w.drew) hsel hS ks (Array.replicate ops.size false) a hB h
  rw [hn] at H
  exact wp_region_any hm (by simpa using wpAny_of_X _ _ _ _ H)
end
end Go.Proofs.YtjdbnoccdefnaaaGreat
namespace Go.Proofs.YtjdbnoccdefnaaaGreat
open Go.RowKit
set_option linter.unusedVariables false
set_option linter.unusedSimpArgs false
set_option maxHeartbeats 2000000 in
theorem add10_no (N g:Nat) (F:List Nat) (n:Nat) (l:List Int) (i:Int) (w:World) (hS:Hid (SetS N w g F n l)) (hi:¬ (0 ≤ i ∧ i < n ∧ i ∉ l)) :
    Calls Tryz.prog 54 #[.pointer (some ⟨g,0,none⟩),.int .i64 i] w fun e w' => e = .returned (.bool false) ∧ SetS N w' g F n l ∧ Chg w w' F F:=by
  by_cases hr:0 ≤ i ∧ i < n
  · obtain ⟨h0,h1⟩:=hr
    have hf:=isFor41 N g F n l i w hS
    rw [show decide (0 ≤ i ∧ i < n) = true by simp;omega] at hf
    have hh:=has12_in N g F n l i.toNat w hS (by omega)
    rw [show ((i.toNat:Nat):Int) = i by omega,show decide (i ∈ l) = true by simp;exact Classical.byContradiction fun h => hi ⟨h0,h1,h⟩] at hh
    clear hi h0 h1
    go_enter Tryz.func54,Tryz.ntmps54
    go_wp2_with (first | (go_at_call 66;refine hf.mono ?_;rintro e w' ⟨rfl,rfl⟩) | (go_at_call 48;refine hh.mono ?_;rintro e w' ⟨rfl,k,rfl⟩))
    go_ret
    exact ⟨rfl,hS,(Chg.refl _ _).drewN _⟩
  · have hf:=isFor41 N g F n l i w hS
    rw [show decide (0 ≤ i ∧ i < n) = false by simpa using hr] at hf
    clear hi hr
    go_enter Tryz.func54,Tryz.ntmps54
    go_wp2_with (go_at_call 66;refine hf.mono ?_;rintro e w' ⟨rfl,rfl⟩)
    go_ret
    exact ⟨rfl,hS,Chg.refl _ _⟩
theorem enter_of {P : Program} {f : FuncId} {fn : Func} {c : Code} (hf : P.funcs[f]? = some fn) (hname : (fn.name == "runtime.NumGoroutine") = false) (hb : fn.body = some c) : ∀ (args : Array Value) (w : World), (callFunc f args).run P w = .ok (.enter f args) w := by
  intro args w
  have h1 : fn.name ≠ "runtime.NumGoroutine" := by simpa using hname
  simp [callFunc,hf,h1,hb]
abbrev Enters (f:Nat):Prop:=∀ (args:Array Value) (w:World),(callFunc f args).run Tryz.prog w = .ok (.enter f args) w
theorem step_callG2 {P:Program} {ops:Array Oper} {o:Oper} {a:Act} {w:World} {K:Act → World → Prop} {Q:Exit → Act → World → Prop} {E:Prop} (hw:Region.wanted o (yielded ops a.tmps) = true) (f:FuncId) (x y:Operand) (t u:TypeId)
    (hop:o.op = Op.call { callee:=Callee.value (.func f),args:=#[x,y],argTypes:=#[t,u] }) (hen:∀ args w,(callFunc f args).run P w = .ok (.enter f args) w)
    (hc:Calls P f #[a.eval x,a.eval y] w fun e w' => (∃ v,e = .returned v ∧ K (a.put o.dst v) w') ∨ (∃ ch,e = .panicked ch ∧ Q (.panic ch) a w')) :
    if Region.wanted o (yielded ops a.tmps) = true then Oper.wp P o a w K Q else E:=by
  rw [if_pos hw]
  have h2:=hen #[a.eval x,a.eval y] w
  unfold Oper.wp
  have ev:a.eval (.func f) = .func (.func f) #[] #[]:=rfl
  simp [execOp,hop,resolve,invoke,ev,Deferred.ofValue,h2,Result.andThen]
  show Calls P f #[a.eval x,a.eval y] w _
  refine hc.mono fun e w' h => ?_
  rcases h with ⟨v,rfl,hk⟩ | ⟨ch,rfl,hq⟩
  · exact hk
  · exact hq
end Go.Proofs.YtjdbnoccdefnaaaGreat
