/- HELPERS: texts of ours put together. -/
import Derived.Test.YtjdbnoccdefnaaaGreatK06
import Derived.Test.YtjdbnoccdefnaaaGreatK03
import Derived.OrdersHeld
import Derived.StillTail
import Derived.Tactics
import Derived.RowKit
import Derived.Below
namespace Go.Proofs.YtjdbnoccdefnaaaGreat
open Go.RowKit
set_option linter.unusedVariables false
set_option linter.unusedSimpArgs false
def RP (w:World) (A:Nat → Prop) (ad:Option Addr) (R:List (Int × Int)):Prop:=
  R ≠ [] → ∃ b o,ad = some ⟨b,o,none⟩ ∧ A b ∧ ∀ i (hi:i < R.length),w.cell? ⟨b,o + i * 2,none⟩ = some (.int .i64 R[i].1) ∧ w.cell? ⟨b,o + i * 2 + 1,none⟩ = some (.int .i64 R[i].2)
inductive TP (w:World) (A:Nat → Prop):Nv → Tn → Prop
  | mk {N:Nv} {R:List (Int × Int)} {ts:List Tn} {ND:Nat → Nv} (ok:N.ok) (hr:N.r2 = R.length) (hR:RP w A N.r1 R) (hRk:∀ x ∈ R,I64ok x.1 ∧ I64ok x.2) (hs:N.s2 = ts.length)
      (hS:0 < ts.length → ∃ b o,N.s1 = some ⟨b,o,none⟩ ∧ A b ∧ ∀ i,i < ts.length → N9 w b o i (ND i)) (hk:∀ i (hi:i < ts.length),TP w A (ND i) ts[i]) :
      TP w A N (.mk N.k R N.a2 ts N.a4 N.a5 N.a6 N.a7 N.a8)
theorem RP.kept {w w':World} {A A':Nat → Prop} {ad:Option Addr} {R:List (Int × Int)} (h:RP w A ad R) (hk:∀ b,A b → w'.heap[b]? = w.heap[b]?) (hA:∀ b,A b → A' b):RP w' A' ad R:=fun hn => by
  obtain ⟨b,o,h1,h2,h3⟩:=h hn
  exact ⟨b,o,h1,hA b h2,fun i hi => ⟨(cell_eq (hk b h2) _).trans (h3 i hi).1,(cell_eq (hk b h2) _).trans (h3 i hi).2⟩⟩
theorem TP.kept {w w':World} {A A':Nat → Prop} {N:Nv} {t:Tn} (h:TP w A N t) (hk:∀ b,A b → w'.heap[b]? = w.heap[b]?) (hA:∀ b,A b → A' b):TP w' A' N t:=by
  induction h with
  | mk ok hr hR hRk hs hS hkk ih =>
    refine .mk ok hr (hR.kept hk hA) hRk hs (fun hp => ?_) ih
    obtain ⟨b,o,h1,h2,h3⟩:=hS hp
    exact ⟨b,o,h1,hA b h2,fun i hi => (h3 i hi).kept (hk b h2)⟩
theorem TI.tp {w:World} {B:Nat} {N:Nv} {t:Tn} (h:TI w B N t):TP w (fun b => b < B) N t:=by
  induction h with
  | mk ok hr hR hRk hs hS hkk ih => exact .mk ok hr hR hRk hs hS ih
theorem TP.ok {w:World} {A:Nat → Prop} {N:Nv} {t:Tn} (h:TP w A N t):N.ok:=by cases h;assumption
theorem flat9 (MS:List Nv):∀ (j k:Nat) (hj:j < MS.length),k < 9 → (MS.flatMap Nv.cs)[j * 9 + k]? = (Nv.cs MS[j])[k]?:=by
  induction MS with
  | nil => intro j k hj;simp at hj
  | cons M MS ih =>
    intro j k hj hk
    rw [List.flatMap_cons]
    have e9:(Nv.cs M).length = 9:=rfl
    cases j with
    | zero => rw [List.getElem?_append_left (by rw [e9];omega)];simp
    | succ j =>
      rw [List.getElem?_append_right (by rw [e9];omega)]
      have:=ih j k (by simpa using hj) hk
      rw [e9,show (j + 1) * 9 + k - 9 = j * 9 + k by omega,this]
      rfl
structure RowN (base B:Nat) (w:World) (uv:Value) (MS:List Nv) (us:List Tn) (A:Nat → Prop):Prop where
  row:w.ownsRow base 39 9 uv MS.length (MS.flatMap Nv.cs)
  len:MS.length = us.length
  tp:∀ j (h:j < us.length) (h':j < MS.length),TP w A MS[j] us[j]
  inA:∀ b,b < B → A b
  low:∀ b,A b → b < w.heap.size
  out:∀ b,uv.ownBlock = some b → ¬ A b
theorem RowN.node {base B:Nat} {w:World} {uv:Value} {MS:List Nv} {us:List Tn} {A:Nat → Prop} (h:RowN base B w uv MS us A) {N:Nv} {R:List (Int × Int)} (ok:N.ok) (hr:N.r2 = R.length) (hR:RP w A N.r1 R) (hRk:∀ x ∈ R,I64ok x.1 ∧ I64ok x.2) (hu:uv = .slice N.s1 N.s2 N.s3) :
    TP w (fun b => A b ∨ uv.ownBlock = some b) N (.mk N.k R N.a2 us N.a4 N.a5 N.a6 N.a7 N.a8):=by
  have hs2:N.s2 = us.length:=by
    rcases Joins.ownsRow_forms h.row with ⟨e,h0⟩ | ⟨b,cap,e⟩
    · rw [e] at hu
      simp only [Value.slice.injEq] at hu
      have:=h.len
      omega
    · rw [e] at hu
      simp only [Value.slice.injEq] at hu
      have:=h.len
      omega
  refine .mk (ND:=fun i => MS.getD i default) ok hr (hR.kept (fun _ _ => rfl) (fun b hb => .inl hb)) hRk hs2 (fun hp => ?_) (fun i hi => ?_)
  · rcases Joins.ownsRow_forms h.row with ⟨e,h0⟩ | ⟨b,cap,e⟩
    · have:=h.len;omega
    · rw [e] at hu
      simp only [Value.slice.injEq] at hu
      refine ⟨b,0,hu.1.symm,.inr (by rw [e];rfl),fun i hi => ?_⟩
      have hl:=h.len
      have hrow:=h.row
      rw [e] at hrow
      have c:∀ k,k < 9 → w.cell? ⟨b,0 + i * 9 + k,none⟩ = (Nv.cs (MS.getD i default))[k]?:=fun k hk => by
        rw [Nat.zero_add,hrow.cellAt (i * 9 + k) (by omega),flat9 MS i k (by omega) hk]
        simp [List.getD_eq_getElem?_getD,List.getElem?_eq_getElem (show i < MS.length by omega)]
      exact ⟨c 0 (by omega),c 1 (by omega),c 2 (by omega),c 3 (by omega),c 4 (by omega),c 5 (by omega),c 6 (by omega),c 7 (by omega),c 8 (by omega)⟩
  · have hl:=h.len
    rw [List.getD_eq_getElem?_getD,List.getElem?_eq_getElem (show i < MS.length by omega)]
    exact (h.tp i hi (by omega)).kept (fun _ _ => rfl) (fun b hb => .inl hb)
theorem RowN.nil (base B:Nat) (w:World) (hB:B ≤ w.heap.size):RowN base B w (.slice none 0 0) [] [] (fun b => b < B):=
  ⟨World.ownsRow_nil _ _ _ _,rfl,fun j h => by simp at h,fun b hb => hb,fun b hb => by omega,fun b hb => by cases hb⟩
end Go.Proofs.YtjdbnoccdefnaaaGreat
namespace Go.Proofs.YtjdbnoccdefnaaaGreat
open Go Go.RowKit
set_option linter.unusedVariables false
section
variable {P:Program} {ops:Array Oper} {Q:Exit → Act → World → Prop} {md:Region.Mode} {S:World → Prop} {L:Nat}
def wpAnyX (P:Program) (md:Region.Mode) (ops:Array Oper) (Q:Exit → Act → World → Prop) (S:World → Prop) (L:Nat):Nat → Array Bool → Act → World → Prop
  | 0,listed,a,w => Region.ready md ops listed = [] ∧ Q .normal a w
  | fuel + 1,listed,a,w =>
    (Region.ready md ops listed = [] → Q .normal a w) ∧
    ∀ i ∈ Region.ready md ops listed,wpOp P ops Q i (fun a' w' => (i ≠ L → S w') ∧ wpAnyX P md ops Q S L fuel (listed.setIfInBounds i true) a' w') a w
theorem wpAny_of_X:∀ (fuel:Nat) (listed:Array Bool) (a:Act) (w:World),wpAnyX P md ops Q S L fuel listed a w → wpAny P md ops Q fuel listed a w
  | 0,_,_,_,h => h
  | fuel + 1,_,_,_,h => ⟨h.1,fun i hi => wpOp_mono (fun a' w' h' => wpAny_of_X fuel _ a' w' h'.2) (h.2 i hi)⟩
theorem wpAnyX_first {i:Nat} {oi:Oper} {v:Value} (hi:ops[i]? = some oi) (hsel:∀ (j:Nat) (o:Oper) cs b,ops[j]? = some o → o.op ≠ .select cs b)
    (hQ:∀ c a w,Q (.panic c) (a.put oi.dst v) w → Q (.panic c) a w) (hL:Region.waitsFor md ops L i = true) :
    ∀ (fuel:Nat) (listed:Array Bool) (a:Act) (w:World),
      (∀ j oj,ops[j]? = some oj → j ≠ i → listed.getD j true = false → (∀ e ∈ oj.after,Region.binds md e = true → e.on ≠ i) → oi.apart ops oj = true) →
      i ∈ Region.ready md ops listed → YieldsIf P ops S oi v a → S w →
      wpAnyX P md ops Q S L fuel (listed.setIfInBounds i true) (a.put oi.dst v) w → wpAnyX P md ops Q S L (fuel + 1) listed a w:=by
  intro fuel
  induction fuel with
  | zero =>
    intro listed a w _ hr hy hS H
    refine ⟨fun h => (by rw [h] at hr;cases hr),fun j hj => ?_⟩
    by_cases hji:j = i
    · subst hji;exact hy.wpOp hi hS ⟨fun _ => hS,H⟩
    · have:=ready_mono hj hji
      rw [H.1] at this
      cases this
  | succ fuel ih =>
    intro listed a w hfree hr hy hS H
    refine ⟨fun h => (by rw [h] at hr;cases hr),fun j hj => ?_⟩
    by_cases hji:j = i
    · subst hji;exact hy.wpOp hi hS ⟨fun _ => hS,H⟩
    · have h1:=H.2 j (ready_mono hj hji)
      obtain ⟨hjun,oj,hoj,hall⟩:=mem_ready.1 hj
      have hnot:∀ e ∈ oj.after,Region.binds md e = true → e.on ≠ i:=fun e he hb heq => by
        have h1:=hall e he hb
        have h0:=(mem_ready.1 hr).1
        rw [heq] at h1
        rcases Nat.lt_or_ge i listed.size with h' | h'
        · simp [h'] at h0 h1;rw [h0] at h1;cases h1
        · simp [Array.getElem?_eq_none h'] at h1
      have hjL:j ≠ L:=fun e => by
        subst e
        obtain ⟨o',ho',e,he,hb,hon⟩:=Region.waitsFor_spec hL
        have:o' = oj:=Option.some.inj (ho'.symm.trans hoj)
        subst this
        exact hnot e he hb hon
      have h2:=wpOp_putIf hoj (hfree j oj hoj hji hjun hnot) (fun cs b => hsel i oi cs b hi) (fun cs b => hsel j oj cs b hoj) hQ hy h1
      have hfree':∀ k ok,ops[k]? = some ok → k ≠ i → (listed.setIfInBounds j true).getD k true = false →
          (∀ e ∈ ok.after,Region.binds md e = true → e.on ≠ i) → oi.apart ops ok = true:=fun k ok hk hki hun hno => by
        refine hfree k ok hk hki ?_ hno
        by_cases hjk:j = k
        · subst hjk;exact hjun
        · rw [getD_set_ne true hjk] at hun;exact hun
      refine wpOp_mono (fun a' w' h3 => ⟨fun _ => h3.2.1 hjL,ih (listed.setIfInBounds j true) a' w' hfree' (ready_mono hr (Ne.symm hji)) h3.1 (h3.2.1 hjL) ?_⟩) h2
      rw [Array.setIfInBounds_comm _ _ hji]
      exact h3.2.2
def wpLex (P:Program) (ops:Array Oper) (Q:Exit → Act → World → Prop) (S:World → Prop) (K:Act → Prop):List Oper → Act → Prop
  | [],a => K a
  | o :: l,a => ∃ v,YieldsIf P ops S o v a ∧ (∀ c a w,Q (.panic c) (a.put o.dst v) w → Q (.panic c) a w) ∧ wpLex P ops Q S K l (a.put o.dst v)
theorem lex_cons {K:Act → Prop} {o:Oper} {l:List Oper} {a:Act} (v:Value) (hw:Region.wanted o (yielded ops a.tmps) = true) (hv:∀ w,S w → (execOp a.eval o).run P w = .ok (.value v) w)
    (hQ:∀ c a w,Q (.panic c) (a.put o.dst v) w → Q (.panic c) a w) (h:wpLex P ops Q S K l (a.put o.dst v)):wpLex P ops Q S K (o :: l) a:=⟨v,.inl ⟨hw,hv⟩,hQ,h⟩
theorem lex_nil {K:Act → Prop} {a:Act} (h:K a):wpLex P ops Q S K [] a:=h
def lexB (md:Region.Mode) (ops:Array Oper) (L:Nat):Nat → Nat → Array Bool → Bool
  | 0,_,_ => true
  | f + 1,k,listed => (Region.ready md ops listed).contains k && Region.free md ops listed k && Region.waitsFor md ops L k && lexB md ops L f (k + 1) (listed.setIfInBounds k true)
def marks:Nat → Nat → Array Bool → Array Bool
  | 0,_,listed => listed
  | f + 1,k,listed => marks f (k + 1) (listed.setIfInBounds k true)
theorem wpAnyX_lex {g:Nat} {w:World} (hsel:Region.noSelect ops = true) (hS:S w) :
    ∀ (l:List Oper) (k:Nat) (listed:Array Bool) (a:Act),(∀ j,j < l.length → l[j]? = ops[k + j]?) → lexB md ops L l.length k listed = true →
    wpLex P ops Q S (fun a' => wpAnyX P md ops Q S L g (marks l.length k listed) a' w) l a → wpAnyX P md ops Q S L (l.length + g) listed a w
  | [],k,listed,a,_,_,h => by simpa [marks,wpLex] using h
  | o :: l,k,listed,a,hl,hB,h => by
    have h0:ops[k]? = some o:=by simpa using (hl 0 (by simp)).symm
    simp only [List.length_cons,lexB,Bool.and_eq_true] at hB
    obtain ⟨⟨⟨hr,hf⟩,hL⟩,hB'⟩:=hB
    obtain ⟨v,hy,hQ,hK⟩:=h
    rw [show (o :: l).length + g = (l.length + g) + 1 by simp only [List.length_cons];omega]
    exact wpAnyX_first h0 (Region.noSelect_spec hsel) hQ hL (l.length + g) listed a w (Region.free_spec h0 hf) (by simpa using hr) hy hS
      (wpAnyX_lex hsel hS l (k + 1) _ _ (fun j hj => by have:=hl (j + 1) (by simp;omega);simpa [Nat.add_assoc,Nat.add_comm 1 j] using this) hB' hK)
def wpTail (P:Program) (ops:Array Oper) (Q:Exit → Act → World → Prop) (S:World → Prop) (L:Nat):List Oper → Nat → Act → World → Prop
  | [],_,a,w => Q .normal a w
  | o :: l,k,a,w => ∀ K:Act → World → Prop,Hid (∀ a' w',(k ≠ L → S w') → wpTail P ops Q S L l (k + 1) a' w' → K a' w') → if Region.wanted o (yielded ops a.tmps) = true then Oper.wp P o a w K Q else K (a.put o.dst undef) w
theorem tail_cons {o:Oper} {l:List Oper} {k:Nat} {a:Act} {w:World} (h:∀ K:Act → World → Prop,Hid (∀ a' w',(k ≠ L → S w') → wpTail P ops Q S L l (k + 1) a' w' → K a' w') → if Region.wanted o (yielded ops a.tmps) = true then Oper.wp P o a w K Q else K (a.put o.dst undef) w):wpTail P ops Q S L (o :: l) k a w:=h
theorem tail_nil {k:Nat} {a:Act} {w:World} (h:Q .normal a w):wpTail P ops Q S L [] k a w:=h
theorem wpAnyX_of_tail:∀ (l:List Oper) (k:Nat) (listed:Array Bool) (a:Act) (w:World),(∀ j,l[j]? = ops[k + j]?) →
    Region.seqB md ops l.length k listed = true → wpTail P ops Q S L l k a w → wpAnyX P md ops Q S L l.length listed a w
  | [],_,_,_,_,_,hB,h => ⟨by simpa [Region.seqB] using hB,h⟩
  | o :: l,k,listed,a,w,hl,hB,h => by
    have h0:ops[k]? = some o:=by simpa using (hl 0).symm
    simp only [List.length_cons,Region.seqB,Bool.and_eq_true,decide_eq_true_eq] at hB
    refine ⟨fun h1 => absurd (hB.1.symm.trans h1) (by simp),fun j hj => ?_⟩
    rw [hB.1] at hj
    have:j = k:=by simpa using hj
    subst this
    have h1:=h (fun a' w' => (j ≠ L → S w') ∧ wpAnyX P md ops Q S L l.length (listed.setIfInBounds j true) a' w') ((fun a' w' h1 h2 => ⟨h1,wpAnyX_of_tail l (j + 1) _ a' w' (fun i => by have:=hl (i + 1);simpa [Nat.add_assoc,Nat.add_comm 1 i] using this) hB.2 h2⟩))
    unfold wpOp
    simp only [h0]
    split
    · rename_i hw;rw [if_pos hw] at h1;exact .inl h1
    · rename_i hw;rw [if_neg hw] at h1;exact h1
theorem wp_region_lex {id:Nat} {a:Act} {w:World} {l:List Oper} (n L:Nat) (S:World → Prop) (hm:P.follows .mixedOrders = true) (hsel:Region.noSelect l.toArray = true) (hn:n ≤ l.length) (hB:lexB .any l.toArray L n 0 (Array.replicate l.length false) = true)
    (hT:Region.seqB .any l.toArray (l.length - n) n (marks n 0 (Array.replicate l.length false)) = true) (hS:S w.drew)
    (h:wpLex P l.toArray Q S (fun a' => wpTail P l.toArray Q S L (l.drop n) n a' w.drew) (l.take n) a):(Code.region id l.toArray true).wp P Q a w:=by
  have htl:(l.take n).length = n:=by simp;omega
  have hdl:(l.drop n).length = l.length - n:=by simp
  have hlex:∀ (l':List Oper) (a:Act),wpLex P l.toArray Q S (fun a' => wpTail P l.toArray Q S L (l.drop n) n a' w.drew) l' a → wpLex P l.toArray Q S (fun a' => wpAnyX P .any l.toArray Q S L (l.length - n) (marks n 0 (Array.replicate l.length false)) a' w.drew) l' a:=by
    intro l'
    induction l' with
    | nil => intro a h;have:=wpAnyX_of_tail (md:=.any) (ops:=l.toArray) (Q:=Q) (S:=S) (L:=L) (P:=P) (l.drop n) n (marks n 0 (Array.replicate l.length false)) a w.drew (fun j => by simp [List.getElem?_drop]) (by rw [hdl];exact hT) h;rw [hdl] at this;exact this
    | cons o l' ih => rintro a ⟨v,h1,h2,h3⟩;exact ⟨v,h1,h2,ih _ h3⟩
  have H:=wpAnyX_lex (md:=.any) (L:=L) (Q:=Q) (g:=l.length - n) (P:=P) (w:=w.drew) hsel hS (l.take n) 0 (Array.replicate l.length false) a (fun j hj => by
    rw [htl] at hj
    simp [hj]) (by rw [htl];exact hB) (by rw [htl];exact hlex _ _ h)
  rw [htl,show n + (l.length - n) = l.length by omega] at H
  exact wp_region_any hm (by simpa using wpAny_of_X _ _ _ _ H)
end
end Go.Proofs.YtjdbnoccdefnaaaGreat
