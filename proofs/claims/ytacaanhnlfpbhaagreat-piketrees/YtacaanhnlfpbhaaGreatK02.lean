/- HELPERS: texts of ours put together. -/
import Derived.Test.YtacaanhnlfpbhaaGreatK01
import Derived.Laws.EntriesVeiled
import Derived.OrdersHeld
import Derived.StillTail
import Derived.Tactics
import Derived.RowKit
import Derived.Below
import Derived.Deep.Cut
import Derived.Deep.CutRange
import Derived.Deep.RegionHeld3
import Derived.Deep.QuietTactic
import Derived.BigQuiet
import Derived.Deep.MidRow
import Derived.Deep.OwnRows
import Derived.Laws.Rows
import Derived.WalkLawsBesides
import Derived.Maps.AppendAt
import Derived.Deep.RegionLaw
import Derived.Laws.CopyOwn
import Derived.Lib.LazyBuf
import Derived.WalkKit
import Derived.Laws.BitsLemmas
import Derived.Deep.RegionHeld2
import Derived.Lib.MinMax
namespace Go.Proofs.YtacaanhnlfpbhaaGreat
open Go.RowKit
set_option linter.unusedVariables false
set_option linter.unusedSimpArgs false
theorem hid {p:Prop} (h:p):Hid p:=h
abbrev pt (b:Nat):Value:=.pointer (some ⟨b,0,none⟩)
theorem row_kept {w w':World} {base e size n:Nat} {v:Value} {xs:List Value} (h:w.ownsRow base e size v n xs) (hk:∀ b,v.ownBlock=some b→w'.heap[b]?=w.heap[b]?):w'.ownsRow base e size v n xs:=by
 refine ⟨h.1,?_⟩
 rcases h.2 with hn | ⟨g,cap,cur,rfl,hb,hgg,rest⟩
 ·exact .inl hn
 ·exact .inr ⟨g,cap,cur,rfl,hb,(hk g rfl).trans hgg,rest⟩
theorem Chg.trans {w w1 w2:World} {F F' F2:List Nat} (h:Chg w w1 F F') (h2:Chg w1 w2 F' F2):Chg w w2 F F2:=by
 refine ⟨h2.os.trans h.os,h2.tape.trans h.tape,h2.output.trans h.output,Nat.le_trans h.size h2.size,fun k hk hn=>?_,fun k hk=>?_⟩
 ·refine (h2.block k (Nat.lt_of_lt_of_le hk h.size) (fun hm=>?_)).trans (h.block k hk hn)
  rcases h.new k hm with h3 | h3
  ·exact hn h3
  ·omega
 ·rcases h2.new k hk with h3 | h3
  ·exact h.new k h3
  ·right;have:=h.size;omega
theorem Chg.refl (w:World) (F:List Nat):Chg w w F F:=⟨rfl,rfl,rfl,Nat.le_refl _,fun _ _ _=>rfl,fun _ h=>.inl h⟩
theorem Chg.alloc {w w':World} {F F':List Nat} (h:Chg w w' F F') (o:Obj):Chg w (w'.alloc o) F F':=
 ⟨h.os,h.tape,h.output,by have:=h.size;simp;omega,fun k hk hn=>(heap_alloc_old w' o (by have:=h.size;omega)).trans (h.block k hk hn),h.new⟩
theorem three_new (w:World) (o o' o2:Obj):(((w.alloc o).alloc o').alloc o2).heap[w.heap.size]?=some o∧(((w.alloc o).alloc o').alloc o2).heap[w.heap.size + 1]?=some o'∧(((w.alloc o).alloc o').alloc o2).heap[w.heap.size + 1 + 1]?=some o2 ∧
  ∀ k,k < w.heap.size→(((w.alloc o).alloc o').alloc o2).heap[k]?=w.heap[k]?:=by
 have s1:(w.alloc o).heap.size=w.heap.size + 1:=by simp
 have s2:((w.alloc o).alloc o').heap.size=w.heap.size + 1 + 1:=by simp
 refine ⟨?_,?_,?_,fun k hk=>?_⟩
 ·exact (heap_alloc_old _ _ (by omega)).trans ((heap_alloc_old _ _ (by omega)).trans (heap_alloc_new w o))
 ·refine (heap_alloc_old _ _ (by omega)).trans ?_
  rw [← s1];exact heap_alloc_new _ _
 ·rw [← s2];exact heap_alloc_new _ _
 ·exact (heap_alloc_old _ _ (by omega)).trans ((heap_alloc_old _ _ (by omega)).trans (heap_alloc_old _ _ hk))
def RP (w:World) (A:Nat→Prop) (ad:Option Addr) (R:List (Int × Int)):Prop:=
 R≠[]→∃ b o,ad=some ⟨b,o,none⟩∧A b∧∀ i (hi:i < R.length),w.cell? ⟨b,o + i * 2,none⟩=some (.int .i64 R[i].1)∧w.cell? ⟨b,o + i * 2 + 1,none⟩=some (.int .i64 R[i].2)
inductive TP (w:World) (A:Nat→Prop):Nv→Tn→Prop
 | mk {N:Nv} {R:List (Int × Int)} {ts:List Tn} {ND:Nat→Nv} (ok:N.ok) (hr:N.r2=R.length) (hR:RP w A N.r1 R) (hRk:∀ x ∈ R,I64ok x.1∧I64ok x.2) (hs:N.s2=ts.length)
   (hS:0 < ts.length→∃ b o,N.s1=some ⟨b,o,none⟩∧A b∧∀ i,i < ts.length→N9 w b o i (ND i)) (hk:∀ i (hi:i < ts.length),TP w A (ND i) ts[i]) :
   TP w A N (.mk N.k R N.a2 ts N.a4 N.a5 N.a6 N.a7 N.a8)
theorem RP.kept {w w':World} {A A':Nat→Prop} {ad:Option Addr} {R:List (Int × Int)} (h:RP w A ad R) (hk:∀ b,A b→w'.heap[b]?=w.heap[b]?) (hA:∀ b,A b→A' b):RP w' A' ad R:=fun hn=>by
 obtain ⟨b,o,h1,h2,h3⟩:=h hn
 exact ⟨b,o,h1,hA b h2,fun i hi=>⟨(cell_eq (hk b h2) _).trans (h3 i hi).1,(cell_eq (hk b h2) _).trans (h3 i hi).2⟩⟩
theorem TP.kept {w w':World} {A A':Nat→Prop} {N:Nv} {t:Tn} (h:TP w A N t) (hk:∀ b,A b→w'.heap[b]?=w.heap[b]?) (hA:∀ b,A b→A' b):TP w' A' N t:=by
 induction h with
 | mk ok hr hR hRk hs hS hkk ih =>
  refine .mk ok hr (hR.kept hk hA) hRk hs (fun hp=>?_) ih
  obtain ⟨b,o,h1,h2,h3⟩:=hS hp
  exact ⟨b,o,h1,hA b h2,fun i hi=>(h3 i hi).kept (hk b h2)⟩
theorem TP.ti {w:World} {A:Nat→Prop} {B:Nat} {N:Nv} {t:Tn} (h:TP w A N t) (hA:∀ b,A b→b < B):TI w B N t:=by
 induction h with
 | mk ok hr hR hRk hs hS hkk ih =>
  refine .mk ok hr (fun hn=>?_) hRk hs (fun hp=>?_) ih
  ·obtain ⟨b,o,h1,h2,h3⟩:=hR hn;exact ⟨b,o,h1,hA b h2,h3⟩
  ·obtain ⟨b,o,h1,h2,h3⟩:=hS hp;exact ⟨b,o,h1,hA b h2,h3⟩
theorem flat9 (MS:List Nv):∀ (j k:Nat) (hj:j < MS.length),k < 9→(MS.flatMap Nv.cs)[j * 9 + k]?=(Nv.cs MS[j])[k]?:=by
 induction MS with
 | nil=>intro j k hj;simp at hj
 | cons M MS ih =>
  intro j k hj hk
  rw [List.flatMap_cons]
  have e9:(Nv.cs M).length=9:=rfl
  cases j with
  | zero=>rw [List.getElem?_append_left (by rw [e9];omega)];simp
  | succ j =>
   rw [List.getElem?_append_right (by rw [e9];omega)]
   have:=ih j k (by simpa using hj) hk
   rw [e9,show (j + 1) * 9 + k - 9=j * 9 + k by omega,this]
   rfl
theorem flat9_len (MS:List Nv):(MS.flatMap Nv.cs).length=MS.length * 9:=by
 induction MS with
 | nil=>rfl
 | cons M MS ih =>
  have e9:(Nv.cs M).length=9:=rfl
  rw [List.flatMap_cons,List.length_append,ih,e9,List.length_cons]
  omega
end Go.Proofs.YtacaanhnlfpbhaaGreat
namespace Go.Proofs.YtacaanhnlfpbhaaGreat
open Go Go.RowKit
set_option linter.unusedVariables false
section
variable {P:Program} {ops:Array Oper} {Q:Exit→Act→World→Prop} {md:Region.Mode} {S:World→Prop} {L:Nat}
def wpAnyX (P:Program) (md:Region.Mode) (ops:Array Oper) (Q:Exit→Act→World→Prop) (S:World→Prop) (L:Nat):Nat→Array Bool→Act→World→Prop
 | 0,listed,a,w=>Region.ready md ops listed=[]∧Q .normal a w
 | fuel + 1,listed,a,w =>
  (Region.ready md ops listed=[]→Q .normal a w) ∧
  ∀ i ∈ Region.ready md ops listed,wpOp P ops Q i (fun a' w'=>(i≠L→S w')∧wpAnyX P md ops Q S L fuel (listed.setIfInBounds i true) a' w') a w
theorem wpAny_of_X:∀ (fuel:Nat) (listed:Array Bool) (a:Act) (w:World),wpAnyX P md ops Q S L fuel listed a w→wpAny P md ops Q fuel listed a w
 | 0,_,_,_,h=>h
 | fuel + 1,_,_,_,h=>⟨h.1,fun i hi=>wpOp_mono (fun a' w' h'=>wpAny_of_X fuel _ a' w' h'.2) (h.2 i hi)⟩
theorem wpAnyX_first {i:Nat} {oi:Oper} {v:Value} (hi:ops[i]?=some oi) (hsel:∀ (j:Nat) (o:Oper) cs b,ops[j]?=some o→o.op≠.select cs b)
  (hQ:∀ c a w,Q (.panic c) (a.put oi.dst v) w→Q (.panic c) a w) (hL:Region.waitsFor md ops L i=true) :
  ∀ (fuel:Nat) (listed:Array Bool) (a:Act) (w:World),
   (∀ j oj,ops[j]?=some oj→j≠i→listed.getD j true=false→(∀ e ∈ oj.after,Region.binds md e=true→e.on≠i)→oi.apart ops oj=true) →
   i ∈ Region.ready md ops listed→YieldsIf P ops S oi v a→S w →
   wpAnyX P md ops Q S L fuel (listed.setIfInBounds i true) (a.put oi.dst v) w→wpAnyX P md ops Q S L (fuel + 1) listed a w:=by
 intro fuel
 induction fuel with
 | zero =>
  intro listed a w _ hr hy hS H
  refine ⟨fun h=>(by rw [h] at hr;cases hr),fun j hj=>?_⟩
  by_cases hji:j=i
  ·subst hji;exact hy.wpOp hi hS ⟨fun _=>hS,H⟩
  ·have:=ready_mono hj hji
   rw [H.1] at this
   cases this
 | succ fuel ih =>
  intro listed a w hfree hr hy hS H
  refine ⟨fun h=>(by rw [h] at hr;cases hr),fun j hj=>?_⟩
  by_cases hji:j=i
  ·subst hji;exact hy.wpOp hi hS ⟨fun _=>hS,H⟩
  ·have h1:=H.2 j (ready_mono hj hji)
   obtain ⟨hjun,oj,hoj,hall⟩:=mem_ready.1 hj
   have hnot:∀ e ∈ oj.after,Region.binds md e=true→e.on≠i:=fun e he hb heq=>by
    have h1:=hall e he hb
    have h0:=(mem_ready.1 hr).1
    rw [heq] at h1
    rcases Nat.lt_or_ge i listed.size with h' | h'
    ·simp [h'] at h0 h1;rw [h0] at h1;cases h1
    ·simp [Array.getElem?_eq_none h'] at h1
   have hjL:j≠L:=fun e=>by
    subst e
    obtain ⟨o',ho',e,he,hb,hon⟩:=Region.waitsFor_spec hL
    have:o'=oj:=Option.some.inj (ho'.symm.trans hoj)
    subst this
    exact hnot e he hb hon
   have h2:=wpOp_putIf hoj (hfree j oj hoj hji hjun hnot) (fun cs b=>hsel i oi cs b hi) (fun cs b=>hsel j oj cs b hoj) hQ hy h1
   have hfree':∀ k ok,ops[k]?=some ok→k≠i→(listed.setIfInBounds j true).getD k true=false →
     (∀ e ∈ ok.after,Region.binds md e=true→e.on≠i)→oi.apart ops ok=true:=fun k ok hk hki hun hno=>by
    refine hfree k ok hk hki ?_ hno
    by_cases hjk:j=k
    ·subst hjk;exact hjun
    ·rw [getD_set_ne true hjk] at hun;exact hun
   refine wpOp_mono (fun a' w' h3=>⟨fun _=>h3.2.1 hjL,ih (listed.setIfInBounds j true) a' w' hfree' (ready_mono hr (Ne.symm hji)) h3.1 (h3.2.1 hjL) ?_⟩) h2
   rw [Array.setIfInBounds_comm _ _ hji]
   exact h3.2.2
def wpLex (P:Program) (ops:Array Oper) (Q:Exit→Act→World→Prop) (S:World→Prop) (K:Act→Prop):List Oper→Act→Prop
 | [],a=>K a
 | o :: l,a=>∃ v,YieldsIf P ops S o v a∧(∀ c a w,Q (.panic c) (a.put o.dst v) w→Q (.panic c) a w)∧wpLex P ops Q S K l (a.put o.dst v)
theorem lex_cons {K:Act→Prop} {o:Oper} {l:List Oper} {a:Act} (v:Value) (hw:Region.wanted o (yielded ops a.tmps)=true) (hv:∀ w,S w→(execOp a.eval o).run P w=.ok (.value v) w)
  (hQ:∀ c a w,Q (.panic c) (a.put o.dst v) w→Q (.panic c) a w) (h:wpLex P ops Q S K l (a.put o.dst v)):wpLex P ops Q S K (o :: l) a:=⟨v,.inl ⟨hw,hv⟩,hQ,h⟩
theorem lex_nil {K:Act→Prop} {a:Act} (h:K a):wpLex P ops Q S K [] a:=h
def lexB (md:Region.Mode) (ops:Array Oper) (L:Nat):Nat→Nat→Array Bool→Bool
 | 0,_,_=>true
 | f + 1,k,listed=>(Region.ready md ops listed).contains k && Region.free md ops listed k && Region.waitsFor md ops L k && lexB md ops L f (k + 1) (listed.setIfInBounds k true)
def marks:Nat→Nat→Array Bool→Array Bool
 | 0,_,listed=>listed
 | f + 1,k,listed=>marks f (k + 1) (listed.setIfInBounds k true)
theorem wpAnyX_lex {g:Nat} {w:World} (hsel:Region.noSelect ops=true) (hS:S w) :
  ∀ (l:List Oper) (k:Nat) (listed:Array Bool) (a:Act),(∀ j,j < l.length→l[j]?=ops[k + j]?)→lexB md ops L l.length k listed=true →
  wpLex P ops Q S (fun a'=>wpAnyX P md ops Q S L g (marks l.length k listed) a' w) l a→wpAnyX P md ops Q S L (l.length + g) listed a w
 | [],k,listed,a,_,_,h=>by simpa [marks,wpLex] using h
 | o :: l,k,listed,a,hl,hB,h=>by
  have h0:ops[k]?=some o:=by simpa using (hl 0 (by simp)).symm
  simp only [List.length_cons,lexB,Bool.and_eq_true] at hB
  obtain ⟨⟨⟨hr,hf⟩,hL⟩,hB'⟩:=hB
  obtain ⟨v,hy,hQ,hK⟩:=h
  rw [show (o :: l).length + g=(l.length + g) + 1 by simp only [List.length_cons];omega]
  exact wpAnyX_first h0 (Region.noSelect_spec hsel) hQ hL (l.length + g) listed a w (Region.free_spec h0 hf) (by simpa using hr) hy hS
   (wpAnyX_lex hsel hS l (k + 1) _ _ (fun j hj=>by have:=hl (j + 1) (by simp;omega);simpa [Nat.add_assoc,Nat.add_comm 1 j] using this) hB' hK)
def wpTail (P:Program) (ops:Array Oper) (Q:Exit→Act→World→Prop) (S:World→Prop) (L:Nat):List Oper→Nat→Act→World→Prop
 | [],_,a,w=>Q .normal a w
 | o :: l,k,a,w=>∀ K:Act→World→Prop,Hid (∀ a' w',(k≠L→S w')→wpTail P ops Q S L l (k + 1) a' w'→K a' w')→if Region.wanted o (yielded ops a.tmps)=true then Oper.wp P o a w K Q else K (a.put o.dst undef) w
theorem tail_cons {o:Oper} {l:List Oper} {k:Nat} {a:Act} {w:World} (h:∀ K:Act→World→Prop,Hid (∀ a' w',(k≠L→S w')→wpTail P ops Q S L l (k + 1) a' w'→K a' w')→if Region.wanted o (yielded ops a.tmps)=true then Oper.wp P o a w K Q else K (a.put o.dst undef) w):wpTail P ops Q S L (o :: l) k a w:=h
theorem tail_nil {k:Nat} {a:Act} {w:World} (h:Q .normal a w):wpTail P ops Q S L [] k a w:=h
theorem wpAnyX_of_tail:∀ (l:List Oper) (k:Nat) (listed:Array Bool) (a:Act) (w:World),(∀ j,l[j]?=ops[k + j]?) →
  Region.seqB md ops l.length k listed=true→wpTail P ops Q S L l k a w→wpAnyX P md ops Q S L l.length listed a w
 | [],_,_,_,_,_,hB,h=>⟨by simpa [Region.seqB] using hB,h⟩
 | o :: l,k,listed,a,w,hl,hB,h=>by
  have h0:ops[k]?=some o:=by simpa using (hl 0).symm
  simp only [List.length_cons,Region.seqB,Bool.and_eq_true,decide_eq_true_eq] at hB
  refine ⟨fun h1=>absurd (hB.1.symm.trans h1) (by simp),fun j hj=>?_⟩
  rw [hB.1] at hj
  have:j=k:=by simpa using hj
  subst this
  have h1:=h (fun a' w'=>(j≠L→S w')∧wpAnyX P md ops Q S L l.length (listed.setIfInBounds j true) a' w') ((fun a' w' h1 h2=>⟨h1,wpAnyX_of_tail l (j + 1) _ a' w' (fun i=>by have:=hl (i + 1);simpa [Nat.add_assoc,Nat.add_comm 1 i] using this) hB.2 h2⟩))
  unfold wpOp
  simp only [h0]
  split
  ·rename_i hw;rw [if_pos hw] at h1;exact .inl h1
  ·rename_i hw;rw [if_neg hw] at h1;exact h1
theorem wp_region_lex {id:Nat} {a:Act} {w:World} {l:List Oper} (n L:Nat) (S:World→Prop) (hm:P.follows .mixedOrders=true) (hsel:Region.noSelect l.toArray=true) (hn:n≤l.length) (hB:lexB .any l.toArray L n 0 (Array.replicate l.length false)=true)
  (hT:Region.seqB .any l.toArray (l.length - n) n (marks n 0 (Array.replicate l.length false))=true) (hS:S w.drew)
  (h:wpLex P l.toArray Q S (fun a'=>wpTail P l.toArray Q S L (l.drop n) n a' w.drew) (l.take n) a):(Code.region id l.toArray true).wp P Q a w:=by
 have htl:(l.take n).length=n:=by simp;omega
 have hdl:(l.drop n).length=l.length - n:=by simp
 have hlex:∀ (l':List Oper) (a:Act),wpLex P l.toArray Q S (fun a'=>wpTail P l.toArray Q S L (l.drop n) n a' w.drew) l' a→wpLex P l.toArray Q S (fun a'=>wpAnyX P .any l.toArray Q S L (l.length - n) (marks n 0 (Array.replicate l.length false)) a' w.drew) l' a:=by
  intro l'
  induction l' with
  | nil=>intro a h;have:=wpAnyX_of_tail (md:=.any) (ops:=l.toArray) (Q:=Q) (S:=S) (L:=L) (P:=P) (l.drop n) n (marks n 0 (Array.replicate l.length false)) a w.drew (fun j=>by simp [List.getElem?_drop]) (by rw [hdl];exact hT) h;rw [hdl] at this;exact this
  | cons o l' ih=>rintro a ⟨v,h1,h2,h3⟩;exact ⟨v,h1,h2,ih _ h3⟩
 have H:=wpAnyX_lex (md:=.any) (L:=L) (Q:=Q) (g:=l.length - n) (P:=P) (w:=w.drew) hsel hS (l.take n) 0 (Array.replicate l.length false) a (fun j hj=>by
  rw [htl] at hj
  simp [hj]) (by rw [htl];exact hB) (by rw [htl];exact hlex _ _ h)
 rw [htl,show n + (l.length - n)=l.length by omega] at H
 exact wp_region_any hm (by simpa using wpAny_of_X _ _ _ _ H)
end
end Go.Proofs.YtacaanhnlfpbhaaGreat
namespace Go.Proofs.YtacaanhnlfpbhaaGreat
open Go.RowKit
set_option linter.unusedVariables false
set_option linter.unusedSimpArgs false
def belowB (n c:Int):Bool:=decide (0≤n) && decide (n < c)
def capsB (c:Int):Bool:=decide (2≤c) && decide (c≤1002) && (c % 2 == 0)
def hasXB (op:Int):Bool:=op == 1 || op == 2 || op == 3 || op == 4 || op == 7
def hasYB (op:Int):Bool:=op == 2
def isTargetB (too:Int) (has:Bool) (c:Int):Bool:=if has then belowB too c else too == 0
def isArgB (op arg caps:Int):Bool:=if op == 3 then belowB arg caps else if op == 4 then assertB arg else if op == 5 then belowB arg 100 else if op == 1 || op == 2 || op == 6 || op == 7 then arg == 0 else false
def isRangesB (op:Int) (R:List (Int × Int)):Bool:=if op == 1 then decide (0 < R.length) && rightB R else R.length == 0
structure Iv where
 op:Int
 x:Int
 y:Int
 a:Int
 r1:Option Addr
 r2:Nat
 r3:Nat
instance:Inhabited Iv:=⟨⟨0,0,0,0,none,0,0⟩⟩
abbrev Iv.cs (N:Iv):List Value:=[.int .i64 N.op,.int .i64 N.x,.int .i64 N.y,.int .i64 N.a,.slice N.r1 N.r2 N.r3]
abbrev Iv.v (N:Iv):Value:=.agg #[.int .i64 N.op,.int .i64 N.x,.int .i64 N.y,.int .i64 N.a,.slice N.r1 N.r2 N.r3]
structure In where
 op:Int
 x:Int
 y:Int
 a:Int
 R:List (Int × Int)
instance:Inhabited In:=⟨⟨0,0,0,0,[]⟩⟩
def In.okB (I:In) (n caps:Int):Bool:=isTargetB I.x (hasXB I.op) n && isTargetB I.y (hasYB I.op) n && isArgB I.op I.a caps && isRangesB I.op I.R
theorem five {w:World} {b:Nat} {v0 v1 v2 v3 v4:Value} {t:TypeId} {fr:Nat × Nat} (h:w.heap[b]?=some (.cells #[v0,v1,v2,v3,v4] t fr)):w.cell? ⟨b,0,none⟩=some v0∧w.cell? ⟨b,1,none⟩=some v1∧w.cell? ⟨b,2,none⟩=some v2∧w.cell? ⟨b,3,none⟩=some v3∧w.cell? ⟨b,4,none⟩=some v4:=
 ⟨Joins.cell_of_block h 0,Joins.cell_of_block h 1,Joins.cell_of_block h 2,Joins.cell_of_block h 3,Joins.cell_of_block h 4⟩
def I5 (w:World) (b o i:Nat) (N:Iv):Prop:=w.cell? ⟨b,o + i * 5,none⟩=some (.int .i64 N.op)∧w.cell? ⟨b,o + i * 5 + 1,none⟩=some (.int .i64 N.x)∧w.cell? ⟨b,o + i * 5 + 2,none⟩=some (.int .i64 N.y)∧w.cell? ⟨b,o + i * 5 + 3,none⟩=some (.int .i64 N.a)∧w.cell? ⟨b,o + i * 5 + 4,none⟩=some (.slice N.r1 N.r2 N.r3)
theorem I5.kept {w w':World} {b o i:Nat} {N:Iv} (h:I5 w b o i N) (hk:w'.heap[b]?=w.heap[b]?):I5 w' b o i N:=by
 obtain ⟨h0,h1,h2,h3,h4⟩:=h
 exact ⟨(cell_eq hk _).trans h0,(cell_eq hk _).trans h1,(cell_eq hk _).trans h2,(cell_eq hk _).trans h3,(cell_eq hk _).trans h4⟩
structure IM (w:World) (B:Nat) (N:Iv) (I:In):Prop where
 op:N.op=I.op
 x:N.x=I.x
 y:N.y=I.y
 a:N.a=I.a
 len:N.r2=I.R.length
 sm:N.r2 * 16≤140737488351232
 row:RowAt B w (.slice N.r1 N.r2 N.r3) I.R
theorem IM.kept {w w':World} {B B':Nat} {N:Iv} {I:In} (h:IM w B N I) (hb:Below B w w') (hB:B≤B'):IM w' B' N I:=⟨h.op,h.x,h.y,h.a,h.len,h.sm,h.row.below hb (Nat.le_refl _) hB⟩
structure PI (w:World) (B:Nat) (ad:Option Addr) (n:Nat) (l:List In):Prop where
 len:n=l.length
 mem:0 < n→∃ (b o:Nat) (ND:Nat→Iv),ad=some ⟨b,o,none⟩∧b < B∧∀ i (hi:i < l.length),I5 w b o i (ND i)∧IM w B (ND i) l[i]
theorem PI.kept {w w':World} {B B':Nat} {ad:Option Addr} {n:Nat} {l:List In} (h:PI w B ad n l) (hb:Below B w w') (hB:B≤B'):PI w' B' ad n l:=by
 refine ⟨h.len,fun hp=>?_⟩
 obtain ⟨b,o,ND,e,h1,h2⟩:=h.mem hp
 exact ⟨b,o,ND,e,by omega,fun i hi=>⟨(h2 i hi).1.kept (hb.block b h1),(h2 i hi).2.kept hb hB⟩⟩
def mayB (l:List In) (s k:Int):Bool:=decide (l.length≤20000) && belowB s l.length && capsB k && l.all fun I=>I.okB l.length k
abbrev pv (ad:Option Addr) (n c:Nat) (s k:Int):Value:=.agg #[.slice ad n c,.int .i64 s,.int .i64 k]
theorem run_append_moveN {P:Program} (w:World) (base:Nat) (t ty e:TypeId) (i:TypeInfo) (z:Value) (size bytes:Nat) (ht:P.underlying t=some (.slice e)) (hi:P.info? e=some i) (hz:i.zero=some z)
  (hsize:i.size=size) (hby:i.bytes=bytes) (hzs:z.cells.size=size) (hpos:0 < size)
  (v:Value) (n:Nat) (xs:List Value) (hown:w.ownsRow base e size v n xs)
  (a:Addr) (m c:Nat) (news:List Value) (hl:news.length=m * size) (hm:0 < m) (hnews:∀ j u,news[j]?=some u→w.cell? (a.add j)=some u) (h1:∀ u ∈ news,u.oneCell'=true)
  (h63:n + m≤maxLen) (hbytes:(n + m) * bytes≤140737488355328) (hbase:base≤w.heap.size) :
  ∃ v' w',(Builtin.append_ #[t,t] ty #[v,.slice (some a) m c]).run P w=.ok v' w'∧w'.ownsRow base e size v' (n + m) (xs ++ news)∧Moved w w' v v':=by
 obtain ⟨v',w',hrun,h2,h3,h4,h5⟩:=run_append_own_at (P:=P) w base t ty e i z size bytes ht hi hz hsize hby hzs hpos v n xs hown a m c news hl hnews h1 h63 hbytes hbase
 refine ⟨v',w',hrun,h2,?_⟩
 rcases hown.2 with ⟨rfl,rfl⟩ | ⟨g,cap,cur,rfl,hbg,hg,hnc,hcm,hcs,htake⟩
 ·rcases h5 with h5 | h5
  ·exact .inl ⟨h5,h3⟩
  ·exact .inr ⟨h5,h3⟩
 ·by_cases hroom:n + m≤cap
  ·have hr:=run_append_room (P:=P) w t ty e i ht hi g n cap cur hg a m c news (by rw [hsize];omega) hnews h1 hroom (by rw [hsize,hcs,hl,← Nat.add_mul];exact Nat.mul_le_mul_right _ hroom)
   have he:=hrun.symm.trans hr
   injection he with e1 e2
   left
   exact ⟨by rw [e1];rfl,h3⟩
  ·have holds:∀ j u,xs[j]?=some u→w.cell? ((⟨g,0,none⟩:Addr).add j)=some u:=hown.cells (g:=g) rfl
   have hr:=run_append_grow (P:=P) w t ty e i z ht hi hz ⟨g,0,none⟩ n cap xs (by rw [hsize];exact hown.1) holds a m c news (by rw [hsize];omega) hnews (by omega) (by unfold maxLen at h63;omega) (growslice_fits (by omega) (by rw [hby];exact hbytes))
   have he:=hrun.symm.trans hr
   injection he with e1 e2
   right
   refine ⟨by rw [e1];rfl,?_⟩
   rw [e2]
   exact ⟨rfl,rfl,rfl,by simp,fun k hk _=>heap_alloc_old w.drew _ hk⟩
theorem wpList_append_moveN {P:Program} {w:World} {ops:Array Oper} {rest:List Oper} {o:Oper} {a:Act} {Q:Exit→Act→World→Prop} (hgd:o.guard=none) (s x:Operand) (t:TypeId)
  (ho:o.op=.call { callee:=.builtin .append,args:=#[s,x],argTypes:=#[t,t] })
  (base:Nat) (e:TypeId) (i:TypeInfo) (z:Value) (size bytes:Nat) (ht:P.underlying t=some (.slice e)) (hi:P.info? e=some i) (hz:i.zero=some z)
  (hsize:i.size=size) (hby:i.bytes=bytes) (hzs:z.cells.size=size) (hpos:0 < size)
  (v:Value) (n:Nat) (xs:List Value) (hs:a.eval s=v) (hown:w.ownsRow base e size v n xs)
  (ad:Addr) (m c:Nat) (news:List Value) (hx:a.eval x=.slice (some ad) m c) (hl:news.length=m * size) (hm:0 < m) (hnews:∀ j u,news[j]?=some u→w.cell? (ad.add j)=some u) (h1:∀ u ∈ news,u.oneCell'=true)
  (h63:n + m≤maxLen) (hbytes:(n + m) * bytes≤140737488355328) (hbase:base≤w.heap.size)
  (h:∀ v' w',Hid (w'.ownsRow base e size v' (n + m) (xs ++ news))→Hid (Moved w w' v v')→wpList P ops Q rest (a.put o.dst v') w'):wpList P ops Q (o :: rest) a w:=by
 refine wpList_plain hgd fun K hK=>?_
 obtain ⟨v',w',hr,h2,h3⟩:=run_append_moveN (P:=P) w base t o.type e i z size bytes ht hi hz hsize hby hzs hpos v n xs hown ad m c news hl hm hnews h1 h63 hbytes hbase
 unfold Oper.wp execOp
 simp only [ho,resolve,invoke,builtin,Sem.run_bind,Sem.run_pure,Result.andThen_ok,List.map_toArray,List.map_cons,List.map_nil,hs,hx,hr]
 exact hK _ _ (h v' w' h2 h3)
theorem moved_old' {w w':World} {v v':Value} {k:Nat} (h:Moved w w' v v') (hk:k < w.heap.size) (hn:v.ownBlock≠some k):w'.heap[k]?=w.heap[k]?:=by
 rcases h with ⟨_,h⟩ | ⟨_,h⟩
 ·exact h.block k hk (fun e=>hn e.symm)
 ·exact h.block k hk (by simp)
theorem setCells_old (b:Nat):∀ (vs:List Value) (o:Nat) (w:World) (k:Nat),k≠b→(w.setCells b o vs).heap[k]?=w.heap[k]?
 | [],_,_,_,_=>rfl
 | v :: vs,o,w,k,h=>(setCells_old b vs (o + 1) _ k h).trans (Below.heap_setCell _ _ _ _ h)
theorem Below.setCells {B b:Nat} (hb:B≤b):∀ (vs:List Value) (o:Nat) (a w:World),Below B a w→Below B a (w.setCells b o vs)
 | [],_,_,_,h=>h
 | v :: vs,o,a,w,h=>Below.setCells hb vs (o + 1) a _ (h.setCell (by exact hb) v)
abbrev O2 (R:List (Int × Int)):List Value:=R.flatMap fun x=>[.int .i64 x.1,.int .i64 x.2]
theorem O2_len (R:List (Int × Int)):(O2 R).length=R.length * 2:=by
 induction R with
 | nil=>rfl
 | cons x R ih=>simp only [O2,List.flatMap_cons,List.length_append,List.length_cons,List.length_nil] at ih ⊢;omega
theorem O2_at:∀ (R:List (Int × Int)) (i:Nat) (hi:i < R.length),(O2 R)[i * 2]?=some (.int .i64 R[i].1)∧(O2 R)[i * 2 + 1]?=some (.int .i64 R[i].2):=by
 intro R
 induction R with
 | nil=>intro i hi;simp at hi
 | cons x R ih =>
  intro i hi
  cases i with
  | zero=>simp [O2]
  | succ i =>
   have:=ih i (by simpa using hi)
   have hf:O2 (x :: R)=[.int .i64 x.1,.int .i64 x.2] ++ O2 R:=by simp [O2]
   rw [hf,show (i + 1) * 2=i * 2 + 2 by omega,List.getElem?_append_right (by simp),show i * 2 + 2 + 1=i * 2 + 1 + 2 by omega,List.getElem?_append_right (by simp)]
   simpa using this
theorem O2_one (R:List (Int × Int)):∀ u ∈ O2 R,u.oneCell'=true:=by
 intro u hu
 simp only [O2,List.mem_flatMap] at hu
 obtain ⟨x,_,hx⟩:=hu
 simp at hx
 rcases hx with rfl | rfl <;> rfl
theorem row_len {w:World} {base e size n:Nat} {a:Option Addr} {l c:Nat} {xs:List Value} (h:w.ownsRow base e size (.slice a l c) n xs):l=n:=by
 rcases h.2 with ⟨e,h0⟩ | ⟨g,cap,cur,e,_⟩
 ·simp only [Value.slice.injEq] at e;omega
 ·simp only [Value.slice.injEq] at e;omega
structure Frm (w w':World) (v v':Value):Prop where
 os:w'.os=w.os
 tape:w'.tape=w.tape
 output:w'.output=w.output
 size:w.heap.size≤w'.heap.size
 block:∀ k,k < w.heap.size→v.ownBlock≠some k→w'.heap[k]?=w.heap[k]?
 own:∀ k,v'.ownBlock=some k→v.ownBlock=some k∨k=w.heap.size
theorem Moved.frm {w w':World} {v v':Value} (h:Moved w w' v v'):Frm w w' v v':=by
 rcases h with ⟨e,h⟩ | ⟨e,h⟩
 ·exact ⟨h.os,h.tape,h.output,h.size,fun k hk hn=>h.block k hk (fun e=>hn e.symm),fun k hk=>.inl (by rw [← e];exact hk)⟩
 ·exact ⟨h.os,h.tape,h.output,h.size,fun k hk hn=>h.block k hk (by simp),fun k hk=>.inr (by rw [e] at hk;simp at hk;exact hk.symm)⟩
theorem step_append_moveN {P:Program} {ops:Array Oper} {o:Oper} {a:Act} {w:World} {K:Act→World→Prop} {Q:Exit→Act→World→Prop} {E:Prop}
  (hg:o.guard=none) (s x:Operand) (t:TypeId) (hop:o.op=Op.call { callee:=Callee.builtin Builtin.append,args:=#[s,x],argTypes:=#[t,t] })
  (base:Nat) (e:TypeId) (i:TypeInfo) (z:Value) (size bytes:Nat) (h1:P.underlying t=some (.slice e)) (h2:P.info? e=some i) (h3:i.zero=some z) (h4:i.size=size) (h5:i.bytes=bytes) (h6:z.cells.size=size) (h7:0 < size)
  (v:Value) (n:Nat) (xs:List Value) (hs:a.eval s=v) (hown:w.ownsRow base e size v n xs)
  (ad:Addr) (m c:Nat) (news:List Value) (hx:a.eval x=.slice (some ad) m c) (hn:news.length=m * size) (hm:0 < m) (hc:∀ j u,news[j]?=some u→w.cell? (ad.add j)=some u) (h1c:∀ u ∈ news,u.oneCell'=true)
  (b1:n + m≤maxLen) (b2:(n + m) * bytes≤140737488355328) (hb:base≤w.heap.size)
  (hK:∀ v' w',w'.ownsRow base e size v' (n + m) (xs ++ news)→Moved w w' v v'→K (a.put o.dst v') w') :
  if Region.wanted o (yielded ops a.tmps)=true then Oper.wp P o a w K Q else E:=by
 have hw:Region.wanted o (yielded ops a.tmps)=true:=by simp [Region.wanted,hg]
 rw [if_pos hw]
 obtain ⟨v',w',hrun,r1,r2⟩:=run_append_moveN (P:=P) w base t o.type e i z size bytes h1 h2 h3 h4 h5 h6 h7 v n xs hown ad m c news hn hm hc h1c b1 b2 hb
 unfold Oper.wp
 simp [execOp,hop,resolve,invoke,builtin,hs,hx,hrun,Result.andThen]
 exact hK v' w' r1 r2
theorem step_append_row {P:Program} {ops:Array Oper} {o:Oper} {a:Act} {w:World} {K:Act→World→Prop} {Q:Exit→Act→World→Prop} {E:Prop}
  (hg:o.guard=none) (s x:Operand) (t:TypeId) (hop:o.op=Op.call { callee:=Callee.builtin Builtin.append,args:=#[s,x],argTypes:=#[t,t] })
  (base:Nat) (e:TypeId) (i:TypeInfo) (z:Value) (size bytes:Nat) (h1:P.underlying t=some (.slice e)) (h2:P.info? e=some i) (h3:i.zero=some z) (h4:i.size=size) (h5:i.bytes=bytes) (h6:z.cells.size=size) (h7:0 < size)
  (v:Value) (n:Nat) (xs:List Value) (hs:a.eval s=v) (hown:w.ownsRow base e size v n xs)
  (b m c:Nat) (arr:Array Value) (te:TypeId) (hx:a.eval x=.slice (some ⟨b,0,none⟩) m c) (hb':w.heap[b]?=some (.cells arr te (0,0))) (hn:arr.size=m * size) (hm:0 < m) (h1c:∀ u ∈ arr.toList,u.oneCell'=true)
  (b1:n + m≤maxLen) (b2:(n + m) * bytes≤140737488355328) (hb:base≤w.heap.size)
  (hK:∀ v' w',Hid (w'.ownsRow base e size v' (n + m) (xs ++ arr.toList))→Hid (Frm w w' v v')→K (a.put o.dst v') w') :
  if Region.wanted o (yielded ops a.tmps)=true then Oper.wp P o a w K Q else E:=
 step_append_moveN hg s x t hop base e i z size bytes h1 h2 h3 h4 h5 h6 h7 v n xs hs hown ⟨b,0,none⟩ m c arr.toList hx (by simpa using hn) hm (fun j u hj=>by rw [Addr.add_mid,Nat.zero_add,Joins.cell_of_block hb'];simpa using hj) h1c b1 b2 hb (fun v' w' r1 r2=>hK v' w' r1 r2.frm)
theorem row_shape {w:World} {base e size n:Nat} {v:Value} {xs:List Value} (h:w.ownsRow base e size v n xs):∃ a c,v=.slice a n c∧n≤c∧c≤maxLen:=by
 rcases h.2 with ⟨rfl,rfl⟩ | ⟨g,cap,cur,h1,h2,h3,h4,h5,_⟩
 ·exact ⟨none,0,rfl,Nat.le_refl _,by simp [maxLen]⟩
 ·exact ⟨_,cap,h1,h4,h5⟩
theorem row_there {w:World} {base e size n b c:Nat} {xs:List Value} (h:w.ownsRow base e size (.slice (some ⟨b,0,none⟩) n c) n xs) {j m:Nat} (hj:j + m≤n * size):w.there b j m:=fun k hk=>by
 rcases h.2 with ⟨he,_⟩ | ⟨g,cap,cur,he,hb,hgg,h1,h2,h3,h4⟩
 ·cases he
 ·simp only [Value.slice.injEq,Option.some.injEq,Addr.mk.injEq] at he
  obtain ⟨⟨rfl,_⟩,_,rfl⟩:=he
  refine ⟨?_,Joins.unfrozen_of_block hgg _⟩
  rw [Joins.cell_of_block hgg,Array.getElem?_eq_getElem (by have:=Nat.mul_le_mul_right size h1;omega)]
  rfl
theorem frz_eq {w w':World} {b:Nat} (h:w'.heap[b]?=w.heap[b]?) (o:Nat):w'.frozen? ⟨b,o,none⟩=w.frozen? ⟨b,o,none⟩:=by simp only [World.frozen?,h]
theorem flat5 (MS:List Iv):∀ (j k:Nat) (hj:j < MS.length),k < 5→(MS.flatMap Iv.cs)[j * 5 + k]?=(Iv.cs MS[j])[k]?:=by
 induction MS with
 | nil=>intro j k hj;simp at hj
 | cons M MS ih =>
  intro j k hj hk
  rw [List.flatMap_cons]
  cases j with
  | zero=>rw [List.getElem?_append_left (by simp;omega)];simp
  | succ j =>
   rw [List.getElem?_append_right (by simp;omega)]
   have:=ih j k (by simpa using hj) hk
   simp only [List.length_cons,List.length_nil,List.getElem_cons_succ]
   rw [← this]
   congr 1
   omega
theorem flat5_len (MS:List Iv):(MS.flatMap Iv.cs).length=MS.length * 5:=by
 induction MS with
 | nil=>rfl
 | cons M MS ih=>rw [List.flatMap_cons,List.length_append,ih];simp;omega
abbrev Z9:Value:=.agg #[.int .i64 0,.slice none 0 0,.int .i64 0,.slice none 0 0,.int .i64 0,.int .i64 0,.bool false,.int .i64 0,.string ⟨#[]⟩]
theorem info25:(Tryz.prog.info? 25).map (fun i=>(i.zero,i.size,i.bytes))=some (some Z9,9,112):=by kernel_rfl
theorem one9 (M:Nv):∀ u ∈ Nv.cs M,u.oneCell'=true:=by
 intro u hu
 simp only [Nv.cs,List.mem_cons,List.not_mem_nil,or_false] at hu
 rcases hu with rfl | rfl | rfl | rfl | rfl | rfl | rfl | rfl | rfl <;> rfl
end Go.Proofs.YtacaanhnlfpbhaaGreat
namespace Go.Proofs.YtacaanhnlfpbhaaGreat
open Go.RowKit Go.Lk
set_option linter.unusedVariables false
set_option linter.unusedSimpArgs false
theorem fineL_get {ts:List Tn} (h:fineL ts=true):∀ (i:Nat) (hi:i < ts.length),ts[i].fine=true:=by
 induction ts with
 | nil=>intro i hi;simp at hi
 | cons t ts ih =>
  simp only [fineL,Bool.and_eq_true] at h
  intro i hi
  cases i with
  | zero=>exact h.1
  | succ i=>exact ih h.2 i (by simpa using hi)
theorem nodes_ge (ts:List Tn):ts.length≤nodesL ts:=by
 induction ts with
 | nil=>simp
 | cons t ts ih=>simp only [nodesL,List.length_cons];have:=t.pos;omega
theorem nodes_get (ts:List Tn):∀ (i:Nat) (hi:i < ts.length),ts[i].nodes≤nodesL ts:=by
 induction ts with
 | nil=>intro i hi;simp at hi
 | cons t ts ih =>
  intro i hi
  cases i with
  | zero=>simp only [nodesL,List.getElem_cons_zero];omega
  | succ i=>have:=ih i (by simpa using hi);simp only [nodesL,List.getElem_cons_succ];omega
structure FineN (k:Int) (R:List (Int × Int)) (a:Int) (n:Nat) (mn mx:Int) (lz:Bool) (ix:Int) (nm:ByteArray):Prop where
 kind:k=1∨k=2∨k=3∨k=4∨k=5∨k=6∨k=7
 grp:k=7→n=1
 rng:k≠2→R.length=0
 cls:k=2→rightB R=true
 ast:k=3→assertB a=true
 nas:k≠3→a=0
theorem fine_node {k:Int} {R:List (Int × Int)} {a:Int} {n:Nat} {mn mx:Int} {lz:Bool} {ix:Int} {nm:ByteArray} (h:nodeB k R a n mn mx lz ix nm=true):FineN k R a n mn mx lz ix nm:=by
 have hk:k=1∨k=2∨k=3∨k=4∨k=5∨k=6∨k=7:=by
  by_cases h':k≠1∧k≠2∧k≠3∧k≠4∧k≠5∧k≠6∧k≠7
  ·rw [nodeB_ne h'] at h;cases h
  ·omega
 rcases hk with rfl | rfl | rfl | rfl | rfl | rfl | rfl <;> simp [nodeB,bareB] at h <;> refine ⟨by omega,by omega,?_,?_,?_,?_⟩ <;> first | (intro h';omega) | (intro _;exact h.1) | (intro _;simp [h])
end Go.Proofs.YtacaanhnlfpbhaaGreat
namespace Go.Proofs.YtacaanhnlfpbhaaGreat
open Go.RowKit
set_option linter.unusedVariables false
set_option linter.unusedSimpArgs false
theorem row_nine {w:World} {base n:Nat} {a:Option Addr} {l c:Nat} {MS:List Nv} (h:w.ownsRow base 25 9 (.slice a l c) n (MS.flatMap Nv.cs)) (hn:n=MS.length) (hp:0 < n):∃ b,a=some ⟨b,0,none⟩∧(Value.slice a l c).ownBlock=some b∧∀ i (hi:i < MS.length),N9 w b 0 i MS[i]:=by
 rcases h.2 with ⟨e,h0⟩ | ⟨b,cap,cur,e,_⟩
 ·omega
 ·rw [e] at h
  simp only [Value.slice.injEq] at e
  refine ⟨b,e.1,by rw [e.1];rfl,fun i hi=>?_⟩
  have c:∀ k,k < 9→w.cell? ⟨b,0 + i * 9 + k,none⟩=(Nv.cs MS[i])[k]?:=fun k hk=>by
   rw [Nat.zero_add,h.cellAt (i * 9 + k) (by omega),flat9 MS i k hi hk]
  exact ⟨c 0 (by omega),c 1 (by omega),c 2 (by omega),c 3 (by omega),c 4 (by omega),c 5 (by omega),c 6 (by omega),c 7 (by omega),c 8 (by omega)⟩
abbrev NK (k:Int):Nv:=⟨k,none,0,0,0,none,0,0,0,0,false,0,⟨#[]⟩⟩
abbrev NO (k mn mx:Int) (lz:Bool) (ix:Int) (nm:ByteArray):Nv:=⟨k,none,0,0,0,none,0,0,mn,mx,lz,ix,nm⟩
def New (A:Nat→Prop) (w w':World):Nat→Prop:=fun b=>A b∨w.heap.size≤b∧b < w'.heap.size
theorem New.low {A:Nat→Prop} {w w':World} (hA:∀ b,A b→b < w.heap.size) (h1:w.heap.size≤w'.heap.size):∀ b,New A w w' b→b < w'.heap.size:=fun b h=>by
 rcases h with h | h
 ·have:=hA b h;omega
 ·omega
theorem ok_NO (k mn mx:Int) (lz:Bool) (ix:Int) (nm:ByteArray) (hk:I64ok k) (h1:I64ok mn) (h2:I64ok mx) (h3:I64ok ix) (h4:nm.size≤maxLen):(NO k mn mx lz ix nm).ok:=
 ⟨hk,by constructor <;> simp,h1,h2,h3,h4,⟨Nat.le_refl _,Nat.zero_le _⟩,⟨Nat.le_refl _,Nat.zero_le _⟩⟩
theorem below_drew (w:World):Below w.heap.size w w.drew:=⟨rfl,rfl,rfl,Nat.le_refl _,fun _ _=>rfl⟩
theorem depthL_mem {ts:List Tn} {t:Tn} (h:t ∈ ts):t.depth≤depthL ts:=by
 induction ts with
 | nil=>cases h
 | cons u ts ih =>
  simp only [depthL]
  rcases List.mem_cons.1 h with rfl | h
  ·omega
  ·have:=ih h;omega
theorem depthL_le_of {ts:List Tn} {M:Nat} (h:∀ t ∈ ts,t.depth≤M):depthL ts≤M:=by
 induction ts with
 | nil=>simp [depthL]
 | cons u ts ih=>simp only [depthL];have:=h u (by simp);have:=ih (fun t ht=>h t (by simp [ht]));omega
theorem moved_below {w:World} {B:Nat} {W w3:World} {v v':Value} (hb:Below B W w) (hB:B≤w.heap.size) (hv:∀ k,v.ownBlock=some k→B≤k) (hm:Moved w w3 v v'):Below B W w3∧w.heap.size≤w3.heap.size:=by
 have hs3:w.heap.size≤w3.heap.size:=by rcases hm with ⟨_,h⟩ | ⟨_,h⟩ <;> exact h.size
 have hold:∀ k,k < B→w3.heap[k]?=w.heap[k]?:=fun k hk=>moved_old' hm (by omega) (fun e=>by have:=hv k e;omega)
 refine ⟨⟨?_,?_,?_,by have:=hb.size;omega,fun k hk=>(hold k hk).trans (hb.block k hk)⟩,hs3⟩
 ·rcases hm with ⟨_,h⟩ | ⟨_,h⟩ <;> exact h.os.trans hb.os
 ·rcases hm with ⟨_,h⟩ | ⟨_,h⟩ <;> exact h.tape.trans hb.tape
 ·rcases hm with ⟨_,h⟩ | ⟨_,h⟩ <;> exact h.output.trans hb.output
abbrev BN (w:World) (b:Nat) (N:Nv):Prop:=w.heap[b]?=some (.cells #[.int .i64 N.k,.slice N.r1 N.r2 N.r3,.int .i64 N.a2,.slice N.s1 N.s2 N.s3,.int .i64 N.a4,.int .i64 N.a5,.bool N.a6,.int .i64 N.a7,.string N.a8] 25 (0,0))
theorem optT_dle (y:Tn) (lz:Bool) (n:Nat):(optT y lz n).depth≤y.depth + 2 * n + 1:=by
 cases n with
 | zero=>simp [optT,Tn.depth,depthL]
 | succ n =>
  rw [optT_depth]
  have:n * (1 + if y.kind=1 then 0 else 1)≤n * 2:=Nat.mul_le_mul_left _ (by split <;> omega)
  omega
theorem wrapN (x:Nat) (h:x≤4611686018427387904):IntKind.i64.wrap (x:Int)=(x:Int):=by simp [IntKind.wrap,IntKind.bits,IntKind.signed];omega
theorem wrapNN (x y:Nat) (h:x + y≤4611686018427387904):IntKind.i64.wrap ((x:Int) + (y:Int))=(x:Int) + (y:Int):=by simp [IntKind.wrap,IntKind.bits,IntKind.signed];omega
end Go.Proofs.YtacaanhnlfpbhaaGreat
