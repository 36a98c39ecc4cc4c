/- HELPERS: texts of ours put together. -/
import Derived.Test.YtacaanhnlfpbhaaGreatK02
import Derived.Test.YtacaanhnlfpbhaaGreatK01
import Derived.Test.YtacaanhnlfpbhaaGreatK03
import Derived.Laws.EntriesVeiled
import Derived.Laws.BitsLemmas
import Derived.WalkLawsBesides
import Derived.Test.YtacaanhnlfpbhaaGreatK08
import Derived.Test.YtacaanhnlfpbhaaGreatK04
import Derived.Test.YtacaanhnlfpbhaaGreatK05
import Derived.Lib.SliceRun
import Derived.Deep.OwnRows
import Derived.Deep.Cut
import Derived.Deep.CutRange
import Derived.OrdersHeld
import Derived.StillTail
import Derived.Tactics
import Derived.RowKit
import Derived.Below
import Derived.Test.YtacaanhnlfpbhaaGreatK07
import Derived.Deep.Onto
import Derived.Deep.RegionHeld3
import Derived.Laws.Rows
import Derived.Lib.MinMax
import Derived.Lib.AppendZerosOnto
import Derived.Deep.RegionHeld2
import Derived.Deep.LoopGhost
import Derived.WalkMore
import Derived.Test.YtacaanhnlfpbhaaGreatK06
import Derived.LoopN
import Derived.Laws.IdiomCopy
import Derived.Test.YtacaanhnlfpbhaaGreatProg
import Derived.WalkKit
import Derived.ProofKit
import Derived.BigQuiet
import Derived.WalkSmall
import Derived.Deep.QuietTactic
import Derived.Deep.RegionWith
import Derived.Deep.WholeRow
import Derived.Deep.SlicePairs
import Derived.Lib.LazyBuf
import Derived.Deep.MidRow
namespace Go.Proofs.YtacaanhnlfpbhaaGreat
open Go.RowKit
set_option linter.unusedVariables false
set_option linter.unusedSimpArgs false
theorem u64_in (n:Nat) (h:n < 2 ^ 64):IntKind.u64.wrap (n:Int)=(n:Int):=by
 simp [IntKind.wrap,IntKind.bits,IntKind.signed]
 omega
theorem u64_in' (n:Int) (h0:0≤n) (h:n < 2 ^ 64):IntKind.u64.wrap n=n:=by
 simp [IntKind.wrap,IntKind.bits,IntKind.signed]
 omega
theorem pow_lt (i:Nat):2 ^ (i % 64) < 2 ^ 64:=Nat.pow_lt_pow_right (by decide) (Nat.mod_lt _ (by decide))
abbrev U64 (M:List Nat):List Value:=M.map (fun (x:Nat)=>Value.int .u64 (x:Int))
theorem getD_in (M:List Nat) {j:Nat} (hj:j < M.length):M.getD j 0=M[j]:=by simp [List.getD,hj]
theorem and_pow (a k:Nat):a &&& 2 ^ k=if a.testBit k then 2 ^ k else 0:=by
 apply Nat.eq_of_testBit_eq
 intro j
 rw [Nat.testBit_and,Nat.testBit_two_pow]
 by_cases hj:k=j
 ·subst hj
  by_cases h:a.testBit k=true
  ·simp [h,Nat.testBit_two_pow]
  ·simp [h]
 ·by_cases h:a.testBit k=true
  ·simp [h,Nat.testBit_two_pow,hj]
  ·simp [h,hj]
structure Marks (n:Nat) (M:List Nat) (l:List Int):Prop where
 len:M.length=(n + 63) / 64
 fits:∀ x ∈ M,x < 2 ^ 64
 bit:∀ i,i < n→(M.getD (i / 64) 0).testBit (i % 64)=decide ((i:Int) ∈ l)
 rng:∀ x ∈ l,0≤x∧x < n
theorem Marks.get {n:Nat} {M:List Nat} {l:List Int} (h:Marks n M l) (j:Nat):M.getD j 0 < 2 ^ 64:=by
 by_cases hj:j < M.length
 ·rw [getD_in M hj]
  exact h.fits _ (List.getElem_mem hj)
 ·rw [show M.getD j 0=0 by simp [List.getD,List.getElem?_eq_none (Nat.le_of_not_lt hj)]]
  decide
theorem Marks.has {n i:Nat} {M:List Nat} {l:List Int} (h:Marks n M l) (hi:i < n) :
  (bits .and .u64 ((M.getD (i / 64) 0:Nat):Int) ((2 ^ (i % 64):Nat):Int) != 0)=decide ((i:Int) ∈ l):=by
 rw [(bits_nat .u64 64 (by decide) u64_in' _ _ (h.get _) (pow_lt i)).1,← h.bit i hi]
 rw [and_pow]
 have hp:0 < 2 ^ (i % 64):=Nat.pow_pos (by decide)
 by_cases hb:(M.getD (i / 64) 0).testBit (i % 64)=true
 ·rw [if_pos hb,hb]
  have:((2 ^ (i % 64):Nat):Int)≠0:=by omega
  exact bne_iff_ne.2 this
 ·rw [if_neg hb]
  simp only [Bool.not_eq_true] at hb
  rw [hb]
  rfl
theorem Marks.add {n i:Nat} {M:List Nat} {l:List Int} (h:Marks n M l) (hi:i < n) :
  Marks n (M.set (i / 64) (M.getD (i / 64) 0 ||| 2 ^ (i % 64))) (l ++ [(i:Int)]):=by
 have hq:i / 64 < M.length:=by rw [h.len];omega
 refine ⟨by rw [List.length_set];exact h.len,fun x hx=>?_,fun k hk=>?_,fun x hx=>?_⟩
 ·rcases List.mem_or_eq_of_mem_set hx with hx | rfl
  ·exact h.fits x hx
  ·exact Nat.or_lt_two_pow (h.get _) (pow_lt i)
 ·have e:=h.bit k hk
  by_cases hkq:k / 64=i / 64
  ·rw [hkq,getD_in _ (by rw [List.length_set];exact hq),List.getElem_set_self,Nat.testBit_or,← hkq,e,Nat.testBit_two_pow]
   rw [Bool.eq_iff_iff]
   simp
   constructor
   ·rintro (h | h)
    ·exact .inl h
    ·right;omega
   ·rintro (h | h)
    ·exact .inl h
    ·right;omega
  ·have hne:(k:Int)≠(i:Int):=fun h=>hkq (by rw [show k=i by omega])
   rw [show (M.set (i / 64) (M.getD (i / 64) 0 ||| 2 ^ (i % 64))).getD (k / 64) 0=M.getD (k / 64) 0 by
    simp [List.getD,List.getElem?_set,show ¬ i / 64=k / 64 by omega],e]
   simp [hne]
 ·rcases List.mem_append.1 hx with hx | hx
  ·exact h.rng x hx
  ·simp at hx;omega
theorem Marks.none (n:Nat):Marks n (List.replicate ((n + 63) / 64) 0) []:=by
 refine ⟨by simp,fun x hx=>?_,fun i hi=>?_,fun x hx=>by cases hx⟩
 ·rw [List.eq_of_mem_replicate hx];decide
 ·have:(List.replicate ((n + 63) / 64) 0).getD (i / 64) 0=0:=by
   simp only [List.getD,List.getElem?_replicate]
   split <;> rfl
  rw [this]
  simp
theorem info68:(Tryz.prog.info? 233).map (fun i=>(i.zero,i.size,i.bytes))=some (some (.int .u64 0),1,8):=by kernel_rfl
theorem Chg.drewN {w w':World} {F F':List Nat} (h:Chg w w' F F') (k:Nat):Chg w (w'.drewN k) F F':=⟨h.os,h.tape,h.output,h.size,h.block,h.new⟩
end Go.Proofs.YtacaanhnlfpbhaaGreat
namespace Go.Proofs.YtacaanhnlfpbhaaGreat
open Go.RowKit Go.Lk
set_option linter.unusedVariables false
set_option linter.unusedSimpArgs false
structure Mv where
 ad:Option Addr
 n:Nat
 c:Nat
 S:Nat
 K:Nat
 tad:Option Addr
 tn:Nat
 tc:Nat
 j:Nat
 sb:Nat
 bits:Int
 z1:Option Addr
 n1:Nat
 c1:Nat
 k1:Nat
 z2:Option Addr
 n2:Nat
 c2:Nat
 k2:Nat
 ub:Nat
 uc:Nat
 fok:Bool
 f1:Option Addr
 f2:Nat
 f3:Nat
 fw:Int
 fs:Nat
theorem look_text {N:Nat} {w:World} {ad:Option Addr} {n:Nat} {l:List Int} (h:TextAt N w ad n l):Look.TextAt N w ad n l:=h
theorem look_at (l:List Int) (p:Nat) (hp:p≤l.length):Look.atN l (p:Int)=atP l p:=by
 unfold Look.atN
 rw [if_neg (by omega)]
 rfl
def FD (w:World) (N K:Nat) (M:Mv) (fb:List Nat):Fd→Prop
 | none=>M.fok=false∧M.f1=none∧M.f2=0∧M.f3=0∧M.fw=0∧fb=[]
 | some y=>∃ g,M.fok=true∧M.f1=some ⟨g,0,none⟩∧M.f2=K∧M.f3=K∧M.fw=y.1∧fb=[g]∧w.ownsRow N 3 1 (.slice (some ⟨g,0,none⟩) K K) K (I64 y.2)
structure En where
 i:Nat
 b:Nat
 c:List Int
instance:Inhabited En:=⟨⟨0,0,[]⟩⟩
def En.th (e:En):Th:=(e.i,e.c)
def En.cs (K:Nat) (e:En):List Value:=[.int .i64 (e.i:Int),.slice (some ⟨e.b,0,none⟩) K K]
structure Eqw (w w':World):Prop where
 heap:w'.heap=w.heap
 os:w'.os=w.os
 tape:w'.tape=w.tape
 output:w'.output=w.output
theorem Eqw.drewN (w:World) (k:Nat):Eqw w (w.drewN k):=⟨rfl,rfl,rfl,rfl⟩
theorem Eqw.drew (w:World):Eqw w w.drew:=⟨rfl,rfl,rfl,rfl⟩
theorem Eqw.trans {a b c:World} (h:Eqw a b) (k:Eqw b c):Eqw a c:=⟨k.heap.trans h.heap,k.os.trans h.os,k.tape.trans h.tape,k.output.trans h.output⟩
theorem Eqw.blk {w w':World} (h:Eqw w w') (k:Nat):w'.heap[k]?=w.heap[k]?:=by rw [h.heap]
theorem Eqw.below {w w':World} (h:Eqw w w') (B:Nat):Below B w w':=⟨h.os,h.tape,h.output,by rw [h.heap];exact Nat.le_refl _,fun k _=>h.blk k⟩
theorem Eqw.row {w w':World} (h:Eqw w w') {base e size n:Nat} {v:Value} {xs:List Value} (r:w.ownsRow base e size v n xs):w'.ownsRow base e size v n xs:=row_kept r (fun b _=>h.blk b)
theorem step_call2 {P:Program} {ops:Array Oper} {o:Oper} {a:Act} {w:World} {K:Act→World→Prop} {Q:Exit→Act→World→Prop} {E:Prop} (hg:o.guard=none) (f:FuncId) (x y:Operand) (t u:TypeId)
  (hop:o.op=Op.call { callee:=Callee.value (.func f),args:=#[x,y],argTypes:=#[t,u] }) (hen:∀ args w,(callFunc f args).run P w=.ok (.enter f args) w)
  (hc:Calls P f #[a.eval x,a.eval y] w fun e w'=>∃ v,e=.returned v∧K (a.put o.dst v) w') :
  if Region.wanted o (yielded ops a.tmps)=true then Oper.wp P o a w K Q else E:=by
 have hw:Region.wanted o (yielded ops a.tmps)=true:=by simp [Region.wanted,hg]
 rw [if_pos hw]
 have h2:=hen #[a.eval x,a.eval y] w
 unfold Oper.wp
 have ev:a.eval (.func f)=.func (.func f) #[] #[]:=rfl
 simp [execOp,hop,resolve,invoke,ev,Deferred.ofValue,h2,Result.andThen]
 show Calls P f #[a.eval x,a.eval y] w _
 refine hc.mono fun e w' h=>?_
 obtain ⟨v,rfl,hk⟩:=h
 exact hk
end Go.Proofs.YtacaanhnlfpbhaaGreat
namespace Go.Proofs.YtacaanhnlfpbhaaGreat
open Go.RowKit
set_option linter.unusedVariables false
set_option linter.unusedSimpArgs false
def Parsed (N:Nat) (w:World) (pv:Value) (l:List (Int × List Int)):Prop:=∃ cs F,w.ownsRow N 57 2 pv l.length cs∧PR N w cs l F
def box (top len:Nat):List (Int × Int):=(List.range (top + 1)).flatMap fun (n:Nat)=>(List.range (len + 1)).map fun (p:Nat)=>((n:Int),(p:Int))
theorem mem_box {top len:Nat} {n:Int} {p:Nat} (h0:0≤n) (h1:n≤(top:Int)) (hp:p≤len):(n,(p:Int)) ∈ box top len:=by
 simp only [box,List.mem_flatMap,List.mem_range,List.mem_map]
 exact ⟨n.toNat,by omega,p,by omega,by rw [Int.toNat_of_nonneg h0]⟩
def left (top len:Nat) (s:Sg):Nat:=(box top len).countP fun q=>!decide (q ∈ s.done)
def left1 (len:Nat) (s:Sg):Nat:=(List.range (len + 1)).countP fun (p:Nat)=>!decide ((1,(p:Int)) ∈ s.done)
theorem countP_lt {α:Type} {l:List α} {p p':α→Bool} (h:∀ x ∈ l,p' x=true→p x=true) {q:α} (hq:q ∈ l) (h1:p q=true) (h2:p' q=false):l.countP p' + 1≤l.countP p:=by
 induction l with
 | nil=>cases hq
 | cons x l ih =>
  have hm:l.countP p'≤l.countP p:=List.countP_mono_left fun y hy=>h y (by simp [hy])
  simp only [List.mem_cons] at hq
  rcases hq with rfl | hq
  ·rw [List.countP_cons_of_pos h1,List.countP_cons_of_neg (by simp [h2])]
   omega
  ·have:=ih (fun y hy=>h y (by simp [hy])) hq
   by_cases hx:p' x=true
   ·rw [List.countP_cons_of_pos hx,List.countP_cons_of_pos (h x (by simp) hx)]
    omega
   ·rw [List.countP_cons_of_neg hx,List.countP_cons]
    omega
theorem left_done {top len:Nat} {s:Sg} {n:Int} {p:Nat} (h0:0≤n) (h1:n≤(top:Int)) (hp:p≤len) (hn:(n,(p:Int)) ∉ s.done):left top len { s with done:=s.done ++ [(n,(p:Int))] } + 1≤left top len s:=by
 refine countP_lt (fun x _ hx=>?_) (mem_box h0 h1 hp) (by simpa using hn) (by simp)
 simp at hx ⊢
 exact hx.1
theorem left1_le {len:Nat} {s:Sg} {q:Int × Int}:left1 len { s with done:=s.done ++ [q] }≤left1 len s:=by
 refine List.countP_mono_left fun x _ hx=>?_
 simp at hx ⊢
 exact hx.1
theorem left1_done {len:Nat} {s:Sg} {p:Nat} (hp:p≤len) (hn:((1:Int),(p:Int)) ∉ s.done):left1 len { s with done:=s.done ++ [(1,(p:Int))] } + 1≤left1 len s:=by
 refine countP_lt (q:=p) (fun x _ hx=>?_) (by simp;omega) (by simpa using hn) (by simp)
 simp at hx ⊢
 exact hx.1
def Good (tx:List Int) (E:Nat→Way) (top:Nat) (s:Sg) (W:Way) (p:Nat):Prop:=
 ∃ s',Ex tx E W p s s'∧s'.parses.length + left1 tx.length s'≤s.parses.length + left1 tx.length s∧left top tx.length s'≤left top tx.length s∧s'.notes.length=s.notes.length
section
variable {tx:List Int} {E:Nat→Way} {top:Nat}
mutual
theorem good_way (m:Nat) (IH:∀ s W p,left top tx.length s < m→W.tg top→p≤tx.length→Good tx E top s W p) (A:Nat→Prop) (hA:∀ b,A b→∀ s p,left top tx.length s≤m→p≤tx.length→Good tx E top s (.again b) p) :
  ∀ (W:Way),W.tg top→(∀ b ∈ W.ua,A b)→∀ s p,left top tx.length s≤m→p≤tx.length→Good tx E top s W p
 | .through,hg,_,s,p,hs,hp=>by simp [Way.tg] at hg
 | .once n d,hg,_,s,p,hs,hp=>by
  simp only [Way.tg] at hg
  by_cases hd:(n,(p:Int)) ∈ s.done
  ·exact ⟨s,.skip hd,Nat.le_refl _,Nat.le_refl _,rfl⟩
  ·have hl:=left_done hg.1.1 hg.1.2 hp hd
   rcases hg.2 with ⟨rfl,rfl⟩ | hg2
   ·have hl1:=left1_done (len:=tx.length) hp hd
    refine ⟨_,.once hd (.through p _),?_,?_,rfl⟩
    ·show (s.parses ++ [((p:Int),s.notes.set 1 (p:Int))]).length + left1 tx.length { s with done:=s.done ++ [(1,(p:Int))] }≤_
     simp only [List.length_append,List.length_cons,List.length_nil]
     omega
    ·show left top tx.length { s with done:=s.done ++ [(1,(p:Int))] }≤_
     omega
   ·obtain ⟨s',h1,h2,h3,h4⟩:=IH { s with done:=s.done ++ [(n,(p:Int))] } d p (by omega) hg2 hp
    have hl1:=left1_le (len:=tx.length) (s:=s) (q:=(n,(p:Int)))
    exact ⟨s',.once hd h1,by have h2:s'.parses.length + left1 tx.length s'≤s.parses.length + left1 tx.length { s with done:=s.done ++ [(n,(p:Int))] }:=h2;omega,by omega,h4⟩
 | .noted c d,hg,hu,s,p,hs,hp=>by
  simp only [Way.tg] at hg
  obtain ⟨s',h1,h2,h3,h4⟩:=good_way m IH A hA d hg (fun b hb=>hu b (by simpa [Way.ua] using hb)) { s with notes:=s.notes.set c (p:Int) } p hs hp
  exact ⟨_,.noted h1,h2,h3,by simpa using h4⟩
 | .runeOf R d,hg,hu,s,p,hs,hp=>by
  simp only [Way.tg] at hg
  by_cases h:tx.length≤p
  ·exact ⟨s,.over h,Nat.le_refl _,Nat.le_refl _,rfl⟩
  ·by_cases hr:(rightB R && hasB R (tx.getD p 0))=true
   ·obtain ⟨s',h1,h2,h3,h4⟩:=good_way m IH A hA d hg (fun b hb=>hu b (by simpa [Way.ua] using hb)) s (p + 1) hs (by omega)
    exact ⟨s',.rune (by omega) hr h1,h2,h3,h4⟩
   ·exact ⟨s,.other (by omega) (by simpa using hr),Nat.le_refl _,Nat.le_refl _,rfl⟩
 | .ifHolds a d,hg,hu,s,p,hs,hp=>by
  simp only [Way.tg] at hg
  by_cases h:heldB tx a p=true
  ·obtain ⟨s',h1,h2,h3,h4⟩:=good_way m IH A hA d hg (fun b hb=>hu b (by simpa [Way.ua] using hb)) s p hs hp
   exact ⟨s',.holds h h1,h2,h3,h4⟩
  ·exact ⟨s,.fails (by simpa using h),Nat.le_refl _,Nat.le_refl _,rfl⟩
 | .inOrder l,hg,hu,s,p,hs,hp=>by
  simp only [Way.tg] at hg
  obtain ⟨ss,h0,h1,h2⟩:=good_ways m IH A hA l hg (fun b hb=>hu b (by simpa [Way.ua] using hb)) s p hs hp
  subst h0
  exact ⟨_,.inOrder ss h1,h2⟩
 | .again b,hg,hu,s,p,hs,hp=>hA b (hu b (by simp [Way.ua])) s p hs hp
theorem good_ways (m:Nat) (IH:∀ s W p,left top tx.length s < m→W.tg top→p≤tx.length→Good tx E top s W p) (A:Nat→Prop) (hA:∀ b,A b→∀ s p,left top tx.length s≤m→p≤tx.length→Good tx E top s (.again b) p) :
  ∀ (l:List Way),tgL top l→(∀ b ∈ uaL l,A b)→∀ s p,left top tx.length s≤m→p≤tx.length→∃ ss:Nat→Sg,ss 0=s∧(∀ i (hi:i < l.length),Ex tx E (l[i]'hi) p (ss i) (ss (i + 1))) ∧
   (ss l.length).parses.length + left1 tx.length (ss l.length)≤s.parses.length + left1 tx.length s∧left top tx.length (ss l.length)≤left top tx.length s∧(ss l.length).notes.length=s.notes.length
 | [],hg,hu,s,p,hs,hp=>⟨fun _=>s,rfl,fun i hi=>by simp at hi,Nat.le_refl _,Nat.le_refl _,rfl⟩
 | d :: l,hg,hu,s,p,hs,hp=>by
  simp only [tgL] at hg
  obtain ⟨s1,h1,h2,h3,h4⟩:=good_way m IH A hA d hg.1 (fun b hb=>hu b (by simp [uaL,hb])) s p hs hp
  obtain ⟨ss,e0,e1,e2,e3,e4⟩:=good_ways m IH A hA l hg.2 (fun b hb=>hu b (by simp [uaL,hb])) s1 p (by omega) hp
  refine ⟨fun i=>match i with | 0=>s | i + 1=>ss i,rfl,fun i hi=>?_,by simp only [List.length_cons];omega,by simp only [List.length_cons];omega,by simp only [List.length_cons];rw [e4,h4]⟩
  cases i with
  | zero=>simpa [e0] using h1
  | succ i=>simpa using e1 i (by simpa using hi)
end
theorem good_all (hE:∀ b,(E b).tg top∧(E b).ua=[]):∀ (m:Nat) (s:Sg) (W:Way) (p:Nat),left top tx.length s≤m→W.tg top→p≤tx.length→Good tx E top s W p:=by
 intro m
 induction m using Nat.strongRecOn with
 | _ m ihm =>
 have IH:∀ s W p,left top tx.length s < m→W.tg top→p≤tx.length→Good tx E top s W p:=fun s W p h1 h2 h3=>ihm (left top tx.length s) h1 s W p (Nat.le_refl _) h2 h3
 have hA:∀ b,True→∀ s p,left top tx.length s≤m→p≤tx.length→Good tx E top s (.again b) p:=fun b _ s p hs hp=>by
  obtain ⟨s',h1,h2⟩:=good_way m IH (fun _=>False) (fun b hb=>hb.elim) (E b) (hE b).1 (fun x hx=>by rw [(hE b).2] at hx;cases hx) s p hs hp
  exact ⟨s',.again h1,h2⟩
 intro s W p hs hW hp
 exact good_way m IH (fun _=>True) hA W hW (fun _ _=>trivial) s p hs hp
end
structure PS (t:Tn) (K:Nat) (tx:List Int) (p:Nat) (l:List (Int × List Int)):Prop where
 ex:∃ (E:Nat→Way) (W:Way) (n1:Int) (s':Sg),Beg E t 1 (.once 1 .through) n1 W∧(∀ b,Gw (E b)∧(E b).ua=[])∧Gw W∧Ex tx E W p ⟨[],(List.replicate K (-1)).set 0 (p:Int),[]⟩ s'∧l=s'.parses
def envOf (LE:List (Nat × Way)) (b:Nat):Way:=((LE.find? fun p=>p.1 == b).map Prod.snd).getD (.inOrder [])
theorem envOf_mem:∀ (LE:List (Nat × Way)),(LE.map Prod.fst).Nodup→∀ p ∈ LE,envOf LE p.1=p.2:=by
 intro LE
 induction LE with
 | nil=>intro _ p hp;cases hp
 | cons q LE ih =>
  intro hn p hp
  simp only [List.map_cons,List.nodup_cons] at hn
  simp only [List.mem_cons] at hp
  rcases hp with rfl | hp
  ·simp [envOf]
  ·have hne:q.1≠p.1:=fun e=>hn.1 (by rw [e];exact List.mem_map_of_mem hp)
   have:=ih hn.2 p hp
   simp only [envOf,List.find?_cons] at this ⊢
   rw [show (q.1 == p.1)=false by simpa using hne]
   exact this
theorem envOf_good (LE:List (Nat × Way)) (h:∀ p ∈ LE,Gw p.2∧p.2.ua=[]) (b:Nat):Gw (envOf LE b)∧(envOf LE b).ua=[]:=by
 unfold envOf
 cases hf:LE.find? fun p=>p.1 == b with
 | none=>exact ⟨.inOrder .nil,by simp [Way.ua,uaL]⟩
 | some p=>exact h p (List.mem_of_find?_eq_some hf)
section
variable {E:Nat→Way}
def upd (Bd:Int→Way) (n:Int) (W:Way):Int→Way:=fun m=>if m=n then W else Bd m
end
def errP (t:Tn) (tn:Nat) (at_:Int):Int:=if 64 < tn then 2 else if t.sound=false then 50 else if 2000 < t.sz then 3 else if at_ < 0∨(tn:Int) < at_ then 1 else 0
theorem fine_gi:∀ (t:Tn),t.fine=true→0≤t.gi∧t.gi≤500:=by
 have key:∀ (ts:List Tn) (m:Int),(∀ t ∈ ts,t.gi≤500)→m≤500→giL ts m≤500:=by
  intro ts
  induction ts with
  | nil=>intro m _ h;simpa [giL] using h
  | cons t ts ih=>intro m h1 h2;simp only [giL];exact ih _ (fun u hu=>h1 u (by simp [hu])) (by have:=h1 t (by simp);omega)
 have hix:∀ {k:Int} {R:List (Int × Int)} {a:Int} {n:Nat} {mn mx:Int} {lz:Bool} {ix:Int} {nm:ByteArray},nodeB k R a n mn mx lz ix nm=true→0≤ix∧ix≤500:=fun h=>by
  have FN:=fine_nodeZ h
  rename_i k _ _ _ _ _ _ _ _
  by_cases h7:k=7
  ·have:=FN.grp h7;omega
  ·have:=FN.idx h7;omega
 intro t
 obtain ⟨d,hd⟩:∃ d,t.depth≤d:=⟨_,Nat.le_refl _⟩
 induction d generalizing t with
 | zero=>cases t;simp [Tn.depth] at hd
 | succ d ih =>
  cases t with
  | mk k R a s mn mx lz ix nm =>
   intro hf
   simp only [Tn.fine,Bool.and_eq_true] at hf
   simp only [Tn.depth] at hd
   have hi:=hix hf.1
   have hs:∀ u ∈ s,u.gi≤500:=by
    intro u hu
    have hdu:u.depth≤d:=by
     have:∀ (l:List Tn),u ∈ l→u.depth≤depthL l:=by
      intro l
      induction l with
      | nil=>intro h;cases h
      | cons v l ihl =>
       intro h
       simp only [List.mem_cons] at h
       simp only [depthL]
       rcases h with rfl | h
       ·omega
       ·have:=ihl h;omega
     have:=this s hu
     omega
    obtain ⟨i,hi2,rfl⟩:=List.mem_iff_getElem.1 hu
    exact (ih _ hdu (fineL_get hf.2 i hi2)).2
   simp only [Tn.gi]
   exact ⟨by have:=(giL_ge s ix).1;omega,key s ix hs hi.2⟩
theorem sound_parts {t:Tn} (h:t.sound=true):t.fine=true∧t.depth≤10000∧t.nodes≤200000:=by
 simp only [Tn.sound,Bool.and_eq_true,decide_eq_true_eq] at h
 exact ⟨h.1.1,h.1.2,h.2⟩
abbrev Tn.notes (t:Tn):Nat:=(2 * t.gi + 2).toNat
theorem PR.le {N N':Nat} {w:World} {cs:List Value} {l:List (Int × List Int)} {F:List Nat} (h:PR N w cs l F) (hN:N'≤N):PR N' w cs l F:=by
 induction h with
 | nil=>exact .nil
 | cons h hl ih=>exact .cons (Joins.ownsRow_le h hN) ih
theorem Ex.notes {tx:List Int} {E:Nat→Way} {W:Way} {p:Nat} {s s':Sg} (h:Ex tx E W p s s'):s'.notes=s.notes:=by
 induction h with
 | through p s=>rfl
 | skip h=>rfl
 | once h hd ih=>exact ih
 | @noted c d p s s' hd ih =>
  show s'.notes.set c (s.notes.getD c 0)=s.notes
  rw [ih]
  show (s.notes.set c (p:Int)).set c (s.notes.getD c 0)=s.notes
  rw [List.set_set]
  by_cases hc:c < s.notes.length
  ·rw [show s.notes.getD c 0=s.notes[c] by simp [List.getD_eq_getElem?_getD,hc],List.set_getElem_self]
  ·exact List.set_eq_of_length_le (by omega)
 | over h=>rfl
 | other h hr=>rfl
 | rune h hr hd ih=>exact ih
 | fails h=>rfl
 | holds h hd ih=>exact ih
 | @inOrder l p ss h ih =>
  have key:∀ i,i≤l.length→(ss i).notes=(ss 0).notes:=by
   intro i
   induction i with
   | zero=>intro _;rfl
   | succ i ihi=>intro hi;rw [ih i (by omega),ihi (by omega)]
  exact key _ (Nat.le_refl _)
 | again h ih=>exact ih
theorem getD_set_ne {l:List Int} {i j:Nat} {x:Int} (h:i≠j):(l.set i x).getD j 0=l.getD j 0:=by
 simp only [List.getD_eq_getElem?_getD,List.getElem?_set_ne h]
section
variable {E:Nat→Way}
end
structure Mat where
 C:Int→Int→Prop
 L:Nat→Nat→Prop
 X:Int→Int→Prop
 Bd:Int→Way
 drop:Bool
 NR:List Int→List Int→Prop
 PR:List (Int × List Int)→List (Int × List Int)→Prop
inductive Hdp (G:Mat):Way→Int→Prop
 | once {n n':Int} {d:Way} (h:G.C n n'):Hdp G (.once n d) n
 | more {m n0:Int} {d:Way} (hX:G.X m n0) (h:Hdp G d n0):Hdp G (.once m d) n0
 | noted {c:Nat} {n0:Int} {d:Way} (h:Hdp G d n0):Hdp G (.noted c d) n0
inductive SimY (G:Mat):Way→Way→Prop
 | through:SimY G .through .through
 | once {n n':Int} {d d':Way} (hC:G.C n n') (h:SimY G d d'):SimY G (.once n d) (.once n' d')
 | more {m n0:Int} {d W':Way} (hX:G.X m n0) (hb:G.Bd m=d) (hh:Hdp G d n0) (h:SimY G d W'):SimY G (.once m d) W'
 | noted {c:Nat} {d d':Way} (hk:G.drop=false) (h:SimY G d d'):SimY G (.noted c d) (.noted c d')
 | dropped {c:Nat} {d W':Way} (hk:G.drop=true) (h:SimY G d W'):SimY G (.noted c d) W'
 | runeOf {R:Rng} {d d':Way} (h:SimY G d d'):SimY G (.runeOf R d) (.runeOf R d')
 | ifHolds {a:Int} {d d':Way} (h:SimY G d d'):SimY G (.ifHolds a d) (.ifHolds a d')
 | inOrder {l l':List Way} (hl:l.length=l'.length) (h:∀ i (hi:i < l.length) (hi':i < l'.length),SimY G (l[i]'hi) (l'[i]'hi')):SimY G (.inOrder l) (.inOrder l')
 | again {b b':Nat} (h:G.L b b'):SimY G (.again b) (.again b')
structure Mat.Ok (G:Mat) (E E':Nat→Way):Prop where
 one:∀ n n' m m',G.C n n'→G.C m m'→(n=m↔n'=m')
 noC:∀ m n0 n',G.X m n0→¬ G.C m n'
 oneX:∀ m n0 n1,G.X m n0→G.X m n1→n0=n1
 loop:∀ b b',G.L b b'→SimY G (E b) (E' b')
 set:∀ c x ν ν',G.drop=false→G.NR ν ν'→G.NR (ν.set c x) (ν'.set c x)
 setL:∀ c x ν ν',G.drop=true→G.NR ν ν'→G.NR (ν.set c x) ν'
 par:∀ (p:Nat) ν ν' l l',G.NR ν ν'→G.PR l l'→G.PR (l ++ [((p:Int),ν.set 1 (p:Int))]) (l' ++ [((p:Int),ν'.set 1 (p:Int))])
structure Alk (G:Mat) (P:Int→Int→Prop) (s s':Sg):Prop where
 dn:∀ n n' q,G.C n n'→((n,q) ∈ s.done↔(n',q) ∈ s'.done)
 ex:∀ m n0 q,G.X m n0→(m,q) ∈ s.done→(n0,q) ∈ s.done∨P m q
 nt:G.NR s.notes s'.notes
 pr:G.PR s.parses s'.parses
abbrev NoP:Int→Int→Prop:=fun _ _=>False
section
variable {G:Mat} {tx:List Int} {E E':Nat→Way}
theorem Alk.none {P:Int→Int→Prop} {s s':Sg} (h:Alk G P s s') (hP:∀ m q,¬ P m q):Alk G NoP s s':=
 ⟨h.dn,fun m n0 q a b=>by rcases h.ex m n0 q a b with c | c;exact .inl c;exact absurd c (hP m q),h.nt,h.pr⟩
theorem Hdp.fn (hG:G.Ok E E') {W:Way} {a b:Int} (h:Hdp G W a):Hdp G W b→a=b:=by
 induction h with
 | @once n n' d h =>
  intro h2
  cases h2 with
  | once _=>rfl
  | more hX _=>exact absurd h (hG.noC _ _ _ hX)
 | more hX h ih =>
  intro h2
  cases h2 with
  | once h3=>exact absurd h3 (hG.noC _ _ _ hX)
  | more _ h3=>exact ih h3
 | noted h ih =>
  intro h2
  cases h2 with
  | noted h3=>exact ih h3
theorem noted_self (s:Sg) (c:Nat) (x:Int):{ s with notes:=(s.notes.set c x).set c (s.notes.getD c 0) }=s:=by
 have:(s.notes.set c x).set c (s.notes.getD c 0)=s.notes:=by
  rw [List.set_set]
  by_cases hc:c < s.notes.length
  ·rw [show s.notes.getD c 0=s.notes[c] by simp [List.getD_eq_getElem?_getD,hc],List.set_getElem_self]
  ·exact List.set_eq_of_length_le (by omega)
 rw [this]
theorem sim_skip (hG:G.Ok E E') {W W':Way} (h:SimY G W W'):∀ (n0 n0':Int) (p:Nat) (s':Sg),Hdp G W n0→G.C n0 n0'→(n0',(p:Int)) ∈ s'.done→Ex tx E' W' p s' s':=by
 induction h with
 | through=>intro n0 n0' p s' hh;cases hh
 | @once n n' d d' hC h ih =>
  intro n0 n0' p s' hh hc hd
  cases hh with
  | once _=>rw [← (hG.one _ _ _ _ hC hc).1 rfl] at hd;exact .skip hd
  | more hX _=>exact absurd hC (hG.noC _ _ _ hX)
 | more hX hb hh h ih =>
  intro n0 n0' p s' h2 hc hd
  cases h2 with
  | once h3=>exact absurd h3 (hG.noC _ _ _ hX)
  | more hX2 h3=>exact ih _ _ p s' h3 hc hd
 | @noted c d d' hk h ih =>
  intro n0 n0' p s' hh hc hd
  cases hh with
  | noted hh =>
   have this:Ex tx E' (.noted c d') p s' { s' with notes:=(s'.notes.set c (p:Int)).set c (s'.notes.getD c 0) }:=Ex.noted (c:=c) (ih n0 n0' p { s' with notes:=s'.notes.set c (p:Int) } hh hc hd)
   rw [noted_self] at this
   exact this
 | dropped hk h ih =>
  intro n0 n0' p s' hh hc hd
  cases hh with
  | noted hh=>exact ih n0 n0' p s' hh hc hd
 | runeOf h ih=>intro n0 n0' p s' hh;cases hh
 | ifHolds h ih=>intro n0 n0' p s' hh;cases hh
 | inOrder hl h ih=>intro n0 n0' p s' hh;cases hh
 | again h=>intro n0 n0' p s' hh;cases hh
theorem Hdp.c {W:Way} {n0:Int} (h:Hdp G W n0):∃ n0',G.C n0 n0':=by
 induction h with
 | once h=>exact ⟨_,h⟩
 | more _ _ ih=>exact ih
 | noted _ ih=>exact ih
def Pend (G:Mat) (P:Int→Int→Prop) (W:Way) (p:Nat):Prop:=∀ m q,P m q→q=(p:Int)∧(∃ n0,G.X m n0∧Hdp G W n0)∧SizeOf.sizeOf W≤SizeOf.sizeOf (G.Bd m)
theorem Pend.no (W:Way) (p:Nat):Pend G NoP W p:=fun m q h=>h.elim
theorem Alk.settle (hG:G.Ok E E') {P:Int→Int→Prop} {W:Way} {p:Nat} {n0:Int} {s s':Sg} (h:Alk G P s s') (hP:Pend G P W p) (hh:Hdp G W n0) (hd:(n0,(p:Int)) ∈ s.done):Alk G NoP s s':=
 ⟨h.dn,fun m n1 q a b=>by
  rcases h.ex m n1 q a b with c | c
  ·exact .inl c
  ·obtain ⟨rfl,⟨n2,h1,h2⟩,_⟩:=hP m q c
   rw [hG.oneX m n1 n2 a h1,h2.fn hG hh]
   exact .inl hd,h.nt,h.pr⟩
theorem Pend.none {P:Int→Int→Prop} {W:Way} {p:Nat} (hP:Pend G P W p) (hW:∀ n0,¬ Hdp G W n0):∀ m q,¬ P m q:=fun m q h=>by
 obtain ⟨_,⟨n0,_,h2⟩,_⟩:=hP m q h
 exact hW n0 h2
theorem sim_ex (hG:G.Ok E E') {W:Way} {p:Nat} {s s1:Sg} (h:Ex tx E W p s s1):∀ (W':Way) (s':Sg) (P:Int→Int→Prop),SimY G W W'→Alk G P s s'→Pend G P W p→∃ s1',Ex tx E' W' p s' s1'∧Alk G NoP s1 s1':=by
 induction h with
 | through p s =>
  intro W' s' P hS hA hP
  have hA:=hA.none (hP.none fun n0 h=>by cases h)
  cases hS
  exact ⟨_,.through p s',hA.dn,hA.ex,hA.nt,hG.par p _ _ _ _ hA.nt hA.pr⟩
 | @skip n d p s h =>
  intro W' s' P hS hA hP
  cases hS with
  | once hC hS=>exact ⟨s',.skip ((hA.dn _ _ _ hC).1 h),hA.settle hG hP (.once hC) h⟩
  | @more _ n0 _ _ hX hb hh hS =>
   have hd:(n0,(p:Int)) ∈ s.done:=by
    rcases hA.ex _ _ _ hX h with hd | hp
    ·exact hd
    ·have:=(hP _ _ hp).2.2
     rw [hb] at this
     simp at this
     omega
   obtain ⟨n0',hC⟩:=hh.c
   exact ⟨s',sim_skip hG hS n0 n0' p s' hh hC ((hA.dn _ _ _ hC).1 hd),hA.settle hG hP (.more hX hh) hd⟩
 | @once n d p s s1 h hd ih =>
  intro W' s' P hS hA hP
  cases hS with
  | @once _ n' _ d' hC hS =>
   have hn:(n',(p:Int)) ∉ s'.done:=fun hm=>h ((hA.dn _ _ _ hC).2 hm)
   have hA1:Alk G P { s with done:=s.done ++ [(n,(p:Int))] } { s' with done:=s'.done ++ [(n',(p:Int))] }:=by
    refine ⟨fun a a' q ha=>?_,fun m n0 q hX hm=>?_,hA.nt,hA.pr⟩
    ·simp only [List.mem_append,List.mem_singleton,Prod.mk.injEq]
     rw [hA.dn a a' q ha,hG.one a a' n n' ha hC]
    ·simp only [List.mem_append,List.mem_singleton,Prod.mk.injEq] at hm ⊢
     rcases hm with hm | ⟨rfl,rfl⟩
     ·rcases hA.ex m n0 q hX hm with hm | hm
      ·exact .inl (.inl hm)
      ·exact .inr hm
     ·exact absurd hC (hG.noC _ _ _ hX)
   have hA2:=hA1.settle hG hP (.once hC) (by simp)
   obtain ⟨s1',hx,hA3⟩:=ih d' _ NoP hS hA2 (Pend.no _ _)
   exact ⟨s1',.once hn hx,hA3⟩
  | @more _ n0 _ _ hX hb hh hS =>
   have hA1:Alk G (fun m q=>P m q∨(m=n∧q=(p:Int))) { s with done:=s.done ++ [(n,(p:Int))] } s':=by
    refine ⟨fun a a' q ha=>?_,fun m n1 q hX1 hm=>?_,hA.nt,hA.pr⟩
    ·simp only [List.mem_append,List.mem_singleton,Prod.mk.injEq]
     rw [← hA.dn a a' q ha]
     constructor
     ·rintro (hm | ⟨rfl,_⟩)
      ·exact hm
      ·exact absurd ha (hG.noC _ _ _ hX)
     ·exact .inl
    ·simp only [List.mem_append,List.mem_singleton,Prod.mk.injEq] at hm ⊢
     rcases hm with hm | hm
     ·rcases hA.ex m n1 q hX1 hm with hm | hm
      ·exact .inl (.inl hm)
      ·exact .inr (.inl hm)
     ·exact .inr (.inr hm)
   obtain ⟨s1',hx,hA3⟩:=ih W' s' _ hS hA1 (fun m q hm=>by
    rcases hm with hm | ⟨rfl,rfl⟩
    ·obtain ⟨a,⟨n2,b1,b2⟩,c⟩:=hP m q hm
     refine ⟨a,⟨n2,b1,?_⟩,?_⟩
     ·rw [← (Hdp.more hX hh).fn hG b2]
      exact hh
     ·simp at c
      omega
    ·exact ⟨rfl,⟨n0,hX,hh⟩,by rw [hb];exact Nat.le_refl _⟩)
   exact ⟨s1',hx,hA3⟩
 | @noted c d p s s1 hd ih =>
  intro W' s' P hS hA hP
  have hPd:Pend G P d p:=fun m q hm=>by
   obtain ⟨a,⟨n2,b1,b2⟩,e⟩:=hP m q hm
   cases b2 with
   | noted b2=>exact ⟨a,⟨n2,b1,b2⟩,by simp at e;omega⟩
  have hno:s1.notes.set c (s.notes.getD c 0)=s.notes:=(Ex.noted hd).notes
  cases hS with
  | @noted _ _ d' hk hS =>
   obtain ⟨s1',hx,hA3⟩:=ih d' { s' with notes:=s'.notes.set c (p:Int) } P hS ⟨hA.dn,hA.ex,hG.set c _ _ _ hk hA.nt,hA.pr⟩ hPd
   have hx2:=Ex.noted (c:=c) (s:=s') hx
   refine ⟨_,hx2,hA3.dn,hA3.ex,?_,hA3.pr⟩
   have e2:=hx2.notes
   simp only at e2 ⊢
   rw [hno,e2]
   exact hA.nt
  | dropped hk hS =>
   obtain ⟨s1',hx,hA3⟩:=ih W' s' P hS ⟨hA.dn,hA.ex,hG.setL c _ _ _ hk hA.nt,hA.pr⟩ hPd
   refine ⟨s1',hx,hA3.dn,hA3.ex,?_,hA3.pr⟩
   show G.NR (s1.notes.set c (s.notes.getD c 0)) s1'.notes
   rw [hno,hx.notes]
   exact hA.nt
 | over h =>
  intro W' s' P hS hA hP
  have hA:=hA.none (hP.none fun n0 h=>by cases h)
  cases hS with | runeOf hS=>exact ⟨s',.over h,hA⟩
 | other h hr =>
  intro W' s' P hS hA hP
  have hA:=hA.none (hP.none fun n0 h=>by cases h)
  cases hS with | runeOf hS=>exact ⟨s',.other h hr,hA⟩
 | rune h hr hd ih =>
  intro W' s' P hS hA hP
  have hA:=hA.none (hP.none fun n0 h=>by cases h)
  cases hS with
  | runeOf hS =>
   obtain ⟨s1',hx,hA3⟩:=ih _ s' NoP hS hA (Pend.no _ _)
   exact ⟨s1',.rune h hr hx,hA3⟩
 | fails h =>
  intro W' s' P hS hA hP
  have hA:=hA.none (hP.none fun n0 h=>by cases h)
  cases hS with | ifHolds hS=>exact ⟨s',.fails h,hA⟩
 | holds h hd ih =>
  intro W' s' P hS hA hP
  have hA:=hA.none (hP.none fun n0 h=>by cases h)
  cases hS with
  | ifHolds hS =>
   obtain ⟨s1',hx,hA3⟩:=ih _ s' NoP hS hA (Pend.no _ _)
   exact ⟨s1',.holds h hx,hA3⟩
 | @inOrder l p ss h ih =>
  intro W' s' P hS hA hP
  have hA:=hA.none (hP.none fun n0 h=>by cases h)
  cases hS with
  | @inOrder _ l' hl hS =>
   have key:∀ m,m≤l.length→∃ tt:Nat→Sg,tt 0=s'∧(∀ i (hi:i < l'.length),i < m→Ex tx E' (l'[i]'hi) p (tt i) (tt (i + 1)))∧Alk G NoP (ss m) (tt m):=by
    intro m
    induction m with
    | zero=>intro _;exact ⟨fun _=>s',rfl,fun i _ hi=>by omega,hA⟩
    | succ m im =>
     intro hm
     obtain ⟨tt,t0,t1,t2⟩:=im (by omega)
     obtain ⟨x,hx,hA3⟩:=ih m (by omega) _ (tt m) NoP (hS m (by omega) (by omega)) t2 (Pend.no _ _)
     refine ⟨fun i=>if i≤m then tt i else x,by simp [t0],fun i hi him=>?_,by show Alk G NoP _ (if m + 1≤m then _ else _);rw [if_neg (by omega)];exact hA3⟩
     by_cases e:i=m
     ·subst e
      show Ex tx E' _ p (if i≤i then _ else _) (if i + 1≤i then _ else _)
      rw [if_pos (Nat.le_refl _),if_neg (by omega)]
      exact hx
     ·simp only [show i≤m by omega,show i + 1≤m by omega,if_true]
      exact t1 i hi (by omega)
   obtain ⟨tt,t0,t1,t2⟩:=key _ (Nat.le_refl _)
   refine ⟨tt l'.length,?_,by rw [← hl];exact t2⟩
   rw [← t0]
   exact .inOrder tt fun i hi=>t1 i hi (by omega)
 | again h ih =>
  intro W' s' P hS hA hP
  have hA:=hA.none (hP.none fun n0 h=>by cases h)
  cases hS with
  | again hL =>
   obtain ⟨s1',hx,hA3⟩:=ih _ s' NoP (hG.loop _ _ hL) hA (Pend.no _ _)
   exact ⟨s1',.again hx,hA3⟩
end
theorem nodesL_app (ts us:List Tn):nodesL (ts ++ us)=nodesL ts + nodesL us:=by
 induction ts with
 | nil=>simp [nodesL]
 | cons t ts ih=>simp only [List.cons_append,nodesL,ih];omega
section
variable {E E':Nat→Way} {n n' n1 n1' n2 n2':Int} {G G1 G2:Mat}
theorem Hdp.up (hc:∀ a a',G.C a a'→G1.C a a') (hx:∀ m n0,G.X m n0→G1.X m n0) {W:Way} {h0:Int} (h:Hdp G W h0):Hdp G1 W h0:=by
 induction h with
 | once h=>exact .once (hc _ _ h)
 | more hX _ ih=>exact .more (hx _ _ hX) ih
 | noted _ ih=>exact .noted ih
def Mat.loops (G:Mat) (b b':Nat):Mat:={ G with L:=fun x x'=>G.L x x'∨(x=b∧x'=b') }
end
theorem Ex.det {tx:List Int} {E:Nat→Way} {W:Way} {p:Nat} {s s1:Sg} (h:Ex tx E W p s s1):∀ {s2:Sg},Ex tx E W p s s2→s1=s2:=by
 induction h with
 | through p s=>intro s2 h2;cases h2;rfl
 | skip h=>intro s2 h2;cases h2 with | skip _=>rfl | once hn _=>exact absurd h hn
 | once h hd ih=>intro s2 h2;cases h2 with | skip hn=>exact absurd hn h | once _ hd2=>exact ih hd2
 | noted hd ih=>intro s2 h2;cases h2 with | noted hd2=>rw [ih hd2]
 | over h=>intro s2 h2;cases h2 with | over _=>rfl | other h3 _=>omega | rune h3 _ _=>omega
 | other h hr=>intro s2 h2;cases h2 with | over h3=>omega | other _ _=>rfl | rune _ h3 _=>rw [hr] at h3;cases h3
 | rune h hr hd ih=>intro s2 h2;cases h2 with | over h3=>omega | other _ h3=>rw [hr] at h3;cases h3 | rune _ _ hd2=>exact ih hd2
 | fails h=>intro s2 h2;cases h2 with | fails _=>rfl | holds h3 _=>rw [h] at h3;cases h3
 | holds h hd ih=>intro s2 h2;cases h2 with | fails h3=>rw [h] at h3;cases h3 | holds _ hd2=>exact ih hd2
 | @inOrder l p ss h ih =>
  intro s2 h2
  obtain ⟨tt,e0,e1,h3⟩:∃ tt:Nat→Sg,tt 0=ss 0∧tt l.length=s2∧∀ i (hi:i < l.length),Ex tx E (l[i]'hi) p (tt i) (tt (i + 1)):=by
   generalize hs:ss 0=s0 at h2
   cases h2 with | inOrder tt h3=>exact ⟨tt,rfl,rfl,h3⟩
  have key:∀ i,i≤l.length→ss i=tt i:=by
   intro i
   induction i with
   | zero=>intro _;exact e0.symm
   | succ i ihi =>
    intro hi
    have:=h3 i (by omega)
    rw [← ihi (by omega)] at this
    exact ih i (by omega) this
  rw [key _ (Nat.le_refl _),e1]
 | again h ih=>intro s2 h2;cases h2 with | again h3=>exact ih h3
theorem Beg.rep {E:Nat→Way} {R:List (Int × Int)} {a:Int} {s:List Tn} {mn mx:Int} {lz:Bool} {ix:Int} {nm:ByteArray} {n n':Int} {B W:Way} (h:Beg E (.mk 6 R a s mn mx lz ix nm) n B n' W) :
  ∃ t,s=[t]∧((∃ b,mn=0∧mx=-1∧Beg E t (n + 1) (Dcd lz n b B) n' (E b)∧W=Dcd lz n b B)∨(∃ (b c:Nat) (n2:Int),mn=(c:Int) + 1∧mx=-1∧Beg E t (n + 1) (Dcd lz n b B) n2 (E b)∧BegT E t c n2 (E b) n' W) ∨
   (∃ (c m:Nat) (n1:Int) (W1:Way),mn=(c:Int)∧mx=(c:Int) + (m:Int)∧BegO E t lz B m n n1 W1∧BegT E t c n1 W1 n' W)):=by
 generalize hT:Tn.mk 6 R a s mn mx lz ix nm=T at h
 cases h with
 | any0 h=>simp only [Tn.mk.injEq] at hT;obtain ⟨_,rfl,rfl,rfl,rfl,rfl,rfl,rfl,rfl⟩:=hT;exact ⟨_,rfl,.inl ⟨_,rfl,rfl,h,rfl⟩⟩
 | any h hT2=>simp only [Tn.mk.injEq] at hT;obtain ⟨_,rfl,rfl,rfl,rfl,rfl,rfl,rfl,rfl⟩:=hT;exact ⟨_,rfl,.inr (.inl ⟨_,_,_,rfl,rfl,h,hT2⟩)⟩
 | bnd hO hT2=>simp only [Tn.mk.injEq] at hT;obtain ⟨_,rfl,rfl,rfl,rfl,rfl,rfl,rfl,rfl⟩:=hT;exact ⟨_,rfl,.inr (.inr ⟨_,_,_,_,rfl,rfl,hO,hT2⟩)⟩
 | _=>simp only [Tn.mk.injEq] at hT;exact absurd hT.1 (by decide)
theorem Beg.group {E:Nat→Way} {R:List (Int × Int)} {a:Int} {s:List Tn} {mn mx:Int} {lz:Bool} {ix:Int} {nm:ByteArray} {n n':Int} {B W:Way} (h:Beg E (.mk 7 R a s mn mx lz ix nm) n B n' W) :
  ∃ (t:Tn) (i:Nat) (n1:Int) (W1:Way),s=[t]∧ix=(i:Int)∧n'=n1 + 1∧W=.once (n1 + 1) (.noted (2 * i) W1)∧Beg E t n (.noted (2 * i + 1) B) n1 W1:=by
 generalize hT:Tn.mk 7 R a s mn mx lz ix nm=T at h
 cases h with
 | grp h=>simp only [Tn.mk.injEq] at hT;obtain ⟨_,rfl,rfl,rfl,rfl,rfl,rfl,rfl,rfl⟩:=hT;exact ⟨_,_,_,_,rfl,rfl,rfl,rfl,h⟩
 | _=>simp only [Tn.mk.injEq] at hT;exact absurd hT.1 (by decide)
theorem Beg.alts {E:Nat→Way} {R:List (Int × Int)} {a:Int} {s:List Tn} {mn mx:Int} {lz:Bool} {ix:Int} {nm:ByteArray} {n n':Int} {B W:Way} (h:Beg E (.mk 5 R a s mn mx lz ix nm) n B n' W) :
  ∃ (n1:Int) (Ws:List Way),n'=n1 + 1∧W=.once (n1 + 1) (.inOrder Ws)∧BegA E s n B n1 Ws:=by
 generalize hT:Tn.mk 5 R a s mn mx lz ix nm=T at h
 cases h with
 | alt h=>simp only [Tn.mk.injEq] at hT;obtain ⟨_,rfl,rfl,rfl,rfl,rfl,rfl,rfl,rfl⟩:=hT;exact ⟨_,_,rfl,rfl,h⟩
 | _=>simp only [Tn.mk.injEq] at hT;exact absurd hT.1 (by decide)
theorem Beg.empties {E:Nat→Way} {R:List (Int × Int)} {a:Int} {s:List Tn} {mn mx:Int} {lz:Bool} {ix:Int} {nm:ByteArray} {n n':Int} {B W:Way} (h:Beg E (.mk 1 R a s mn mx lz ix nm) n B n' W):n'=n + 1∧W=.once (n + 1) B:=by
 generalize hT:Tn.mk 1 R a s mn mx lz ix nm=T at h
 cases h with
 | empty=>exact ⟨rfl,rfl⟩
 | _=>simp only [Tn.mk.injEq] at hT;exact absurd hT.1 (by decide)
theorem Beg.classes {E:Nat→Way} {R:List (Int × Int)} {a:Int} {s:List Tn} {mn mx:Int} {lz:Bool} {ix:Int} {nm:ByteArray} {n n':Int} {B W:Way} (h:Beg E (.mk 2 R a s mn mx lz ix nm) n B n' W):n'=n + 1∧W=.once (n + 1) (.runeOf R B):=by
 generalize hT:Tn.mk 2 R a s mn mx lz ix nm=T at h
 cases h with
 | cls=>simp only [Tn.mk.injEq] at hT;obtain ⟨_,rfl,rfl,rfl,rfl,rfl,rfl,rfl,rfl⟩:=hT;exact ⟨rfl,rfl⟩
 | _=>simp only [Tn.mk.injEq] at hT;exact absurd hT.1 (by decide)
theorem BegA.last {E:Nat→Way} {ts:List Tn} {t:Tn} {n n2:Int} {B:Way} {Ws:List Way} (h:BegA E (ts ++ [t]) n B n2 Ws):∃ n1 Ws1 W,Ws=Ws1 ++ [W]∧BegA E ts n B n1 Ws1∧Beg E t n1 B n2 W:=by
 generalize hT:ts ++ [t]=T at h
 cases h with
 | nil=>simp at hT
 | snoc h h2 =>
  obtain ⟨rfl,e⟩:=List.append_inj' hT rfl
  simp at e
  subst e
  exact ⟨_,_,_,rfl,h,h2⟩
theorem BegA.none {E:Nat→Way} {n n2:Int} {B:Way} {Ws:List Way} (h:BegA E [] n B n2 Ws):n2=n∧Ws=[]:=by
 generalize hT:([]:List Tn)=T at h
 cases h with
 | nil=>exact ⟨rfl,rfl⟩
 | snoc h h2=>simp at hT
end Go.Proofs.YtacaanhnlfpbhaaGreat
