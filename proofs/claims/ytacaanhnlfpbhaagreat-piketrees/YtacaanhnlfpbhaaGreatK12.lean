/- HELPERS: texts of ours put together. -/
import Derived.Test.YtacaanhnlfpbhaaGreatK11
import Derived.Test.YtacaanhnlfpbhaaGreatK02
import Derived.Test.YtacaanhnlfpbhaaGreatK06
import Derived.Test.YtacaanhnlfpbhaaGreatK09
import Derived.Test.YtacaanhnlfpbhaaGreatK10
import Derived.Laws.EntriesVeiled
import Derived.Test.YtacaanhnlfpbhaaGreatK07
import Derived.Test.YtacaanhnlfpbhaaGreatK01
import Derived.WalkKit
import Derived.Laws.BitsLemmas
import Derived.Test.YtacaanhnlfpbhaaGreatK05
import Derived.Test.YtacaanhnlfpbhaaGreatK04
import Derived.Test.YtacaanhnlfpbhaaGreatProg
import Derived.ProofKit
import Derived.BigQuiet
import Derived.WalkSmall
import Derived.Deep.QuietTactic
import Derived.Deep.RegionWith
import Derived.Deep.WholeRow
import Derived.Test.YtacaanhnlfpbhaaGreatK03
namespace Go.Proofs.YtacaanhnlfpbhaaGreat
open Go.RowKit
set_option linter.unusedVariables false
set_option linter.unusedSimpArgs false
mutual
def Tn.pn:Tn→Nat→Lt
 | .mk k R a s mn mx lz ix nm,n=>.mk (n + nodesL s) k R a (pnL s n) mn mx lz ix nm
def pnL:List Tn→Nat→List Lt
 | [],_=>[]
 | t :: ts,n=>t.pn n :: pnL ts (n + t.nodes)
end
mutual
theorem pn_tn:∀ (t:Tn) (n:Nat),(t.pn n).tn=t
 | .mk k R a s mn mx lz ix nm,n=>by simp only [Tn.pn,Lt.tn];rw [pnL_tn s n]
theorem pnL_tn:∀ (ts:List Tn) (n:Nat),tnL (pnL ts n)=ts
 | [],n=>rfl
 | t :: ts,n=>by simp only [pnL,tnL];rw [pn_tn t n,pnL_tn ts (n + t.nodes)]
end
theorem pn_lb (t:Tn) (n:Nat):(t.pn n).lb + 1=n + t.nodes:=by
 obtain ⟨k,R,a,s,mn,mx,lz,ix,nm⟩:=t
 simp only [Tn.pn,Lt.lb,Tn.nodes]
 omega
theorem pnL_app (a b:List Tn) (n:Nat):pnL (a ++ b) n=pnL a n ++ pnL b (n + nodesL a):=by
 induction a generalizing n with
 | nil=>simp [pnL,nodesL]
 | cons t a ih=>simp only [List.cons_append,pnL,nodesL,ih,Nat.add_assoc]
theorem pnL_len (ts:List Tn) (n:Nat):(pnL ts n).length=ts.length:=by
 induction ts generalizing n with
 | nil=>rfl
 | cons t ts ih=>simp [pnL,ih]
mutual
theorem pn_lbs:∀ (t:Tn) (n x:Nat),x ∈ (t.pn n).lbs→n≤x∧x < n + t.nodes
 | .mk k R a s mn mx lz ix nm,n,x,h=>by
  simp only [Tn.pn,Lt.lbs,List.mem_cons] at h
  simp only [Tn.nodes]
  rcases h with rfl | h
  ·omega
  ·have:=pnL_lbs s n x h;omega
theorem pnL_lbs:∀ (ts:List Tn) (n x:Nat),x ∈ lbsL (pnL ts n)→n≤x∧x < n + nodesL ts
 | [],n,x,h=>by simp [pnL,lbsL] at h
 | t :: ts,n,x,h=>by
  simp only [pnL,lbsL,List.mem_append] at h
  simp only [nodesL]
  rcases h with h | h
  ·have:=pn_lbs t n x h;omega
  ·have:=pnL_lbs ts (n + t.nodes) x h;omega
end
mutual
theorem pn_nodup:∀ (t:Tn) (n:Nat),(t.pn n).lbs.Nodup
 | .mk k R a s mn mx lz ix nm,n=>by
  simp only [Tn.pn,Lt.lbs,List.nodup_cons]
  exact ⟨fun h=>by have:=pnL_lbs s n _ h;omega,pnL_nodup s n⟩
theorem pnL_nodup:∀ (ts:List Tn) (n:Nat),(lbsL (pnL ts n)).Nodup
 | [],n=>by simp [pnL,lbsL]
 | t :: ts,n=>by
  simp only [pnL,lbsL]
  rw [List.nodup_append]
  refine ⟨pn_nodup t n,pnL_nodup ts _,fun x hx y hy e=>?_⟩
  have:=pn_lbs t n x hx
  have:=pnL_lbs ts _ y hy
  omega
end
structure E8 where
 k:Int
 a:Int
 ix:Int
 r1:Option Addr
 r2:Nat
 r3:Nat
 sa:Option Addr
 sn:Nat
 sc:Nat
 lz:Bool
 up:Int
 nth:Int
abbrev E8.cs (q:E8):List Value:=[.int .i64 q.k,.int .i64 q.a,.int .i64 q.ix,.slice q.r1 q.r2 q.r3,.slice q.sa q.sn q.sc,.bool q.lz,.int .i64 q.up,.int .i64 q.nth]
theorem flat8_len (L:List E8):(L.flatMap E8.cs).length=L.length * 8:=by
 induction L with
 | nil=>rfl
 | cons M L ih =>
  have e:(E8.cs M).length=8:=rfl
  rw [List.flatMap_cons,List.length_append,ih,e,List.length_cons]
  omega
theorem flat8 (L:List E8):∀ (j k:Nat) (hj:j < L.length),k < 8→(L.flatMap E8.cs)[j * 8 + k]?=(E8.cs L[j])[k]?:=by
 induction L with
 | nil=>intro j k hj;simp at hj
 | cons M L ih =>
  intro j k hj hk
  rw [List.flatMap_cons]
  have e9:(E8.cs M).length=8:=rfl
  cases j with
  | zero=>rw [List.getElem?_append_left (by rw [e9];omega)];simp
  | succ j =>
   rw [List.getElem?_append_right (by rw [e9];omega)]
   have:=ih j k (by simpa using hj) hk
   rw [e9,show (j + 1) * 8 + k - 8=j * 8 + k by omega,this]
   rfl
theorem flat8_setUp:∀ (L:List E8) (j:Nat) (hj:j < L.length) (u:Int),(L.flatMap E8.cs).set (j * 8 + 6) (.int .i64 u)=(L.set j { L[j] with up:=u }).flatMap E8.cs
 | [],j,hj,u=>by simp at hj
 | q :: L,0,_,u=>by rw [List.flatMap_cons];rfl
 | q :: L,j + 1,hj,u=>by
  rw [List.flatMap_cons,List.set_append_right _ _ (by show 8≤_;omega),List.set_cons_succ,List.flatMap_cons]
  rw [show (j + 1) * 8 + 6 - (E8.cs q).length=j * 8 + 6 by show (j + 1) * 8 + 6 - 8=_;omega,flat8_setUp L j (by simpa using hj) u]
  rfl
theorem flat8_setNth:∀ (L:List E8) (j:Nat) (hj:j < L.length) (u:Int),(L.flatMap E8.cs).set (j * 8 + 7) (.int .i64 u)=(L.set j { L[j] with nth:=u }).flatMap E8.cs
 | [],j,hj,u=>by simp at hj
 | q :: L,0,_,u=>by rw [List.flatMap_cons];rfl
 | q :: L,j + 1,hj,u=>by
  rw [List.flatMap_cons,List.set_append_right _ _ (by show 8≤_;omega),List.set_cons_succ,List.flatMap_cons]
  rw [show (j + 1) * 8 + 7 - (E8.cs q).length=j * 8 + 7 by show (j + 1) * 8 + 7 - 8=_;omega,flat8_setNth L j (by simpa using hj) u]
  rfl
mutual
def Lt.inQ (W:World) (N0:Nat) (Q:List E8):Lt→Int→Int→Prop
 | .mk lb k R a s mn mx lz ix nm,up,nth=>(∃ q,Q[lb]?=some q∧q.k=Lt.kk (.mk lb k R a s mn mx lz ix nm)∧q.up=up∧q.nth=nth∧q.sn=s.length∧Nds N0 W k R a s lz ix q.a q.ix q.r1 q.r2 q.r3 q.sa q.sc q.lz)∧inQL W N0 Q s (lb:Int) 0
def inQL (W:World) (N0:Nat) (Q:List E8):List Lt→Int→Nat→Prop
 | [],_,_=>True
 | t :: ts,up,i=>t.inQ W N0 Q up (i:Int)∧inQL W N0 Q ts up (i + 1)
end
def KI (N0:Nat) (W W':World):Prop:=(∀ b,b < N0→W'.heap[b]?=W.heap[b]?)∧∀ (b:Nat) (cur:Array Value),W.heap[b]?=some (.cells cur 3 (0,0))→W'.heap[b]?=some (.cells cur 3 (0,0))
theorem KI.refl (N0:Nat) (W:World):KI N0 W W:=⟨fun _ _=>rfl,fun _ _ h=>h⟩
theorem KI.below {N0:Nat} {W W':World} (h:Below W.heap.size W W') (hN:N0≤W.heap.size):KI N0 W W':=⟨fun b hb=>h.block b (by omega),fun b cur hx=>(h.block b (Array.getElem?_eq_some_iff.1 hx).1).trans hx⟩
theorem KI.row {N0:Nat} {W W':World} {v:Value} {L:List Int} (f:KI N0 W W') (h:Rw W v L):Rw W' v L:=by
 rcases h with h | ⟨h0,h⟩
 ·exact .inl h
 ·refine .inr ⟨h0,h.1,?_⟩
  rcases h.2 with hn | ⟨g,cap,cur,hv,hb,hg,rest⟩
  ·exact .inl hn
  ·exact .inr ⟨g,cap,cur,hv,hb,f.2 g cur hg,rest⟩
theorem Nds.ki {N0:Nat} {W W':World} {k:Int} {R:List (Int × Int)} {a:Int} {s:List Lt} {lz:Bool} {ix:Int} {a' ix':Int} {r1:Option Addr} {r2 r3:Nat} {sa:Option Addr} {sc:Nat} {lz':Bool} (h:Nds N0 W k R a s lz ix a' ix' r1 r2 r3 sa sc lz') (f:KI N0 W W'):Nds N0 W' k R a s lz ix a' ix' r1 r2 r3 sa sc lz':=
 ⟨h.asr,h.gr,h.lp,fun e=>(h.cl e).keptW f.1,f.row h.su⟩
mutual
theorem inQ_on {N0:Nat} {W W':World} (f:KI N0 W W') {Q Q':List E8}:∀ (T:Lt) (up nth:Int),(∀ x ∈ T.lbs,Q'[x]?=Q[x]?)→T.inQ W N0 Q up nth→T.inQ W' N0 Q' up nth
 | .mk lb k R a s mn mx lz ix nm,up,nth,hq,h=>by
  simp only [Lt.inQ] at h ⊢
  obtain ⟨⟨q,h1,h2,h3,h4,h5,h6⟩,h7⟩:=h
  exact ⟨⟨q,(hq lb (by simp [Lt.lbs])).trans h1,h2,h3,h4,h5,h6.ki f⟩,inQL_on f s _ _ (fun x hx=>hq x (by simp [Lt.lbs,hx])) h7⟩
theorem inQL_on {N0:Nat} {W W':World} (f:KI N0 W W') {Q Q':List E8}:∀ (ts:List Lt) (up:Int) (i:Nat),(∀ x ∈ lbsL ts,Q'[x]?=Q[x]?)→inQL W N0 Q ts up i→inQL W' N0 Q' ts up i
 | [],_,_,_,_=>by simp [inQL]
 | t :: ts,up,i,hq,h=>by
  simp only [inQL] at h ⊢
  exact ⟨inQ_on f t _ _ (fun x hx=>hq x (by simp [lbsL,hx])) h.1,inQL_on f ts _ _ (fun x hx=>hq x (by simp [lbsL,hx])) h.2⟩
end
theorem inQ_root {N0:Nat} {W:World} {Q Q':List E8} {T:Lt} {up nth:Int} (h:T.inQ W N0 Q up nth) (hn:T.lbs.Nodup) {u z:Int} (hr:∀ q,Q[T.lb]?=some q→Q'[T.lb]?=some { q with up:=u,nth:=z }) (ho:∀ x ∈ T.lbs,x≠T.lb→Q'[x]?=Q[x]?):T.inQ W N0 Q' u z:=by
 obtain ⟨lb,k,R,a,s,mn,mx,lz,ix,nm⟩:=T
 simp only [Lt.lbs,List.nodup_cons] at hn
 simp only [Lt.lb] at hr ho
 simp only [Lt.inQ] at h ⊢
 obtain ⟨⟨q,h1,h2,h3,h4,h5,h6⟩,h7⟩:=h
 refine ⟨⟨_,hr q h1,h2,rfl,rfl,h5,h6⟩,inQL_on (KI.refl _ _) s _ _ (fun x hx=>ho x (by simp [Lt.lbs,hx]) (fun e=>hn.1 (e ▸ hx))) h7⟩
def Tops (W:World) (N0:Nat) (Q:List E8) (ts:List Tn) (n:Nat):Prop:=∀ T ∈ pnL ts n,T.inQ W N0 Q (-1) 0
def rts (ts:List Tn) (n:Nat):List Nat:=(pnL ts n).map Lt.lb
theorem lb_in (T:Lt):T.lb ∈ T.lbs:=by cases T;simp [Lt.lb,Lt.lbs]
theorem lbs_in {T:Lt} {ts:List Lt} (h:T ∈ ts):∀ x ∈ T.lbs,x ∈ lbsL ts:=by
 induction ts with
 | nil=>cases h
 | cons t ts ih =>
  intro x hx
  simp only [lbsL,List.mem_append]
  rcases List.mem_cons.1 h with rfl | h
  ·exact .inl hx
  ·exact .inr (ih h x hx)
def ups (n:Nat):List Nat→Nat→List E8→List E8
 | [],_,Q=>Q
 | a :: S,i,Q=>ups n S (i + 1) (match Q[a]? with | some q=>Q.set a { q with up:=(n:Int),nth:=(i:Int) } | none=>Q)
theorem ups_len (n:Nat):∀ (S:List Nat) (i:Nat) (Q:List E8),(ups n S i Q).length=Q.length
 | [],_,_=>rfl
 | a :: S,i,Q=>by
  simp only [ups]
  rw [ups_len n S (i + 1)]
  split <;> simp
theorem ups_no (n:Nat):∀ (S:List Nat) (i:Nat) (Q:List E8) (x:Nat),x ∉ S→(ups n S i Q)[x]?=Q[x]?
 | [],_,_,_,_=>rfl
 | a :: S,i,Q,x,h=>by
  simp only [List.mem_cons,not_or] at h
  simp only [ups]
  rw [ups_no n S (i + 1) _ x h.2]
  split
  ·rw [List.getElem?_set,if_neg (fun e=>h.1 e.symm)]
  ·rfl
theorem ups_yes (n:Nat):∀ (S:List Nat) (i:Nat) (Q:List E8),S.Nodup→∀ (j:Nat) (hj:j < S.length) (q:E8),Q[S[j]]?=some q→(ups n S i Q)[S[j]]?=some { q with up:=(n:Int),nth:=((i + j:Nat):Int) }
 | [],_,_,_,j,hj,_,_=>by simp at hj
 | a :: S,i,Q,hn,0,_,q,h=>by
  simp only [List.nodup_cons] at hn
  simp only [List.getElem_cons_zero] at h ⊢
  simp only [ups]
  rw [ups_no n S (i + 1) _ a hn.1,h]
  have hlt:a < Q.length:=(List.getElem?_eq_some_iff.1 h).1
  simp [List.getElem?_set,hlt]
 | a :: S,i,Q,hn,j + 1,hj,q,h=>by
  simp only [List.nodup_cons] at hn
  simp only [List.getElem_cons_succ] at h ⊢
  have hne:S[j]'(by simpa using hj)≠a:=fun e=>hn.1 (e ▸ List.getElem_mem _)
  simp only [ups]
  have:=ups_yes n S (i + 1) (match Q[a]? with | some q=>Q.set a { q with up:=(n:Int),nth:=(i:Int) } | none=>Q) hn.2 j (by simpa using hj) q (by
   rw [← h]
   split
   ·rw [List.getElem?_set,if_neg (fun e=>hne e.symm)]
   ·rfl)
  rw [this]
  simp
  omega
theorem rts_nodup (ts:List Tn) (n:Nat):(rts ts n).Nodup:=by
 induction ts generalizing n with
 | nil=>simp [rts,pnL]
 | cons t ts ih =>
  have h:=ih (n + t.nodes)
  simp only [rts,pnL,List.map_cons,List.nodup_cons] at h ⊢
  refine ⟨fun hm=>?_,h⟩
  obtain ⟨T,hT,e⟩:=List.mem_map.1 hm
  have h1:=pn_lb t n
  have h2:=pnL_lbs ts (n + t.nodes) T.lb (lbs_in hT _ (lb_in T))
  omega
theorem inQL_of {N0:Nat} {W:World} {Q:List E8} {up:Int}:∀ (l:List Lt) (i:Nat),(∀ j (hj:j < l.length),(l[j]).inQ W N0 Q up ((i + j:Nat):Int))→inQL W N0 Q l up i
 | [],_,_=>by simp [inQL]
 | t :: l,i,h=>by
  simp only [inQL]
  refine ⟨by have:=h 0 (by simp);simpa using this,inQL_of l (i + 1) fun j hj=>?_⟩
  have:=h (j + 1) (by simpa using hj)
  rw [show i + 1 + j=i + (j + 1) by omega]
  exact this
theorem lbs_apart {ts:List Lt} (hn:(lbsL ts).Nodup):∀ (i j:Nat) (hi:i < ts.length) (hj:j < ts.length),i≠j→∀ x ∈ (ts[i]).lbs,x ∉ (ts[j]).lbs:=by
 induction ts with
 | nil=>intro i j hi;simp at hi
 | cons t ts ih =>
  simp only [lbsL] at hn
  rw [List.nodup_append] at hn
  intro i j hi hj hij x hx hx'
  cases i with
  | zero =>
   cases j with
   | zero=>exact hij rfl
   | succ j=>exact hn.2.2 x hx x (lbs_in (List.getElem_mem (by simpa using hj)) x hx') rfl
  | succ i =>
   cases j with
   | zero=>exact hn.2.2 x hx' x (lbs_in (List.getElem_mem (by simpa using hi)) x hx) rfl
   | succ j=>exact ih hn.2.1 i j (by simpa using hi) (by simpa using hj) (by omega) x hx hx'
theorem put_tree {N0:Nat} {W:World} {Q:List E8} {ts:List Tn} {n:Nat} (h:Tops W N0 Q ts n) (hn:n + nodesL ts=Q.length) {k:Int} {R:List (Int × Int)} {a mn mx ix:Int} {lz:Bool} {nm:ByteArray} {x:E8} (hk:x.k=Lt.kk ((Tn.mk k R a ts mn mx lz ix nm).pn n)) (hu:x.up=-1) (hz:x.nth=0) (hs:x.sn=ts.length) (hN:Nds N0 W k R a (pnL ts n) lz ix x.a x.ix x.r1 x.r2 x.r3 x.sa x.sc x.lz) :
  ((Tn.mk k R a ts mn mx lz ix nm).pn n).inQ W N0 (ups Q.length (rts ts n) 0 Q ++ [x]) (-1) 0:=by
 have hl:=ups_len Q.length (rts ts n) 0 Q
 simp only [Tn.pn] at hk ⊢
 simp only [Lt.inQ]
 refine ⟨⟨x,?_,hk,hu,hz,by rw [pnL_len];exact hs,hN⟩,?_⟩
 ·rw [List.getElem?_append_right (by omega),hl,hn]
  simp
 ·rw [hn]
  refine inQL_of _ 0 fun j hj=>?_
  have hT:=h _ (List.getElem_mem hj)
  have hjr:j < (rts ts n).length:=by simpa [rts] using hj
  have hjl:(rts ts n)[j]=((pnL ts n)[j]).lb:=by simp [rts]
  have hlt:∀ y ∈ ((pnL ts n)[j]).lbs,y < Q.length:=fun y hy=>by
   have:=pnL_lbs ts n y (lbs_in (List.getElem_mem hj) y hy)
   omega
  refine inQ_root hT ?_ (fun q hq=>?_) (fun y hy hne=>?_)
  ·have hnd:=pnL_nodup ts n
   clear hT hjr hjl hlt
   revert hj
   generalize pnL ts n=l at hnd
   intro hj
   induction l generalizing j with
   | nil=>simp at hj
   | cons t l ih =>
    simp only [lbsL] at hnd
    rw [List.nodup_append] at hnd
    cases j with
    | zero=>exact hnd.1
    | succ j=>exact ih j hnd.2.1 (by simpa using hj)
  ·rw [List.getElem?_append_left (by rw [hl];exact hlt _ (lb_in _))]
   have:=ups_yes Q.length (rts ts n) 0 Q (rts_nodup ts n) j hjr q (by rw [hjl];exact hq)
   rw [hjl] at this
   rw [this]
  ·rw [List.getElem?_append_left (by rw [hl];exact hlt _ hy)]
   refine ups_no _ _ _ _ _ fun hm=>?_
   obtain ⟨i,hi,e⟩:=List.mem_iff_getElem.1 hm
   have hi':i < (pnL ts n).length:=by simpa [rts] using hi
   have hil:(rts ts n)[i]=((pnL ts n)[i]).lb:=by simp [rts]
   rw [hil] at e
   by_cases hij:i=j
   ·subst hij;exact hne e.symm
   ·exact lbs_apart (pnL_nodup ts n) i j hi' hj hij _ (lb_in _) (e ▸ hy)
end Go.Proofs.YtacaanhnlfpbhaaGreat
namespace Go.Proofs.YtacaanhnlfpbhaaGreat
open Go Go.RowKit
set_option linter.unusedVariables false
section
variable {P:Program} {ops:Array Oper} {Q:Exit→Act→World→Prop} {md:Region.Mode} {S:World→Prop} {L:Nat}
def lexK (md:Region.Mode) (ops:Array Oper) (L:Nat):List Nat→Array Bool→Bool
 | [],_=>true
 | k :: ks,listed=>(Region.ready md ops listed).contains k && Region.free md ops listed k && Region.waitsFor md ops L k && lexK md ops L ks (listed.setIfInBounds k true)
def marksK:List Nat→Array Bool→Array Bool
 | [],listed=>listed
 | k :: ks,listed=>marksK ks (listed.setIfInBounds k true)
def seqK (md:Region.Mode) (ops:Array Oper):List Nat→Array Bool→Bool
 | [],listed=>(Region.ready md ops listed).isEmpty
 | k :: ks,listed=>decide (Region.ready md ops listed=[k]) && seqK md ops ks (listed.setIfInBounds k true)
def opsAt (ops:Array Oper):List Nat→List Oper
 | []=>[]
 | k :: ks=>match ops[k]? with | some o=>o :: opsAt ops ks | none=>opsAt ops ks
def opsNo (ops:Array Oper):List Nat→List (Nat × Oper)
 | []=>[]
 | k :: ks=>match ops[k]? with | some o=>(k,o) :: opsNo ops ks | none=>opsNo ops ks
theorem wpAnyX_lexK {g:Nat} {w:World} (hsel:Region.noSelect ops=true) (hS:S w) :
  ∀ (ks:List Nat) (listed:Array Bool) (a:Act),lexK md ops L ks listed=true →
  wpLex P ops Q S (fun a'=>wpAnyX P md ops Q S L g (marksK ks listed) a' w) (opsAt ops ks) a→wpAnyX P md ops Q S L (ks.length + g) listed a w
 | [],listed,a,_,h=>by simpa [marksK,opsAt,wpLex] using h
 | k :: ks,listed,a,hB,h=>by
  simp only [lexK,Bool.and_eq_true] at hB
  obtain ⟨⟨⟨hr,hf⟩,hL⟩,hB'⟩:=hB
  have hr':k ∈ Region.ready md ops listed:=by simpa using hr
  obtain ⟨_,o,h0,_⟩:=mem_ready.1 hr'
  simp only [opsAt,h0] at h
  obtain ⟨v,hy,hQ,hK⟩:=h
  rw [show (k :: ks).length + g=(ks.length + g) + 1 by simp only [List.length_cons];omega]
  exact wpAnyX_first h0 (Region.noSelect_spec hsel) hQ hL (ks.length + g) listed a w (Region.free_spec h0 hf) hr' hy hS
   (wpAnyX_lexK hsel hS ks _ _ hB' hK)
def wpTailK (P:Program) (ops:Array Oper) (Q:Exit→Act→World→Prop) (S:World→Prop) (L:Nat):List (Nat × Oper)→Act→World→Prop
 | [],a,w=>Q .normal a w
 | (k,o) :: l,a,w=>∀ K:Act→World→Prop,Hid (∀ a' w',(k≠L→S w')→wpTailK P ops Q S L l a' w'→K a' w')→if Region.wanted o (yielded ops a.tmps)=true then Oper.wp P o a w K Q else K (a.put o.dst undef) w
theorem tailK_cons {o:Oper} {l:List (Nat × Oper)} {k:Nat} {a:Act} {w:World} (h:∀ K:Act→World→Prop,Hid (∀ a' w',(k≠L→S w')→wpTailK P ops Q S L l a' w'→K a' w')→if Region.wanted o (yielded ops a.tmps)=true then Oper.wp P o a w K Q else K (a.put o.dst undef) w):wpTailK P ops Q S L ((k,o) :: l) a w:=h
theorem tailK_nil {a:Act} {w:World} (h:Q .normal a w):wpTailK P ops Q S L [] a w:=h
theorem wpAnyX_of_tailK:∀ (js:List Nat) (listed:Array Bool) (a:Act) (w:World),
  seqK md ops js listed=true→wpTailK P ops Q S L (opsNo ops js) a w→wpAnyX P md ops Q S L js.length listed a w
 | [],_,_,_,hB,h=>⟨by simpa [seqK] using hB,h⟩
 | k :: js,listed,a,w,hB,h=>by
  simp only [seqK,Bool.and_eq_true,decide_eq_true_eq] at hB
  have hr:k ∈ Region.ready md ops listed:=by rw [hB.1];simp
  obtain ⟨_,o,h0,_⟩:=mem_ready.1 hr
  simp only [opsNo,h0] at h
  refine ⟨fun h1=>absurd (hB.1.symm.trans h1) (by simp),fun j hj=>?_⟩
  rw [hB.1] at hj
  have:j=k:=by simpa using hj
  subst this
  have h1:=h (fun a' w'=>(j≠L→S w')∧wpAnyX P md ops Q S L js.length (listed.setIfInBounds j true) a' w') ((fun a' w' h1 h2=>⟨h1,wpAnyX_of_tailK js _ a' w' hB.2 h2⟩))
  unfold wpOp
  simp only [h0]
  split
  ·rename_i hw;rw [if_pos hw] at h1;exact .inl h1
  ·rename_i hw;rw [if_neg hw] at h1;exact h1
theorem wp_region_lexK {id:Nat} {a:Act} {w:World} (ks js:List Nat) (L:Nat) (S:World→Prop) (hm:P.follows .mixedOrders=true) (hsel:Region.noSelect ops=true) (hn:ks.length + js.length=ops.size) (hB:lexK .any ops L ks (Array.replicate ops.size false)=true)
  (hT:seqK .any ops js (marksK ks (Array.replicate ops.size false))=true) (hS:S w.drew)
  (h:wpLex P ops Q S (fun a'=>wpTailK P ops Q S L (opsNo ops js) a' w.drew) (opsAt ops ks) a):(Code.region id ops true).wp P Q a w:=by
 have hlex:∀ (l':List Oper) (a:Act),wpLex P ops Q S (fun a'=>wpTailK P ops Q S L (opsNo ops js) a' w.drew) l' a→wpLex P ops Q S (fun a'=>wpAnyX P .any ops Q S L js.length (marksK ks (Array.replicate ops.size false)) a' w.drew) l' a:=by
  intro l'
  induction l' with
  | nil=>intro a h;exact wpAnyX_of_tailK (md:=.any) js _ a w.drew hT h
  | cons o l' ih=>rintro a ⟨v,h1,h2,h3⟩;exact ⟨v,h1,h2,ih _ h3⟩
 have H:=wpAnyX_lexK (md:=.any) (L:=L) (Q:=Q) (g:=js.length) (P:=P) (w:=w.drew) hsel hS ks (Array.replicate ops.size false) a hB (hlex _ _ h)
 rw [hn] at H
 exact wp_region_any hm (by simpa using wpAny_of_X _ _ _ _ H)
end
end Go.Proofs.YtacaanhnlfpbhaaGreat
namespace Go.Proofs.YtacaanhnlfpbhaaGreat
open Go.RowKit
set_option linter.unusedVariables false
set_option linter.unusedSimpArgs false
theorem step_call3 {P:Program} {ops:Array Oper} {o:Oper} {a:Act} {w:World} {K:Act→World→Prop} {Q:Exit→Act→World→Prop} {E:Prop} (hg:o.guard=none) (f:FuncId) (x y z:Operand) (t u v:TypeId)
  (hop:o.op=Op.call { callee:=Callee.value (.func f),args:=#[x,y,z],argTypes:=#[t,u,v] }) (hen:∀ args w,(callFunc f args).run P w=.ok (.enter f args) w)
  (hc:Calls P f #[a.eval x,a.eval y,a.eval z] w fun e w'=>∃ v,e=.returned v∧K (a.put o.dst v) w') :
  if Region.wanted o (yielded ops a.tmps)=true then Oper.wp P o a w K Q else E:=by
 have hw:Region.wanted o (yielded ops a.tmps)=true:=by simp [Region.wanted,hg]
 rw [if_pos hw]
 have h2:=hen #[a.eval x,a.eval y,a.eval z] w
 unfold Oper.wp
 have ev:a.eval (.func f)=.func (.func f) #[] #[]:=rfl
 simp [execOp,hop,resolve,invoke,ev,Deferred.ofValue,h2,Result.andThen]
 show Calls P f #[a.eval x,a.eval y,a.eval z] w _
 refine hc.mono fun e w' h=>?_
 obtain ⟨v,rfl,hk⟩:=h
 exact hk
theorem step_append {P:Program} {w:World} {ops:Array Oper} {o:Oper} {a:Act} {K:Act→World→Prop} {Q:Exit→Act→World→Prop} {E:Prop} (hgd:o.guard=none) (s x:Operand) (t:TypeId)
  (ho:o.op=.call { callee:=.builtin .append,args:=#[s,x],argTypes:=#[t,t] })
  (base:Nat) (e:TypeId) (i:TypeInfo) (z:Value) (size bytes:Nat) (ht:P.underlying t=some (.slice e)) (hi:P.info? e=some i) (hz:i.zero=some z)
  (hsize:i.size=size) (hby:i.bytes=bytes) (hzs:z.cells.size=size) (hpos:0 < size)
  (v:Value) (n:Nat) (xs:List Value) (hs:a.eval s=v) (hown:w.ownsRow base e size v n xs)
  (ad:Addr) (m c:Nat) (news:List Value) (hx:a.eval x=.slice (some ad) m c) (hl:news.length=m * size) (hm:0 < m) (hnews:∀ j u,news[j]?=some u→w.cell? (ad.add j)=some u) (h1:∀ u ∈ news,u.oneCell'=true)
  (h63:n + m≤maxLen) (hbytes:(n + m) * bytes≤140737488355328) (hbase:base≤w.heap.size)
  (h:∀ v' w',Hid (w'.ownsRow base e size v' (n + m) (xs ++ news))→Hid (Moved w w' v v')→K (a.put o.dst v') w'):if Region.wanted o (yielded ops a.tmps)=true then Oper.wp P o a w K Q else E:=by
 have hw:Region.wanted o (yielded ops a.tmps)=true:=by simp [Region.wanted,hgd]
 rw [if_pos hw]
 obtain ⟨v',w',hr,h2,h3⟩:=run_append_moveN (P:=P) w base t o.type e i z size bytes ht hi hz hsize hby hzs hpos v n xs hown ad m c news hl hm hnews h1 h63 hbytes hbase
 unfold Oper.wp execOp
 simp only [ho,resolve,invoke,builtin,Sem.run_bind,Sem.run_pure,Result.andThen_ok,List.map_toArray,List.map_cons,List.map_nil,hs,hx,hr]
 exact h v' w' h2 h3
theorem sub_cell {W:World} {sa:Option Addr} {m sc:Nat} {l:List Int} (h:Rw W (.slice sa m sc) l) (hm:m=l.length) {i:Nat} (hi:i < m):∃ g,sa=some ⟨g,0,none⟩∧W.cell? ⟨g,i,none⟩=some (.int .i64 (l.getD i 0)):=by
 subst hm
 rcases h with ⟨_,e⟩ | ⟨h0,h⟩
 ·subst e;simp at hi
 ·rcases Joins.ownsRow_forms h with ⟨_,e⟩ | ⟨g,cap,e⟩
  ·omega
  ·simp only [Value.slice.injEq] at e
   obtain ⟨rfl,_,rfl⟩:=e
   exact ⟨g,rfl,by rw [h.cellAt i (by omega)];simp [List.getD_eq_getElem?_getD,List.getElem?_eq_getElem hi]⟩
theorem sub_at {W:World} {sa:Option Addr} {sc:Nat} {s:List Lt} (h:Rw W (.slice sa s.length sc) (s.map fun t=>(t.lb:Int))) {i:Nat} (hi:i < s.length):∃ g,sa=some ⟨g,0,none⟩∧W.cell? ⟨g,i,none⟩=some (.int .i64 ((s[i]).lb:Int)):=by
 obtain ⟨g,h1,h2⟩:=sub_cell h (by simp) hi
 refine ⟨g,h1,?_⟩
 rw [h2]
 simp [List.getD_eq_getElem?_getD,List.getElem?_eq_getElem hi]
theorem fwC_next {s:List Lt} {i:Nat} {B:Way} (hi:i < s.length):fwC (s.drop i) B=(s[i]).fw (fwC (s.drop (i + 1)) B):=by
 rw [List.drop_eq_getElem_cons hi]
 rfl
def muchB (t:Tn) (tn:Nat):Bool:=decide (tn≤64) && t.sound && decide (t.sz≤2000) && decide (16777216 < (t.sz:Int) * ((tn:Int) + 1) * (2 * t.gi + 2))
theorem mul_bd {a b:Int} {A B:Int} (h1:0≤a) (h2:a≤A) (h3:0≤b) (h4:b≤B):0≤a * b∧a * b≤A * B:=⟨Int.mul_nonneg h1 h3,Int.mul_le_mul h2 h4 h3 (by omega)⟩
set_option maxRecDepth 100000 in
set_option maxHeartbeats 4000000 in
theorem much11 (N:Nv) (t:Tn) (ad:Option Addr) (tn tcap:Nat) (w:World) (hTI:TI w w.heap.size N t) (htm:tn≤35184372088832) :
  Calls Tryz.prog 9 #[N.v,.slice ad tn tcap] w fun e w'=>e=.returned (.bool (muchB t tn))∧Below w.heap.size w w':=by
 have hb0:Below w.heap.size w (w.alloc (.cells #[.int .i64 N.k,.slice N.r1 N.r2 N.r3,.int .i64 N.a2,.slice N.s1 N.s2 N.s3,.int .i64 N.a4,.int .i64 N.a5,.bool N.a6,.int .i64 N.a7,.string N.a8] 25)):=Joins.below_alloc1 w _
 have HB0:=hid hb0
 by_cases c1:64 < tn
 ·have e1:muchB t tn=false:=by unfold muchB;rw [decide_eq_false (by omega)];rfl
  rw [e1]
  have b1:decide ((tn:Int) > 64)=true:=by simp;omega
  have b1':decide (64 < (tn:Int))=true:=by simp;omega
  obtain ⟨k,r1,r2,r3,a2,s1,s2,s3,a4,a5,a6,a7,a8⟩:=N
  clear hTI e1 hb0
  go_enter Tryz.func9,Tryz.ntmps9
  go_wp2
  go_ret
  exact ⟨rfl,HB0.out⟩
 have b1:decide ((tn:Int) > 64)=false:=by simp;omega
 have b1':decide (64 < (tn:Int))=false:=by simp;omega
 have hT1:∀ w1,Below w.heap.size w w1→TI w1 w1.heap.size N t:=fun w1 h=>(hTI.kept fun b hb=>h.block b hb).le h.size
 have H25:=sound25 (hT1 _ hb0)
 cases hs:t.sound with
 | false =>
  have e1:muchB t tn=false:=by unfold muchB;rw [hs];simp
  rw [e1]
  rw [hs] at H25
  simp only [Bool.false_eq_true,if_false] at H25
  obtain ⟨k,r1,r2,r3,a2,s1,s2,s3,a4,a5,a6,a7,a8⟩:=N
  dsimp only at H25
  clear hTI e1 hb0 hT1 hs
  go_enter Tryz.func9,Tryz.ntmps9
  go_wp2_with (first | (go_at_call 32;(with_reducible refine H25.mono ?_);rintro e w1 ⟨rfl,hb1⟩;have HB1:=hid hb1;clear hb1 H25))
  go_ret
  exact ⟨rfl,HB0.out.trans (Joins.below_le HB1.out (by simp))⟩
 | true =>
  obtain ⟨hf,_,hno⟩:=sound_parts hs
  have hgi:=fine_gi t hf
  have hT2:∀ w1,Below w.heap.size w w1→Calls Tryz.prog 33 #[N.v] w1 fun e w'=>e=.returned (.int .i64 (min 1073741824 t.sz:Nat))∧Below w1.heap.size w1 w':=fun w1 h=>refsize28 hTI hf w1 h.size (fun b hb=>h.block b hb)
  have hT3:∀ w1,Below w.heap.size w w1→Calls Tryz.prog 40 #[N.v] w1 fun e w'=>e=.returned (.int .i64 t.gi)∧Below w1.heap.size w1 w':=fun w1 h=>greatest15 hTI w1 h.size (fun b hb=>h.block b hb)
  have hnode:∀ w1,Below (w.alloc (.cells #[.int .i64 N.k,.slice N.r1 N.r2 N.r3,.int .i64 N.a2,.slice N.s1 N.s2 N.s3,.int .i64 N.a4,.int .i64 N.a5,.bool N.a6,.int .i64 N.a7,.string N.a8] 25)).heap.size (w.alloc (.cells #[.int .i64 N.k,.slice N.r1 N.r2 N.r3,.int .i64 N.a2,.slice N.s1 N.s2 N.s3,.int .i64 N.a4,.int .i64 N.a5,.bool N.a6,.int .i64 N.a7,.string N.a8] 25)) w1→w1.heap[w.heap.size]?=some (.cells #[.int .i64 N.k,.slice N.r1 N.r2 N.r3,.int .i64 N.a2,.slice N.s1 N.s2 N.s3,.int .i64 N.a4,.int .i64 N.a5,.bool N.a6,.int .i64 N.a7,.string N.a8] 25 (0,0)):=fun w1 h=>(h.block w.heap.size (by simp)).trans (heap_alloc_new w _)
  rw [hs] at H25
  simp only [if_true] at H25
  have HN:=hid hnode
  have HT2:=hid hT2
  have HT3:=hid hT3
  obtain ⟨r,hr⟩:∃ r,r=min 1073741824 t.sz:=⟨_,rfl⟩
  rw [← hr] at HT2
  by_cases c3:2000 < t.sz
  ·have e1:muchB t tn=false:=by unfold muchB;rw [decide_eq_false (show ¬ t.sz≤2000 by omega)];simp
   rw [e1]
   have b3:decide ((r:Int)≤2000)=false:=by simp;omega
   obtain ⟨k,r1,r2,r3,a2,s1,s2,s3,a4,a5,a6,a7,a8⟩:=N
   dsimp only at H25 HN
   clear hTI e1 hb0 hT1 hT2 hT3 hnode hs hf hno hr hgi
   go_enter Tryz.func9,Tryz.ntmps9
   go_wp2_with (first | (go_at_call 32;(with_reducible refine H25.mono ?_);rintro e w1 ⟨rfl,hb1⟩;obtain ⟨o0,o1,o2,o3,o4,o5,o6,o7,o8⟩:=nine' (HN.out w1 hb1);have HC1:=HT2.out w1 (HB0.out.trans (Joins.below_le hb1 (by simp)));have HB1:=hid hb1;clear hb1 H25) | (go_at_call 33;(with_reducible refine HC1.mono ?_);rintro e w2 ⟨rfl,hb2⟩;have HB2:=hid hb2;clear hb2 HC1))
   go_ret
   exact ⟨rfl,HB0.out.trans (Joins.below_le (HB1.out.trans (Joins.below_le HB2.out HB1.out.size)) (by simp))⟩
  ·have hrz:r=t.sz:=by omega
   have b3:decide ((r:Int)≤2000)=true:=by simp;omega
   have e1:muchB t tn=decide (16777216 < (r:Int) * ((tn:Int) + 1) * (2 * t.gi + 2)):=by
    unfold muchB
    rw [hs,decide_eq_true (show tn≤64 by omega),decide_eq_true (show t.sz≤2000 by omega),hrz]
    simp
   rw [e1]
   have k1:=mul_bd (a:=(r:Int)) (b:=(tn:Int) + 1) (A:=2000) (B:=65) (by omega) (by omega) (by omega) (by omega)
   have k2:=mul_bd (a:=(r:Int) * ((tn:Int) + 1)) (b:=2 * t.gi + 2) (A:=130000) (B:=1002) k1.1 (by omega) (by omega) (by omega)
   have w1':IntKind.i64.wrap ((tn:Int) + 1)=(tn:Int) + 1:=by simp [IntKind.wrap,IntKind.bits,IntKind.signed];omega
   have w2':IntKind.i64.wrap ((r:Int) * ((tn:Int) + 1))=(r:Int) * ((tn:Int) + 1):=by simp [IntKind.wrap,IntKind.bits,IntKind.signed];omega
   obtain ⟨gi,hgg⟩:∃ gi,gi=t.gi:=⟨_,rfl⟩
   rw [← hgg] at k2 hgi HT3 ⊢
   have w3':IntKind.i64.wrap (2 * gi)=2 * gi:=by simp [IntKind.wrap,IntKind.bits,IntKind.signed];omega
   have w4':IntKind.i64.wrap (2 * gi + 2)=2 * gi + 2:=by simp [IntKind.wrap,IntKind.bits,IntKind.signed];omega
   have w5':IntKind.i64.wrap ((r:Int) * ((tn:Int) + 1) * (2 * gi + 2))=(r:Int) * ((tn:Int) + 1) * (2 * gi + 2):=by simp [IntKind.wrap,IntKind.bits,IntKind.signed];omega
   obtain ⟨k,r1,r2,r3,a2,s1,s2,s3,a4,a5,a6,a7,a8⟩:=N
   dsimp only at H25 HN
   clear hTI e1 hb0 hT1 hT2 hT3 hnode hs hf hno hr hrz hgg k1 k2 c3
   go_enter Tryz.func9,Tryz.ntmps9
   go_wp2_with (first | (go_at_call 32;(with_reducible refine H25.mono ?_);rintro e w1 ⟨rfl,hb1⟩;obtain ⟨o0,o1,o2,o3,o4,o5,o6,o7,o8⟩:=nine' (HN.out w1 hb1);have HC1:=HT2.out w1 (HB0.out.trans (Joins.below_le hb1 (by simp)));have HB1:=hid hb1;clear hb1 H25) | (go_at_call 33;(with_reducible refine HC1.mono ?_);rintro e w2 ⟨rfl,hb2⟩;obtain ⟨p0,p1,p2,p3,p4,p5,p6,p7,p8⟩:=nine' (HN.out w2 (HB1.out.trans (Joins.below_le hb2 HB1.out.size)));have HC2:=HT3.out w2 (HB0.out.trans (Joins.below_le (HB1.out.trans (Joins.below_le hb2 HB1.out.size)) (by simp)));have HB2:=hid hb2;clear hb2 HC1 o0 o1 o2 o3 o4 o5 o6 o7 o8) | (go_at_call 40;(with_reducible refine HC2.mono ?_);rintro e w3 ⟨rfl,hb3⟩;have HB3:=hid hb3;clear hb3 HC2))
   go_ret
   exact ⟨rfl,HB0.out.trans (Joins.below_le ((HB1.out.trans (Joins.below_le HB2.out HB1.out.size)).trans (Joins.below_le HB3.out (by have:=HB1.out.size;have:=HB2.out.size;omega))) (by simp))⟩
theorem Parsed.form {N:Nat} {w:World} {pv:Value} {l:List (Int × List Int)} (h:Parsed N w pv l):∃ a c,pv=.slice a l.length c:=by
 rcases h.ends with ⟨rfl,rfl⟩ | ⟨b,cap,rfl,_⟩
 ·exact ⟨none,0,rfl⟩
 ·exact ⟨_,_,rfl⟩
theorem PR.caps {N:Nat} {w:World} {cs:List Value} {l:List (Int × List Int)} {F:List Nat} (h:PR N w cs l F):∀ (i:Nat) (hi:i < l.length),∃ cv,cs[i * 2 + 1]?=some cv∧w.ownsRow N 3 1 cv l[i].2.length (I64 l[i].2):=by
 induction h with
 | nil=>intro i hi;simp at hi
 | cons h hl ih =>
  intro i hi
  cases i with
  | zero=>exact ⟨_,by simp,h⟩
  | succ i =>
   obtain ⟨cv,h1,h2⟩:=ih i (by simpa using hi)
   refine ⟨cv,?_,by simpa using h2⟩
   rw [show (i + 1) * 2 + 1=i * 2 + 1 + 1 + 1 by omega]
   simpa using h1
theorem Parsed.caps {N:Nat} {w:World} {b cap n:Nat} {l:List (Int × List Int)} (h:Parsed N w (.slice (some ⟨b,0,none⟩) n cap) l) (i:Nat) (hi:i < l.length) (hc:0 < l[i].2.length):∃ cb cc,w.cell? ⟨b,i * 2 + 1,none⟩=some (.slice (some ⟨cb,0,none⟩) l[i].2.length cc)∧∀ j,j < l[i].2.length→w.cell? ⟨cb,j,none⟩=some (.int .i64 (l[i].2.getD j 0)):=by
 obtain ⟨cs,F,h1,h2⟩:=h
 obtain ⟨cv,q1,q2⟩:=h2.caps i hi
 obtain ⟨cb,cc,rfl⟩:=Joins.ownsRow_form q2 hc
 have hn:n=l.length:=by
  rcases h1.2 with ⟨e,h0⟩ | ⟨g,cap',cur,e,_⟩
  ·cases e
  ·simp only [Value.slice.injEq] at e
   exact e.2.1
 subst hn
 refine ⟨cb,cc,?_,fun j hj=>?_⟩
 ·have hl:cs.length=l.length * 2:=h1.1
  rw [h1.cellAt (i * 2 + 1) (by omega),q1]
 ·rw [q2.cellAt j (by simpa using hj)]
  simp [List.getD_eq_getElem?_getD,List.getElem?_eq_getElem hj]
end Go.Proofs.YtacaanhnlfpbhaaGreat
