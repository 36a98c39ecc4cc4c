/- HELPERS: texts of ours put together. -/
import Derived.Test.YtbdhiichhcihgaaK07
import Derived.Test.YtbdhiichhcihgaaK01
import Derived.Test.YtbdhiichhcihgaaK03
import Derived.Test.YtbdhiichhcihgaaK05
import Derived.Laws.EntriesVeiled
import Derived.Test.YtbdhiichhcihgaaK04
import Derived.WalkKit
import Derived.Laws.BitsLemmas
import Derived.Test.YtbdhiichhcihgaaK02
import Derived.Test.YtbdhiichhcihgaaProg
import Derived.ProofKit
import Derived.BigQuiet
import Derived.WalkSmall
import Derived.Deep.QuietTactic
import Derived.Deep.RegionWith
import Derived.Deep.WholeRow
import Derived.Lib.Small
namespace Go.Proofs.Ytbdhiichhcihgaa
open Go.RowKit
set_option linter.unusedVariables false
set_option linter.unusedSimpArgs false
mutual
def Tn.pn:Tn → Nat → Lt
 | .mk k R a s mn mx lz ix nm,n => .mk (n + nodesL s) k R a (pnL s n) mn mx lz ix nm
def pnL:List Tn → Nat → List Lt
 | [],_ => []
 | t :: ts,n => t.pn n :: pnL ts (n + t.nodes)
end
mutual
theorem pn_tn:∀ (t:Tn) (n:Nat),(t.pn n).tn = t
 | .mk k R a s mn mx lz ix nm,n => by simp only [Tn.pn,Lt.tn];rw [pnL_tn s n]
theorem pnL_tn:∀ (ts:List Tn) (n:Nat),tnL (pnL ts n) = ts
 | [],n => rfl
 | t :: ts,n => by simp only [pnL,tnL];rw [pn_tn t n,pnL_tn ts (n + t.nodes)]
end
theorem pn_lb (t:Tn) (n:Nat):(t.pn n).lb + 1 = n + t.nodes:=by
 obtain ⟨k,R,a,s,mn,mx,lz,ix,nm⟩:=t
 simp only [Tn.pn,Lt.lb,Tn.nodes]
 omega
theorem pnL_app (a b:List Tn) (n:Nat):pnL (a ++ b) n = pnL a n ++ pnL b (n + nodesL a):=by
 induction a generalizing n with
 | nil => simp [pnL,nodesL]
 | cons t a ih => simp only [List.cons_append,pnL,nodesL,ih,Nat.add_assoc]
theorem pnL_len (ts:List Tn) (n:Nat):(pnL ts n).length = ts.length:=by
 induction ts generalizing n with
 | nil => rfl
 | cons t ts ih => simp [pnL,ih]
mutual
theorem pn_lbs:∀ (t:Tn) (n x:Nat),x ∈ (t.pn n).lbs → n ≤ x ∧ x < n + t.nodes
 | .mk k R a s mn mx lz ix nm,n,x,h => by
  simp only [Tn.pn,Lt.lbs,List.mem_cons] at h
  simp only [Tn.nodes]
  rcases h with rfl | h
  ·omega
  ·have:=pnL_lbs s n x h;omega
theorem pnL_lbs:∀ (ts:List Tn) (n x:Nat),x ∈ lbsL (pnL ts n) → n ≤ x ∧ x < n + nodesL ts
 | [],n,x,h => by simp [pnL,lbsL] at h
 | t :: ts,n,x,h => by
  simp only [pnL,lbsL,List.mem_append] at h
  simp only [nodesL]
  rcases h with h | h
  ·have:=pn_lbs t n x h;omega
  ·have:=pnL_lbs ts (n + t.nodes) x h;omega
end
mutual
theorem pn_nodup:∀ (t:Tn) (n:Nat),(t.pn n).lbs.Nodup
 | .mk k R a s mn mx lz ix nm,n => by
  simp only [Tn.pn,Lt.lbs,List.nodup_cons]
  exact ⟨fun h => by have:=pnL_lbs s n _ h;omega,pnL_nodup s n⟩
theorem pnL_nodup:∀ (ts:List Tn) (n:Nat),(lbsL (pnL ts n)).Nodup
 | [],n => by simp [pnL,lbsL]
 | t :: ts,n => by
  simp only [pnL,lbsL]
  rw [List.nodup_append]
  refine ⟨pn_nodup t n,pnL_nodup ts _,fun x hx y hy e => ?_⟩
  have:=pn_lbs t n x hx
  have:=pnL_lbs ts _ y hy
  omega
end
structure E8 where
 k:Int
 a:Int
 ix:Int
 r1:Option Addr
 r2:Nat
 r3:Nat
 sa:Option Addr
 sn:Nat
 sc:Nat
 lz:Bool
 up:Int
 nth:Int
abbrev E8.cs (q:E8):List Value:=[.int .i64 q.k,.int .i64 q.a,.int .i64 q.ix,.slice q.r1 q.r2 q.r3,.slice q.sa q.sn q.sc,.bool q.lz,.int .i64 q.up,.int .i64 q.nth]
theorem flat8_len (L:List E8):(L.flatMap E8.cs).length = L.length * 8:=by
 induction L with
 | nil => rfl
 | cons M L ih =>
  have e:(E8.cs M).length = 8:=rfl
  rw [List.flatMap_cons,List.length_append,ih,e,List.length_cons]
  omega
theorem flat8 (L:List E8):∀ (j k:Nat) (hj:j < L.length),k < 8 → (L.flatMap E8.cs)[j * 8 + k]? = (E8.cs L[j])[k]?:=by
 induction L with
 | nil => intro j k hj;simp at hj
 | cons M L ih =>
  intro j k hj hk
  rw [List.flatMap_cons]
  have e9:(E8.cs M).length = 8:=rfl
  cases j with
  | zero => rw [List.getElem?_append_left (by rw [e9];omega)];simp
  | succ j =>
   rw [List.getElem?_append_right (by rw [e9];omega)]
   have:=ih j k (by simpa using hj) hk
   rw [e9,show (j + 1) * 8 + k - 8 = j * 8 + k by omega,this]
   rfl
theorem flat8_setUp:∀ (L:List E8) (j:Nat) (hj:j < L.length) (u:Int),(L.flatMap E8.cs).set (j * 8 + 6) (.int .i64 u) = (L.set j { L[j] with up:=u }).flatMap E8.cs
 | [],j,hj,u => by simp at hj
 | q :: L,0,_,u => by rw [List.flatMap_cons];rfl
 | q :: L,j + 1,hj,u => by
  rw [List.flatMap_cons,List.set_append_right _ _ (by show 8 ≤ _;omega),List.set_cons_succ,List.flatMap_cons]
  rw [show (j + 1) * 8 + 6 - (E8.cs q).length = j * 8 + 6 by show (j + 1) * 8 + 6 - 8 = _;omega,flat8_setUp L j (by simpa using hj) u]
  rfl
theorem flat8_setNth:∀ (L:List E8) (j:Nat) (hj:j < L.length) (u:Int),(L.flatMap E8.cs).set (j * 8 + 7) (.int .i64 u) = (L.set j { L[j] with nth:=u }).flatMap E8.cs
 | [],j,hj,u => by simp at hj
 | q :: L,0,_,u => by rw [List.flatMap_cons];rfl
 | q :: L,j + 1,hj,u => by
  rw [List.flatMap_cons,List.set_append_right _ _ (by show 8 ≤ _;omega),List.set_cons_succ,List.flatMap_cons]
  rw [show (j + 1) * 8 + 7 - (E8.cs q).length = j * 8 + 7 by show (j + 1) * 8 + 7 - 8 = _;omega,flat8_setNth L j (by simpa using hj) u]
  rfl
mutual
def Lt.inQ (W:World) (N0:Nat) (Q:List E8):Lt → Int → Int → Prop
 | .mk lb k R a s mn mx lz ix nm,up,nth => (∃ q,Q[lb]? = some q ∧ q.k = Lt.kk (.mk lb k R a s mn mx lz ix nm) ∧ q.up = up ∧ q.nth = nth ∧ q.sn = s.length ∧ Nds N0 W k R a s lz ix q.a q.ix q.r1 q.r2 q.r3 q.sa q.sc q.lz) ∧ inQL W N0 Q s (lb:Int) 0
def inQL (W:World) (N0:Nat) (Q:List E8):List Lt → Int → Nat → Prop
 | [],_,_ => True
 | t :: ts,up,i => t.inQ W N0 Q up (i:Int) ∧ inQL W N0 Q ts up (i + 1)
end
def KI (N0:Nat) (W W':World):Prop:=(∀ b,b < N0 → W'.heap[b]? = W.heap[b]?) ∧ ∀ (b:Nat) (cur:Array Value),W.heap[b]? = some (.cells cur 3 (0,0)) → W'.heap[b]? = some (.cells cur 3 (0,0))
theorem KI.refl (N0:Nat) (W:World):KI N0 W W:=⟨fun _ _ => rfl,fun _ _ h => h⟩
theorem KI.below {N0:Nat} {W W':World} (h:Below W.heap.size W W') (hN:N0 ≤ W.heap.size):KI N0 W W':=⟨fun b hb => h.block b (by omega),fun b cur hx => (h.block b (Array.getElem?_eq_some_iff.1 hx).1).trans hx⟩
theorem KI.row {N0:Nat} {W W':World} {v:Value} {L:List Int} (f:KI N0 W W') (h:Rw W v L):Rw W' v L:=by
 rcases h with h | ⟨h0,h⟩
 ·exact .inl h
 ·refine .inr ⟨h0,h.1,?_⟩
  rcases h.2 with hn | ⟨g,cap,cur,hv,hb,hg,rest⟩
  ·exact .inl hn
  ·exact .inr ⟨g,cap,cur,hv,hb,f.2 g cur hg,rest⟩
theorem Nds.ki {N0:Nat} {W W':World} {k:Int} {R:List (Int × Int)} {a:Int} {s:List Lt} {lz:Bool} {ix:Int} {a' ix':Int} {r1:Option Addr} {r2 r3:Nat} {sa:Option Addr} {sc:Nat} {lz':Bool} (h:Nds N0 W k R a s lz ix a' ix' r1 r2 r3 sa sc lz') (f:KI N0 W W'):Nds N0 W' k R a s lz ix a' ix' r1 r2 r3 sa sc lz':=
 ⟨h.asr,h.gr,h.lp,fun e => (h.cl e).keptW f.1,f.row h.su⟩
mutual
theorem inQ_on {N0:Nat} {W W':World} (f:KI N0 W W') {Q Q':List E8}:∀ (T:Lt) (up nth:Int),(∀ x ∈ T.lbs,Q'[x]? = Q[x]?) → T.inQ W N0 Q up nth → T.inQ W' N0 Q' up nth
 | .mk lb k R a s mn mx lz ix nm,up,nth,hq,h => by
  simp only [Lt.inQ] at h ⊢
  obtain ⟨⟨q,h1,h2,h3,h4,h5,h6⟩,h7⟩:=h
  exact ⟨⟨q,(hq lb (by simp [Lt.lbs])).trans h1,h2,h3,h4,h5,h6.ki f⟩,inQL_on f s _ _ (fun x hx => hq x (by simp [Lt.lbs,hx])) h7⟩
theorem inQL_on {N0:Nat} {W W':World} (f:KI N0 W W') {Q Q':List E8}:∀ (ts:List Lt) (up:Int) (i:Nat),(∀ x ∈ lbsL ts,Q'[x]? = Q[x]?) → inQL W N0 Q ts up i → inQL W' N0 Q' ts up i
 | [],_,_,_,_ => by simp [inQL]
 | t :: ts,up,i,hq,h => by
  simp only [inQL] at h ⊢
  exact ⟨inQ_on f t _ _ (fun x hx => hq x (by simp [lbsL,hx])) h.1,inQL_on f ts _ _ (fun x hx => hq x (by simp [lbsL,hx])) h.2⟩
end
theorem inQ_root {N0:Nat} {W:World} {Q Q':List E8} {T:Lt} {up nth:Int} (h:T.inQ W N0 Q up nth) (hn:T.lbs.Nodup) {u z:Int} (hr:∀ q,Q[T.lb]? = some q → Q'[T.lb]? = some { q with up:=u,nth:=z }) (ho:∀ x ∈ T.lbs,x ≠ T.lb → Q'[x]? = Q[x]?):T.inQ W N0 Q' u z:=by
 obtain ⟨lb,k,R,a,s,mn,mx,lz,ix,nm⟩:=T
 simp only [Lt.lbs,List.nodup_cons] at hn
 simp only [Lt.lb] at hr ho
 simp only [Lt.inQ] at h ⊢
 obtain ⟨⟨q,h1,h2,h3,h4,h5,h6⟩,h7⟩:=h
 refine ⟨⟨_,hr q h1,h2,rfl,rfl,h5,h6⟩,inQL_on (KI.refl _ _) s _ _ (fun x hx => ho x (by simp [Lt.lbs,hx]) (fun e => hn.1 (e ▸ hx))) h7⟩
def Tops (W:World) (N0:Nat) (Q:List E8) (ts:List Tn) (n:Nat):Prop:=∀ T ∈ pnL ts n,T.inQ W N0 Q (-1) 0
def rts (ts:List Tn) (n:Nat):List Nat:=(pnL ts n).map Lt.lb
theorem lb_in (T:Lt):T.lb ∈ T.lbs:=by cases T;simp [Lt.lb,Lt.lbs]
theorem lbs_in {T:Lt} {ts:List Lt} (h:T ∈ ts):∀ x ∈ T.lbs,x ∈ lbsL ts:=by
 induction ts with
 | nil => cases h
 | cons t ts ih =>
  intro x hx
  simp only [lbsL,List.mem_append]
  rcases List.mem_cons.1 h with rfl | h
  ·exact .inl hx
  ·exact .inr (ih h x hx)
def ups (n:Nat):List Nat → Nat → List E8 → List E8
 | [],_,Q => Q
 | a :: S,i,Q => ups n S (i + 1) (match Q[a]? with | some q => Q.set a { q with up:=(n:Int),nth:=(i:Int) } | none => Q)
theorem ups_len (n:Nat):∀ (S:List Nat) (i:Nat) (Q:List E8),(ups n S i Q).length = Q.length
 | [],_,_ => rfl
 | a :: S,i,Q => by
  simp only [ups]
  rw [ups_len n S (i + 1)]
  split <;> simp
theorem ups_no (n:Nat):∀ (S:List Nat) (i:Nat) (Q:List E8) (x:Nat),x ∉ S → (ups n S i Q)[x]? = Q[x]?
 | [],_,_,_,_ => rfl
 | a :: S,i,Q,x,h => by
  simp only [List.mem_cons,not_or] at h
  simp only [ups]
  rw [ups_no n S (i + 1) _ x h.2]
  split
  ·rw [List.getElem?_set,if_neg (fun e => h.1 e.symm)]
  ·rfl
theorem ups_yes (n:Nat):∀ (S:List Nat) (i:Nat) (Q:List E8),S.Nodup → ∀ (j:Nat) (hj:j < S.length) (q:E8),Q[S[j]]? = some q → (ups n S i Q)[S[j]]? = some { q with up:=(n:Int),nth:=((i + j:Nat):Int) }
 | [],_,_,_,j,hj,_,_ => by simp at hj
 | a :: S,i,Q,hn,0,_,q,h => by
  simp only [List.nodup_cons] at hn
  simp only [List.getElem_cons_zero] at h ⊢
  simp only [ups]
  rw [ups_no n S (i + 1) _ a hn.1,h]
  have hlt:a < Q.length:=(List.getElem?_eq_some_iff.1 h).1
  simp [List.getElem?_set,hlt]
 | a :: S,i,Q,hn,j + 1,hj,q,h => by
  simp only [List.nodup_cons] at hn
  simp only [List.getElem_cons_succ] at h ⊢
  have hne:S[j]'(by simpa using hj) ≠ a:=fun e => hn.1 (e ▸ List.getElem_mem _)
  simp only [ups]
  have:=ups_yes n S (i + 1) (match Q[a]? with | some q => Q.set a { q with up:=(n:Int),nth:=(i:Int) } | none => Q) hn.2 j (by simpa using hj) q (by
   rw [← h]
   split
   ·rw [List.getElem?_set,if_neg (fun e => hne e.symm)]
   ·rfl)
  rw [this]
  simp
  omega
theorem rts_nodup (ts:List Tn) (n:Nat):(rts ts n).Nodup:=by
 induction ts generalizing n with
 | nil => simp [rts,pnL]
 | cons t ts ih =>
  have h:=ih (n + t.nodes)
  simp only [rts,pnL,List.map_cons,List.nodup_cons] at h ⊢
  refine ⟨fun hm => ?_,h⟩
  obtain ⟨T,hT,e⟩:=List.mem_map.1 hm
  have h1:=pn_lb t n
  have h2:=pnL_lbs ts (n + t.nodes) T.lb (lbs_in hT _ (lb_in T))
  omega
theorem inQL_of {N0:Nat} {W:World} {Q:List E8} {up:Int}:∀ (l:List Lt) (i:Nat),(∀ j (hj:j < l.length),(l[j]).inQ W N0 Q up ((i + j:Nat):Int)) → inQL W N0 Q l up i
 | [],_,_ => by simp [inQL]
 | t :: l,i,h => by
  simp only [inQL]
  refine ⟨by have:=h 0 (by simp);simpa using this,inQL_of l (i + 1) fun j hj => ?_⟩
  have:=h (j + 1) (by simpa using hj)
  rw [show i + 1 + j = i + (j + 1) by omega]
  exact this
theorem lbs_apart {ts:List Lt} (hn:(lbsL ts).Nodup):∀ (i j:Nat) (hi:i < ts.length) (hj:j < ts.length),i ≠ j → ∀ x ∈ (ts[i]).lbs,x ∉ (ts[j]).lbs:=by
 induction ts with
 | nil => intro i j hi;simp at hi
 | cons t ts ih =>
  simp only [lbsL] at hn
  rw [List.nodup_append] at hn
  intro i j hi hj hij x hx hx'
  cases i with
  | zero =>
   cases j with
   | zero => exact hij rfl
   | succ j => exact hn.2.2 x hx x (lbs_in (List.getElem_mem (by simpa using hj)) x hx') rfl
  | succ i =>
   cases j with
   | zero => exact hn.2.2 x hx' x (lbs_in (List.getElem_mem (by simpa using hi)) x hx) rfl
   | succ j => exact ih hn.2.1 i j (by simpa using hi) (by simpa using hj) (by omega) x hx hx'
theorem put_tree {N0:Nat} {W:World} {Q:List E8} {ts:List Tn} {n:Nat} (h:Tops W N0 Q ts n) (hn:n + nodesL ts = Q.length) {k:Int} {R:List (Int × Int)} {a mn mx ix:Int} {lz:Bool} {nm:ByteArray} {x:E8} (hk:x.k = Lt.kk ((Tn.mk k R a ts mn mx lz ix nm).pn n)) (hu:x.up = -1) (hz:x.nth = 0) (hs:x.sn = ts.length) (hN:Nds N0 W k R a (pnL ts n) lz ix x.a x.ix x.r1 x.r2 x.r3 x.sa x.sc x.lz) :
  ((Tn.mk k R a ts mn mx lz ix nm).pn n).inQ W N0 (ups Q.length (rts ts n) 0 Q ++ [x]) (-1) 0:=by
 have hl:=ups_len Q.length (rts ts n) 0 Q
 simp only [Tn.pn] at hk ⊢
 simp only [Lt.inQ]
 refine ⟨⟨x,?_,hk,hu,hz,by rw [pnL_len];exact hs,hN⟩,?_⟩
 ·rw [List.getElem?_append_right (by omega),hl,hn]
  simp
 ·rw [hn]
  refine inQL_of _ 0 fun j hj => ?_
  have hT:=h _ (List.getElem_mem hj)
  have hjr:j < (rts ts n).length:=by simpa [rts] using hj
  have hjl:(rts ts n)[j] = ((pnL ts n)[j]).lb:=by simp [rts]
  have hlt:∀ y ∈ ((pnL ts n)[j]).lbs,y < Q.length:=fun y hy => by
   have:=pnL_lbs ts n y (lbs_in (List.getElem_mem hj) y hy)
   omega
  refine inQ_root hT ?_ (fun q hq => ?_) (fun y hy hne => ?_)
  ·have hnd:=pnL_nodup ts n
   clear hT hjr hjl hlt
   revert hj
   generalize pnL ts n = l at hnd
   intro hj
   induction l generalizing j with
   | nil => simp at hj
   | cons t l ih =>
    simp only [lbsL] at hnd
    rw [List.nodup_append] at hnd
    cases j with
    | zero => exact hnd.1
    | succ j => exact ih j hnd.2.1 (by simpa using hj)
  ·rw [List.getElem?_append_left (by rw [hl];exact hlt _ (lb_in _))]
   have:=ups_yes Q.length (rts ts n) 0 Q (rts_nodup ts n) j hjr q (by rw [hjl];exact hq)
   rw [hjl] at this
   rw [this]
  ·rw [List.getElem?_append_left (by rw [hl];exact hlt _ hy)]
   refine ups_no _ _ _ _ _ fun hm => ?_
   obtain ⟨i,hi,e⟩:=List.mem_iff_getElem.1 hm
   have hi':i < (pnL ts n).length:=by simpa [rts] using hi
   have hil:(rts ts n)[i] = ((pnL ts n)[i]).lb:=by simp [rts]
   rw [hil] at e
   by_cases hij:i = j
   ·subst hij;exact hne e.symm
   ·exact lbs_apart (pnL_nodup ts n) i j hi' hj hij _ (lb_in _) (e ▸ hy)
end Go.Proofs.Ytbdhiichhcihgaa
namespace Go.Proofs.Ytbdhiichhcihgaa
open Go Go.RowKit
set_option linter.unusedVariables false
section
variable {P:Program} {ops:Array Oper} {Q:Exit → Act → World → Prop} {md:Region.Mode} {S:World → Prop} {L:Nat}
def lexK (md:Region.Mode) (ops:Array Oper) (L:Nat):List Nat → Array Bool → Bool
 | [],_ => true
 | k :: ks,listed => (Region.ready md ops listed).contains k && Region.free md ops listed k && Region.waitsFor md ops L k && lexK md ops L ks (listed.setIfInBounds k true)
def marksK:List Nat → Array Bool → Array Bool
 | [],listed => listed
 | k :: ks,listed => marksK ks (listed.setIfInBounds k true)
def seqK (md:Region.Mode) (ops:Array Oper):List Nat → Array Bool → Bool
 | [],listed => (Region.ready md ops listed).isEmpty
 | k :: ks,listed => decide (Region.ready md ops listed = [k]) && seqK md ops ks (listed.setIfInBounds k true)
def opsAt (ops:Array Oper):List Nat → List Oper
 | [] => []
 | k :: ks => match ops[k]? with | some o => o :: opsAt ops ks | none => opsAt ops ks
def opsNo (ops:Array Oper):List Nat → List (Nat × Oper)
 | [] => []
 | k :: ks => match ops[k]? with | some o => (k,o) :: opsNo ops ks | none => opsNo ops ks
theorem wpAnyX_lexK {g:Nat} {w:World} (hsel:Region.noSelect ops = true) (hS:S w) :
  ∀ (ks:List Nat) (listed:Array Bool) (a:Act),lexK md ops L ks listed = true →
  wpLex P ops Q S (fun a' => wpAnyX P md ops Q S L g (marksK ks listed) a' w) (opsAt ops ks) a → wpAnyX P md ops Q S L (ks.length + g) listed a w
 | [],listed,a,_,h => by simpa [marksK,opsAt,wpLex] using h
 | k :: ks,listed,a,hB,h => by
  simp only [lexK,Bool.and_eq_true] at hB
  obtain ⟨⟨⟨hr,hf⟩,hL⟩,hB'⟩:=hB
  have hr':k ∈ Region.ready md ops listed:=by simpa using hr
  obtain ⟨_,o,h0,_⟩:=mem_ready.1 hr'
  simp only [opsAt,h0] at h
  obtain ⟨v,hy,hQ,hK⟩:=h
  rw [show (k :: ks).length + g = (ks.length + g) + 1 by simp only [List.length_cons];omega]
  exact wpAnyX_first h0 (Region.noSelect_spec hsel) hQ hL (ks.length + g) listed a w (Region.free_spec h0 hf) hr' hy hS
   (wpAnyX_lexK hsel hS ks _ _ hB' hK)
def wpTailK (P:Program) (ops:Array Oper) (Q:Exit → Act → World → Prop) (S:World → Prop) (L:Nat):List (Nat × Oper) → Act → World → Prop
 | [],a,w => Q .normal a w
 | (k,o) :: l,a,w => ∀ K:Act → World → Prop,Hid (∀ a' w',(k ≠ L → S w') → wpTailK P ops Q S L l a' w' → K a' w') → if Region.wanted o (yielded ops a.tmps) = true then Oper.wp P o a w K Q else K (a.put o.dst undef) w
theorem tailK_cons {o:Oper} {l:List (Nat × Oper)} {k:Nat} {a:Act} {w:World} (h:∀ K:Act → World → Prop,Hid (∀ a' w',(k ≠ L → S w') → wpTailK P ops Q S L l a' w' → K a' w') → if Region.wanted o (yielded ops a.tmps) = true then Oper.wp P o a w K Q else K (a.put o.dst undef) w):wpTailK P ops Q S L ((k,o) :: l) a w:=h
theorem tailK_nil {a:Act} {w:World} (h:Q .normal a w):wpTailK P ops Q S L [] a w:=h
theorem wpAnyX_of_tailK:∀ (js:List Nat) (listed:Array Bool) (a:Act) (w:World),
  seqK md ops js listed = true → wpTailK P ops Q S L (opsNo ops js) a w → wpAnyX P md ops Q S L js.length listed a w
 | [],_,_,_,hB,h => ⟨by simpa [seqK] using hB,h⟩
 | k :: js,listed,a,w,hB,h => by
  simp only [seqK,Bool.and_eq_true,decide_eq_true_eq] at hB
  have hr:k ∈ Region.ready md ops listed:=by rw [hB.1];simp
  obtain ⟨_,o,h0,_⟩:=mem_ready.1 hr
  simp only [opsNo,h0] at h
  refine ⟨fun h1 => absurd (hB.1.symm.trans h1) (by simp),fun j hj => ?_⟩
  rw [hB.1] at hj
  have:j = k:=by simpa using hj
  subst this
  have h1:=h (fun a' w' => (j ≠ L → S w') ∧ wpAnyX P md ops Q S L js.length (listed.setIfInBounds j true) a' w') ((fun a' w' h1 h2 => ⟨h1,wpAnyX_of_tailK js _ a' w' hB.2 h2⟩))
  unfold wpOp
  simp only [h0]
  split
  ·rename_i hw;rw [if_pos hw] at h1;exact .inl h1
  ·rename_i hw;rw [if_neg hw] at h1;exact h1
theorem wp_region_lexK {id:Nat} {a:Act} {w:World} (ks js:List Nat) (L:Nat) (S:World → Prop) (hm:P.follows .mixedOrders = true) (hsel:Region.noSelect ops = true) (hn:ks.length + js.length = ops.size) (hB:lexK .any ops L ks (Array.replicate ops.size false) = true)
  (hT:seqK .any ops js (marksK ks (Array.replicate ops.size false)) = true) (hS:S w.drew)
  (h:wpLex P ops Q S (fun a' => wpTailK P ops Q S L (opsNo ops js) a' w.drew) (opsAt ops ks) a):(Code.region id ops true).wp P Q a w:=by
 have hlex:∀ (l':List Oper) (a:Act),wpLex P ops Q S (fun a' => wpTailK P ops Q S L (opsNo ops js) a' w.drew) l' a → wpLex P ops Q S (fun a' => wpAnyX P .any ops Q S L js.length (marksK ks (Array.replicate ops.size false)) a' w.drew) l' a:=by
  intro l'
  induction l' with
  | nil => intro a h;exact wpAnyX_of_tailK (md:=.any) js _ a w.drew hT h
  | cons o l' ih => rintro a ⟨v,h1,h2,h3⟩;exact ⟨v,h1,h2,ih _ h3⟩
 have H:=wpAnyX_lexK (md:=.any) (L:=L) (Q:=Q) (g:=js.length) (P:=P) (w:=w.drew) hsel hS ks (Array.replicate ops.size false) a hB (hlex _ _ h)
 rw [hn] at H
 exact wp_region_any hm (by simpa using wpAny_of_X _ _ _ _ H)
end
end Go.Proofs.Ytbdhiichhcihgaa
namespace Go.Proofs.Ytbdhiichhcihgaa
open Go.RowKit
set_option linter.unusedVariables false
set_option linter.unusedSimpArgs false
theorem step_call3 {P:Program} {ops:Array Oper} {o:Oper} {a:Act} {w:World} {K:Act → World → Prop} {Q:Exit → Act → World → Prop} {E:Prop} (hg:o.guard = none) (f:FuncId) (x y z:Operand) (t u v:TypeId)
  (hop:o.op = Op.call { callee:=Callee.value (.func f),args:=#[x,y,z],argTypes:=#[t,u,v] }) (hen:∀ args w,(callFunc f args).run P w = .ok (.enter f args) w)
  (hc:Calls P f #[a.eval x,a.eval y,a.eval z] w fun e w' => ∃ v,e = .returned v ∧ K (a.put o.dst v) w') :
  if Region.wanted o (yielded ops a.tmps) = true then Oper.wp P o a w K Q else E:=by
 have hw:Region.wanted o (yielded ops a.tmps) = true:=by simp [Region.wanted,hg]
 rw [if_pos hw]
 have h2:=hen #[a.eval x,a.eval y,a.eval z] w
 unfold Oper.wp
 have ev:a.eval (.func f) = .func (.func f) #[] #[]:=rfl
 simp [execOp,hop,resolve,invoke,ev,Deferred.ofValue,h2,Result.andThen]
 show Calls P f #[a.eval x,a.eval y,a.eval z] w _
 refine hc.mono fun e w' h => ?_
 obtain ⟨v,rfl,hk⟩:=h
 exact hk
theorem step_append {P:Program} {w:World} {ops:Array Oper} {o:Oper} {a:Act} {K:Act → World → Prop} {Q:Exit → Act → World → Prop} {E:Prop} (hgd:o.guard = none) (s x:Operand) (t:TypeId)
  (ho:o.op = .call { callee:=.builtin .append,args:=#[s,x],argTypes:=#[t,t] })
  (base:Nat) (e:TypeId) (i:TypeInfo) (z:Value) (size bytes:Nat) (ht:P.underlying t = some (.slice e)) (hi:P.info? e = some i) (hz:i.zero = some z)
  (hsize:i.size = size) (hby:i.bytes = bytes) (hzs:z.cells.size = size) (hpos:0 < size)
  (v:Value) (n:Nat) (xs:List Value) (hs:a.eval s = v) (hown:w.ownsRow base e size v n xs)
  (ad:Addr) (m c:Nat) (news:List Value) (hx:a.eval x = .slice (some ad) m c) (hl:news.length = m * size) (hm:0 < m) (hnews:∀ j u,news[j]? = some u → w.cell? (ad.add j) = some u) (h1:∀ u ∈ news,u.oneCell' = true)
  (h63:n + m ≤ maxLen) (hbytes:(n + m) * bytes ≤ 140737488355328) (hbase:base ≤ w.heap.size)
  (h:∀ v' w',Hid (w'.ownsRow base e size v' (n + m) (xs ++ news)) → Hid (Moved w w' v v') → K (a.put o.dst v') w'):if Region.wanted o (yielded ops a.tmps) = true then Oper.wp P o a w K Q else E:=by
 have hw:Region.wanted o (yielded ops a.tmps) = true:=by simp [Region.wanted,hgd]
 rw [if_pos hw]
 obtain ⟨v',w',hr,h2,h3⟩:=run_append_moveN (P:=P) w base t o.type e i z size bytes ht hi hz hsize hby hzs hpos v n xs hown ad m c news hl hm hnews h1 h63 hbytes hbase
 unfold Oper.wp execOp
 simp only [ho,resolve,invoke,builtin,Sem.run_bind,Sem.run_pure,Result.andThen_ok,List.map_toArray,List.map_cons,List.map_nil,hs,hx,hr]
 exact h v' w' h2 h3
theorem sub_cell {W:World} {sa:Option Addr} {m sc:Nat} {l:List Int} (h:Rw W (.slice sa m sc) l) (hm:m = l.length) {i:Nat} (hi:i < m):∃ g,sa = some ⟨g,0,none⟩ ∧ W.cell? ⟨g,i,none⟩ = some (.int .i64 (l.getD i 0)):=by
 subst hm
 rcases h with ⟨_,e⟩ | ⟨h0,h⟩
 ·subst e;simp at hi
 ·rcases Joins.ownsRow_forms h with ⟨_,e⟩ | ⟨g,cap,e⟩
  ·omega
  ·simp only [Value.slice.injEq] at e
   obtain ⟨rfl,_,rfl⟩:=e
   exact ⟨g,rfl,by rw [h.cellAt i (by omega)];simp [List.getD_eq_getElem?_getD,List.getElem?_eq_getElem hi]⟩
theorem sub_at {W:World} {sa:Option Addr} {sc:Nat} {s:List Lt} (h:Rw W (.slice sa s.length sc) (s.map fun t => (t.lb:Int))) {i:Nat} (hi:i < s.length):∃ g,sa = some ⟨g,0,none⟩ ∧ W.cell? ⟨g,i,none⟩ = some (.int .i64 ((s[i]).lb:Int)):=by
 obtain ⟨g,h1,h2⟩:=sub_cell h (by simp) hi
 refine ⟨g,h1,?_⟩
 rw [h2]
 simp [List.getD_eq_getElem?_getD,List.getElem?_eq_getElem hi]
theorem fwC_next {s:List Lt} {i:Nat} {B:Way} (hi:i < s.length):fwC (s.drop i) B = (s[i]).fw (fwC (s.drop (i + 1)) B):=by
 rw [List.drop_eq_getElem_cons hi]
 rfl
theorem Parsed.form {N:Nat} {w:World} {pv:Value} {l:List (Int × List Int)} (h:Parsed N w pv l):∃ a c,pv = .slice a l.length c:=by
 rcases h.ends with ⟨rfl,rfl⟩ | ⟨b,cap,rfl,_⟩
 ·exact ⟨none,0,rfl⟩
 ·exact ⟨_,_,rfl⟩
theorem en86:∀ (args:Array Value) (w:World),(callFunc 32 args).run Try.prog w = .ok (.enter 32 args) w:=enter_of Try.func32 (by kernel_rfl) rfl
theorem info57w:(Try.prog.info? 45).map (fun i => (i.zero,i.size,i.bytes)) = some (some (.agg #[.int .i64 0,.slice none 0 0]),2,32):=by kernel_rfl
theorem FM.push {C:WC} {W1 W2 W3:World} {done:List (Int × Int)} {out:List (Int × List Int)} (hk:WCk C) (h:FM C W1 done out) {v v':Value} {cs:List Value} {F:List Nat} (hbx:WBx C W1 v)
  (ho:W1.ownsRow C.NB 45 2 v out.length cs) (hP:PR C.NB W1 cs out F) (hb:Below W1.heap.size W1 W2) {e:Int} {cp:List Int} {cv:Value} {base:Nat} (hc:W2.ownsRow base 3 1 cv cp.length (I64 cp)) (hbase:C.NB ≤ base) {o:Obj}
  (hm:Moved (W2.alloc o) W3 v v') (ho3:W3.ownsRow C.NB 45 2 v' (out.length + 1) (cs ++ [.int .i64 e,cv])) :
  FM C (W3.setCell ⟨C.wb,6,none⟩ v') done (out ++ [(e,cp)]) ∧ WFr C W1 (W3.setCell ⟨C.wb,6,none⟩ v'):=by
 have hs:=hb.size
 have hs3:W2.heap.size ≤ W3.heap.size:=by rcases hm with ⟨_,h⟩ | ⟨_,h⟩ <;> (have:=h.size;simp at this;omega)
 have hbl:=hbx.lt
 have old2:∀ k,k < W2.heap.size → v.ownBlock ≠ some k → W3.heap[k]? = W2.heap[k]?:=fun k hk hne => (moved_old' hm (by simp;omega) hne).trans (heap_alloc_old W2 _ hk)
 have old:∀ k,k < W1.heap.size → v.ownBlock ≠ some k → W3.heap[k]? = W1.heap[k]?:=fun k hk hne => (old2 k (by omega) hne).trans (hb.block k hk)
 have hb3:WBx C W3 v:=(old C.wb hbl (own_ne ho hbx (by decide))).trans hbx
 have set:∀ k,k ≠ C.wb → (W3.setCell ⟨C.wb,6,none⟩ v').heap[k]? = W3.heap[k]?:=fun k hk => Below.heap_setCell _ _ _ _ hk
 have typ:∀ (b:Nat) (cur:Array Value) (T:Nat),T ≠ 56 → T ≠ 45 → W1.heap[b]? = some (.cells cur T (0,0)) → (W3.setCell ⟨C.wb,6,none⟩ v').heap[b]? = some (.cells cur T (0,0)):=fun b cur T h1 h2 hx =>
  (set b (fun e => by rw [e,hbx] at hx;simp at hx;exact h1 hx.2.symm)).trans ((old b (Array.getElem?_eq_some_iff.1 hx).1 (own_ne ho hx h2)).trans hx)
 have fr:WFr C W1 (W3.setCell ⟨C.wb,6,none⟩ v'):=by
  refine ⟨?_,?_,?_,by simp [World.setCell];omega,fun b hb1 => ?_,fun b cur t _ h1 h2 hx => typ b cur t h1 h2 hx⟩
  ·rcases hm with ⟨_,h⟩ | ⟨_,h⟩ <;> exact h.os.trans hb.os
  ·rcases hm with ⟨_,h⟩ | ⟨_,h⟩ <;> exact h.tape.trans hb.tape
  ·rcases hm with ⟨_,h⟩ | ⟨_,h⟩ <;> exact h.output.trans hb.output
  ·have:=hk.wbN
   exact (set b (by omega)).trans (old b (by have:=h.nb;omega) (fun e => by have:=(ho.lt b e).1;omega))
 have hfl:FL C (W3.setCell ⟨C.wb,6,none⟩ v') done:=by
  have one:∀ b n f,BRw W1 b n f → BRw (W3.setCell ⟨C.wb,6,none⟩ v') b n f:=fun b n f ⟨arr,h1,h2⟩ => ⟨arr,typ b arr 4 (by decide) (by decide) h1,h2⟩
  exact ⟨fun i hi => one _ _ _ (h.fl.b i hi),fun i hi => one _ _ _ (h.fl.d i hi),one _ _ _ h.fl.e⟩
 refine ⟨h.next fr ⟨v',Joins.block_setCell (i:=6) hb3 _,cs ++ [.int .i64 e,cv],F ++ cv.ownBlock.toList,?_,?_⟩ hfl,fr⟩
 ·rw [List.length_append]
  exact own_setCell ho3 (own_ne ho3 hb3 (by decide))
 ·refine (hP.kept fun k hk => ?_).snoc ?_
  ·obtain ⟨cur,hx⟩:=hP.typ k hk
   exact (typ k cur 3 (by decide) (by decide) hx).trans hx.symm
  ·refine row_kept (Joins.ownsRow_le hc hbase) fun b hb' => ?_
   obtain ⟨cur,hx⟩:∃ cur,W2.heap[b]? = some (.cells cur 3 (0,0)):=by
    rcases hc.2 with ⟨e,_⟩ | ⟨b2,cap,cur,e,_,hgg,_⟩
    ·subst e;simp [Value.ownBlock] at hb'
    ·subst e;simp [Value.ownBlock] at hb';subst hb';exact ⟨cur,hgg⟩
   have hbl2:=(Array.getElem?_eq_some_iff.1 hx).1
   refine (set b (fun e => ?_)).trans (old2 b hbl2 (fun e => ?_))
   ·rw [e,hb.block C.wb hbl,hbx] at hx;simp at hx
   ·rcases ho.2 with ⟨e2,_⟩ | ⟨b2,cap,cur2,e2,_,hgg,_⟩
    ·subst e2;simp [Value.ownBlock] at e
    ·subst e2
     simp [Value.ownBlock] at e
     subst e
     rw [hb.block _ (Array.getElem?_eq_some_iff.1 hgg).1,hgg] at hx
     simp at hx
set_option maxRecDepth 100000 in
set_option maxHeartbeats 8000000 in
theorem behind_root {C:WC} (hk:WCk C) {lb:Nat} {k:Int} {R:List (Int × Int)} {a:Int} {s:List Lt} {mn mx:Int} {lz:Bool} {ix:Int} {nm:ByteArray} {nth:Nat} {p:Nat} {g g1:Sg}
  (he:(⟨.mk lb k R a s mn mx lz ix nm,.once 1 .through,-1,nth⟩:Pl) ∈ C.L) (hx:Ex C.tx C.E (.once 1 .through) p g g1):WCall C 28 lb p g g1:=by
 intro W caps cv h
 have hlb:=hk.num _ he
 have hnn:=hk.nn
 have htn:=hk.tn64
 have hp:=h.p64
 simp only [Lt.lb] at hlb
 obtain ⟨k0,k1,k2,k3,k4,k5,t0⟩:=h.fm.cells
 obtain ⟨a',ix',r1,r2,r3,sa,sc,lz',⟨-,-,-,-,-,-,n6,-⟩,-⟩:=h.fm.pl _ he
 have i1:(lb:Int) < (C.n:Int):=by omega
 have i2:(lb:Int) ≤ 300000:=by omega
 have i3:(p:Int) < ((C.tn + 1:Nat):Int):=by omega
 have i4:(p:Int) ≤ 64:=by omega
 have hee:=h.fm.fl.e.cell (i:=p) (by omega)
 have hef:=h.fm.fl.e.free p
 obtain ⟨d,hd⟩:∃ d,d = decide ((1,(p:Int)) ∈ g.done):=⟨_,rfl⟩
 rw [← hd] at hee
 have HD:=hid hd
 clear hd
 obtain ⟨m,hm⟩:∃ m,m = C.tn + 1:=⟨_,rfl⟩
 rw [← hm] at i3 k5
 have HH:=hid h
 have HHK:=hid hk
 have HX:=hid hx
 clear hk he h hx hlb hnn htn hp hm
 go_enter Try.func28,Try.ntmps28
 cases d
 rotate_left
 ·go_wp2_with fail
  refine bodyPost_ret (results_none rfl _ _ _) rfl ?_
  have hdd:=of_decide_eq_true HD.out.symm
  cases HX.out with
  | skip _ => exact ⟨rfl,HH.out.fm,WFr.refl _ _⟩
  | once hn _ => exact absurd hdd hn
 ·have hg1:g1 = ⟨g.done ++ [(1,(p:Int))],g.notes,g.parses ++ [((p:Int),(caps.set 0 C.frm).set 1 (p:Int))]⟩:=by
   have hdd:=of_decide_eq_false HD.out.symm
   cases HX.out with
   | skip hn => exact absurd hn hdd
   | once _ hd => cases hd;rw [HH.out.nt]
  have HG1:=hid hg1
  clear hg1 HX HD
  obtain ⟨W1,hW1⟩:∃ W1,W1 = W.setCell ⟨C.eb,p,none⟩ (.bool true):=⟨_,rfl⟩
  obtain ⟨fm1,fr1⟩:=HH.out.fm.ended HHK.out HH.out.p64
  rw [← hW1] at fm1 fr1
  have HF1:=hid fm1
  have HR1:=hid fr1
  have hcv:=fr1.row HH.out.cap
  obtain ⟨l0,l1,l2,l3,l4,l5,lt0⟩:=fm1.cells
  have HS0:Hid (∀ (V:World),SrcOf V cv caps → Calls Try.prog 32 #[cv,.int .i64 ((0:Nat):Int),.int .i64 C.frm] V fun e w' => ∃ v',e = .returned v' ∧ w'.ownsRow V.heap.size 3 1 v' caps.length (I64 (caps.set 0 C.frm)) ∧ Below V.heap.size V w'):=fun V hS => set39 caps cv 0 C.frm V hS (by have:=HH.out.capl;have:=HHK.out.k2;omega) (by have:=HH.out.capl;have:=HHK.out.k2;omega)
  have HS1:Hid (∀ (V:World) (v':Value),SrcOf V v' (caps.set 0 C.frm) → Calls Try.prog 32 #[v',.int .i64 ((1:Nat):Int),.int .i64 (p:Int)] V fun e w' => ∃ v'',e = .returned v'' ∧ w'.ownsRow V.heap.size 3 1 v'' (caps.set 0 C.frm).length (I64 ((caps.set 0 C.frm).set 1 (p:Int))) ∧ Below V.heap.size V w'):=fun V v' hS => set39 _ v' 1 (p:Int) V hS (by have:=HH.out.capl;have:=HHK.out.k2;simp;omega) (by have:=HH.out.capl;have:=HHK.out.k2;simp;omega)
  have HC0:Calls Try.prog 32 #[cv,.int .i64 0,.int .i64 C.frm] W1 fun e w' => ∃ v',e = .returned v' ∧ w'.ownsRow W1.heap.size 3 1 v' caps.length (I64 (caps.set 0 C.frm)) ∧ Below W1.heap.size W1 w':=HS0.out W1 hcv.src
  have HW1:=hid hW1
  clear fm1 fr1 hcv hW1
  go_upto_region 4 with fail
  rw [← HW1.out]
  clear k0 k1 k2 k3 k4 k5 t0 n6 hee hef
  go_upto_region 5 with (first | (go_at_call 32;(with_reducible refine HC0.mono ?_);rintro e W2 ⟨v1,rfl,ho1,hb1⟩;have HO1:=hid ho1;have HB1:=hid hb1;clear ho1 hb1 HC0))
  clear l0 l1 l2 l3 l4 l5 lt0
  obtain ⟨fm2,fr2⟩:=HF1.out.below HHK.out HB1.out
  obtain ⟨vo,hbx,cs,F,hrow,hPR⟩:=fm2.box
  obtain ⟨oa,oc,hvo⟩:∃ oa oc,vo = .slice oa g.parses.length oc:=by
   obtain ⟨a,c,e,_⟩:=row_form hrow
   exact ⟨a,c,e⟩
  subst hvo
  have l6:W2.cell? ⟨C.wb,6,none⟩ = some (.slice oa g.parses.length oc):=Joins.cell_of_block hbx 6
  obtain ⟨ol,hol⟩:∃ ol,ol = g.parses.length:=⟨_,rfl⟩
  rw [← hol] at l6 hbx hrow
  have HOL:=hid hol
  have hol7:ol ≤ 70:=by rw [hol];exact HH.out.ol
  have hNB:=fm2.nb
  have HFM2:=hid fm2
  have HFR2:=hid (HR1.out.trans fr2)
  have HBX:=hid hbx
  have HROW:=hid hrow
  have HPR:=hid hPR
  have HSW:Hid (∀ V,Below W2.heap.size W2 V → V.cell? ⟨C.wb,6,none⟩ = some (.slice oa ol oc)):=fun V hV => (cell_eq (hV.block C.wb (HBX.out).lt) _).trans l6
  have HCL:Hid (caps.length = C.K):=HH.out.capl
  have HK2:=hid HHK.out.k2
  clear fm2 fr2 hbx hrow hPR hol
  obtain ⟨i0,hi0,hz0,hz1,hz2⟩:=info_parts info57w
  refine wp_region_lexK [0,1,2,3,4,5,6,7] [8,9,10,11,12,13,14] 14 (fun V => V.cell? ⟨C.wb,6,none⟩ = some (.slice oa ol oc)) (by kernel_rfl) (by kernel_rfl) rfl (by kernel_rfl) (by kernel_rfl) l6 ?_
  simp only [opsAt,opsNo,List.getElem?_toArray,List.getElem?_cons_zero,List.getElem?_cons_succ]
  iterate 8
   refine lex_cons ?_ rfl (fun V hV => ?_) (fun _ _ _ h => h) ?_
   rotate_left
   ·have s0:=hV
    go_simp <;> with_reducible rfl
   simp only [Act.put,List.setIfInBounds_toArray,List.set_cons_zero,List.set_cons_succ]
  refine lex_nil (tailK_cons fun K hK => ?_)
  refine step_call3 rfl 32 (.tmp 50) (.const (.int .i64 1)) (.tmp 51) 26 3 3 rfl en86 ?_
  refine (HS1.out W2.drew v1 ?_).mono ?_
  ·exact (Rw.of HO1.out (by have:=HCL.out;have:=HK2.out;omega)).src
  rintro e w3 ⟨v2,rfl,ho2,hb2⟩
  obtain ⟨vb,vc,rfl⟩:=Joins.ownsRow_form ho2 (by have:=HCL.out;have:=HK2.out;simp;omega)
  have hB3:Below W2.heap.size W2 w3:=(show Below W2.heap.size W2 W2.drew from ⟨rfl,rfl,rfl,Nat.le_refl _,fun _ _ => rfl⟩).trans hb2
  obtain ⟨cl,hcl⟩:∃ cl,cl = (caps.set 0 C.frm).length:=⟨_,rfl⟩
  rw [← hcl] at ho2 ⊢
  have HCLL:=hid hcl
  have HO2:=hid ho2
  have HB3:=hid hB3
  have hs3:=hB3.size
  clear hcl ho2 hb2 hB3
  refine ⟨_,rfl,hK.out _ _ (fun _ => HSW.out w3 HB3.out) (tailK_cons fun K hK => ?_)⟩
  simp only [Act.put,List.setIfInBounds_toArray,List.set_cons_zero,List.set_cons_succ]
  go_simp
  refine hK.out _ _ (fun _ => HSW.out w3 HB3.out) (tailK_cons fun K hK => ?_)
  simp only [Act.put,List.setIfInBounds_toArray,List.set_cons_zero,List.set_cons_succ]
  go_simp
  have hBA:Below W2.heap.size W2 (w3.alloc (.cells #[.int .i64 (p:Int),.slice (some ⟨vb,0,none⟩) cl vc] 45)):=HB3.out.trans (Joins.below_le (Joins.below_alloc1 w3 _) hs3)
  refine hK.out _ _ (fun _ => HSW.out _ hBA) (tailK_cons fun K hK => ?_)
  clear hBA
  have hrow3:w3.ownsRow C.NB 45 2 (.slice oa ol oc) ol cs:=row_kept HROW.out fun b hb => HB3.out.block b (HROW.out.lt b hb).2
  refine step_append rfl (.tmp 48) (.tmp 54) 41 rfl C.NB 45 i0 (.agg #[.int .i64 0,.slice none 0 0]) 2 32 Try.underlying41 hi0 hz0 hz1 hz2 rfl (by decide) (.slice oa ol oc) ol cs rfl (hrow3.alloc _) ⟨w3.heap.size,0,none⟩ 1 1 [.int .i64 (p:Int),.slice (some ⟨vb,0,none⟩) cl vc] rfl rfl (by decide) ?_ ?_ (by unfold maxLen;omega) (by omega) (by simp;omega) ?_
  ·intro j u hj
   match j,hj with
   | 0,hj => simp at hj;subst hj;simp [Addr.add]
   | 1,hj => simp at hj;subst hj;simp [Addr.add]
  ·intro u hu
   simp at hu
   rcases hu with rfl | rfl <;> rfl
  intro v' w4 ho4 hm4
  obtain ⟨vb4,vc4,rfl⟩:=Joins.ownsRow_form ho4.out (by omega)
  have HPU:=hid (HFM2.out.push HHK.out (e:=(p:Int)) (cp:=(caps.set 0 C.frm).set 1 (p:Int)) (cv:=.slice (some ⟨vb,0,none⟩) cl vc) (v:=.slice oa ol oc) (cs:=cs) (F:=F) (by rw [HOL.out] at HBX ⊢;exact HBX.out) (by rw [← HOL.out];exact HROW.out) HPR.out HB3.out (by rw [List.length_set,← HCLL.out];exact HO2.out) (show C.NB ≤ W2.heap.size from hNB) hm4.out (by rw [← HOL.out];exact ho4.out))
  have hb4:WBx C w4 (.slice oa ol oc):=by
   have hbl:=(HBX.out).lt
   exact (moved_old' hm4.out (by simp;omega) (own_ne HROW.out HBX.out (by decide))).trans ((heap_alloc_old w3 _ (by omega)).trans ((HB3.out.block C.wb hbl).trans HBX.out))
  have q6:w4.cell? ⟨C.wb,6,none⟩ = some (.slice oa ol oc):=Joins.cell_of_block hb4 6
  have uq6:=Joins.unfrozen_of_block hb4 6
  clear hrow3 ho4 hm4 hb4
  refine hK.out _ _ (fun _ => q6) (tailK_cons fun K hK => ?_)
  simp only [Act.put,List.setIfInBounds_toArray,List.set_cons_zero,List.set_cons_succ]
  go_simp
  refine hK.out _ _ (fun _ => q6) (tailK_cons fun K hK => ?_)
  simp only [Act.put,List.setIfInBounds_toArray,List.set_cons_zero,List.set_cons_succ]
  go_simp
  refine hK.out _ _ (fun _ => q6) (tailK_cons fun K hK => ?_)
  simp only [Act.put,List.setIfInBounds_toArray,List.set_cons_zero,List.set_cons_succ]
  go_simp
  refine hK.out _ _ (fun h => absurd rfl h) (tailK_nil ?_)
  try simp only [Act.put,List.setIfInBounds_toArray,List.set_cons_zero,List.set_cons_succ]
  clear q6 uq6 l6
  go_wp2_with fail
  refine bodyPost_ret (results_none rfl _ _ _) rfl ?_
  refine ⟨rfl,?_,HFR2.out.trans HPU.out.2⟩
  rw [HG1.out]
  exact HPU.out.1
end Go.Proofs.Ytbdhiichhcihgaa
