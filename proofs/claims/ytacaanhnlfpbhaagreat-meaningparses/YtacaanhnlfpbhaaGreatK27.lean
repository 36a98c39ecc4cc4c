/- HELPERS: texts of ours put together. -/
import Derived.Test.YtacaanhnlfpbhaaGreatK26
import Derived.Test.YtacaanhnlfpbhaaGreatK23
namespace Go.Proofs.YtacaanhnlfpbhaaGreat
open Go.RowKit
set_option linter.unusedVariables false
set_option linter.unusedSimpArgs false
def KX (N0 lo hi:Nat) (bl:Option Nat) (W W':World):Prop:=(∀ b,b < N0→W'.heap[b]?=W.heap[b]?)∧∀ (b:Nat) (cur:Array Value),lo≤b→b < hi→bl≠some b→W.heap[b]?=some (.cells cur 3 (0,0))→W'.heap[b]?=some (.cells cur 3 (0,0))
def TopX (N0 lo hi:Nat) (bl:Option Nat) (W:World) (Q:List E8) (ts:List Tn) (n:Nat):Prop:=∀ T ∈ pnL ts n,∀ wx Qx,KX N0 lo hi bl W wx→(∀ x ∈ T.lbs,Qx[x]?=Q[x]?)→T.inQ wx N0 Qx (-1) 0
theorem TopX.r {N0 lo hi:Nat} {bl:Option Nat} {W:World} {Q:List E8} {ts:List Tn} {n:Nat} (h:TopX N0 lo hi bl W Q ts n):TopR N0 lo hi W Q ts n:=fun T hT wx Qx hk hq=>h T hT wx Qx ⟨hk.1,fun b cur h1 h2 _=>hk.2 b cur h1 h2⟩ hq
theorem TopX.on {N0 lo hi hi':Nat} {bl bl':Option Nat} {W W':World} {Q Q':List E8} {ts:List Tn} {n:Nat} (h:TopX N0 lo hi bl W Q ts n) (k:∀ wx,KX N0 lo hi' bl' W' wx→KX N0 lo hi bl W wx) (hq:∀ x,n≤x→x < n + nodesL ts→Q'[x]?=Q[x]?):TopX N0 lo hi' bl' W' Q' ts n:=fun T hT wx Qx hk hx=>h T hT wx Qx (k wx hk) (fun x hm=>(hx x hm).trans (by
 have:=pnL_lbs ts n x (lbs_in hT x hm)
 exact hq x this.1 this.2))
theorem TopX.app {N0 lo hi:Nat} {bl:Option Nat} {W:World} {Q:List E8} {ts us:List Tn} {n:Nat} (h:TopX N0 lo hi bl W Q ts n) (h':TopX N0 lo hi bl W Q us (n + nodesL ts)):TopX N0 lo hi bl W Q (ts ++ us) n:=fun T hT=>by
 rw [pnL_app] at hT
 rcases List.mem_append.1 hT with hT | hT
 ·exact h T hT
 ·exact h' T hT
theorem RQ.x {N0 lo hi lo' hi':Nat} {bl:Option Nat} {W W':World} {Q:List E8} {t:Tn} {n:Nat} (h:RQ N0 lo' hi' W Q (t.pn n) (-1) 0) (ki:KI N0 W W') (h1:lo≤lo') (h2:hi'≤hi) (hb:∀ b,bl=some b→b < lo'∨hi'≤b):TopX N0 lo hi bl W' Q [t] n:=fun T hT wx Qx hk hx=>by
 simp only [pnL,List.mem_singleton] at hT
 subst hT
 exact h wx Qx ⟨fun b hb=>(hk.1 b hb).trans (ki.1 b hb),fun b cur b1 b2 hx=>hk.2 b cur (by omega) (by omega) (fun e=>by have:=hb b e;omega) (ki.2 b cur hx)⟩ hx
theorem KX.ki {N0 lo hi hi':Nat} {bl:Option Nat} {W W' wx:World} (ki:KI N0 W W') (h:KX N0 lo hi' bl W' wx) (h2:hi≤hi'):KX N0 lo hi bl W wx:=
 ⟨fun b hb=>(h.1 b hb).trans (ki.1 b hb),fun b cur b1 b2 b3 hx=>h.2 b cur b1 (by omega) b3 (ki.2 b cur hx)⟩
theorem KX.moved {N0 lo hi:Nat} {W W' wx:World} {v v':Value} (hm:Moved W W' v v') (hv:∀ b,v.ownBlock=some b→lo≤b) (hN:N0≤lo) (hlo:lo≤W.heap.size) (hh:hi≤W.heap.size) (h:KX N0 lo W'.heap.size v'.ownBlock W' wx):KX N0 lo hi v.ownBlock W wx:=by
 have hs:=moved_size hm
 refine ⟨fun b hb=>(h.1 b hb).trans (moved_old' hm (by omega) (fun e=>by have:=hv b e;omega)),fun b cur b1 b2 b3 hx=>h.2 b cur b1 (by omega) (fun e=>?_) ((moved_old' hm (by omega) b3).trans hx)⟩
 rcases hm with ⟨e1,_⟩ | ⟨e1,_⟩
 ·rw [e1] at e;exact b3 e
 ·rw [e1] at e;simp at e;omega
theorem lit_rw (w:World) (z:Int):Rw (w.alloc (.cells #[.int .i64 z] 3)) (.slice (some ⟨w.heap.size,0,none⟩) 1 1) [z]:=
 Rw.of (base:=w.heap.size) (n:=1) ⟨rfl,.inr ⟨w.heap.size,1,#[.int .i64 z],rfl,Nat.le_refl _,heap_alloc_new w _,Nat.le_refl _,by simp [maxLen],rfl,rfl⟩⟩ (by decide)
def UnfC (tb N0:Nat) (W0:World) (N:Nv) (x:Tn):Prop:=∀ (W:World) v Q,UM tb N0 W v Q→N0≤W.heap.size→(∀ b,b < N0→W.heap[b]?=W0.heap[b]?)→Q.length + x.nodes≤100000→Calls Tryz.prog 46 #[.pointer (some ⟨tb,0,none⟩),N.v] W (BPost tb N0 W.heap.size x Q.length Q W v)
theorem nodes_pos (t:Tn):1≤t.nodes:=by obtain ⟨k,R,a,s,mn,mx,lz,ix,nm⟩:=t;simp only [Tn.nodes];omega
theorem rowN_nodes2 (x y:Tn):(rowN [x,y]).nodes=1 + x.nodes + y.nodes:=by simp [rowN,Tn.nodes,nodesL];omega
theorem loopN_nodes (x:Tn) (mn mx:Int) (lz:Bool):(loopN x mn mx lz).nodes=1 + x.nodes:=by simp [loopN,Tn.nodes,nodesL]
structure Grw (tb N0:Nat) (n0:Nat) (Q0:List E8) (W0:World) (v0:Value) (ts:List Tn) (W:World) (v:Value) (Q:List E8) (l:Value):Prop where
 um:UM tb N0 W v Q
 fr:UFr tb W0 W v0 v
 low:N0≤W0.heap.size
 len:Q.length=n0 + nodesL ts
 old:∀ x,x < n0→Q[x]?=Q0[x]?
 top:TopX N0 W0.heap.size W.heap.size l.ownBlock W Q ts n0
 row:W.ownsRow W0.heap.size 3 1 l ts.length (I64 ((rts ts n0).map fun (x:Nat)=>(x:Int)))
 nl:ts=[]→l=.slice none 0 0
theorem Grw.nil {tb N0:Nat} {W:World} {v:Value} {Q:List E8} (h:UM tb N0 W v Q) (hN:N0≤W.heap.size):Grw tb N0 Q.length Q W v [] W v Q (.slice none 0 0):=
 ⟨h,UFr.refl _ _ _,hN,by simp [nodesL],fun _ _=>rfl,fun T hT=>by simp [pnL] at hT,by simp [rts,pnL];exact ⟨rfl,.inl ⟨rfl,rfl⟩⟩,fun _=>rfl⟩
theorem Grw.below {tb N0 n0:Nat} {Q0:List E8} {W0:World} {v0:Value} {ts:List Tn} {W W':World} {v:Value} {Q:List E8} {l:Value} (g:Grw tb N0 n0 Q0 W0 v0 ts W v Q l) (h:Below W.heap.size W W'):Grw tb N0 n0 Q0 W0 v0 ts W' v Q l:=by
 have hs:=g.fr.size
 have ki:KI N0 W W':=KI.below h (by have:=g.low;omega)
 exact ⟨g.um.below h,g.fr.trans (UFr.below h),g.low,g.len,g.old,g.top.on (fun wx hk=>KX.ki ki hk h.size) (fun _ _ _=>rfl),row_kept g.row fun b hb=>h.block b (g.row.lt b hb).2,g.nl⟩
theorem rts_snoc (ts:List Tn) (t:Tn) (n:Nat):rts (ts ++ [t]) n=rts ts n ++ [(t.pn (n + nodesL ts)).lb]:=by simp [rts,pnL_app,pnL]
theorem nodesL_snoc (ts:List Tn) (t:Tn):nodesL (ts ++ [t])=nodesL ts + t.nodes:=by
 induction ts with
 | nil=>simp [nodesL]
 | cons a ts ih=>simp only [List.cons_append,nodesL,ih];omega
theorem Grw.one {tb N0:Nat} {W U w1:World} {v:Value} {Q:List E8} {x:Tn} {z:Int} (h:UM tb N0 W v Q) (hN:N0≤W.heap.size) (hb:Below W.heap.size W U) (hp:BPost tb N0 U.heap.size x Q.length Q U v (.returned (.int .i64 z)) w1) :
  ∃ v' Q',Grw tb N0 Q.length Q W v [x] (w1.alloc (.cells #[.int .i64 z] 3)) v' Q' (.slice (some ⟨w1.heap.size,0,none⟩) 1 1):=by
 obtain ⟨v',Q',e,um,fr,hl,ho,hr⟩:=hp
 simp only [Ending.returned.injEq,Value.int.injEq,true_and] at e
 have hb1:Below w1.heap.size w1 (w1.alloc (.cells #[.int .i64 z] 3)):=Joins.below_alloc1 w1 _
 have hs1:=fr.size
 have hs2:=hb.size
 have ki:KI N0 w1 (w1.alloc (.cells #[.int .i64 z] 3)):=KI.below hb1 (by omega)
 refine ⟨v',Q',um.below hb1,(UFr.below hb).trans (fr.trans (UFr.below hb1)),hN,by simp only [nodesL];omega,ho,RQ.x hr ki hs2 hb1.size (fun b e=>by simp [Value.ownBlock] at e;omega),?_,fun h=>by cases h⟩
 rw [rts_one]
 simp only [List.map_cons,List.map_nil,← e]
 exact ⟨rfl,.inr ⟨w1.heap.size,1,#[.int .i64 z],rfl,by omega,heap_alloc_new w1 _,Nat.le_refl _,by simp [maxLen],rfl,rfl⟩⟩
theorem Grw.mid {tb N0 n0:Nat} {Q0:List E8} {W0:World} {v0:Value} {ts:List Tn} {W:World} {v:Value} {Q:List E8} {l:Value} (g:Grw tb N0 n0 Q0 W0 v0 ts W v Q l) {t:Tn} {z:Int} {w1:World} {lo':Nat} (hlo:W.heap.size≤lo') {W1:World} (hb:Below W.heap.size W W1) (hW1:lo'=W1.heap.size) (hp:BPost tb N0 lo' t Q.length Q W1 v (.returned (.int .i64 z)) w1) :
  z=((t.pn (n0 + nodesL ts)).lb:Int)∧W.heap.size≤w1.heap.size∧(∀ b,l.ownBlock=some b→w1.heap[b]?=W.heap[b]?)∧(∀ b cur e fz,b < W.heap.size→W.heap[b]?=some (.cells cur e fz)→e≠77→v.ownBlock≠some b→w1.heap[b]?=W.heap[b]?)∧∃ v' Q',UM tb N0 w1 v' Q'∧UFr tb W w1 v v'∧UFr tb W0 w1 v0 v'∧Q'.length=n0 + nodesL (ts ++ [t])∧(∀ x,x < n0→Q'[x]?=Q0[x]?)∧TopX N0 W0.heap.size w1.heap.size l.ownBlock w1 Q' (ts ++ [t]) n0:=by
 obtain ⟨v',Q',e,um,fr,hl,ho,hr⟩:=hp
 simp only [Ending.returned.injEq,Value.int.injEq,true_and] at e
 have hs1:=fr.size
 have hs2:=hb.size
 have hs0:=g.fr.size
 have hN:=g.low
 have g1:=g.below hb
 have kiA:KI N0 W1 w1:=fr.ki g1.um (by omega)
 have keep:∀ b,l.ownBlock=some b→w1.heap[b]?=W.heap[b]?:=fun b hb'=>by
  have hlt:=(g.row.lt b hb').2
  obtain ⟨g0,cap,cur,hv,_,hg,_⟩:=(g.row.2).resolve_left (fun hn=>by rw [hn.1] at hb';simp [Value.ownBlock] at hb')
  have:g0=b:=by rw [hv] at hb';simpa [Value.ownBlock] using hb'
  subst this
  exact (kiA.2 _ cur ((hb.block _ hlt).trans hg)).trans hg.symm
 have frW:UFr tb W w1 v v':=(UFr.below hb).trans fr
 refine ⟨by rw [e,g.len],by omega,keep,fun b cur e fz hlt hx h1 h2=>frW.old b hlt (fun he=>?_) h2,v',Q',um,frW,g1.fr.trans fr,by rw [nodesL_snoc,hl,g.len];omega,fun x hx=>(ho x (by have:=g.len;omega)).trans (g.old x hx),?_⟩
 ·rw [he,g.um.box] at hx
  simp at hx
  exact h1 hx.2.1.symm
 refine TopX.app (g1.top.on (fun wx hk=>KX.ki kiA hk hs1) (fun x _ hx=>ho x (by rw [g.len];exact hx))) ?_
 have hr':RQ N0 lo' w1.heap.size w1 Q' (t.pn (n0 + nodesL ts)) (-1) 0:=by rw [← g.len];exact hr
 exact RQ.x hr' (KI.refl _ _) (by omega) (Nat.le_refl _) (fun b e=>.inl (by have:=(g.row.lt b e).2;omega))
theorem Grw.snoc {tb N0 n0:Nat} {Q0:List E8} {W0:World} {v0:Value} {ts:List Tn} {W:World} {v:Value} {Q:List E8} {l:Value} (g:Grw tb N0 n0 Q0 W0 v0 ts W v Q l) {t:Tn} {z:Int} {w1 w2 w3:World} {l':Value} {lo':Nat} (hlo:W.heap.size≤lo') {W1:World} (hb:Below W.heap.size W W1) (hW1:lo'=W1.heap.size) (hp:BPost tb N0 lo' t Q.length Q W1 v (.returned (.int .i64 z)) w1)
  (h2:Below w1.heap.size w1 w2) (hm:Moved w2 w3 l l') (ho:w3.ownsRow W0.heap.size 3 1 l' (ts.length + 1) (I64 ((rts ts n0).map fun (x:Nat)=>(x:Int)) ++ [.int .i64 z])) :
  ∃ v' Q',Grw tb N0 n0 Q0 W0 v0 (ts ++ [t]) w3 v' Q' l'∧UFr tb W w1 v v':=by
 obtain ⟨hz,hs,keep,_,v',Q',um,frW,fr,hl,hold,htop⟩:=g.mid hlo hb hW1 hp
 have hs0:=g.fr.size
 have hs2:=h2.size
 have hs3:=moved_size hm
 have hN:=g.low
 have um2:=um.below h2
 have hlb:∀ b,l.ownBlock=some b→W0.heap.size≤b:=fun b hb=>(g.row.lt b hb).1
 have htop2:TopX N0 W0.heap.size w2.heap.size l.ownBlock w2 Q' (ts ++ [t]) n0:=htop.on (fun wx hk=>KX.ki (KI.below h2 (by omega)) hk h2.size) (fun _ _ _=>rfl)
 have lne:∀ b,l.ownBlock=some b→v'.ownBlock≠some b∧b≠tb:=fun b hb'=>by
  have hlt:=(g.row.lt b hb').2
  obtain ⟨g0,cap,cur,hv,_,hg,_⟩:=(g.row.2).resolve_left (fun hn=>by rw [hn.1] at hb';simp [Value.ownBlock] at hb')
  have:g0=b:=by rw [hv] at hb';simpa [Value.ownBlock] using hb'
  subst this
  have hg1:=(keep _ hb').trans hg
  refine ⟨own_ne um.row hg1 (by decide),fun e=>?_⟩
  rw [e,um.box] at hg1
  simp at hg1
 refine ⟨v',Q',⟨⟨?_,row_kept um2.row (fun b hb=>moved_old' hm (um2.row.lt b hb).2 (fun e=>(lne b e).1 hb)),um.tbN⟩,?_,hN,by rw [hl],hold,htop2.on (fun wx hk=>KX.moved hm hlb hN (by omega) (Nat.le_refl _) hk) (fun _ _ _=>rfl),?_,fun h=>by simp at h⟩,frW⟩
 ·exact (moved_old' hm (Array.getElem?_eq_some_iff.1 um2.box).1 (fun e=>(lne tb e).2 rfl)).trans um2.box
 ·have f2:=fr.trans (UFr.below h2)
  refine ⟨?_,?_,?_,by omega,fun b b1 b2 b3=>(moved_old' hm (by omega) (fun e=>by have:=hlb b e;omega)).trans (f2.old b b1 b2 b3),f2.own⟩
  ·refine Eq.trans ?_ f2.os;rcases hm with ⟨_,h⟩ | ⟨_,h⟩ <;> exact h.os
  ·refine Eq.trans ?_ f2.tape;rcases hm with ⟨_,h⟩ | ⟨_,h⟩ <;> exact h.tape
  ·refine Eq.trans ?_ f2.output;rcases hm with ⟨_,h⟩ | ⟨_,h⟩ <;> exact h.output
 ·rw [rts_snoc,List.map_append,List.length_append]
  simp only [List.map_cons,List.map_nil,List.length_cons,List.length_nil,← hz]
  have e:∀ (A:List Int) (z:Int),I64 (A ++ [z])=I64 A ++ [.int .i64 z]:=fun A z=>by simp [I64]
  rw [e]
  exact ho
theorem Grw.own {tb N0 n0:Nat} {Q0:List E8} {W0:World} {v0:Value} {ts:List Tn} {W:World} {v:Value} {Q:List E8} {l:Value} (g:Grw tb N0 n0 Q0 W0 v0 ts W v Q l) {t:Tn} {z:Int} {w1 w2:World} {lo':Nat} (hlo:W.heap.size≤lo') {W1:World} (hb:Below W.heap.size W W1) (hW1:lo'=W1.heap.size) (hp:BPost tb N0 lo' t Q.length Q W1 v (.returned (.int .i64 z)) w1) (h2:Below w1.heap.size w1 w2) :
  w2.ownsRow W0.heap.size 3 1 l ts.length (I64 ((rts ts n0).map fun (x:Nat)=>(x:Int)))∧W0.heap.size≤w2.heap.size:=by
 obtain ⟨hz,hs,keep,_,v',Q',um,frW,fr,hl,hold,htop⟩:=g.mid hlo hb hW1 hp
 have hs0:=g.fr.size
 have hs2:=h2.size
 exact ⟨row_kept g.row fun b hb=>(h2.block b (by have:=(g.row.lt b hb).2;omega)).trans (keep b hb),by omega⟩
theorem Grw.rowcall {tb N0 n0:Nat} {Q0:List E8} {W0:World} {v0:Value} {ts:List Tn} {W:World} {v:Value} {Q:List E8} {la:Option Addr} {m lc:Nat} (g:Grw tb N0 n0 Q0 W0 v0 ts W v Q (.slice la m lc)) (hm:m=ts.length) (hQ:n0 + nodesL ts≤100000) :
  Calls Tryz.prog 123 #[.pointer (some ⟨tb,0,none⟩),.slice la m lc] W (BPost tb N0 W0.heap.size (rowN ts) n0 Q0 W0 v0):=by
 subst hm
 have hs:=g.fr.size
 have hl:=g.len
 have hrw:RwL W0.heap.size W (.slice la ts.length lc) ((rts ts n0).map fun (x:Nat)=>(x:Int)):=by
  refine ⟨?_,fun b hb=>(g.row.lt b hb).1⟩
  rcases Nat.eq_zero_or_pos ts.length with h0 | h0
  ·have:ts=[]:=List.length_eq_zero_iff.1 h0
   subst this
   exact .inl ⟨g.nl rfl,by simp [rts,pnL]⟩
  ·exact Rw.of g.row h0
 refine (row123 (lo:=W0.heap.size) g.um (by have:=g.low;omega) g.top.r (by omega) (by omega) hrw).mono fun e w' hq=>?_
 obtain ⟨v5,Q5,e5,um5,fr5,hl5,ho5,hr5⟩:=hq
 exact ⟨v5,Q5,e5,um5,g.fr.trans fr5,hl5,fun x hx=>(ho5 x hx).trans (g.old x hx),hr5⟩
theorem wrap_built {tb N0 n0:Nat} {Q0:List E8} {W0:World} {v0:Value} {T:Tn} {z k:Int} {w4:World} {mn mx:Int} {lz:Bool} (hN:N0≤W0.heap.size) (hp:BPost tb N0 W0.heap.size T n0 Q0 W0 v0 (.returned (.int .i64 z)) w4) (hk:k=Lt.kk ((loopN T mn mx lz).pn n0)) (hQ:n0 + T.nodes≤100000) :
  Calls Tryz.prog 81 #[.pointer (some ⟨tb,0,none⟩),.agg #[.int .i64 k,.int .i64 0,.int .i64 0,.slice none 0 0,.slice (some ⟨w4.heap.size,0,none⟩) 1 1,.bool lz,.int .i64 0,.int .i64 0]] (w4.alloc (.cells #[.int .i64 z] 3)) (BPost tb N0 W0.heap.size (loopN T mn mx lz) n0 Q0 W0 v0):=by
 obtain ⟨v4,Q4,e4,um4,fr4,hl4,ho4,hr4⟩:=hp
 simp only [Ending.returned.injEq,Value.int.injEq,true_and] at e4
 have hb4:Below w4.heap.size w4 (w4.alloc (.cells #[.int .i64 z] 3)):=Joins.below_alloc1 w4 _
 have hs5:=fr4.size
 have hN4:N0≤w4.heap.size:=Nat.le_trans hN fr4.size
 have ki4:KI N0 w4 (w4.alloc (.cells #[.int .i64 z] 3)):=KI.below hb4 hN4
 have hrw:Rw (w4.alloc (.cells #[.int .i64 z] 3)) (.slice (some ⟨w4.heap.size,0,none⟩) 1 1) [z]:=lit_rw w4 z
 have htop:TopR N0 W0.heap.size (w4.alloc (.cells #[.int .i64 z] 3)).heap.size (w4.alloc (.cells #[.int .i64 z] 3)) Q4 [T] n0:=fun T' hT=>by
  simp only [pnL,List.mem_singleton] at hT
  subst hT
  exact hr4.on (fun wx hk=>KL.of ki4 hk (Nat.le_refl _) hb4.size) (fun _ _=>rfl)
 have hbl:=put_built (lo:=W0.heap.size) (q:=⟨k,0,0,none,0,0,some ⟨w4.heap.size,0,none⟩,1,1,lz,0,0⟩) (ts:=[T]) (n0:=n0) (k:=6) (R:=[]) (a:=0) (mn:=mn) (mx:=mx) (ix:=0) (lz:=lz) (nm:=⟨#[]⟩) (um4.below hb4) (Nat.le_trans hN4 hb4.size) htop (by simp only [nodesL];omega) (by omega) hk rfl rfl ⟨fun h=>absurd h (by decide),fun h=>absurd h (by decide),fun _=>rfl,fun h=>absurd h (by decide),by simp only [pnL,List.map_cons,List.map_nil,List.length_cons,List.length_nil,← e4];exact hrw⟩ (fun b hb=>by simp [Value.ownBlock] at hb;omega)
 refine hbl.mono fun e w' hq=>?_
 obtain ⟨v5,Q5,e5,um5,fr5,hl5,ho5,hr5⟩:=hq
 exact ⟨v5,Q5,e5,um5,fr4.trans ((UFr.below hb4).trans fr5),hl5,fun x hx=>(ho5 x hx).trans (ho4 x hx),hr5⟩
set_option maxRecDepth 100000 in
set_option maxHeartbeats 16000000 in
theorem opt122 {tb N0:Nat} {W0:World} {N:Nv} {x:Tn} (hU:UnfC tb N0 W0 N x) (lz:Bool):∀ (k:Nat) (K:Int) (W:World) (v:Value) (Q:List E8),K=(k:Int) + 1→k≤100000→UM tb N0 W v Q→N0≤W.heap.size→(∀ b,b < N0→W.heap[b]?=W0.heap[b]?)→Q.length + (optN x lz k).nodes≤100000→Calls Tryz.prog 122 #[.pointer (some ⟨tb,0,none⟩),N.v,.int .i64 K,.bool lz] W (BPost tb N0 W.heap.size (optN x lz k) Q.length Q W v):=by
 intro k
 induction k with
 | zero =>
  intro K W v Q hK hk1 h hN hlow hnod
  have hK':K=1:=by omega
  subst hK'
  rw [optN,loopN_nodes] at hnod
  obtain ⟨U,hU1⟩:∃ U,U=W.alloc (.cells #[.int .i64 N.k,.slice N.r1 N.r2 N.r3,.int .i64 N.a2,.slice N.s1 N.s2 N.s3,.int .i64 N.a4,.int .i64 N.a5,.bool N.a6,.int .i64 N.a7,.string N.a8] 25):=⟨_,rfl⟩
  have hbU:Below W.heap.size W U:=by rw [hU1];exact Joins.below_alloc1 W _
  have hsU:U.heap.size=W.heap.size + 1:=by rw [hU1];simp
  obtain ⟨lo,hlo⟩:∃ lo,lo=W.heap.size:=⟨_,rfl⟩
  have hUB:U.heap[lo]?=some (.cells #[.int .i64 N.k,.slice N.r1 N.r2 N.r3,.int .i64 N.a2,.slice N.s1 N.s2 N.s3,.int .i64 N.a4,.int .i64 N.a5,.bool N.a6,.int .i64 N.a7,.string N.a8] 25 (0,0)):=by rw [hU1,hlo];exact heap_alloc_new W _
  obtain ⟨c0,c1,c2,c3,c4,c5,c6,c7,c8⟩:=nine' hUB
  have HC:=hU U v Q (h.below hbU) (by omega) (fun b hb=>(hbU.block b (by omega)).trans (hlow b hb)) (by omega)
  obtain ⟨P1,hP1⟩:∃ P1,P1=BPost tb N0 U.heap.size x Q.length Q U v:=⟨_,rfl⟩
  rw [← hP1] at HC
  have HPR1:Hid (∀ e w',P1 e w'→∃ z,e=.returned (.int .i64 z)):=fun e w' hp=>by rw [hP1] at hp;obtain ⟨v',Q',e1,_⟩:=hp;exact ⟨_,e1⟩
  have HG1:Hid (∀ z w1,P1 (.returned (.int .i64 z)) w1→∃ v' Q',Grw tb N0 Q.length Q W v [x] (w1.alloc (.cells #[.int .i64 z] 3)) v' Q' (.slice (some ⟨w1.heap.size,0,none⟩) 1 1)):=fun z w1 hp=>Grw.one h hN hbU (by rw [hP1] at hp;exact hp)
  have htb:=(Array.getElem?_eq_some_iff.1 h.box).1
  have HKB:Hid (∀ z w1,P1 (.returned (.int .i64 z)) w1→(w1.alloc (.cells #[.int .i64 z] 3)).heap[lo]?=some (.cells #[.int .i64 N.k,.slice N.r1 N.r2 N.r3,.int .i64 N.a2,.slice N.s1 N.s2 N.s3,.int .i64 N.a4,.int .i64 N.a5,.bool N.a6,.int .i64 N.a7,.string N.a8] 25 (0,0))):=fun z w1 hp=>by
   rw [hP1] at hp
   obtain ⟨v',Q',e1,um,fr,_⟩:=hp
   have:=fr.size
   exact (heap_alloc_old w1 _ (by omega)).trans ((fr.old lo (by omega) (by omega) (fun e=>by have:=(h.row.lt lo e).2;omega)).trans hUB)
  obtain ⟨P,hP⟩:∃ P,P=BPost tb N0 W.heap.size (optN x lz 0) Q.length Q W v:=⟨_,rfl⟩
  rw [← hP]
  have HP:=hid hP
  have HU1:=hid hU1
  have HLO0:=hid hlo
  have HNOD:=hid hnod
  have HNN:=hid hN
  have HH:=hid h
  have HLOW:=hid hlow
  clear hP hP1 hU1 hbU hsU hUB h hlow hnod hlo hK hN htb
  go_enter Tryz.func122,Tryz.ntmps122
  go_upto_region 1 with fail
  rw [← HU1.out,← HLO0.out]
  go_upto_region 2 with (first | (go_at_call 46;(with_reducible refine HC.mono ?_);rintro e w1 hp;obtain ⟨z1,rfl⟩:=HPR1.out _ _ hp;have HB1:=hid hp;clear hp HC))
  clear c0 c1 c2 c3 c4 c5 c6 c7 c8
  obtain ⟨v3,Q3,g1⟩:=HG1.out _ _ HB1.out
  have hKB:=HKB.out _ _ HB1.out
  obtain ⟨w3,hw3⟩:∃ w3,w3=w1.alloc (.cells #[.int .i64 z1] 3):=⟨_,rfl⟩
  obtain ⟨l3,hl3⟩:∃ l3,l3=w1.heap.size:=⟨_,rfl⟩
  rw [← hw3] at hKB
  rw [← hw3,← hl3] at g1 ⊢
  have HG:=hid g1
  clear g1 hw3 HB1 HG1 HPR1 hl3 HKB
  have HRW:=HG.out.rowcall rfl (by have:=HNOD.out;simp only [nodesL];omega)
  obtain ⟨P4,hP4⟩:∃ P4,P4=BPost tb N0 W.heap.size (rowN [x]) Q.length Q W v:=⟨_,rfl⟩
  rw [← hP4] at HRW
  have HPR4:Hid (∀ e w',P4 e w'→∃ z,e=.returned (.int .i64 z)):=fun e w' hp=>by rw [hP4] at hp;obtain ⟨v',Q',e1,_⟩:=hp;exact ⟨_,e1⟩
  have HLAST:Hid (∀ z w4,P4 (.returned (.int .i64 z)) w4→Calls Tryz.prog 81 #[.pointer (some ⟨tb,0,none⟩),.agg #[.int .i64 103,.int .i64 0,.int .i64 0,.slice none 0 0,.slice (some ⟨w4.heap.size,0,none⟩) 1 1,.bool lz,.int .i64 0,.int .i64 0]] (w4.alloc (.cells #[.int .i64 z] 3)) P):=fun z w4 hp=>by
   rw [HP.out]
   exact wrap_built (T:=rowN [x]) HNN.out (by rw [hP4] at hp;exact hp) rfl (by have:=HNOD.out;simp only [rowN];omega)
  have HPE:Hid (∀ e w',P e w'→∃ z,e=.returned (.int .i64 z)):=fun e w' hp=>by rw [HP.out] at hp;obtain ⟨v',Q',e1,_⟩:=hp;exact ⟨_,e1⟩
  clear hP4 HG
  go_wp2_with (first | (go_at_call 123;(with_reducible refine HRW.mono ?_);rintro e w4 hp;obtain ⟨z,rfl⟩:=HPR4.out _ _ hp;have HL5:=HLAST.out z w4 hp;clear hp HRW) | (go_at_call 81;(with_reducible refine HL5.mono ?_);rintro e w5 hq;have HQ5:=hid hq;obtain ⟨_,rfl⟩:=HPE.out _ _ hq;clear HL5 hq))
  all_goals first | exact HQ5.out | (go_ret;exact HQ5.out)
 | succ k ih =>
  intro K W v Q hK hk1 h hN hlow hnod
  rw [optN,loopN_nodes,rowN_nodes2] at hnod
  have hK1:1 < K:=by omega
  have hK2:K≤100001:=by omega
  have hK3:K - 1=(k:Int) + 1:=by omega
  obtain ⟨U,hU1⟩:∃ U,U=W.alloc (.cells #[.int .i64 N.k,.slice N.r1 N.r2 N.r3,.int .i64 N.a2,.slice N.s1 N.s2 N.s3,.int .i64 N.a4,.int .i64 N.a5,.bool N.a6,.int .i64 N.a7,.string N.a8] 25):=⟨_,rfl⟩
  have hbU:Below W.heap.size W U:=by rw [hU1];exact Joins.below_alloc1 W _
  have hsU:U.heap.size=W.heap.size + 1:=by rw [hU1];simp
  obtain ⟨lo,hlo⟩:∃ lo,lo=W.heap.size:=⟨_,rfl⟩
  have hUB:U.heap[lo]?=some (.cells #[.int .i64 N.k,.slice N.r1 N.r2 N.r3,.int .i64 N.a2,.slice N.s1 N.s2 N.s3,.int .i64 N.a4,.int .i64 N.a5,.bool N.a6,.int .i64 N.a7,.string N.a8] 25 (0,0)):=by rw [hU1,hlo];exact heap_alloc_new W _
  obtain ⟨c0,c1,c2,c3,c4,c5,c6,c7,c8⟩:=nine' hUB
  have HC:=hU U v Q (h.below hbU) (by omega) (fun b hb=>(hbU.block b (by omega)).trans (hlow b hb)) (by omega)
  obtain ⟨P1,hP1⟩:∃ P1,P1=BPost tb N0 U.heap.size x Q.length Q U v:=⟨_,rfl⟩
  rw [← hP1] at HC
  have HPR1:Hid (∀ e w',P1 e w'→∃ z,e=.returned (.int .i64 z)):=fun e w' hp=>by rw [hP1] at hp;obtain ⟨v',Q',e1,_⟩:=hp;exact ⟨_,e1⟩
  have HG1:Hid (∀ z w1,P1 (.returned (.int .i64 z)) w1→∃ v' Q',Grw tb N0 Q.length Q W v [x] (w1.alloc (.cells #[.int .i64 z] 3)) v' Q' (.slice (some ⟨w1.heap.size,0,none⟩) 1 1)):=fun z w1 hp=>Grw.one h hN hbU (by rw [hP1] at hp;exact hp)
  have htb:=(Array.getElem?_eq_some_iff.1 h.box).1
  have HKB:Hid (∀ z w1,P1 (.returned (.int .i64 z)) w1→(w1.alloc (.cells #[.int .i64 z] 3)).heap[lo]?=some (.cells #[.int .i64 N.k,.slice N.r1 N.r2 N.r3,.int .i64 N.a2,.slice N.s1 N.s2 N.s3,.int .i64 N.a4,.int .i64 N.a5,.bool N.a6,.int .i64 N.a7,.string N.a8] 25 (0,0))):=fun z w1 hp=>by
   rw [hP1] at hp
   obtain ⟨v',Q',e1,um,fr,_⟩:=hp
   have:=fr.size
   exact (heap_alloc_old w1 _ (by omega)).trans ((fr.old lo (by omega) (by omega) (fun e=>by have:=(h.row.lt lo e).2;omega)).trans hUB)
  obtain ⟨P,hP⟩:∃ P,P=BPost tb N0 W.heap.size (optN x lz (k + 1)) Q.length Q W v:=⟨_,rfl⟩
  rw [← hP]
  have HP:=hid hP
  have HU1:=hid hU1
  have HLO0:=hid hlo
  have HNOD:=hid hnod
  have HNN:=hid hN
  have HH:=hid h
  have HLOW:=hid hlow
  clear hP hP1 hU1 hbU hsU hUB h hlow hnod hlo hK hN htb
  go_enter Tryz.func122,Tryz.ntmps122
  go_upto_region 1 with fail
  rw [← HU1.out,← HLO0.out]
  go_upto_region 2 with (first | (go_at_call 46;(with_reducible refine HC.mono ?_);rintro e w1 hp;obtain ⟨z1,rfl⟩:=HPR1.out _ _ hp;have HB1:=hid hp;clear hp HC))
  clear c0 c1 c2 c3 c4 c5 c6 c7 c8
  obtain ⟨v3,Q3,g1⟩:=HG1.out _ _ HB1.out
  have hKB:=HKB.out _ _ HB1.out
  obtain ⟨w3,hw3⟩:∃ w3,w3=w1.alloc (.cells #[.int .i64 z1] 3):=⟨_,rfl⟩
  obtain ⟨l3,hl3⟩:∃ l3,l3=w1.heap.size:=⟨_,rfl⟩
  rw [← hw3] at hKB
  rw [← hw3,← hl3] at g1 ⊢
  have HG:=hid g1
  clear g1 hw3 HB1 HG1 HPR1 hl3 HKB
  have hs1:=HG.out.fr.size
  obtain ⟨c0,c1,c2,c3,c4,c5,c6,c7,c8⟩:=nine' hKB
  have hl1:=HG.out.len
  have HC2:=ih ((k:Int) + 1) w3 v3 Q3 rfl (by omega) HG.out.um (by have:=HNN.out;omega) (fun b hb=>((HG.out.fr.ki HH.out HNN.out).1 b hb).trans (HLOW.out b hb)) (by have:=HNOD.out;simp only [nodesL] at hl1;omega)
  obtain ⟨P2,hP2⟩:∃ P2,P2=BPost tb N0 w3.heap.size (optN x lz k) Q3.length Q3 w3 v3:=⟨_,rfl⟩
  rw [← hP2] at HC2
  have HP2:=hid hP2
  have HPR2:Hid (∀ e w',P2 e w'→∃ z,e=.returned (.int .i64 z)):=fun e w' hp=>by rw [hP2] at hp;obtain ⟨v',Q',e1,_⟩:=hp;exact ⟨_,e1⟩
  obtain ⟨L3,hL3⟩:∃ L3:List Int,L3=(rts [x] Q.length).map fun (x:Nat)=>(x:Int):=⟨_,rfl⟩
  have HAP:Hid (∀ z w5,P2 (.returned (.int .i64 z)) w5→(w5.alloc (.cells #[.int .i64 z] 3)).ownsRow W.heap.size 3 1 (.slice (some ⟨l3,0,none⟩) 1 1) 1 (I64 L3)∧W.heap.size≤(w5.alloc (.cells #[.int .i64 z] 3)).heap.size∧∀ l' w6,w6.ownsRow W.heap.size 3 1 l' (1 + 1) (I64 L3 ++ [.int .i64 z])→Moved (w5.alloc (.cells #[.int .i64 z] 3)) w6 (.slice (some ⟨l3,0,none⟩) 1 1) l'→∃ v' Q',Grw tb N0 Q.length Q W v ([x] ++ [optN x lz k]) w6 v' Q' l'):=fun z w5 hp=>by
   rw [hP2] at hp
   have h1:=HG.out.own (Nat.le_refl _) (Below.refl _ _) rfl hp (Joins.below_alloc1 w5 (.cells #[.int .i64 z] 3))
   rw [hL3]
   exact ⟨h1.1,h1.2,fun l' w6 ho hm=>by obtain ⟨v',Q',g,_⟩:=HG.out.snoc (Nat.le_refl _) (Below.refl _ _) rfl hp (Joins.below_alloc1 w5 _) hm ho;exact ⟨v',Q',g⟩⟩
  obtain ⟨i0,hi0,hz0,hz1,hz2⟩:=info_parts info3
  clear hP2 hs1 hl1 ih hKB hL3 HG
  go_upto_region 4 with (first | (go_at_call 122;(with_reducible refine HC2.mono ?_);rintro e w5 hp;obtain ⟨z2,rfl⟩:=HPR2.out _ _ hp;have HB2:=hid hp;clear hp HC2) | (at_builtin;refine wpList_append_move rfl (.tmp 16) (.tmp 23) 26 rfl W.heap.size 3 i0 (.int .i64 0) 8 Tryz.underlying26 hi0 hz0 hz1 hz2 rfl (.slice (some ⟨l3,0,none⟩) 1 1) 1 (I64 L3) rfl (HAP.out _ _ HB2.out).1 ⟨w5.heap.size,0,none⟩ 1 1 [.int .i64 z2] rfl rfl (by decide) (one_new w5 _ 3) (by intro u hu;simp at hu;subst hu;rfl) (by unfold maxLen;omega) (by omega) (HAP.out _ _ HB2.out).2.1 ?_;intro v6 w6 ho6 hm6;obtain ⟨v7,Q7,g7⟩:=(HAP.out _ _ HB2.out).2.2 v6 w6 ho6.out hm6.out;obtain ⟨vb,vc,rfl⟩:=Joins.ownsRow_form ho6.out (by decide);have HG:=hid g7;clear g7 ho6 hm6 c0 c1 c2 c3 c4 c5 c6 c7 c8))
  have HRW:=HG.out.rowcall rfl (by have:=HNOD.out;simp only [nodesL,List.cons_append,List.nil_append];omega)
  obtain ⟨P4,hP4⟩:∃ P4,P4=BPost tb N0 W.heap.size (rowN ([x] ++ [optN x lz k])) Q.length Q W v:=⟨_,rfl⟩
  rw [← hP4] at HRW
  have HPR4:Hid (∀ e w',P4 e w'→∃ z,e=.returned (.int .i64 z)):=fun e w' hp=>by rw [hP4] at hp;obtain ⟨v',Q',e1,_⟩:=hp;exact ⟨_,e1⟩
  have HLAST:Hid (∀ z w4,P4 (.returned (.int .i64 z)) w4→Calls Tryz.prog 81 #[.pointer (some ⟨tb,0,none⟩),.agg #[.int .i64 103,.int .i64 0,.int .i64 0,.slice none 0 0,.slice (some ⟨w4.heap.size,0,none⟩) 1 1,.bool lz,.int .i64 0,.int .i64 0]] (w4.alloc (.cells #[.int .i64 z] 3)) P):=fun z w4 hp=>by
   rw [HP.out]
   exact wrap_built (T:=rowN ([x] ++ [optN x lz k])) HNN.out (by rw [hP4] at hp;exact hp) rfl (by have:=HNOD.out;have e:(rowN ([x] ++ [optN x lz k])).nodes=_:=rowN_nodes2 x (optN x lz k);omega)
  have HPE:Hid (∀ e w',P e w'→∃ z,e=.returned (.int .i64 z)):=fun e w' hp=>by rw [HP.out] at hp;obtain ⟨v',Q',e1,_⟩:=hp;exact ⟨_,e1⟩
  clear hP4 HG
  go_wp2_with (first | (go_at_call 123;(with_reducible refine HRW.mono ?_);rintro e w4 hp;obtain ⟨z,rfl⟩:=HPR4.out _ _ hp;have HL5:=HLAST.out z w4 hp;clear hp HRW) | (go_at_call 81;(with_reducible refine HL5.mono ?_);rintro e w5 hq;have HQ5:=hid hq;obtain ⟨_,rfl⟩:=HPE.out _ _ hq;clear HL5 hq))
  all_goals first | exact HQ5.out | (go_ret;exact HQ5.out)
end Go.Proofs.YtacaanhnlfpbhaaGreat
