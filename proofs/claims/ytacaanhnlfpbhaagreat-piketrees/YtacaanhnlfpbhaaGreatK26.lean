/- HELPERS: texts of ours put together. -/
import Derived.Test.YtacaanhnlfpbhaaGreatK17
import Derived.Test.YtacaanhnlfpbhaaGreatK25
import Derived.Test.YtacaanhnlfpbhaaGreatK22
import Derived.Test.YtacaanhnlfpbhaaGreatK21
import Derived.Test.YtacaanhnlfpbhaaGreatK09
import Derived.Test.YtacaanhnlfpbhaaGreatK06
namespace Go.Proofs.YtacaanhnlfpbhaaGreat
open Go.RowKit
set_option linter.unusedVariables false
set_option linter.unusedSimpArgs false
mutual
theorem pn_sf:∀ (t:Tn) (n:Nat),t.sfT→(t.pn n).sf
 | .mk k R a s mn mx lz ix nm,n,h=>by
  simp only [Tn.sfT] at h
  simp only [Tn.pn,Lt.sf]
  exact ⟨h.1,pnL_sf s n h.2⟩
theorem pnL_sf:∀ (ts:List Tn) (n:Nat),sfTL ts→sfL (pnL ts n)
 | [],n,h=>by simp only [pnL,sfL]
 | t :: ts,n,h=>by
  simp only [sfTL] at h
  simp only [pnL,sfL]
  exact ⟨pn_sf t n h.1,pnL_sf ts _ h.2⟩
end
def Lt.dn:Lt→Prop:=fun T=>∀ t ∈ T.sub,t.lb < T.lb
mutual
theorem pn_all {P:Lt→Prop} (hP:∀ (t:Tn) (n:Nat),P (t.pn n)):∀ (t:Tn) (n:Nat) (B:Way) (up:Int) (nth:Nat),∀ e ∈ (t.pn n).ents B up nth,P e.t
 | .mk k R a s mn mx lz ix nm,n,B,up,nth,e,he=>by
  simp only [Tn.pn,Lt.ents,List.mem_cons] at he
  rcases he with rfl | he
  ·exact hP (.mk k R a s mn mx lz ix nm) n
  ·exact pnL_all hP s n _ B 0 e he
theorem pnL_all {P:Lt→Prop} (hP:∀ (t:Tn) (n:Nat),P (t.pn n)):∀ (ts:List Tn) (n:Nat) (p:Lt) (B:Way) (i:Nat),∀ e ∈ entsL p B (pnL ts n) i,P e.t
 | [],n,p,B,i,e,he=>by simp [pnL,entsL] at he
 | t :: ts,n,p,B,i,e,he=>by
  simp only [pnL,entsL,List.mem_append] at he
  rcases he with he | he
  ·exact pn_all hP t n _ _ _ e he
  ·exact pnL_all hP ts _ p B _ e he
end
theorem pn_dn (t:Tn) (n:Nat):(t.pn n).dn:=by
 obtain ⟨k,R,a,s,mn,mx,lz,ix,nm⟩:=t
 intro u hu
 simp only [Tn.pn,Lt.sub,Lt.lb] at hu ⊢
 exact (pnL_lbs s n _ (lbs_in hu _ (lb_in u))).2
theorem ents_nodesW:∀ (T:Lt) (B:Way) (up:Int) (nth:Nat),∀ e ∈ T.ents B up nth,e.t.tn.nodes≤T.tn.nodes:=by
 refine Lt.rec' ?_
 intro T ih B up nth e he
 rw [ents_eq] at he
 rcases List.mem_cons.1 he with rfl | he
 ·exact Nat.le_refl _
 ·obtain ⟨j,hj,hx⟩:=(entsL_mem _ _ _ _ _).1 he
  have h1:=ih _ (List.getElem_mem hj) _ _ _ e hx
  have h2:(T.sub[j]).tn.nodes≤T.tn.nodes:=by
   obtain ⟨lb,k,R,a,s,mn,mx,lz,ix,nm⟩:=T
   simp only [Lt.sub] at hj ⊢
   simp only [Lt.tn,Tn.nodes,tnL_map]
   have:=nodes_get (s.map Lt.tn) j (by simpa using hj)
   simp only [List.getElem_map] at this
   omega
  omega
theorem ents_giW {G:Int}:∀ (T:Lt) (B:Way) (up:Int) (nth:Nat),T.tn.gi≤G→∀ e ∈ T.ents B up nth,e.t.tn.gi≤G:=by
 refine Lt.rec' ?_
 intro T ih B up nth hg e he
 rw [ents_eq] at he
 rcases List.mem_cons.1 he with rfl | he
 ·exact hg
 ·obtain ⟨j,hj,hx⟩:=(entsL_mem _ _ _ _ _).1 he
  refine ih _ (List.getElem_mem hj) _ _ _ ?_ e hx
  obtain ⟨lb,k,R,a,s,mn,mx,lz,ix,nm⟩:=T
  simp only [Lt.sub] at hj ⊢
  simp only [Lt.tn,Tn.gi,tnL_map] at hg
  have:=(giL_ge (s.map Lt.tn) ix).2 j (by simpa using hj)
  simp only [List.getElem_map] at this
  omega
theorem ents_in:∀ (T:Lt) (B:Way) (up:Int) (nth:Nat),∀ e ∈ T.ents B up nth,e.t.lb ∈ T.lbs:=by
 refine Lt.rec' ?_
 intro T ih B up nth e he
 rw [ents_eq] at he
 rcases List.mem_cons.1 he with rfl | he
 ·exact lb_in T
 ·obtain ⟨j,hj,hx⟩:=(entsL_mem _ _ _ _ _).1 he
  have h1:=ih _ (List.getElem_mem hj) _ _ _ e hx
  have h2:=lbs_in (List.getElem_mem hj) _ h1
  obtain ⟨lb,k,R,a,s,mn,mx,lz,ix,nm⟩:=T
  simp only [Lt.lbs,Lt.sub,List.mem_cons] at h2 ⊢
  exact .inr h2
theorem wck_of {t:Tn} {C:WC} (hf:t.fine=true) (hL:C.L=(t.pn 0).ents (.once 1 .through) (-1) 0) (heo:(t.pn 0).eo C.E (.once 1 .through)) (hn:C.n=t.nodes) (hnn:t.nodes≤300000) (htn:C.tn≤64) (htl:C.tn=C.tx.length) (hk2:2≤C.K∧C.K≤1002) (hg:2 * t.gi + 1 < C.K)
  (wbN:C.N0≤C.wb∧C.wb < C.NB) (rbN:∀ i,i < C.n→C.N0≤C.rb i∧C.rb i < C.NB) (rdN:∀ i,i < C.n→C.N0≤C.rd i∧C.rd i < C.NB) (ebN:C.N0≤C.eb∧C.eb < C.NB) (rbi:∀ i j,i < C.n→j < C.n→C.rb i=C.rb j→i=j) (rdi:∀ i j,i < C.n→j < C.n→C.rd i=C.rd j→i=j) (rbd:∀ i j,i < C.n→j < C.n→C.rb i≠C.rd j) (rbe:∀ i,i < C.n→C.rb i≠C.eb) (rde:∀ i,i < C.n→C.rd i≠C.eb):WCk C:=by
 have hft:(t.pn 0).tn.fine=true:=by rw [pn_tn];exact hf
 refine ⟨?_,?_,?_,?_,?_,by omega,?_,htn,htl,hk2,?_,wbN,rbN,rdN,ebN,rbi,rdi,rbd,rbe,rde⟩
 ·intro e he i hi
  rw [hL] at he ⊢
  exact ents_child _ _ _ _ e he i hi
 ·intro e he
  rw [hL] at he
  rcases ents_parent _ _ _ _ e he with rfl | ⟨p,hp,i,hi,h⟩
  ·exact .inl ⟨rfl,rfl⟩
  ·refine .inr ⟨p,by rw [hL];exact hp,i,hi,h,?_⟩
   rw [h]
   exact pn_all (P:=Lt.dn) pn_dn t 0 _ _ _ p hp _ (List.getElem_mem hi)
 ·intro e he
  rw [hL] at he
  exact ents_fine _ _ _ _ hft e he
 ·intro e he
  rw [hL] at he
  exact ents_eo _ _ _ _ hft heo e he
 ·intro e he
  rw [hL] at he
  have:=pn_lbs t 0 _ (ents_in _ _ _ _ e he)
  omega
 ·intro e he
  rw [hL] at he
  have h1:=ents_nodesW _ _ _ _ e he
  rw [pn_tn] at h1
  obtain ⟨⟨lb,k,R,a,s,mn,mx,lz,ix,nm⟩,B,up,nth⟩:=e
  simp only [Lt.sub]
  simp only [Lt.tn,Tn.nodes,tnL_map] at h1
  have:=nodes_ge (s.map Lt.tn)
  simp only [List.length_map] at this
  omega
 ·intro lb k R a s mn mx lz ix nm B up nth he hk
  have hF:=node_fine (ents_fine _ _ _ _ hft _ (by rw [← hL];exact he))
  have h1:=ents_giW (G:=t.gi) (t.pn 0) (.once 1 .through) (-1) 0 (by rw [pn_tn];exact Int.le_refl _) _ (by rw [← hL];exact he)
  simp only [Lt.tn,Tn.gi] at h1
  have:=(giL_ge (tnL s) ix).1
  exact ⟨(hF.grp hk).2.1,by omega⟩
theorem inQL_get {N0:Nat} {W:World} {Q:List E8}:∀ (ts:List Lt) (up:Int) (j:Nat),inQL W N0 Q ts up j→∀ i (hi:i < ts.length),(ts[i]).inQ W N0 Q up ((j + i:Nat):Int)
 | [],_,_,_,i,hi=>by simp at hi
 | t :: ts,up,j,h,0,hi=>by simp only [inQL] at h;exact h.1
 | t :: ts,up,j,h,i + 1,hi=>by
  simp only [inQL] at h
  have:=inQL_get ts up (j + 1) h.2 i (by simpa using hi)
  rw [show j + (i + 1)=j + 1 + i by omega]
  exact this
theorem pl_of {C:WC} {tb:Nat} {W:World} {Q:List E8} (h:UM tb C.N0 W (.slice (some ⟨C.pb,0,none⟩) C.n C.pc) Q):∀ (T:Lt) (B:Way) (up:Int) (nth:Nat),T.inQ W C.N0 Q up (nth:Int)→∀ e ∈ T.ents B up nth,PLw C W e:=by
 refine Lt.rec' ?_
 intro T ih B up nth hq e he
 rw [ents_eq] at he
 rcases List.mem_cons.1 he with rfl | he
 ·obtain ⟨lb,k,R,a,s,mn,mx,lz,ix,nm⟩:=T
  simp only [Lt.inQ] at hq
  obtain ⟨⟨q,h1,h2,h3,h4,h5,h6⟩,_⟩:=hq
  obtain ⟨hl,hg⟩:=List.getElem?_eq_some_iff.1 h1
  have h8:=h.at lb hl
  rw [hg,h2,h3,h4,h5] at h8
  exact ⟨_,_,_,_,_,_,_,_,h8,h6⟩
 ·obtain ⟨j,hj,hx⟩:=(entsL_mem _ _ _ _ _).1 he
  refine ih _ (List.getElem_mem hj) _ _ _ ?_ e hx
  obtain ⟨lb,k,R,a,s,mn,mx,lz,ix,nm⟩:=T
  simp only [Lt.inQ] at hq
  exact inQL_get s _ 0 hq.2 j hj
structure TF (N0:Nat) (W W':World):Prop where
 os:W'.os=W.os
 tape:W'.tape=W.tape
 output:W'.output=W.output
 size:W.heap.size≤W'.heap.size
 low:∀ (b:Nat),b < N0→W'.heap[b]?=W.heap[b]?
 typ:∀ (b:Nat) (cur:Array Value) (t:TypeId),t≠79→t≠82→W.heap[b]?=some (.cells cur t (0,0))→W'.heap[b]?=some (.cells cur t (0,0))
theorem TF.refl (N0:Nat) (W:World):TF N0 W W:=⟨rfl,rfl,rfl,Nat.le_refl _,fun _ _=>rfl,fun _ _ _ _ _ h=>h⟩
theorem TF.trans {N0:Nat} {a b c:World} (h:TF N0 a b) (k:TF N0 b c):TF N0 a c:=⟨k.os.trans h.os,k.tape.trans h.tape,k.output.trans h.output,Nat.le_trans h.size k.size,fun i hi=>(k.low i hi).trans (h.low i hi),fun i cur t h1 h2 x=>k.typ i cur t h1 h2 (h.typ i cur t h1 h2 x)⟩
theorem TF.below {N0:Nat} {W W':World} (h:Below W.heap.size W W') (hN:N0≤W.heap.size):TF N0 W W':=
 ⟨h.os,h.tape,h.output,h.size,fun b hb=>h.block b (by omega),fun b cur t _ _ hx=>(h.block b (Array.getElem?_eq_some_iff.1 hx).1).trans hx⟩
theorem BRw.tf {N0:Nat} {W W':World} {b n:Nat} {f:Nat→Bool} (h:BRw W b n f) (k:TF N0 W W'):BRw W' b n f:=by
 obtain ⟨arr,h1,h2,h3⟩:=h
 exact ⟨arr,k.typ b arr 4 (by decide) (by decide) h1,h2,h3⟩
def I79 (m:Nat) (L:List Nat):List Value:=L.map fun b=>.slice (some ⟨b,0,none⟩) m m
structure FRw (N0 m wb:Nat) (W1 W:World) (sb sd:Value) (LB LD:List Nat):Prop where
 tf:TF N0 W1 W
 rb:W.ownsRow W1.heap.size 79 1 sb LB.length (I79 m LB)
 rd:W.ownsRow W1.heap.size 79 1 sd LD.length (I79 m LD)
 nd:∀ b,sb.ownBlock=some b→sd.ownBlock≠some b
 fb:∀ b ∈ LB,BRw W b m (fun _=>false)∧W1.heap.size≤b
 fd:∀ b ∈ LD,BRw W b m (fun _=>false)∧W1.heap.size≤b
 dup:(LB ++ LD).Nodup
 wbx:∃ cs,W.heap[wb]?=some (.cells cs 82 (0,0))
 wbN:N0≤wb
 low:N0≤W1.heap.size
theorem FRw.swap {N0 m wb:Nat} {W1 W:World} {sb sd:Value} {LB LD:List Nat} (h:FRw N0 m wb W1 W sb sd LB LD):FRw N0 m wb W1 W sd sb LD LB:=
 ⟨h.tf,h.rd,h.rb,fun b h1 h2=>h.nd b h2 h1,h.fd,h.fb,by have:=h.dup;rw [List.nodup_append] at this ⊢;exact ⟨this.2.1,this.1,fun a ha b hb e=>this.2.2 b hb a ha e.symm⟩,h.wbx,h.wbN,h.low⟩
theorem FRw.nil {N0 m wb:Nat} {W:World} {cs:Array Value} (hw:W.heap[wb]?=some (.cells cs 82 (0,0))) (h0:N0≤wb):FRw N0 m wb W W (.slice none 0 0) (.slice none 0 0) [] []:=
 ⟨TF.refl _ _,World.ownsRow_nil _ _ _ _,World.ownsRow_nil _ _ _ _,fun b h=>by simp [Value.ownBlock] at h,fun b hb=>by simp at hb,fun b hb=>by simp at hb,by simp,⟨cs,hw⟩,h0,by have:=(Array.getElem?_eq_some_iff.1 hw).1;omega⟩
theorem FRw.mid {N0 m wb:Nat} {W1 W V:World} {sb sd:Value} {LB LD:List Nat} (h:FRw N0 m wb W1 W sb sd LB LD) (hb:Below W.heap.size W V):FRw N0 m wb W1 V sb sd LB LD:=by
 have hs:=h.tf.size
 have hN:=h.low
 have f:TF N0 W V:=TF.below hb (by omega)
 obtain ⟨cs,hw⟩:=h.wbx
 exact ⟨h.tf.trans f,row_kept h.rb fun b hx=>hb.block b (h.rb.lt b hx).2,row_kept h.rd fun b hx=>hb.block b (h.rd.lt b hx).2,h.nd,fun b hx=>⟨(h.fb b hx).1.tf f,(h.fb b hx).2⟩,fun b hx=>⟨(h.fd b hx).1.tf f,(h.fd b hx).2⟩,h.dup,⟨cs,(hb.block wb (Array.getElem?_eq_some_iff.1 hw).1).trans hw⟩,h.wbN,hN⟩
theorem FRw.snoc {N0 m wb:Nat} {W1 W V V':World} {sb sd sb':Value} {LB LD:List Nat} (h:FRw N0 m wb W1 W sb sd LB LD) (hb:Below W.heap.size W V) {nb:Nat} (hn:W.heap.size≤nb) (hf:BRw V nb m (fun _=>false)) (hm:Moved V V' sb sb') (ho:V'.ownsRow W1.heap.size 79 1 sb' (LB.length + 1) (I79 m LB ++ [.slice (some ⟨nb,0,none⟩) m m])) (j:Nat) (x:Value) :
  V'.heap[wb]?=W.heap[wb]?∧FRw N0 m wb W1 (V'.setCell ⟨wb,j,none⟩ x) sb' sd (LB ++ [nb]) LD:=by
 have g:=h.mid hb
 have hs:=h.tf.size
 have hs2:=hb.size
 have hs3:=moved_size hm
 have hN:=h.low
 obtain ⟨cs,hw⟩:=g.wbx
 have hsb:∀ b,sb.ownBlock=some b→W1.heap.size≤b∧b < W.heap.size:=fun b hx=>h.rb.lt b hx
 have hwn:sb.ownBlock≠some wb:=own_ne g.rb hw (by decide)
 have hwl:=(Array.getElem?_eq_some_iff.1 hw).1
 have hw3:V'.heap[wb]?=some (.cells cs 82 (0,0)):=(moved_old' hm hwl hwn).trans hw
 have hw0:V'.heap[wb]?=W.heap[wb]?:=by
  obtain ⟨cs0,hw0⟩:=h.wbx
  have:=(hb.block wb (Array.getElem?_eq_some_iff.1 hw0).1)
  rw [hw3,← hw,this]
 have old:∀ b,b≠wb→(V'.setCell ⟨wb,j,none⟩ x).heap[b]?=V'.heap[b]?:=fun b hb=>Below.heap_setCell _ _ _ _ hb
 have hsz:(V'.setCell ⟨wb,j,none⟩ x).heap.size=V'.heap.size:=by simp [World.setCell]
 have f:TF N0 V (V'.setCell ⟨wb,j,none⟩ x):=by
  refine ⟨?_,?_,?_,by rw [hsz];exact hs3,fun b hx=>(old b (by have:=h.wbN;omega)).trans (moved_old' hm (by omega) (fun e=>by have:=hsb b e;omega)),fun b cur t h1 h2 hx=>?_⟩
  ·rcases hm with ⟨_,h⟩ | ⟨_,h⟩ <;> exact h.os
  ·rcases hm with ⟨_,h⟩ | ⟨_,h⟩ <;> exact h.tape
  ·rcases hm with ⟨_,h⟩ | ⟨_,h⟩ <;> exact h.output
  ·refine (old b (fun e=>?_)).trans ((moved_old' hm (Array.getElem?_eq_some_iff.1 hx).1 (own_ne g.rb hx h1)).trans hx)
   rw [e,hw] at hx
   simp at hx
   exact h2 hx.2.symm
 refine ⟨hw0,g.tf.trans f,?_,row_kept g.rd fun b hx=>?_,fun b h1 h2=>?_,fun b hx=>?_,fun b hx=>⟨(g.fd b hx).1.tf f,(g.fd b hx).2⟩,?_,⟨_,Joins.block_setCell (i:=j) hw3 _⟩,h.wbN,hN⟩
 ·have e:I79 m (LB ++ [nb])=I79 m LB ++ [.slice (some ⟨nb,0,none⟩) m m]:=by simp [I79]
  rw [e,List.length_append]
  exact row_kept ho fun b hx=>old b (fun e=>own_ne ho hw3 (by decide) (e ▸ hx))
 ·refine (old b (fun e=>own_ne g.rd hw (by decide) (e ▸ hx))).trans (moved_old' hm (g.rd.lt b hx).2 (fun e=>h.nd b e hx))
 ·rcases hm with ⟨e,_⟩ | ⟨e,_⟩
  ·rw [e] at h1;exact h.nd b h1 h2
  ·rw [e] at h1
   simp at h1
   have:=(h.rd.lt b h2).2
   omega
 ·rcases List.mem_append.1 hx with hx | hx
  ·exact ⟨(g.fb b hx).1.tf f,(g.fb b hx).2⟩
  ·simp at hx
   subst hx
   exact ⟨hf.tf f,by omega⟩
 ·have hd:=h.dup
  have hnew:∀ b ∈ LB ++ LD,b≠nb:=fun b hx e=>by
   rcases List.mem_append.1 hx with hx | hx
   ·have:=(h.fb b hx).1.lt;omega
   ·have:=(h.fd b hx).1.lt;omega
  rw [List.nodup_append] at hd ⊢
  refine ⟨?_,hd.2.1,fun a ha b hb e=>?_⟩
  ·rw [List.nodup_append]
   exact ⟨hd.1,by simp,fun a ha b hb e=>by simp at hb;exact hnew a (by simp [ha]) (e.trans hb)⟩
  ·rcases List.mem_append.1 ha with ha | ha
   ·exact hd.2.2 a ha b hb e
   ·simp at ha
    exact hnew b (by simp [hb]) (e.symm.trans ha)
def AnsW (t:Tn) (tx:List Int) (tn:Nat) (at_:Int) (w:World) (e:Ending) (w':World):Prop:=
 ∃ pv l,e=.returned (.tuple #[pv,.int .i64 (errP t tn at_)])∧Parsed w.heap.size w' pv l∧(errP t tn at_=0→PS t.spread t.notes tx at_.toNat l∧l.length≤65)∧(errP t tn at_≠0→pv=.slice none 0 0∧l=[])∧Below w.heap.size w w'
theorem answersW_none {t:Tn} {tx:List Int} {tn:Nat} {at_ x:Int} {w w':World} (hx:errP t tn at_=x) (h0:x≠0) (hb:Below w.heap.size w w'):AnsW t tx tn at_ w (.returned (.tuple #[.slice none 0 0,.int .i64 x])) w':=by
 subst hx
 exact ⟨.slice none 0 0,[],rfl,⟨[],[],World.ownsRow_nil _ _ _ _,.nil⟩,fun h=>absurd h h0,fun _=>⟨rfl,rfl⟩,hb⟩
set_option maxRecDepth 100000 in
set_option maxHeartbeats 4000000 in
theorem parses14_but (N:Nv) (t:Tn) (tx:List Int) (ad:Option Addr) (tn tcap:Nat) (at_:Int) (w:World) (hTI:TI w w.heap.size N t) (htx:Look.TextAt w.heap.size w ad tn tx) (htc:tn≤tcap) (hmain:tn≤64→t.sound=true→t.sz≤2000→∀ p:Nat,at_=(p:Int)→p≤tn→Calls Tryz.prog 14 #[N.v,.slice ad tn tcap,.int .i64 at_] w fun e w'=>AnsW t tx tn at_ w e w') :
  Calls Tryz.prog 14 #[N.v,.slice ad tn tcap,.int .i64 at_] w fun e w'=>AnsW t tx tn at_ w e w':=by
 have htm:tn≤35184372088832:=htx.2.1
 have hb0:Below w.heap.size w (w.alloc (.cells #[.int .i64 N.k,.slice N.r1 N.r2 N.r3,.int .i64 N.a2,.slice N.s1 N.s2 N.s3,.int .i64 N.a4,.int .i64 N.a5,.bool N.a6,.int .i64 N.a7,.string N.a8] 25)):=Joins.below_alloc1 w _
 have HB0:=hid hb0
 by_cases c1:64 < tn
 ·have e1:errP t tn at_=2:=by simp [errP,c1]
  have HA:∀ w',Below w.heap.size w w'→AnsW t tx tn at_ w (.returned (.tuple #[.slice none 0 0,.int .i64 2])) w':=fun w' h=>answersW_none e1 (by decide) h
  have HHA:=hid HA
  have b1:decide ((tn:Int) > 64)=true:=by simp;omega
  have b1':decide (64 < (tn:Int))=true:=by simp;omega
  obtain ⟨k,r1,r2,r3,a2,s1,s2,s3,a4,a5,a6,a7,a8⟩:=N
  obtain ⟨Q,hQ⟩:∃ Q,Q=AnsW t tx tn at_ w:=⟨_,rfl⟩
  rw [← hQ] at HHA ⊢
  clear HA hTI htx e1 hQ hb0
  go_enter Tryz.func14,Tryz.ntmps14
  go_wp2
  try go_ret2
  exact HHA.out _ HB0.out
 have b1:decide ((tn:Int) > 64)=false:=by simp;omega
 have b1':decide (64 < (tn:Int))=false:=by simp;omega
 have hT1:∀ w1,Below w.heap.size w w1→TI w1 w1.heap.size N t:=fun w1 h=>(hTI.kept fun b hb=>h.block b hb).le h.size
 have H29:=sound25 (hT1 _ hb0)
 cases hs:t.sound with
 | false =>
  have e1:errP t tn at_=50:=by simp [errP,c1,hs]
  have HA:∀ w',Below w.heap.size w w'→AnsW t tx tn at_ w (.returned (.tuple #[.slice none 0 0,.int .i64 50])) w':=fun w' h=>answersW_none e1 (by decide) h
  have HHA:=hid HA
  rw [hs] at H29
  obtain ⟨k,r1,r2,r3,a2,s1,s2,s3,a4,a5,a6,a7,a8⟩:=N
  obtain ⟨Q,hQ⟩:∃ Q,Q=AnsW t tx tn at_ w:=⟨_,rfl⟩
  rw [← hQ] at HHA ⊢
  dsimp only at H29
  simp only [Bool.false_eq_true,if_false] at H29
  clear HA hTI htx e1 hQ hb0 hT1 hs
  go_enter Tryz.func14,Tryz.ntmps14
  go_wp2_with (first | (go_at_call 32;(with_reducible refine H29.mono ?_);rintro e w1 ⟨rfl,hb1⟩;have HB1:=hid hb1;clear hb1 H29))
  try go_ret2
  exact HHA.out _ (HB0.out.trans (Joins.below_le HB1.out (by simp)))
 | true =>
  obtain ⟨hf,_,hno⟩:=sound_parts hs
  have hT2:∀ w1,Below w.heap.size w w1→Calls Tryz.prog 33 #[N.v] w1 fun e w'=>e=.returned (.int .i64 (min 1073741824 t.sz:Nat))∧Below w1.heap.size w1 w':=fun w1 h=>refsize28 hTI hf w1 h.size (fun b hb=>h.block b hb)
  have hnode:∀ w1,Below (w.alloc (.cells #[.int .i64 N.k,.slice N.r1 N.r2 N.r3,.int .i64 N.a2,.slice N.s1 N.s2 N.s3,.int .i64 N.a4,.int .i64 N.a5,.bool N.a6,.int .i64 N.a7,.string N.a8] 25)).heap.size (w.alloc (.cells #[.int .i64 N.k,.slice N.r1 N.r2 N.r3,.int .i64 N.a2,.slice N.s1 N.s2 N.s3,.int .i64 N.a4,.int .i64 N.a5,.bool N.a6,.int .i64 N.a7,.string N.a8] 25)) w1→w1.heap[w.heap.size]?=some (.cells #[.int .i64 N.k,.slice N.r1 N.r2 N.r3,.int .i64 N.a2,.slice N.s1 N.s2 N.s3,.int .i64 N.a4,.int .i64 N.a5,.bool N.a6,.int .i64 N.a7,.string N.a8] 25 (0,0)):=fun w1 h=>(h.block w.heap.size (by simp)).trans (heap_alloc_new w _)
  rw [hs] at H29
  simp only [if_true] at H29
  have HN:=hid hnode
  have HT2:=hid hT2
  by_cases c3:2000 < t.sz
  ·have e1:errP t tn at_=3:=by simp [errP,c1,hs,c3]
   have HA:∀ w',Below w.heap.size w w'→AnsW t tx tn at_ w (.returned (.tuple #[.slice none 0 0,.int .i64 3])) w':=fun w' h=>answersW_none e1 (by decide) h
   have HHA:=hid HA
   have b3:decide (((min 1073741824 t.sz:Nat):Int) > 2000)=true:=by simp;omega
   have b3':decide (2000 < ((min 1073741824 t.sz:Nat):Int))=true:=by simp;omega
   obtain ⟨r,hr⟩:∃ r,r=min 1073741824 t.sz:=⟨_,rfl⟩
   rw [← hr] at HT2 b3 b3'
   obtain ⟨k,r1,r2,r3,a2,s1,s2,s3,a4,a5,a6,a7,a8⟩:=N
   obtain ⟨Q,hQ⟩:∃ Q,Q=AnsW t tx tn at_ w:=⟨_,rfl⟩
   rw [← hQ] at HHA ⊢
   dsimp only at H29 HN
   clear HA hTI htx e1 hQ hb0 hT1 hT2 hnode hs hf hno hr
   go_enter Tryz.func14,Tryz.ntmps14
   go_wp2_with (first | (go_at_call 32;(with_reducible refine H29.mono ?_);rintro e w1 ⟨rfl,hb1⟩;obtain ⟨o0,o1,o2,o3,o4,o5,o6,o7,o8⟩:=nine' (HN.out w1 hb1);have HC1:=HT2.out w1 (HB0.out.trans (Joins.below_le hb1 (by simp)));have HB1:=hid hb1;clear hb1 H29) | (go_at_call 33;(with_reducible refine HC1.mono ?_);rintro e w2 ⟨rfl,hb2⟩;have HB2:=hid hb2;clear hb2 HC1))
   try go_ret2
   exact HHA.out _ (HB0.out.trans (Joins.below_le (HB1.out.trans (Joins.below_le HB2.out HB1.out.size)) (by simp)))
  ·have b3:decide (((min 1073741824 t.sz:Nat):Int) > 2000)=false:=by simp;omega
   have b3':decide (2000 < ((min 1073741824 t.sz:Nat):Int))=false:=by simp;omega
   obtain ⟨r,hr⟩:∃ r,r=min 1073741824 t.sz:=⟨_,rfl⟩
   rw [← hr] at HT2 b3 b3'
   by_cases c4:at_ < 0∨(tn:Int) < at_
   ·have e1:errP t tn at_=1:=by simp [errP,c1,hs,c3,c4]
    have HA:∀ w',Below w.heap.size w w'→AnsW t tx tn at_ w (.returned (.tuple #[.slice none 0 0,.int .i64 1])) w':=fun w' h=>answersW_none e1 (by decide) h
    have HHA:=hid HA
    obtain ⟨k,r1,r2,r3,a2,s1,s2,s3,a4,a5,a6,a7,a8⟩:=N
    obtain ⟨Q,hQ⟩:∃ Q,Q=AnsW t tx tn at_ w:=⟨_,rfl⟩
    rw [← hQ] at HHA ⊢
    dsimp only at H29 HN
    clear HA hTI htx e1 hQ hb0 hT1 hT2 hnode hs hf hno hr
    by_cases c5:at_ < 0
    ·have b5:decide (at_ < 0)=true:=by simp;omega
     go_enter Tryz.func14,Tryz.ntmps14
     go_wp2_with (first | (go_at_call 32;(with_reducible refine H29.mono ?_);rintro e w1 ⟨rfl,hb1⟩;obtain ⟨o0,o1,o2,o3,o4,o5,o6,o7,o8⟩:=nine' (HN.out w1 hb1);have HC1:=HT2.out w1 (HB0.out.trans (Joins.below_le hb1 (by simp)));have HB1:=hid hb1;clear hb1 H29) | (go_at_call 33;(with_reducible refine HC1.mono ?_);rintro e w2 ⟨rfl,hb2⟩;have HB2:=hid hb2;clear hb2 HC1))
     try go_ret2
     exact HHA.out _ (HB0.out.trans (Joins.below_le (HB1.out.trans (Joins.below_le HB2.out HB1.out.size)) (by simp)))
    ·have b5:decide (at_ < 0)=false:=by simp;omega
     have b6:decide (at_ > (tn:Int))=true:=by simp;omega
     have b6':decide ((tn:Int) < at_)=true:=by simp;omega
     go_enter Tryz.func14,Tryz.ntmps14
     go_wp2_with (first | (go_at_call 32;(with_reducible refine H29.mono ?_);rintro e w1 ⟨rfl,hb1⟩;obtain ⟨o0,o1,o2,o3,o4,o5,o6,o7,o8⟩:=nine' (HN.out w1 hb1);have HC1:=HT2.out w1 (HB0.out.trans (Joins.below_le hb1 (by simp)));have HB1:=hid hb1;clear hb1 H29) | (go_at_call 33;(with_reducible refine HC1.mono ?_);rintro e w2 ⟨rfl,hb2⟩;have HB2:=hid hb2;clear hb2 HC1))
     try go_ret2
     exact HHA.out _ (HB0.out.trans (Joins.below_le (HB1.out.trans (Joins.below_le HB2.out HB1.out.size)) (by simp)))
   ·exact hmain (by omega) hs (by omega) at_.toNat (by omega) (by omega)
theorem ex_fw {T:Lt} {K:Nat} {tx:List Int} {p:Nat} (hp:p≤tx.length):∃ s',Ex tx T.env (T.fw (.once 1 .through)) p ⟨[],(List.replicate K (-1)).set 0 (p:Int),[]⟩ s'∧s'.parses.length≤tx.length + 1:=by
 obtain ⟨top,htop⟩:∃ top:Nat,1≤top∧∀ lb ∈ T.lbs,2 * lb + 3≤top:=by
  refine ⟨2 * T.lbs.sum + 3,by omega,fun lb hl=>?_⟩
  have:=le_sum_mem hl
  omega
 have h1:(Way.once 1 .through).tg top:=by simp only [Way.tg];exact ⟨⟨by omega,by omega⟩,.inl ⟨trivial,trivial⟩⟩
 obtain ⟨g1,g2⟩:=fw_tg T (.once 1 .through) htop.2 h1
 have hEt:∀ b,(T.env b).tg top∧(T.env b).ua=[]:=fun b=>by
  show (envOf (T.le (.once 1 .through)) b).tg top∧(envOf (T.le (.once 1 .through)) b).ua=[]
  unfold envOf
  cases hf:(T.le (.once 1 .through)).find? fun p=>p.1 == b with
  | none=>exact ⟨by simp [Way.tg,tgL],by simp [Way.ua,uaL]⟩
  | some x=>exact g2 x (List.mem_of_find?_eq_some hf)
 obtain ⟨s',he,hpar,_⟩:=good_all (E:=T.env) (tx:=tx) (top:=top) hEt _ ⟨[],(List.replicate K (-1)).set 0 (p:Int),[]⟩ _ p (Nat.le_refl _) g1 hp
 refine ⟨s',he,?_⟩
 have h1:left1 tx.length ⟨[],(List.replicate K (-1)).set 0 (p:Int),[]⟩≤tx.length + 1:=by
  unfold left1
  exact Nat.le_trans List.countP_le_length (by simp)
 simp only [List.length_nil] at hpar
 omega
theorem getD_row {L:List Nat} {i:Nat} (h:i < L.length):L.getD i 0=L[i]:=by simp [List.getD_eq_getElem?_getD,List.getElem?_eq_getElem h]
theorem rrb_of {W:World} {base g n m bc:Nat} {L:List Nat} (h:W.ownsRow base 79 1 (.slice (some ⟨g,0,none⟩) n bc) L.length (I79 m L)) (hn:L.length=n):RRb W g n m (fun i=>L.getD i 0):=by
 rcases h.2 with ⟨e,_⟩ | ⟨g',cap,cur,he,hb,hg,h1,h2,h3,h4⟩
 ·cases e
 ·simp only [Value.slice.injEq,Option.some.injEq,Addr.mk.injEq] at he
  obtain ⟨⟨rfl,_⟩,_,rfl⟩:=he
  refine ⟨cur,hg,fun i hi=>?_⟩
  have hL:i < L.length:=by omega
  have h5:(cur.toList.take (L.length * 1))[i]?=(I79 m L)[i]?:=by rw [h4]
  rw [List.getElem?_take_of_lt (by omega)] at h5
  rw [← Array.getElem?_toList,h5]
  show (I79 m L)[i]?=some (.slice (some ⟨L.getD i 0,0,none⟩) m m)
  rw [getD_row hL]
  simp [I79,hL]
theorem nodup_inj {L:List Nat} (h:L.Nodup) {i j:Nat} (hi:i < L.length) (hj:j < L.length) (e:L.getD i 0=L.getD j 0):i=j:=by
 rw [getD_row hi,getD_row hj] at e
 rcases Nat.lt_trichotomy i j with h1 | h1 | h1
 ·exact absurd e (List.pairwise_iff_getElem.1 h i j hi hj h1)
 ·exact h1
 ·exact absurd e.symm (List.pairwise_iff_getElem.1 h j i hj hi h1)
theorem walk_ready {t:Tn} {N0 tb wb eb tn tcap p n pb pc bg bc dg dc:Nat} {W1 V:World} {ad:Option Addr} {tx:List Int} {Q:List E8} {LB LD:List Nat} {cv:Value} (hf:t.fine=true) (hsz:t.sz≤2000) (htn:tn≤64) (hp:p≤tn)
  (hU:UM tb N0 V (.slice (some ⟨pb,0,none⟩) n pc) Q) (hn:n=t.spread.nodes) (hq:(t.spread.pn 0).inQ V N0 Q (-1) 0)
  (hF:FRw N0 (tn + 1) wb W1 V (.slice (some ⟨bg,0,none⟩) n bc) (.slice (some ⟨dg,0,none⟩) n dc) LB LD) (hLB:LB.length=n) (hLD:LD.length=n)
  (hbx:V.heap[wb]?=some (.cells #[.pointer (some ⟨tb,0,none⟩),.slice ad tn tcap,.int .i64 (p:Int),.slice (some ⟨bg,0,none⟩) n bc,.slice (some ⟨dg,0,none⟩) n dc,.slice (some ⟨eb,0,none⟩) (tn + 1) (tn + 1),.slice none 0 0] 82 (0,0)))
  (heb:BRw V eb (tn + 1) (fun _=>false)) (hebN:N0≤eb∧eb < W1.heap.size) (htx:Look.TextAt N0 V ad tn tx) (hcv:Rw V cv (List.replicate t.notes (-1))) :
  Calls Tryz.prog 47 #[.pointer (some ⟨wb,0,none⟩),.int .i64 ((t.spread.pn 0).lb:Int),.int .i64 (p:Int),cv] V fun e w'=>e=.returned (.tuple #[])∧∃ pv l,w'.cell? ⟨wb,6,none⟩=some pv∧Parsed V.heap.size w' pv l∧PS t.spread t.notes tx p l∧l.length≤65∧w'.os=V.os∧w'.tape=V.tape∧w'.output=V.output∧V.heap.size≤w'.heap.size∧∀ b,b < N0→w'.heap[b]?=V.heap[b]?:=by
 obtain ⟨f1,f2⟩:=spread_ok t hf
 have h3:=spread_nodes t hf
 obtain ⟨q1,q2⟩:=fine_gi t hf
 have htl:=htx.1
 obtain ⟨l,hl⟩:=PS.of_sf f1 f2 (by omega) t.notes tx p (by omega)
 obtain ⟨s',hx,hcnt⟩:=ex_fw (T:=t.spread.pn 0) (K:=t.notes) (tx:=tx) (p:=p) (by omega)
 have heo:=env_eo (pn_nodup t.spread 0) (pn_sf _ 0 f2)
 have e1:=full_ps (pn_nodup t.spread 0) heo (by rw [pn_tn];exact hl) hx
 have hll:l.length≤65:=by rw [← e1];omega
 have hgi:=(spread_gi t hf t.gi q1).1 (Int.le_refl _)
 have hs1:=hF.tf.size
 have hlow:=hF.low
 have hwl:=(Array.getElem?_eq_some_iff.1 hbx).1
 have mem:∀ (L:List Nat) i,i < L.length→L.getD i 0 ∈ L:=fun L i hi=>by rw [getD_row hi];exact List.getElem_mem hi
 have hdup:=hF.dup
 rw [List.nodup_append] at hdup
 obtain ⟨C,hC⟩:∃ C:WC,C=⟨N0,wb,tb,pb,n,pc,V.heap.size,bg,bc,dg,dc,fun i=>LB.getD i 0,fun i=>LD.getD i 0,eb,tn,tcap,ad,(p:Int),tx,(t.spread.pn 0).ents (.once 1 .through) (-1) 0,(t.spread.pn 0).env,t.notes⟩:=⟨_,rfl⟩
 have hnt:(t.notes:Int)=2 * t.gi + 2:=by simp only [Tn.notes];omega
 have hk:WCk C:=by
  subst hC
  refine wck_of (t:=t.spread) f1 rfl heo hn (by omega) htn htl ⟨by show 2≤t.notes;omega,by show t.notes≤1002;omega⟩ (by show 2 * t.spread.gi + 1 < (t.notes:Int);omega) ⟨hF.wbN,hwl⟩ (fun i hi=>?_) (fun i hi=>?_) ⟨hebN.1,heb.lt⟩ (fun i j hi hj e=>?_) (fun i j hi hj e=>?_) (fun i j hi hj e=>?_) (fun i hi e=>?_) (fun i hi e=>?_)
  ·have hi':i < LB.length:=by rw [hLB];exact hi
   have h1:=hF.fb _ (mem LB i hi')
   exact ⟨Nat.le_trans hlow h1.2,h1.1.lt⟩
  ·have hi':i < LD.length:=by rw [hLD];exact hi
   have h1:=hF.fd _ (mem LD i hi')
   exact ⟨Nat.le_trans hlow h1.2,h1.1.lt⟩
  ·exact nodup_inj hdup.1 (by rw [hLB];exact hi) (by rw [hLB];exact hj) e
  ·exact nodup_inj hdup.2.1 (by rw [hLD];exact hi) (by rw [hLD];exact hj) e
  ·exact hdup.2.2 _ (mem LB i (by rw [hLB];exact hi)) _ (mem LD j (by rw [hLD];exact hj)) e
  ·have h1:=(hF.fb _ (mem LB i (by rw [hLB];exact hi))).2
   have e':LB.getD i 0=eb:=e
   have:=hebN.2
   omega
  ·have h1:=(hF.fd _ (mem LD i (by rw [hLD];exact hi))).2
   have e':LD.getD i 0=eb:=e
   have:=hebN.2
   omega
 have hFM:FM C V [] []:=by
  subst hC
  refine ⟨⟨.slice none 0 0,hbx,[],[],World.ownsRow_nil _ _ _ _,.nil⟩,Nat.le_refl _,hU.box,rrb_of hF.rb hLB,rrb_of hF.rd hLD,⟨fun i hi=>?_,fun i hi=>?_,?_⟩,?_,pl_of hU _ _ _ _ hq,htx⟩
  ·exact (hF.fb _ (mem LB i (by rw [hLB];exact hi))).1.as (fun q hq=>by simp)
  ·exact (hF.fd _ (mem LD i (by rw [hLD];exact hi))).1.as (fun q hq=>by simp)
  ·exact heb.as (fun q hq=>by simp)
  ·rcases hU.row.2 with ⟨e,_⟩ | ⟨g,cap,cur,e,_,hg,_⟩
   ·cases e
   ·simp only [Value.slice.injEq,Option.some.injEq,Addr.mk.injEq] at e
    obtain ⟨⟨rfl,_⟩,_⟩:=e
    exact ⟨cur,hg⟩
 have hW:=(walk_all hk (p:=p) (s:=⟨[],(List.replicate t.notes (-1)).set 0 (p:Int),[]⟩) (s1:=s') (Wy:=(t.spread.pn 0).fw (.once 1 .through)) (by subst hC;exact hx) (by rw [e1];omega) (by subst hC;exact hp)).bg
 have hcall:=hW.at (e:=⟨t.spread.pn 0,.once 1 .through,-1,0⟩) (by subst hC;exact ents_root _ _ _ _) rfl rfl
 have hin:WIn C V ⟨[],(List.replicate t.notes (-1)).set 0 (p:Int),[]⟩ p (List.replicate t.notes (-1)) cv:=by
  refine ⟨hFM,by subst hC;exact hp,hcv,by subst hC;simp,by subst hC;rfl,by simp⟩
 have hwb:C.wb=wb:=by subst hC;rfl
 have hNB:C.NB=V.heap.size:=by subst hC;rfl
 have hN0:C.N0=N0:=by subst hC;rfl
 have hc:=hcall V _ cv hin
 rw [hwb] at hc
 refine hc.mono fun e w' hq=>?_
 obtain ⟨rfl,hfm,hfr⟩:=hq
 obtain ⟨pv,hb1,hb2⟩:=hfm.box
 refine ⟨rfl,pv,s'.parses,?_,by rw [← hNB];exact hb2,by rw [e1];exact hl,by rw [e1];exact hll,hfr.os,hfr.tape,hfr.output,hfr.size,fun b hb=>hfr.low b (by rw [hN0];exact hb)⟩
 rw [← hwb]
 exact Joins.cell_of_block hb1 6
end Go.Proofs.YtacaanhnlfpbhaaGreat
