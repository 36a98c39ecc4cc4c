/- HELPERS: texts of ours put together. -/
import Derived.Test.YtacaanhnlfpbhaaGreatK22
namespace Go.Proofs.YtacaanhnlfpbhaaGreat
open Go.RowKit
set_option linter.unusedVariables false
set_option linter.unusedSimpArgs false
def In.frk (lz:Bool) (n:Int) (I:In):In:=if lz then ⟨I.op,n,I.x,I.a,I.R⟩ else ⟨I.op,I.x,n,I.a,I.R⟩
theorem swap_frk (L:List In) (ia nn:Nat) (h:ia < L.length):((L.modify ia (In.setY (nn:Int))).modify ia (In.setX (nn:Int))).modify ia (In.setY ((L.modify ia (In.setY (nn:Int)))[ia]'(by simpa using h)).x)=L.modify ia (In.frk true (nn:Int)):=by
 refine List.ext_getElem (by simp) fun k h1 h2=>?_
 simp only [List.getElem_modify]
 by_cases e:ia=k
 ·subst e;simp [In.setX,In.setY,In.frk]
 ·simp [e]
set_option maxRecDepth 100000 in
set_option maxHeartbeats 8000000 in
theorem dloop_plus {base:Nat} {a2 a7:Int} {a6:Bool} {a8:ByteArray} {r1 s1:Option Addr} {r2 r3 s2 s3:Nat} {R:List (Int × Int)}  (y:Tn) (hIH:∀ N,LD 58 base N y):LD 99 base ⟨6,r1,r2,r3,a2,s1,s2,s3,1,(-1),a6,a7,a8⟩ (.mk 6 R a2 [y] 1 (-1) a6 a7 a8):=by
 intro w m l hM hm hb hT hlen
 obtain ⟨U,hU⟩:∃ U,U=w.alloc (.cells #[.int .i64 6,.slice r1 r2 r3,.int .i64 a2,.slice s1 s2 s3,.int .i64 1,.int .i64 (-1),.bool a6,.int .i64 a7,.string a8] 25):=⟨_,rfl⟩
 have hbU:Below w.heap.size w U:=by rw [hU];exact Joins.below_alloc1 w _
 have hQ:BNo U w.heap.size ⟨6,r1,r2,r3,a2,s1,s2,s3,1,(-1),a6,a7,a8⟩:=by rw [hU];exact heap_alloc_new w _
 have hMU:=hM.below hbU
 have hbU2:base≤U.heap.size:=Nat.le_trans hb hbU.size
 have hTU:TI U base ⟨6,r1,r2,r3,a2,s1,s2,s3,1,(-1),a6,a7,a8⟩ (.mk 6 R a2 [y] 1 (-1) a6 a7 a8):=hT.kept (fun b hb'=>hbU.block b (by omega))
 have HF:=hid (FrD.of_below hbU hb)
 have hpU:w.heap.size < U.heap.size:=(Array.getElem?_eq_some_iff.1 hQ).1
 obtain ⟨c0,c1,c2,c3,c4,c5,c6,c7,c8⟩:=nine' hQ
 obtain ⟨p,hp⟩:∃ p,p=w.heap.size:=⟨_,rfl⟩
 have HMU:=hid hMU
 have HTU:=hid hTU
 rw [← hp] at c0 c1 c2 c3 c4 c5 c6 c7 c8 hpU hQ
 have HQ:Hid (∀ W,FrD base U W→BNo W p ⟨6,r1,r2,r3,a2,s1,s2,s3,1,(-1),a6,a7,a8⟩∧TI W base ⟨6,r1,r2,r3,a2,s1,s2,s3,1,(-1),a6,a7,a8⟩ (.mk 6 R a2 [y] 1 (-1) a6 a7 a8)∧base≤W.heap.size∧FrD base w W):=fun W hW=>⟨hW.blk _ _ _ _ hQ (by decide) (by decide),hTU.kept hW.low,Nat.le_trans hbU2 hW.size,HF.out.trans hW⟩
 clear hM hMU hbU hQ hT hTU
 obtain ⟨M,b,o,hs2,hs1,hbl,h9,hTM⟩:∃ (M:Nv) (b o:Nat),s2=1∧s1=some ⟨b,o,none⟩∧b < base∧N9 U b o 0 M∧TI U base M y:=by
  cases HTU.out with
  | @mk _ _ _ ND ok hr hR hRk hs hS hk =>
   obtain ⟨b,o,h1,h2,h3⟩:=hS (by simp)
   exact ⟨ND 0,b,o,hs,h1,h2,h3 0 (by simp),hk 0 (by simp)⟩
 subst hs1 hs2
 have hnd:(Tn.mk 6 R a2 [y] (1) ((-1)) a6 a7 a8).nodes=1 + y.nodes:=by simp [Tn.nodes,nodesL]
 have HND:=hid hnd
 have H9:Hid (∀ W,FrD base U W→N9 W b o 0 M∧TI W base M y):=fun W hW=>⟨h9.kept (hW.low b hbl),hTM.kept hW.low⟩
 have HLEN:=hid hlen
 obtain ⟨n,hn⟩:∃ n,n=l.length:=⟨_,rfl⟩
 have HN:=hid hn
 have hnb:n≤2000000:=by omega
 obtain ⟨zz,cz,iz,hxz⟩:=HMU.out
 have kz:=hxz.cell
 rw [← hn] at kz
 clear h9 hTM hnd hlen hn hxz
 go_enter Tryz.func99,Tryz.ntmps99
 go_upto_region 1 with fail
 rw [← hU,← hp]
 clear hU hp
 go_upto_region 4 with fail
 clear c0 c1 c2 c3 c4 c5 c6 c7 c8 kz
 obtain ⟨hQ1,_,hbV1,_⟩:=HQ.out U (FrD.refl base U)
 obtain ⟨c0,c1,c2,c3,c4,c5,c6,c7,c8⟩:=nine' hQ1
 obtain ⟨h91,hTM1⟩:=H9.out U (FrD.refl base U)
 obtain ⟨d0,d1,d2,d3,d4,d5,d6,d7,d8⟩:=h91
 simp only [Nat.zero_mul,Nat.add_zero] at d0 d1 d2 d3 d4 d5 d6 d7 d8
 have HS:=hIH M U m l HMU.out hm hbV1 hTM1 (by have:=HLEN.out;have:=HND.out;(try simp only [List.length_append,List.length_cons,List.length_nil]);omega)
 clear hTM1 hQ1
 go_upto_region 5 with (first | (go_at_call 58;(with_reducible refine HS.mono ?_);rintro e V2 ⟨rfl,⟨l2,hM2,hL2⟩,hf2⟩;have HM2:=hid hM2;have HL2:=hid hL2;have HF2:Hid (FrD base U V2):=(FrD.refl base U).trans hf2;clear hM2 hf2 hL2 HS))
 clear c0 c1 c2 c3 c4 c5 c6 c7 c8 d0 d1 d2 d3 d4 d5 d6 d7 d8
 have hl2:l2.length≤2000000:=by have h1:=HL2.out.2.1;have h2:=HLEN.out;have h3:=HND.out;omega
 obtain ⟨hQ2,_,hbV2,_⟩:=HQ.out V2 HF2.out
 have HP2:=put57 2 0 HM2.out hm hl2 hbV2
 obtain ⟨ia,hia⟩:∃ ia,ia=l2.length:=⟨_,rfl⟩
 rw [← hia] at HP2 hl2
 have HIE:=hid hia
 clear hQ2 hia
 go_upto_region 6 with (first | (go_at_call 57;(with_reducible refine HP2.mono ?_);rintro e V3 ⟨rfl,hM1,hf1⟩;have HM3:=hid hM1;have HF3:=hid hf1;clear hM1 hf1 HP2))
 obtain ⟨zx,cx,ix,hxx⟩:=HM3.out
 obtain ⟨n3,hn3⟩:∃ n3,n3=(l2 ++ [(⟨2,((ia + 1:Nat):Int),0,0,[]⟩:In)]).length:=⟨_,rfl⟩
 have hn3e:n3=ia + 1:=by rw [hn3,List.length_append,HIE.out];rfl
 obtain ⟨gx,rfl⟩:=hxx.form (by omega)
 have kx:=hxx.cell
 rw [← hn3] at kx
 have htx:=hxx.there ia (by omega)
 obtain ⟨vx,hvx⟩:=Option.isSome_iff_exists.1 (htx 1 (by omega)).1
 have fx:=(htx 1 (by omega)).2
 have bx1:((ia:Nat):Int) < (n3:Int):=by omega
 obtain ⟨px,pf⟩:=hxx.setX hm ia (by omega) (n:Int)
 obtain ⟨V,hVn⟩:∃ V,V=V3.setCell ⟨gx,ia * 5 + 1,none⟩ (.int .i64 (n:Int)):=⟨_,rfl⟩
 rw [← hVn] at px pf
 have HPX:=hid px
 have HPF:Hid (FrD base U V):=(HF2.out.trans HF3.out).trans pf
 have HVN:=hid hVn
 clear hxx htx px pf hVn hn3 hn3e
 go_upto_region 12 with fail
 rw [← HVN.out]
 clear kx hvx fx bx1
 obtain ⟨L,hL⟩:∃ L,L=l2 ++ [(⟨2,(n:Int),0,0,[]⟩:In)]:=⟨_,rfl⟩
 have HV:Hid (RD V m base L):=by
  have e1:(l2 ++ [(⟨2,((ia + 1:Nat):Int),0,0,[]⟩:In)]).modify ia (In.setX (n:Int))=L:=by rw [hL,HIE.out,modify_mid];rfl
  have:=HPX.out
  rw [e1] at this
  exact ⟨_,_,_,this⟩
 have HFV:=HPF
 have HIA:=hid (show ia < L.length by rw [hL,HIE.out];simp)
 have HLB:=hid (show L.length≤4000000 by rw [hL,List.length_append,← HIE.out];simp;omega)
 have HFIN:Hid (Laid (.mk 6 R a2 [y] 1 (-1) a6 a7 a8) l (L.modify ia (In.frk a6 (L.length:Int)))):=by
  obtain ⟨x1,x2,x3⟩:=HL2.out
  have hnd:=HND.out
  have hln:(Tn.mk 6 R a2 [y] 1 (-1) a6 a7 a8).len=y.len + 1:=by simp [Tn.len,lenL]
  refine ⟨by rw [List.length_modify,hL];simp;omega,by rw [List.length_modify,hL,List.length_append];simp only [List.length_cons,List.length_nil];omega,fun h=>?_⟩
  rw [List.length_modify,hL] at h
  simp at h
  have e2:=x3 (by omega)
  have e3:l2.length=l.length + y.len:=by rw [e2,List.length_append,lay_len]
  rw [hL,HIE.out,modify_mid,e2]
  have e4:(Tn.mk 6 R a2 [y] 1 (-1) a6 a7 a8).lay l.length=y.lay l.length ++ [forkI l.length (l.length + y.len + 1) a6]:=by simp [Tn.lay,layL,lenL]
  rw [e4,List.append_assoc]
  congr 2
  cases a6 <;> simp [In.frk,forkI,HN.out,lay_len] <;> omega
 clear hL HM3 HPX
 obtain ⟨z1,c,is,hx⟩:=HV.out
 obtain ⟨nn,hnn⟩:∃ nn,nn=L.length:=⟨_,rfl⟩
 have hian:ia < nn:=by rw [hnn];exact HIA.out
 have hnnb:nn≤4000000:=by rw [hnn];exact HLB.out
 obtain ⟨g,rfl⟩:=hx.form (by omega)
 have k0:=hx.cell
 rw [← hnn] at k0
 have ht:=hx.there ia HIA.out
 obtain ⟨v2,hv2⟩:=Option.isSome_iff_exists.1 (ht 2 (by omega)).1
 have f2:=(ht 2 (by omega)).2
 have b1:(ia:Int) < (nn:Int):=by omega
 obtain ⟨qx0,qf0⟩:=hx.setY hm ia HIA.out (nn:Int)
 have qx:=qx0.below (drew_below _)
 have qf:=qf0.trans (FrD.drew base _)
 obtain ⟨W2,hW2⟩:∃ W2,W2=(V.setCell ⟨g,ia * 5 + 2,none⟩ (.int .i64 (nn:Int))).drew:=⟨_,rfl⟩
 rw [← hW2] at qx qf
 clear qx0 qf0
 have HQX:=hid qx
 have HQF:Hid (FrD base U W2):=HFV.out.trans qf
 have HNN:=hid hnn
 have HXR:=hid (hx.read ia HIA.out)
 have HW2:=hid hW2
 clear hx ht qx qf hnn hW2
 go_upto_region 12 with fail
 refine wp_region_lexK [0,1,2,3,4,5,6,7,8,9] [10,11,12] 12 (fun X=>X.cell? ⟨m,0,none⟩=some (.slice (some ⟨g,0,none⟩) nn c)) (by kernel_rfl) (by kernel_rfl) rfl (by kernel_rfl) (by kernel_rfl) k0 ?_
 simp only [opsAt,opsNo,List.getElem?_toArray,List.getElem?_cons_zero,List.getElem?_cons_succ]
 iterate 10
  refine lex_cons ?_ rfl (fun X hX=>?_) (fun _ _ _ h=>h) ?_
  rotate_left
  ·have s0:=hX
   go_simp <;> with_reducible rfl
  simp only [Act.put,List.setIfInBounds_toArray,List.set_cons_zero,List.set_cons_succ]
 refine lex_nil (tailK_cons fun K hK=>?_)
 go_simp
 refine hK.out _ _ (fun _=>k0) (tailK_cons fun K hK=>?_)
 simp only [Act.put,List.setIfInBounds_toArray,List.set_cons_zero,List.set_cons_succ]
 go_simp
 refine hK.out _ _ (fun _=>k0) (tailK_cons fun K hK=>?_)
 simp only [Act.put,List.setIfInBounds_toArray,List.set_cons_zero,List.set_cons_succ]
 go_simp
 refine hK.out _ _ (fun h=>absurd rfl h) (tailK_nil ?_)
 try simp only [Act.put,List.setIfInBounds_toArray,List.set_cons_zero,List.set_cons_succ]
 rw [← HW2.out]
 clear k0 hv2 f2
 obtain ⟨hQ2,_,hbW2,hFw2⟩:=HQ.out W2 HQF.out
 obtain ⟨c0,c1,c2,c3,c4,c5,c6,c7,c8⟩:=nine' hQ2
 clear hQ2
 cases a6 with
 | false =>
  have HFW:=hid hFw2
  clear hFw2
  go_wp2
  all_goals first | go_end0 | (refine bodyPost_ret (results_none rfl _ _ _) rfl ?_)
  all_goals refine ⟨rfl,⟨_,⟨_,_,_,HQX.out⟩,?_⟩,HFW.out⟩
  all_goals have e:=HFIN.out
  all_goals rw [HNN.out]
  all_goals exact e
 | true =>
  have hx:=HQX.out
  have hl1:(L.modify ia (In.setY (nn:Int))).length=nn:=by rw [List.length_modify];exact HNN.out.symm
  have k0:=hx.cell
  rw [hl1] at k0
  obtain ⟨k1,k2⟩:=hx.read ia (by rw [hl1];exact hian)
  have hil:ia < (L.modify ia (In.setY (nn:Int))).length:=by rw [hl1];exact hian
  obtain ⟨x0,hx0⟩:∃ x0,x0=((L.modify ia (In.setY (nn:Int)))[ia]'hil).x:=⟨_,rfl⟩
  rw [← hx0] at k1
  have ey:((L.modify ia (In.setY (nn:Int)))[ia]'hil).y=(nn:Int):=by rw [List.getElem_modify];simp [In.setY]
  rw [ey] at k2
  have ht:=hx.there ia (by rw [hl1];exact hian)
  have f1:=(ht 1 (by omega)).2
  obtain ⟨rx0,rf0⟩:=hx.setX hm ia (by rw [hl1];exact hian) (nn:Int)
  have rx:=rx0.below (drew_below _)
  have rf:=rf0.trans (FrD.drew base _)
  obtain ⟨W3,hW3⟩:∃ W3,W3=(W2.setCell ⟨g,ia * 5 + 1,none⟩ (.int .i64 (nn:Int))).drew:=⟨_,rfl⟩
  rw [← hW3] at rx rf
  clear rx0 rf0
  have hl2:((L.modify ia (In.setY (nn:Int))).modify ia (In.setX (nn:Int))).length=nn:=by rw [List.length_modify];exact hl1
  have j0:=rx.cell
  rw [hl2] at j0
  have ht3:=rx.there ia (by rw [hl2];exact hian)
  obtain ⟨v3,hv3⟩:=Option.isSome_iff_exists.1 (ht3 2 (by omega)).1
  have g2:=(ht3 2 (by omega)).2
  obtain ⟨sx,sf⟩:=rx.setY hm ia (by rw [hl2];exact hian) x0
  have HSX:=hid sx
  have HFW:Hid (FrD base w (W3.setCell ⟨g,ia * 5 + 2,none⟩ (.int .i64 x0))):=hFw2.trans (rf.trans sf)
  have HX0:=hid hx0
  have HW3:=hid hW3
  clear hx ht ht3 rx rf sx sf hx0 ey hl1 hl2 hW3 hFw2
  go_upto_region 15 with fail
  refine wp_region_lexK [0,1,2,3,4,5,6,7,8,9,10,11,12] [13,14,15] 15 (fun X=>X.cell? ⟨m,0,none⟩=some (.slice (some ⟨g,0,none⟩) nn c)∧X.cell? ⟨g,ia * 5 + 2,none⟩=some (.int .i64 (nn:Int))) (by kernel_rfl) (by kernel_rfl) rfl (by kernel_rfl) (by kernel_rfl) ⟨k0,k2⟩ ?_
  simp only [opsAt,opsNo,List.getElem?_toArray,List.getElem?_cons_zero,List.getElem?_cons_succ]
  iterate 13
   refine lex_cons ?_ rfl (fun X hX=>?_) (fun _ _ _ h=>h) ?_
   rotate_left
   ·obtain ⟨s0,s2⟩:=hX
    go_simp <;> with_reducible rfl
   simp only [Act.put,List.setIfInBounds_toArray,List.set_cons_zero,List.set_cons_succ]
  refine lex_nil (tailK_cons fun K hK=>?_)
  go_simp
  refine hK.out _ _ (fun _=>⟨k0,k2⟩) (tailK_cons fun K hK=>?_)
  simp only [Act.put,List.setIfInBounds_toArray,List.set_cons_zero,List.set_cons_succ]
  go_simp
  refine hK.out _ _ (fun _=>⟨k0,k2⟩) (tailK_cons fun K hK=>?_)
  simp only [Act.put,List.setIfInBounds_toArray,List.set_cons_zero,List.set_cons_succ]
  go_simp
  refine hK.out _ _ (fun h=>absurd rfl h) (tailK_nil ?_)
  try simp only [Act.put,List.setIfInBounds_toArray,List.set_cons_zero,List.set_cons_succ]
  rw [← HW3.out]
  clear k0 k1 k2 f1 c0 c1 c2 c3 c4 c5 c6 c7 c8
  go_wp2
  all_goals first | go_end0 | (refine bodyPost_ret (results_none rfl _ _ _) rfl ?_)
  all_goals refine ⟨rfl,⟨_,⟨_,_,_,HSX.out⟩,?_⟩,HFW.out⟩
  all_goals have e:=HFIN.out
  all_goals rw [HX0.out,swap_frk L ia nn (by rw [← HNN.out];exact hian),HNN.out]
  all_goals exact e
set_option maxRecDepth 100000 in
set_option maxHeartbeats 8000000 in
theorem dloop_quest {base:Nat} {a2 a7:Int} {a6:Bool} {a8:ByteArray} {r1 s1:Option Addr} {r2 r3 s2 s3:Nat} {R:List (Int × Int)}  (y:Tn) (hIH:∀ N,LD 58 base N y):LD 99 base ⟨6,r1,r2,r3,a2,s1,s2,s3,0,1,a6,a7,a8⟩ (.mk 6 R a2 [y] 0 1 a6 a7 a8):=by
 intro w m l hM hm hb hT hlen
 obtain ⟨U,hU⟩:∃ U,U=w.alloc (.cells #[.int .i64 6,.slice r1 r2 r3,.int .i64 a2,.slice s1 s2 s3,.int .i64 0,.int .i64 1,.bool a6,.int .i64 a7,.string a8] 25):=⟨_,rfl⟩
 have hbU:Below w.heap.size w U:=by rw [hU];exact Joins.below_alloc1 w _
 have hQ:BNo U w.heap.size ⟨6,r1,r2,r3,a2,s1,s2,s3,0,1,a6,a7,a8⟩:=by rw [hU];exact heap_alloc_new w _
 have hMU:=hM.below hbU
 have hbU2:base≤U.heap.size:=Nat.le_trans hb hbU.size
 have hTU:TI U base ⟨6,r1,r2,r3,a2,s1,s2,s3,0,1,a6,a7,a8⟩ (.mk 6 R a2 [y] 0 1 a6 a7 a8):=hT.kept (fun b hb'=>hbU.block b (by omega))
 have HF:=hid (FrD.of_below hbU hb)
 have hpU:w.heap.size < U.heap.size:=(Array.getElem?_eq_some_iff.1 hQ).1
 obtain ⟨c0,c1,c2,c3,c4,c5,c6,c7,c8⟩:=nine' hQ
 obtain ⟨p,hp⟩:∃ p,p=w.heap.size:=⟨_,rfl⟩
 have HMU:=hid hMU
 have HTU:=hid hTU
 rw [← hp] at c0 c1 c2 c3 c4 c5 c6 c7 c8 hpU hQ
 have HQ:Hid (∀ W,FrD base U W→BNo W p ⟨6,r1,r2,r3,a2,s1,s2,s3,0,1,a6,a7,a8⟩∧TI W base ⟨6,r1,r2,r3,a2,s1,s2,s3,0,1,a6,a7,a8⟩ (.mk 6 R a2 [y] 0 1 a6 a7 a8)∧base≤W.heap.size∧FrD base w W):=fun W hW=>⟨hW.blk _ _ _ _ hQ (by decide) (by decide),hTU.kept hW.low,Nat.le_trans hbU2 hW.size,HF.out.trans hW⟩
 clear hM hMU hbU hQ hT hTU
 obtain ⟨M,b,o,hs2,hs1,hbl,h9,hTM⟩:∃ (M:Nv) (b o:Nat),s2=1∧s1=some ⟨b,o,none⟩∧b < base∧N9 U b o 0 M∧TI U base M y:=by
  cases HTU.out with
  | @mk _ _ _ ND ok hr hR hRk hs hS hk =>
   obtain ⟨b,o,h1,h2,h3⟩:=hS (by simp)
   exact ⟨ND 0,b,o,hs,h1,h2,h3 0 (by simp),hk 0 (by simp)⟩
 subst hs1 hs2
 have hnd:(Tn.mk 6 R a2 [y] (0) (1) a6 a7 a8).nodes=1 + y.nodes:=by simp [Tn.nodes,nodesL]
 have HND:=hid hnd
 have H9:Hid (∀ W,FrD base U W→N9 W b o 0 M∧TI W base M y):=fun W hW=>⟨h9.kept (hW.low b hbl),hTM.kept hW.low⟩
 have HLEN:=hid hlen
 obtain ⟨n,hn⟩:∃ n,n=l.length:=⟨_,rfl⟩
 have HN:=hid hn
 have hnb:n≤2000000:=by omega
 obtain ⟨zz,cz,iz,hxz⟩:=HMU.out
 have kz:=hxz.cell
 rw [← hn] at kz
 clear h9 hTM hnd hlen hn hxz
 go_enter Tryz.func99,Tryz.ntmps99
 go_upto_region 1 with fail
 rw [← hU,← hp]
 clear hU hp
 have HP:=put57 2 0 HMU.out hm (by have:=HN.out;omega) hbU2
 go_upto_region 8 with (first | (go_at_call 57;(with_reducible refine HP.mono ?_);rintro e V1 ⟨rfl,hM1,hf1⟩;have HM1:=hid hM1;have HF1:=hid hf1;clear hM1 hf1 HP))
 clear c0 c1 c2 c3 c4 c5 c6 c7 c8 kz
 obtain ⟨hQ1,_,hbV1,_⟩:=HQ.out V1 HF1.out
 obtain ⟨c0,c1,c2,c3,c4,c5,c6,c7,c8⟩:=nine' hQ1
 obtain ⟨h91,hTM1⟩:=H9.out V1 HF1.out
 obtain ⟨d0,d1,d2,d3,d4,d5,d6,d7,d8⟩:=h91
 simp only [Nat.zero_mul,Nat.add_zero] at d0 d1 d2 d3 d4 d5 d6 d7 d8
 have HS:=hIH M V1 m _ HM1.out hm hbV1 hTM1 (by have:=HLEN.out;have:=HND.out;(try simp only [List.length_append,List.length_cons,List.length_nil]);omega)
 clear hTM1 hQ1
 go_upto_region 9 with (first | (go_at_call 58;(with_reducible refine HS.mono ?_);rintro e V2 ⟨rfl,⟨l2,hM2,hL2⟩,hf2⟩;have HM2:=hid hM2;have HL2:=hid hL2;have HF2:Hid (FrD base U V2):=HF1.out.trans hf2;clear hM2 hf2 hL2 HS))
 clear c0 c1 c2 c3 c4 c5 c6 c7 c8 d0 d1 d2 d3 d4 d5 d6 d7 d8
 have hl2:l2.length≤2000000:=by have h1:=HL2.out.2.1;have h2:=HLEN.out;have h3:=HND.out;simp only [List.length_append,List.length_cons,List.length_nil] at h1;omega
 obtain ⟨hQ2,_,hbV2,_⟩:=HQ.out V2 HF2.out
 obtain ⟨c0,c1,c2,c3,c4,c5,c6,c7,c8⟩:=nine' hQ2
 clear hQ2
 obtain ⟨ia,hia⟩:∃ ia,ia=n:=⟨_,rfl⟩
 have HIE:=hid hia
 rw [← hia]
 have HNI:Hid (ia=l.length):=hia.trans HN.out
 clear hia
 obtain ⟨L,hL⟩:∃ L,L=l2:=⟨_,rfl⟩
 obtain ⟨V,hVV⟩:∃ V,V=V2:=⟨_,rfl⟩
 have HV:Hid (RD V m base L):=by rw [hL,hVV];exact HM2.out
 have HFV:Hid (FrD base U V):=by rw [hVV];exact HF2.out
 have HIA:=hid (show ia < L.length by rw [hL,HNI.out];have:=HL2.out.1;simp at this;omega)
 have HLB:=hid (show L.length≤4000000 by rw [hL];omega)
 have HFIN:Hid (Laid (.mk 6 R a2 [y] 0 1 a6 a7 a8) l (L.modify ia (In.frk a6 (L.length:Int)))):=by
  obtain ⟨x1,x2,x3⟩:=HL2.out
  have hnd:=HND.out
  have hln:(Tn.mk 6 R a2 [y] 0 1 a6 a7 a8).len=y.len + 1:=by simp [Tn.len,lenL]
  simp only [List.length_append,List.length_cons,List.length_nil] at x1 x2
  refine ⟨by rw [List.length_modify,hL];omega,by rw [List.length_modify,hL];omega,fun h=>?_⟩
  rw [List.length_modify,hL] at h
  have e2:=x3 h
  have e3:l2.length=l.length + 1 + y.len:=by rw [e2];simp [lay_len];omega
  have e5:l2=l ++ (⟨2,((l.length + 1:Nat):Int),0,0,[]⟩:In) :: y.lay (l.length + 1):=by rw [e2];simp
  have e4:(Tn.mk 6 R a2 [y] 0 1 a6 a7 a8).lay l.length=forkI (l.length + 1) (l.length + 1 + y.len) a6 :: y.lay (l.length + 1):=by simp [Tn.lay,layL,lenL]
  rw [hL,e3,HNI.out,e4]
  rw [e5,modify_mid]
  congr 2
  all_goals (cases a6 <;> simp [In.frk,forkI])
 rw [← hVV]
 rw [← hVV] at c0 c1 c2 c3 c4 c5 c6 c7 c8
 clear hL hVV HM2 HM1
 obtain ⟨z1,c,is,hx⟩:=HV.out
 obtain ⟨nn,hnn⟩:∃ nn,nn=L.length:=⟨_,rfl⟩
 have hian:ia < nn:=by rw [hnn];exact HIA.out
 have hnnb:nn≤4000000:=by rw [hnn];exact HLB.out
 obtain ⟨g,rfl⟩:=hx.form (by omega)
 have k0:=hx.cell
 rw [← hnn] at k0
 have ht:=hx.there ia HIA.out
 obtain ⟨v2,hv2⟩:=Option.isSome_iff_exists.1 (ht 2 (by omega)).1
 have f2:=(ht 2 (by omega)).2
 have b1:(ia:Int) < (nn:Int):=by omega
 obtain ⟨qx0,qf0⟩:=hx.setY hm ia HIA.out (nn:Int)
 have qx:=qx0.below (drew_below _)
 have qf:=qf0.trans (FrD.drew base _)
 obtain ⟨W2,hW2⟩:∃ W2,W2=(V.setCell ⟨g,ia * 5 + 2,none⟩ (.int .i64 (nn:Int))).drew:=⟨_,rfl⟩
 rw [← hW2] at qx qf
 clear qx0 qf0
 have HQX:=hid qx
 have HQF:Hid (FrD base U W2):=HFV.out.trans qf
 have HNN:=hid hnn
 have HXR:=hid (hx.read ia HIA.out)
 have HW2:=hid hW2
 clear hx ht qx qf hnn hW2
 go_upto_region 12 with fail
 refine wp_region_lexK [0,1,2,3,4,5,6,7,8,9] [10,11,12] 12 (fun X=>X.cell? ⟨m,0,none⟩=some (.slice (some ⟨g,0,none⟩) nn c)) (by kernel_rfl) (by kernel_rfl) rfl (by kernel_rfl) (by kernel_rfl) k0 ?_
 simp only [opsAt,opsNo,List.getElem?_toArray,List.getElem?_cons_zero,List.getElem?_cons_succ]
 iterate 10
  refine lex_cons ?_ rfl (fun X hX=>?_) (fun _ _ _ h=>h) ?_
  rotate_left
  ·have s0:=hX
   go_simp <;> with_reducible rfl
  simp only [Act.put,List.setIfInBounds_toArray,List.set_cons_zero,List.set_cons_succ]
 refine lex_nil (tailK_cons fun K hK=>?_)
 go_simp
 refine hK.out _ _ (fun _=>k0) (tailK_cons fun K hK=>?_)
 simp only [Act.put,List.setIfInBounds_toArray,List.set_cons_zero,List.set_cons_succ]
 go_simp
 refine hK.out _ _ (fun _=>k0) (tailK_cons fun K hK=>?_)
 simp only [Act.put,List.setIfInBounds_toArray,List.set_cons_zero,List.set_cons_succ]
 go_simp
 refine hK.out _ _ (fun h=>absurd rfl h) (tailK_nil ?_)
 try simp only [Act.put,List.setIfInBounds_toArray,List.set_cons_zero,List.set_cons_succ]
 rw [← HW2.out]
 clear k0 hv2 f2
 obtain ⟨hQ2,_,hbW2,hFw2⟩:=HQ.out W2 HQF.out
 obtain ⟨c0,c1,c2,c3,c4,c5,c6,c7,c8⟩:=nine' hQ2
 clear hQ2
 cases a6 with
 | false =>
  have HFW:=hid hFw2
  clear hFw2
  go_wp2
  all_goals first | go_end0 | (refine bodyPost_ret (results_none rfl _ _ _) rfl ?_)
  all_goals refine ⟨rfl,⟨_,⟨_,_,_,HQX.out⟩,?_⟩,HFW.out⟩
  all_goals have e:=HFIN.out
  all_goals rw [HNN.out]
  all_goals exact e
 | true =>
  have hx:=HQX.out
  have hl1:(L.modify ia (In.setY (nn:Int))).length=nn:=by rw [List.length_modify];exact HNN.out.symm
  have k0:=hx.cell
  rw [hl1] at k0
  obtain ⟨k1,k2⟩:=hx.read ia (by rw [hl1];exact hian)
  have hil:ia < (L.modify ia (In.setY (nn:Int))).length:=by rw [hl1];exact hian
  obtain ⟨x0,hx0⟩:∃ x0,x0=((L.modify ia (In.setY (nn:Int)))[ia]'hil).x:=⟨_,rfl⟩
  rw [← hx0] at k1
  have ey:((L.modify ia (In.setY (nn:Int)))[ia]'hil).y=(nn:Int):=by rw [List.getElem_modify];simp [In.setY]
  rw [ey] at k2
  have ht:=hx.there ia (by rw [hl1];exact hian)
  have f1:=(ht 1 (by omega)).2
  obtain ⟨rx0,rf0⟩:=hx.setX hm ia (by rw [hl1];exact hian) (nn:Int)
  have rx:=rx0.below (drew_below _)
  have rf:=rf0.trans (FrD.drew base _)
  obtain ⟨W3,hW3⟩:∃ W3,W3=(W2.setCell ⟨g,ia * 5 + 1,none⟩ (.int .i64 (nn:Int))).drew:=⟨_,rfl⟩
  rw [← hW3] at rx rf
  clear rx0 rf0
  have hl2:((L.modify ia (In.setY (nn:Int))).modify ia (In.setX (nn:Int))).length=nn:=by rw [List.length_modify];exact hl1
  have j0:=rx.cell
  rw [hl2] at j0
  have ht3:=rx.there ia (by rw [hl2];exact hian)
  obtain ⟨v3,hv3⟩:=Option.isSome_iff_exists.1 (ht3 2 (by omega)).1
  have g2:=(ht3 2 (by omega)).2
  obtain ⟨sx,sf⟩:=rx.setY hm ia (by rw [hl2];exact hian) x0
  have HSX:=hid sx
  have HFW:Hid (FrD base w (W3.setCell ⟨g,ia * 5 + 2,none⟩ (.int .i64 x0))):=hFw2.trans (rf.trans sf)
  have HX0:=hid hx0
  have HW3:=hid hW3
  clear hx ht ht3 rx rf sx sf hx0 ey hl1 hl2 hW3 hFw2
  go_upto_region 15 with fail
  refine wp_region_lexK [0,1,2,3,4,5,6,7,8,9,10,11,12] [13,14,15] 15 (fun X=>X.cell? ⟨m,0,none⟩=some (.slice (some ⟨g,0,none⟩) nn c)∧X.cell? ⟨g,ia * 5 + 2,none⟩=some (.int .i64 (nn:Int))) (by kernel_rfl) (by kernel_rfl) rfl (by kernel_rfl) (by kernel_rfl) ⟨k0,k2⟩ ?_
  simp only [opsAt,opsNo,List.getElem?_toArray,List.getElem?_cons_zero,List.getElem?_cons_succ]
  iterate 13
   refine lex_cons ?_ rfl (fun X hX=>?_) (fun _ _ _ h=>h) ?_
   rotate_left
   ·obtain ⟨s0,s2⟩:=hX
    go_simp <;> with_reducible rfl
   simp only [Act.put,List.setIfInBounds_toArray,List.set_cons_zero,List.set_cons_succ]
  refine lex_nil (tailK_cons fun K hK=>?_)
  go_simp
  refine hK.out _ _ (fun _=>⟨k0,k2⟩) (tailK_cons fun K hK=>?_)
  simp only [Act.put,List.setIfInBounds_toArray,List.set_cons_zero,List.set_cons_succ]
  go_simp
  refine hK.out _ _ (fun _=>⟨k0,k2⟩) (tailK_cons fun K hK=>?_)
  simp only [Act.put,List.setIfInBounds_toArray,List.set_cons_zero,List.set_cons_succ]
  go_simp
  refine hK.out _ _ (fun h=>absurd rfl h) (tailK_nil ?_)
  try simp only [Act.put,List.setIfInBounds_toArray,List.set_cons_zero,List.set_cons_succ]
  rw [← HW3.out]
  clear k0 k1 k2 f1 c0 c1 c2 c3 c4 c5 c6 c7 c8
  go_wp2
  all_goals first | go_end0 | (refine bodyPost_ret (results_none rfl _ _ _) rfl ?_)
  all_goals refine ⟨rfl,⟨_,⟨_,_,_,HSX.out⟩,?_⟩,HFW.out⟩
  all_goals have e:=HFIN.out
  all_goals rw [HX0.out,swap_frk L ia nn (by rw [← HNN.out];exact hian),HNN.out]
  all_goals exact e
set_option maxRecDepth 100000 in
set_option maxHeartbeats 8000000 in
theorem dloop_star {base:Nat} {a2 a7:Int} {a6:Bool} {a8:ByteArray} {r1 s1:Option Addr} {r2 r3 s2 s3:Nat} {R:List (Int × Int)}  (y:Tn) (hIH:∀ N,LD 58 base N y):LD 99 base ⟨6,r1,r2,r3,a2,s1,s2,s3,0,(-1),a6,a7,a8⟩ (.mk 6 R a2 [y] 0 (-1) a6 a7 a8):=by
 intro w m l hM hm hb hT hlen
 obtain ⟨U,hU⟩:∃ U,U=w.alloc (.cells #[.int .i64 6,.slice r1 r2 r3,.int .i64 a2,.slice s1 s2 s3,.int .i64 0,.int .i64 (-1),.bool a6,.int .i64 a7,.string a8] 25):=⟨_,rfl⟩
 have hbU:Below w.heap.size w U:=by rw [hU];exact Joins.below_alloc1 w _
 have hQ:BNo U w.heap.size ⟨6,r1,r2,r3,a2,s1,s2,s3,0,(-1),a6,a7,a8⟩:=by rw [hU];exact heap_alloc_new w _
 have hMU:=hM.below hbU
 have hbU2:base≤U.heap.size:=Nat.le_trans hb hbU.size
 have hTU:TI U base ⟨6,r1,r2,r3,a2,s1,s2,s3,0,(-1),a6,a7,a8⟩ (.mk 6 R a2 [y] 0 (-1) a6 a7 a8):=hT.kept (fun b hb'=>hbU.block b (by omega))
 have HF:=hid (FrD.of_below hbU hb)
 have hpU:w.heap.size < U.heap.size:=(Array.getElem?_eq_some_iff.1 hQ).1
 obtain ⟨c0,c1,c2,c3,c4,c5,c6,c7,c8⟩:=nine' hQ
 obtain ⟨p,hp⟩:∃ p,p=w.heap.size:=⟨_,rfl⟩
 have HMU:=hid hMU
 have HTU:=hid hTU
 rw [← hp] at c0 c1 c2 c3 c4 c5 c6 c7 c8 hpU hQ
 have HQ:Hid (∀ W,FrD base U W→BNo W p ⟨6,r1,r2,r3,a2,s1,s2,s3,0,(-1),a6,a7,a8⟩∧TI W base ⟨6,r1,r2,r3,a2,s1,s2,s3,0,(-1),a6,a7,a8⟩ (.mk 6 R a2 [y] 0 (-1) a6 a7 a8)∧base≤W.heap.size∧FrD base w W):=fun W hW=>⟨hW.blk _ _ _ _ hQ (by decide) (by decide),hTU.kept hW.low,Nat.le_trans hbU2 hW.size,HF.out.trans hW⟩
 clear hM hMU hbU hQ hT hTU
 obtain ⟨M,b,o,hs2,hs1,hbl,h9,hTM⟩:∃ (M:Nv) (b o:Nat),s2=1∧s1=some ⟨b,o,none⟩∧b < base∧N9 U b o 0 M∧TI U base M y:=by
  cases HTU.out with
  | @mk _ _ _ ND ok hr hR hRk hs hS hk =>
   obtain ⟨b,o,h1,h2,h3⟩:=hS (by simp)
   exact ⟨ND 0,b,o,hs,h1,h2,h3 0 (by simp),hk 0 (by simp)⟩
 subst hs1 hs2
 have hnd:(Tn.mk 6 R a2 [y] (0) ((-1)) a6 a7 a8).nodes=1 + y.nodes:=by simp [Tn.nodes,nodesL]
 have HND:=hid hnd
 have H9:Hid (∀ W,FrD base U W→N9 W b o 0 M∧TI W base M y):=fun W hW=>⟨h9.kept (hW.low b hbl),hTM.kept hW.low⟩
 have HLEN:=hid hlen
 obtain ⟨n,hn⟩:∃ n,n=l.length:=⟨_,rfl⟩
 have HN:=hid hn
 have hnb:n≤2000000:=by omega
 obtain ⟨zz,cz,iz,hxz⟩:=HMU.out
 have kz:=hxz.cell
 rw [← hn] at kz
 clear h9 hTM hnd hlen hn hxz
 go_enter Tryz.func99,Tryz.ntmps99
 go_upto_region 1 with fail
 rw [← hU,← hp]
 clear hU hp
 have HP:=put57 2 0 HMU.out hm (by have:=HN.out;omega) hbU2
 go_upto_region 8 with (first | (go_at_call 57;(with_reducible refine HP.mono ?_);rintro e V1 ⟨rfl,hM1,hf1⟩;have HM1:=hid hM1;have HF1:=hid hf1;clear hM1 hf1 HP))
 clear c0 c1 c2 c3 c4 c5 c6 c7 c8 kz
 obtain ⟨hQ1,_,hbV1,_⟩:=HQ.out V1 HF1.out
 obtain ⟨c0,c1,c2,c3,c4,c5,c6,c7,c8⟩:=nine' hQ1
 obtain ⟨h91,hTM1⟩:=H9.out V1 HF1.out
 obtain ⟨d0,d1,d2,d3,d4,d5,d6,d7,d8⟩:=h91
 simp only [Nat.zero_mul,Nat.add_zero] at d0 d1 d2 d3 d4 d5 d6 d7 d8
 have HS:=hIH M V1 m _ HM1.out hm hbV1 hTM1 (by have:=HLEN.out;have:=HND.out;(try simp only [List.length_append,List.length_cons,List.length_nil]);omega)
 clear hTM1 hQ1
 go_upto_region 9 with (first | (go_at_call 58;(with_reducible refine HS.mono ?_);rintro e V2 ⟨rfl,⟨l2,hM2,hL2⟩,hf2⟩;have HM2:=hid hM2;have HL2:=hid hL2;have HF2:Hid (FrD base U V2):=HF1.out.trans hf2;clear hM2 hf2 hL2 HS))
 clear c0 c1 c2 c3 c4 c5 c6 c7 c8 d0 d1 d2 d3 d4 d5 d6 d7 d8
 have hl2:l2.length≤2000000:=by have h1:=HL2.out.2.1;have h2:=HLEN.out;have h3:=HND.out;simp only [List.length_append,List.length_cons,List.length_nil] at h1;omega
 obtain ⟨hQ2,_,hbV2,_⟩:=HQ.out V2 HF2.out
 obtain ⟨c0,c1,c2,c3,c4,c5,c6,c7,c8⟩:=nine' hQ2
 clear hQ2
 have HP2:=put57 7 0 HM2.out hm hl2 hbV2
 obtain ⟨ja,hja⟩:∃ ja,ja=l2.length:=⟨_,rfl⟩
 rw [← hja] at HP2 hl2
 have HJE:=hid hja
 clear hja
 go_upto_region 11 with (first | (go_at_call 57;(with_reducible refine HP2.mono ?_);rintro e V3 ⟨rfl,hM1,hf1⟩;have HM3:=hid hM1;have HF3:=hid hf1;clear hM1 hf1 HP2))
 clear c0 c1 c2 c3 c4 c5 c6 c7 c8
 obtain ⟨zx,cx,ix,hxx⟩:=HM3.out
 obtain ⟨n3,hn3⟩:∃ n3,n3=(l2 ++ [(⟨7,((ja + 1:Nat):Int),0,0,[]⟩:In)]).length:=⟨_,rfl⟩
 have hn3e:n3=ja + 1:=by rw [hn3,List.length_append,HJE.out];rfl
 obtain ⟨gx,rfl⟩:=hxx.form (by omega)
 have kx:=hxx.cell
 rw [← hn3] at kx
 have htx:=hxx.there ja (by omega)
 obtain ⟨vx,hvx⟩:=Option.isSome_iff_exists.1 (htx 1 (by omega)).1
 have fx:=(htx 1 (by omega)).2
 have bx1:((ja:Nat):Int) < (n3:Int):=by omega
 obtain ⟨px,pf⟩:=hxx.setX hm ja (by omega) (n:Int)
 obtain ⟨V,hVn⟩:∃ V,V=V3.setCell ⟨gx,ja * 5 + 1,none⟩ (.int .i64 (n:Int)):=⟨_,rfl⟩
 rw [← hVn] at px pf
 have HPX:=hid px
 have HPF:Hid (FrD base U V):=(HF2.out.trans HF3.out).trans pf
 have HVN:=hid hVn
 clear hxx htx px pf hVn hn3 hn3e
 go_upto_region 12 with fail
 rw [← HVN.out]
 clear kx hvx fx bx1
 obtain ⟨ia,hia⟩:∃ ia,ia=n:=⟨_,rfl⟩
 have HIE:=hid hia
 have HNI:Hid (ia=l.length):=hia.trans HN.out
 obtain ⟨L,hL⟩:∃ L,L=l2 ++ [(⟨7,(n:Int),0,0,[]⟩:In)]:=⟨_,rfl⟩
 rw [← hia]
 clear hia
 have HV:Hid (RD V m base L):=by
  have e1:(l2 ++ [(⟨7,((ja + 1:Nat):Int),0,0,[]⟩:In)]).modify ja (In.setX (n:Int))=L:=by rw [hL,HJE.out,modify_mid];rfl
  have:=HPX.out
  rw [e1] at this
  exact ⟨_,_,_,this⟩
 have HFV:=HPF
 have HIA:=hid (show ia < L.length by rw [hL,HNI.out];have:=HL2.out.1;simp at this;simp;omega)
 have HLB:=hid (show L.length≤4000000 by rw [hL,List.length_append,← HJE.out];simp;omega)
 have HFIN:Hid (Laid (.mk 6 R a2 [y] 0 (-1) a6 a7 a8) l (L.modify ia (In.frk a6 (L.length:Int)))):=by
  obtain ⟨x1,x2,x3⟩:=HL2.out
  have hnd:=HND.out
  have hln:(Tn.mk 6 R a2 [y] 0 (-1) a6 a7 a8).len=y.len + 2:=by simp [Tn.len,lenL]
  simp only [List.length_append,List.length_cons,List.length_nil] at x1 x2
  refine ⟨by rw [List.length_modify,hL];simp;omega,by rw [List.length_modify,hL,List.length_append];simp only [List.length_cons,List.length_nil];omega,fun h=>?_⟩
  rw [List.length_modify,hL] at h
  simp at h
  have e2:=x3 (by omega)
  have e3:l2.length=l.length + 1 + y.len:=by rw [e2];simp [lay_len];omega
  have e5:l2 ++ [(⟨7,(n:Int),0,0,[]⟩:In)]=l ++ (⟨2,((l.length + 1:Nat):Int),0,0,[]⟩:In) :: (y.lay (l.length + 1) ++ [⟨7,(l.length:Int),0,0,[]⟩]):=by rw [e2,HN.out];simp
  have e4:(Tn.mk 6 R a2 [y] 0 (-1) a6 a7 a8).lay l.length=forkI (l.length + 1) (l.length + 1 + y.len + 1) a6 :: (y.lay (l.length + 1) ++ [⟨7,(l.length:Int),0,0,[]⟩]):=by simp [Tn.lay,layL,lenL]
  have e6:(l2 ++ [(⟨7,(n:Int),0,0,[]⟩:In)]).length=l.length + 1 + y.len + 1:=by rw [List.length_append,e3];rfl
  rw [hL,e6,HNI.out,e4,e5,modify_mid]
  congr 2
  all_goals (cases a6 <;> simp [In.frk,forkI])
 clear hL HM3 HPX HM1 HM2
 obtain ⟨z1,c,is,hx⟩:=HV.out
 obtain ⟨nn,hnn⟩:∃ nn,nn=L.length:=⟨_,rfl⟩
 have hian:ia < nn:=by rw [hnn];exact HIA.out
 have hnnb:nn≤4000000:=by rw [hnn];exact HLB.out
 obtain ⟨g,rfl⟩:=hx.form (by omega)
 have k0:=hx.cell
 rw [← hnn] at k0
 have ht:=hx.there ia HIA.out
 obtain ⟨v2,hv2⟩:=Option.isSome_iff_exists.1 (ht 2 (by omega)).1
 have f2:=(ht 2 (by omega)).2
 have b1:(ia:Int) < (nn:Int):=by omega
 obtain ⟨qx0,qf0⟩:=hx.setY hm ia HIA.out (nn:Int)
 have qx:=qx0.below (drew_below _)
 have qf:=qf0.trans (FrD.drew base _)
 obtain ⟨W2,hW2⟩:∃ W2,W2=(V.setCell ⟨g,ia * 5 + 2,none⟩ (.int .i64 (nn:Int))).drew:=⟨_,rfl⟩
 rw [← hW2] at qx qf
 clear qx0 qf0
 have HQX:=hid qx
 have HQF:Hid (FrD base U W2):=HFV.out.trans qf
 have HNN:=hid hnn
 have HXR:=hid (hx.read ia HIA.out)
 have HW2:=hid hW2
 clear hx ht qx qf hnn hW2
 go_upto_region 12 with fail
 refine wp_region_lexK [0,1,2,3,4,5,6,7,8,9] [10,11,12] 12 (fun X=>X.cell? ⟨m,0,none⟩=some (.slice (some ⟨g,0,none⟩) nn c)) (by kernel_rfl) (by kernel_rfl) rfl (by kernel_rfl) (by kernel_rfl) k0 ?_
 simp only [opsAt,opsNo,List.getElem?_toArray,List.getElem?_cons_zero,List.getElem?_cons_succ]
 iterate 10
  refine lex_cons ?_ rfl (fun X hX=>?_) (fun _ _ _ h=>h) ?_
  rotate_left
  ·have s0:=hX
   go_simp <;> with_reducible rfl
  simp only [Act.put,List.setIfInBounds_toArray,List.set_cons_zero,List.set_cons_succ]
 refine lex_nil (tailK_cons fun K hK=>?_)
 go_simp
 refine hK.out _ _ (fun _=>k0) (tailK_cons fun K hK=>?_)
 simp only [Act.put,List.setIfInBounds_toArray,List.set_cons_zero,List.set_cons_succ]
 go_simp
 refine hK.out _ _ (fun _=>k0) (tailK_cons fun K hK=>?_)
 simp only [Act.put,List.setIfInBounds_toArray,List.set_cons_zero,List.set_cons_succ]
 go_simp
 refine hK.out _ _ (fun h=>absurd rfl h) (tailK_nil ?_)
 try simp only [Act.put,List.setIfInBounds_toArray,List.set_cons_zero,List.set_cons_succ]
 rw [← HW2.out]
 clear k0 hv2 f2
 obtain ⟨hQ2,_,hbW2,hFw2⟩:=HQ.out W2 HQF.out
 obtain ⟨c0,c1,c2,c3,c4,c5,c6,c7,c8⟩:=nine' hQ2
 clear hQ2
 cases a6 with
 | false =>
  have HFW:=hid hFw2
  clear hFw2
  go_wp2
  all_goals first | go_end0 | (refine bodyPost_ret (results_none rfl _ _ _) rfl ?_)
  all_goals refine ⟨rfl,⟨_,⟨_,_,_,HQX.out⟩,?_⟩,HFW.out⟩
  all_goals have e:=HFIN.out
  all_goals rw [HNN.out]
  all_goals exact e
 | true =>
  have hx:=HQX.out
  have hl1:(L.modify ia (In.setY (nn:Int))).length=nn:=by rw [List.length_modify];exact HNN.out.symm
  have k0:=hx.cell
  rw [hl1] at k0
  obtain ⟨k1,k2⟩:=hx.read ia (by rw [hl1];exact hian)
  have hil:ia < (L.modify ia (In.setY (nn:Int))).length:=by rw [hl1];exact hian
  obtain ⟨x0,hx0⟩:∃ x0,x0=((L.modify ia (In.setY (nn:Int)))[ia]'hil).x:=⟨_,rfl⟩
  rw [← hx0] at k1
  have ey:((L.modify ia (In.setY (nn:Int)))[ia]'hil).y=(nn:Int):=by rw [List.getElem_modify];simp [In.setY]
  rw [ey] at k2
  have ht:=hx.there ia (by rw [hl1];exact hian)
  have f1:=(ht 1 (by omega)).2
  obtain ⟨rx0,rf0⟩:=hx.setX hm ia (by rw [hl1];exact hian) (nn:Int)
  have rx:=rx0.below (drew_below _)
  have rf:=rf0.trans (FrD.drew base _)
  obtain ⟨W3,hW3⟩:∃ W3,W3=(W2.setCell ⟨g,ia * 5 + 1,none⟩ (.int .i64 (nn:Int))).drew:=⟨_,rfl⟩
  rw [← hW3] at rx rf
  clear rx0 rf0
  have hl2:((L.modify ia (In.setY (nn:Int))).modify ia (In.setX (nn:Int))).length=nn:=by rw [List.length_modify];exact hl1
  have j0:=rx.cell
  rw [hl2] at j0
  have ht3:=rx.there ia (by rw [hl2];exact hian)
  obtain ⟨v3,hv3⟩:=Option.isSome_iff_exists.1 (ht3 2 (by omega)).1
  have g2:=(ht3 2 (by omega)).2
  obtain ⟨sx,sf⟩:=rx.setY hm ia (by rw [hl2];exact hian) x0
  have HSX:=hid sx
  have HFW:Hid (FrD base w (W3.setCell ⟨g,ia * 5 + 2,none⟩ (.int .i64 x0))):=hFw2.trans (rf.trans sf)
  have HX0:=hid hx0
  have HW3:=hid hW3
  clear hx ht ht3 rx rf sx sf hx0 ey hl1 hl2 hW3 hFw2
  go_upto_region 15 with fail
  refine wp_region_lexK [0,1,2,3,4,5,6,7,8,9,10,11,12] [13,14,15] 15 (fun X=>X.cell? ⟨m,0,none⟩=some (.slice (some ⟨g,0,none⟩) nn c)∧X.cell? ⟨g,ia * 5 + 2,none⟩=some (.int .i64 (nn:Int))) (by kernel_rfl) (by kernel_rfl) rfl (by kernel_rfl) (by kernel_rfl) ⟨k0,k2⟩ ?_
  simp only [opsAt,opsNo,List.getElem?_toArray,List.getElem?_cons_zero,List.getElem?_cons_succ]
  iterate 13
   refine lex_cons ?_ rfl (fun X hX=>?_) (fun _ _ _ h=>h) ?_
   rotate_left
   ·obtain ⟨s0,s2⟩:=hX
    go_simp <;> with_reducible rfl
   simp only [Act.put,List.setIfInBounds_toArray,List.set_cons_zero,List.set_cons_succ]
  refine lex_nil (tailK_cons fun K hK=>?_)
  go_simp
  refine hK.out _ _ (fun _=>⟨k0,k2⟩) (tailK_cons fun K hK=>?_)
  simp only [Act.put,List.setIfInBounds_toArray,List.set_cons_zero,List.set_cons_succ]
  go_simp
  refine hK.out _ _ (fun _=>⟨k0,k2⟩) (tailK_cons fun K hK=>?_)
  simp only [Act.put,List.setIfInBounds_toArray,List.set_cons_zero,List.set_cons_succ]
  go_simp
  refine hK.out _ _ (fun h=>absurd rfl h) (tailK_nil ?_)
  try simp only [Act.put,List.setIfInBounds_toArray,List.set_cons_zero,List.set_cons_succ]
  rw [← HW3.out]
  clear k0 k1 k2 f1 c0 c1 c2 c3 c4 c5 c6 c7 c8
  go_wp2
  all_goals first | go_end0 | (refine bodyPost_ret (results_none rfl _ _ _) rfl ?_)
  all_goals refine ⟨rfl,⟨_,⟨_,_,_,HSX.out⟩,?_⟩,HFW.out⟩
  all_goals have e:=HFIN.out
  all_goals rw [HX0.out,swap_frk L ia nn (by rw [← HNN.out];exact hian),HNN.out]
  all_goals exact e
end Go.Proofs.YtacaanhnlfpbhaaGreat
