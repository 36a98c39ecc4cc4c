/- HELPERS: texts of ours put together. -/
import Derived.Test.YtacaanhnlfpbhaaGreatK46
namespace Go.Proofs.YtacaanhnlfpbhaaGreat
open Go.RowKit Go.Lk
set_option linter.unusedVariables false
set_option linter.unusedSimpArgs false
theorem vall_take_succ {A:Nat→Ac} {j f:Nat} {T:List Th} {s:Vst} {x:Nat} (hx:x < T.length):vall A j f (T.take (x + 1)) s=vis A j f T[x].1 T[x].2 (vall A j f (T.take x) s):=by
 rw [List.take_succ_eq_append_getElem hx,vall_append]
 rfl
structure NI (w:World) (N:Nat) (M:Mv) (E1:List En) (T:List Th) (F:List Nat):Prop where
 row:RW w N M.K M.z1 M.n1 M.c1 E1
 k1:M.k1=T.length
 kl:T.length≤E1.length
 el:E1.length≤20000
 th:(E1.take T.length).map En.th=T
 d:∀ k ∈ RWF M.z1 M.n1 M.c1 E1,k ∉ F
theorem NI.next {w w':World} {N:Nat} {M M':Mv} {E1:List En} {T:List Th} {F F':List Nat} (h:NI w N M E1 T F) (hc:Chg w w' F F') (hM:M'.core=M.core):NI w' N M' E1 T F':=by
 have e1:M'.z1=M.z1:=by have:=congrArg Mv.z1 hM;exact this
 have e2:M'.n1=M.n1:=by have:=congrArg Mv.n1 hM;exact this
 have e3:M'.c1=M.c1:=by have:=congrArg Mv.c1 hM;exact this
 have e4:M'.k1=M.k1:=by have:=congrArg Mv.k1 hM;exact this
 have e5:=core_K hM
 refine ⟨?_,by rw [e4];exact h.k1,h.kl,h.el,h.th,?_⟩
 ·rw [e1,e2,e3,e5]
  exact h.row.kept (fun k hk=>hc.block k (h.row.low k hk).2 (h.d k hk))
 ·rw [e1,e2,e3]
  exact hc.away (fun k hk=>(h.row.low k hk).2) h.d
theorem NI.get {w:World} {N:Nat} {M:Mv} {E1:List En} {T:List Th} {F:List Nat} (h:NI w N M E1 T F) {x:Nat} (hx:x < T.length):∃ zb eb,M.z1=some ⟨zb,0,none⟩∧zb < w.heap.size∧w.cell? ⟨zb,x * 2,none⟩=some (.int .i64 (T[x].1:Int))∧w.cell? ⟨zb,x * 2 + 1,none⟩=some (.slice (some ⟨eb,0,none⟩) M.K M.K)∧w.ownsRow N 3 1 (.slice (some ⟨eb,0,none⟩) M.K M.K) M.K (I64 T[x].2)∧eb ∉ F:=by
 have hx1:x < E1.length:=by have:=h.kl;omega
 have hlen:=h.row.len
 obtain ⟨zb,hz⟩:∃ zb,M.z1=some ⟨zb,0,none⟩:=by
  rcases h.row.row.2 with ⟨_,e⟩ | ⟨g,cap,cur,e,_⟩
  ·omega
  ·simp only [Value.slice.injEq] at e;exact ⟨g,e.1⟩
 have hrz:=h.row.row
 rw [hz] at hrz
 have k0:=(hrz.cellAt (x * 2) (by omega)).trans (by simpa using cellsE_get M.K E1 x hx1 0 (by omega))
 have k1:=(hrz.cellAt (x * 2 + 1) (by omega)).trans (cellsE_get M.K E1 x hx1 1 (by omega))
 simp only [En.cs,List.getElem?_cons_zero,List.getElem?_cons_succ] at k0 k1
 have ht:T[x]=E1[x].th:=by
  have h2:=h.th
  have h3:T[x]?=((E1.take T.length).map En.th)[x]?:=by rw [h2]
  rw [List.getElem?_eq_getElem hx] at h3
  simpa [hx,hx1] using h3
 rw [ht]
 have hmem:E1[x] ∈ E1:=List.getElem_mem hx1
 exact ⟨zb,E1[x].b,hz,(hrz.lt zb rfl).2,k0,k1,h.row.caps _ hmem,h.d _ (by simp only [RWF,List.mem_append,List.mem_map];exact .inr ⟨_,hmem,rfl⟩)⟩
set_option maxRecDepth 100000 in
set_option maxHeartbeats 4000000 in
theorem each33 {K N b:Nat} {l:List In} {tx:List Int} {S:Int} {w:World} {M:Mv} {s:Vst} {E E1:List En} {sF fb:List Nat} {T:List Th} (hmay:mayB l S (K:Int)=true) (h:VI w N b l tx M s E sF fb) (hK:M.K=K) (ho:s.over=false) (hi:Inv l.length K s) (hn:NI w N M E1 T (VF b M E sF fb)) (hT:∀ t ∈ T,t.1 < l.length∧t.2.length=K) :
  Calls Tryz.prog 106 #[.pointer (some ⟨b,7,none⟩),.func (.func 104) #[.pointer (some ⟨b,0,none⟩)] #[]] w (VP N b l tx w M E sF fb (vall (act l tx M.j) M.j (l.length + 1) T s)):=by
 have hkT:=hn.k1
 have hkl:=hn.kl
 have hel:=hn.el
 have hlen:=hn.row.len
 have hc1:M.n1≤M.c1:=by
  obtain ⟨_,_,e,h1,_⟩:=row_shape hn.row.row
  simp only [Value.slice.injEq] at e
  obtain ⟨_,_,rfl⟩:=e
  exact h1
 have c7:=h.mb.c 7
 have c8:=h.mb.c 8
 simp at c7 c8
 rw [hkT] at c8
 have HV:=hid h
 have HN:=hid hn
 have HOV:=hid ho
 have HIV:=hid hi
 have HTT:=hid hT
 have HK:=hid hK
 have HAI:Hid (∀ k,k < l.length→(act l tx M.j k).ok l.length):=fun k hk=>act_ok hmay M.j k hk
 have HVIS:=hid (visit31 (N:=N) (b:=b) (tx:=tx) hmay (l.length + 1))
 have i1:(T.length:Int)≤(M.c1:Int):=by omega
 have i0:(0:Int)≤(T.length:Int):=by omega
 generalize hsv:vall (act l tx M.j) M.j (l.length + 1) T s=sv
 have HSV:=hid hsv
 clear h hn ho hi hT hsv hkT hK
 obtain ⟨z1,hz1⟩:∃ z1,z1=M.z1:=⟨_,rfl⟩
 rw [← hz1] at c7
 have HZ1:=hid hz1
 clear hz1
 obtain ⟨nt,hnt⟩:∃ nt,nt=T.length:=⟨_,rfl⟩
 rw [← hnt] at c8 i1 i0 hkl
 have HNT:=hid hnt
 have hnt20:nt≤20000:=by omega
 clear hnt hlen hel
 go_enter Tryz.func106,Tryz.ntmps106
 go_upto_region 1 with fail
 go_quiet (fail)
 obtain ⟨W0,hW0⟩:∃ W0,W0=w.drewN nq:=⟨_,rfl⟩
 rw [← hW0]
 have e0:Hid (Eqw w W0):=by rw [hW0];exact Eqw.drewN w nq
 clear hW0 c7 c8 i1 i0
 go_wp2_with fail
 go_loopw [17] (fun y wq=>∃ x:Nat,y=.int .i64 (x:Int)∧x≤nt∧Hid (∃ Mq Eq sFq fbq,VI wq N b l tx Mq (vall (act l tx M.j) M.j (l.length + 1) (T.take x) s) Eq sFq fbq∧Mq.core=M.core∧Chg w wq (VF b M E sF fb) (VF b Mq Eq sFq fbq))∧Hid ((vall (act l tx M.j) M.j (l.length + 1) (T.take x) s).over=false)) (fun y _=>nt - (intOf y).toNat)
 case atStart=>exact ⟨0,rfl,by omega,by exact ⟨M,E,sF,fb,HV.out.kept (e0.out.below N) (fun k _=>e0.out.blk k),rfl,e0.out.chg (Chg.refl _ _)⟩,HOV.out⟩
 case round =>
  obtain ⟨x,rfl,hx,HQ,HO⟩:=hrel
  obtain ⟨Mq,Eq,sFq,fbq,hvq,hMq,hcq⟩:=HQ.out
  by_cases hxl:x < nt
  ·have b1:decide ((x:Int) < (nt:Int))=true:=by simp;omega
   have b2:(x:Int) < (nt:Int):=by omega
   have a1:IntKind.i64.wrap ((x:Int) + 1)=(x:Int) + 1:=by rw [wrap_ok _ (by omega) (by omega)]
   have hxT:x < T.length:=by have:=HNT.out;omega
   have hnq:=HN.out.next hcq hMq
   obtain ⟨zb,eb,hz,hzl,k0,k1,hcap,hebn⟩:=hnq.get hxT
   have hKq:=(core_K hMq).trans HK.out
   have hjq:=core_j hMq
   rw [hKq] at k1 hcap
   have hzz:z1=some ⟨zb,0,none⟩:=by
    have e1:Mq.z1=M.z1:=by have:=congrArg Mv.z1 hMq;exact this
    rw [HZ1.out,← e1];exact hz
   subst hzz
   have htx:=HTT.out T[x] (List.getElem_mem hxT)
   have hinv:Inv l.length K (vall (act l tx M.j) M.j (l.length + 1) (T.take x) s):=vall_inv HAI.out _ _ (fun t ht=>HTT.out t (List.mem_of_mem_take ht)) HIV.out
   have hsucc:vall (act l tx M.j) M.j (l.length + 1) (T.take (x + 1)) s=vis (act l tx M.j) M.j (l.length + 1) T[x].1 T[x].2 (vall (act l tx M.j) M.j (l.length + 1) (T.take x) s):=vall_take_succ hxT
   have hgrow:vall (act l tx M.j) M.j (l.length + 1) T s=vall (act l tx M.j) M.j (l.length + 1) (T.drop (x + 1)) (vall (act l tx M.j) M.j (l.length + 1) (T.take (x + 1)) s):=by rw [← vall_append,List.take_append_drop]
   rw [HSV.out] at hgrow
   have HGW:=hid hgrow
   generalize hsx:vall (act l tx M.j) M.j (l.length + 1) (T.take x) s=sx at hvq HO hinv hsucc
   generalize hs1:vall (act l tx M.j) M.j (l.length + 1) (T.take (x + 1)) s=s1 at hsucc HGW ⊢
   obtain ⟨V,hV⟩:∃ V,V=wr.alloc (.cells #[.int .i64 (T[x].1:Int),.slice (some ⟨eb,0,none⟩) K K] 216):=⟨_,rfl⟩
   have hbV:Below wr.heap.size wr V:=by rw [hV];exact Joins.below_alloc1 wr _
   have hvV:VI V N b l tx Mq sx Eq sFq fbq:=hvq.kept (hbV.mono hvq.nw) (fun k hk=>hbV.block k (hvq.low k hk).2)
   have hcV:Chg w V (VF b M E sF fb) (VF b Mq Eq sFq fbq):=hcq.trans (Chg.of_below hbV)
   have hVC:VC K N b l tx V Mq sx Eq sFq fbq T[x].1 T[x].2 eb K:=⟨hvV,hKq,HO.out,hinv,htx.1,row_kept hcap (fun k hk=>hbV.block k (hcap.lt k hk).2),hebn⟩
   have HI:=HVIS.out T[x].1 T[x].2 sx V Mq Eq sFq fbq eb K hVC (by omega)
   rw [hjq,← hsucc] at HI
   rw [hV] at HI hcV
   have HCV:=hid hcV
   have HMQ:=hid hMq
   generalize hti:T[x].1=ti at HI k0 HCV
   have HS1:=hid hs1
   clear hsx hs1 hsucc hgrow hvq hcq hnq hcap hebn hvV hcV hVC hinv HQ HO hjq hKq htx hz hMq hV hbV hti
   cases ho1:s1.over
   ·have HO1:=hid ho1
    clear ho1
    go_wp2_with (go_at_call 104;(with_reducible refine HI.mono ?_);rintro e w3 ⟨he,M',E',sF',fb',hv',hM',hc'⟩;rw [HO1.out] at he;subst he;have HV2:=hid hv';have HM2:=hid hM';have HC2:=hid hc';clear hv' hM' hc' HI)
    refine ⟨⟨x + 1,by push_cast;rfl,by omega,?_,?_⟩,by simp [intOf];omega⟩
    ·show ∃ Mq Eq sFq fbq,_
     rw [HS1.out]
     exact ⟨M',E',sF',fb',HV2.out,HM2.out.trans HMQ.out,HCV.out.trans HC2.out⟩
    ·show _=_
     rw [HS1.out]
     exact HO1.out
   ·have HO1:=hid ho1
    have hsv:sv=s1:=by rw [HGW.out,vall_over _ HO1.out]
    subst hsv
    clear ho1
    go_wp2_with (go_at_call 104;(with_reducible refine HI.mono ?_);rintro e w3 ⟨he,M',E',sF',fb',hv',hM',hc'⟩;rw [HO1.out] at he;subst he;have HV2:=hid hv';have HM2:=hid hM';have HC2:=hid hc';clear hv' hM' hc' HI)
    go_ret
    exact ⟨ret_bool (by rw [HO1.out];rfl),M',E',sF',fb',HV2.out,HM2.out.trans HMQ.out,HCV.out.trans HC2.out⟩
  ·have b1:decide ((x:Int) < (nt:Int))=false:=by simp;omega
   have hxe:x=T.length:=by have:=HNT.out;omega
   have htk:T.take x=T:=by rw [hxe];exact List.take_length
   rw [htk,HSV.out] at hvq HO
   have HVQ:=hid hvq
   have HMQ:=hid hMq
   have HCQ:=hid hcq
   clear hvq hMq hcq HQ htk hxe
   go_wp2
   go_ret
   exact ⟨ret_bool (by rw [HO.out];rfl),Mq,Eq,sFq,fbq,HVQ.out,HMQ.out,HCQ.out⟩
structure GI (w:World) (N b K:Nat) (l:List In) (tx:List Int) (M:Mv) (T:List Th) (fd:Fd) (E1 E2:List En) (sF fb:List Nat):Prop where
 mb:MB w b M
 nb:N≤b
 nw:N≤w.heap.size
 pi:PI w N M.ad M.n l
 tt:TextAt N w M.tad M.tn tx
 hj:M.j≤M.tn
 hK:M.K=K
 set:∃ m,SetS N w M.sb sF l.length m
 now:RW w N K M.z1 M.n1 M.c1 E1
 k1:M.k1=T.length
 kl:T.length≤E1.length
 el:E1.length≤20000
 th:(E1.take T.length).map En.th=T
 nxt:RW w N K M.z2 M.n2 M.c2 E2
 e2:E2.length≤20000
 fd:FD w N K M fb fd
 un:w.ownsRow N 3 1 (.slice (some ⟨M.ub,0,none⟩) K M.uc) K (I64 (List.replicate K (-1)))
 x1:∀ k ∈ sF,k≠b∧k ∉ RWF M.z2 M.n2 M.c2 E2∧k ∉ fb∧k ∉ RWF M.z1 M.n1 M.c1 E1∧k≠M.ub
 x2:∀ k ∈ fb,k≠b∧k ∉ RWF M.z2 M.n2 M.c2 E2∧k ∉ RWF M.z1 M.n1 M.c1 E1∧k≠M.ub
 x3:∀ k ∈ RWF M.z1 M.n1 M.c1 E1,k ∉ RWF M.z2 M.n2 M.c2 E2∧k≠M.ub
 x4:M.ub ∉ RWF M.z2 M.n2 M.c2 E2
theorem rw_ne {w:World} {N K n c b:Nat} {z:Option Addr} {E:List En} {M:Mv} (h:RW w N K z n c E) (hm:MB w b M):∀ k ∈ RWF z n c E,k≠b:=by
 intro k hk e
 subst e
 simp only [RWF,zF,List.mem_append,Option.mem_toList,List.mem_map] at hk
 rcases hk with h' | ⟨e,he,h'⟩
 ·exact own_ne h.row hm (by decide) h'
 ·exact own_ne (h.caps e he) hm (by decide) (by rw [← h'];rfl)
structure EI (w:World) (N b K:Nat) (l:List In) (tx:List Int) (M:Mv) (T:List Th) (s:Vst) (E1 E2:List En) (sF fb:List Nat):Prop where
 vi:VI w N b l tx M s E2 sF fb
 hK:M.K=K
 ni:NI w N M E1 T (VF b M E2 sF fb)
 un:w.ownsRow N 3 1 (.slice (some ⟨M.ub,0,none⟩) K M.uc) K (I64 (List.replicate K (-1)))
 ux:M.ub ∉ VF b M E2 sF fb
 u1:M.ub ∉ RWF M.z1 M.n1 M.c1 E1
theorem EI.next {w w':World} {N b K:Nat} {l:List In} {tx:List Int} {M M':Mv} {T:List Th} {s s':Vst} {E1 E2 E2':List En} {sF fb sF' fb':List Nat} (h:EI w N b K l tx M T s E1 E2 sF fb) (hv:VI w' N b l tx M' s' E2' sF' fb') (hM:M'.core=M.core) (hc:Chg w w' (VF b M E2 sF fb) (VF b M' E2' sF' fb')):EI w' N b K l tx M' T s' E1 E2' sF' fb':=by
 have e1:M'.ub=M.ub:=by have:=congrArg Mv.ub hM;exact this
 have e2:M'.uc=M.uc:=by have:=congrArg Mv.uc hM;exact this
 have e3:M'.z1=M.z1:=by have:=congrArg Mv.z1 hM;exact this
 have e4:M'.n1=M.n1:=by have:=congrArg Mv.n1 hM;exact this
 have e5:M'.c1=M.c1:=by have:=congrArg Mv.c1 hM;exact this
 have hul:=(h.un.lt M.ub rfl).2
 refine ⟨hv,(core_K hM).trans h.hK,h.ni.next hc hM,?_,?_,?_⟩
 ·rw [e1,e2]
  exact row_kept h.un (fun k hk=>by simp [Value.ownBlock] at hk;subst hk;exact hc.block _ hul h.ux)
 ·rw [e1]
  intro hm
  rcases hc.new _ hm with h' | h'
  ·exact h.ux h'
  ·omega
 ·rw [e1,e3,e4,e5];exact h.u1
set_option maxRecDepth 100000 in
set_option maxHeartbeats 4000000 in
theorem enter32 {w:World} {N b K:Nat} {l:List In} {tx:List Int} {M:Mv} {T:List Th} {fd:Fd} {E1 E2:List En} {sF fb:List Nat} (h:GI w N b K l tx M T fd E1 E2 sF fb) :
  Calls Tryz.prog 105 #[.pointer (some ⟨b,0,none⟩)] w fun e w'=>e=.returned (.tuple #[])∧EI w' N b K l tx { M with bits:=0,k2:=0 } T (newV fd) E1 E2 sF fb∧Below N w w':=by
 obtain ⟨m,hset⟩:=h.set
 have HC:=clear16 N M.sb sF l.length m w hset
 have c5:=h.mb.c 5
 simp at c5
 have HH:=hid h
 have HS:=hid hset
 clear h hset
 generalize hMN:({ M with bits:=0,k2:=0 }:Mv)=MN
 have HMN:=hid hMN
 clear hMN
 generalize hsb:M.sb=sb at c5 HC
 have HSB:=hid hsb
 clear hsb
 go_enter Tryz.func105,Tryz.ntmps105
 go_upto_region 2 with (go_at_call 155;(with_reducible refine HC.mono ?_);rintro e w2 ⟨rfl,hs2,hc2⟩;have hm2:=HH.out.mb.kept (hc2.block b HH.out.mb.lt (fun hm=>(HH.out.x1 b hm).1 rfl));have d6:=hm2.c 6;have u6:=hm2.u 6;simp at d6;have HM2:=hid hm2;have HS2:=hid hs2;have HC2:=hid hc2;clear hm2 hs2 hc2 HC c5)
 have hm3:=HM2.out.upd 6 (.int .i64 0) { M with bits:=0 } rfl
 have HD:=drop51 b (w2.setCell ⟨b,6,none⟩ (.int .i64 0)) (by rw [hm3.c 10];rfl) (hm3.u 10)
 have hm4:=hm3.upd 10 (.int .i64 0) { M with bits:=0,k2:=0 } rfl
 have HM4:=hid hm4
 clear hm3 hm4
 go_wp2_with (go_at_call 156;(with_reducible refine HD.mono ?_);rintro e w3 ⟨rfl,hw3⟩;have HW3:=hid hw3;clear hw3 HD)
 go_end0
 have h0:=HH.out
 have hw3:=HW3.out
 have hMN:=HMN.out
 subst hMN
 have hne:∀ k,k≠b→w3.heap[k]?=w2.heap[k]?:=fun k hk=>by rw [hw3];exact (Below.heap_setCell _ _ _ _ hk).trans (Below.heap_setCell _ _ _ _ hk)
 have hch:Chg w w3 (b :: sF) (b :: sF):=by
  rw [hw3]
  exact ((HC2.out.wide (fun k hk=>by simp [hk]) (fun k hk=>.inr hk)).set (a:=⟨b,6,none⟩) _ (by simp)).set (a:=⟨b,10,none⟩) _ (by simp)
 obtain ⟨m',hset'⟩:=h0.set
 have hbel:Below N w w3:=hch.below h0.nw (fun k hk=>by
  simp at hk
  rcases hk with rfl | hk
  ·exact h0.nb
  ·exact (hset'.low k hk).1)
 have hold:∀ k,k < w.heap.size→k≠b→k ∉ sF→w3.heap[k]?=w.heap[k]?:=fun k hk h1 h2=>hch.block k hk (by simp [h1,h2])
 have hset3:SetS N w3 M.sb sF l.length []:=by
  rw [HSB.out]
  exact HS2.out.kept (fun k hk=>hne k (h0.x1 k hk).1)
 have hr2:=rw_ne h0.nxt h0.mb
 have hr1:=rw_ne h0.now h0.mb
 have hub:M.ub≠b:=fun e=>own_ne h0.un h0.mb (by decide) (by rw [e];rfl)
 have hubl:=(h0.un.lt M.ub rfl).2
 have hfk:FD w3 N K { M with bits:=0,k2:=0 } fb fd:=by
  have:=h0.fd.kept (w':=w3) (fun k hk=>hold k (h0.fd.low k hk).2 (h0.x2 k hk).1 (fun hm=>(h0.x1 k hm).2.2.1 hk))
  cases fd with
  | none=>exact this
  | some y=>exact this
 have hnx:RW w3 N K M.z2 M.n2 M.c2 E2:=h0.nxt.kept (fun k hk=>hold k (h0.nxt.low k hk).2 (hr2 k hk) (fun hm=>(h0.x1 k hm).2.1 hk))
 have hnw:RW w3 N K M.z1 M.n1 M.c1 E1:=h0.now.kept (fun k hk=>hold k (h0.now.low k hk).2 (hr1 k hk) (fun hm=>(h0.x1 k hm).2.2.2.1 hk))
 refine ⟨rfl,⟨⟨?_,h0.nb,Nat.le_trans h0.nw hbel.size,h0.pi.kept hbel (Nat.le_refl _),h0.tt.below hbel,h0.hj,hset3,?_,rfl,by simp [newV],h0.e2,by simp [newV],?_,.inl rfl,fun k hk=>⟨(h0.x1 k hk).1,(h0.x1 k hk).2.1,(h0.x1 k hk).2.2.1⟩,fun k hk=>⟨(h0.x2 k hk).1,(h0.x2 k hk).2.1⟩⟩,h0.hK,⟨?_,h0.k1,h0.kl,h0.el,h0.th,fun k hk hm=>?_⟩,?_,?_,fun hm=>(h0.x3 _ hm).2 rfl⟩,hbel⟩
 ·rw [hw3];exact HM4.out
 ·show RW w3 N M.K M.z2 M.n2 M.c2 E2
  rw [h0.hK];exact hnx
 ·show FD w3 N M.K _ fb fd
  rw [h0.hK];exact hfk
 ·show RW w3 N M.K M.z1 M.n1 M.c1 E1
  rw [h0.hK];exact hnw
 ·simp only [VF,List.mem_cons,List.mem_append] at hm
  rcases hm with hm | hm | hm | hm
  ·exact hr1 k hk hm
  ·exact (h0.x1 k hm).2.2.2.1 hk
  ·exact (h0.x3 k hk).1 hm
  ·exact (h0.x2 k hm).2.2.1 hk
 ·exact row_kept h0.un (fun k hk=>by simp [Value.ownBlock] at hk;subst hk;exact hold _ hubl hub (fun hm=>(h0.x1 _ hm).2.2.2.2 rfl))
 ·simp only [VF,List.mem_cons,List.mem_append]
  rintro (hm | hm | hm | hm)
  ·exact hub hm
  ·exact (h0.x1 _ hm).2.2.2.2 rfl
  ·exact h0.x4 hm
  ·exact (h0.x2 _ hm).2.2.2 rfl
end Go.Proofs.YtacaanhnlfpbhaaGreat
