/- HELPERS: texts of ours put together. -/
import Derived.Test.YtacaanhnlfpbhaaGreatK45
namespace Go.Proofs.YtacaanhnlfpbhaaGreat
open Go.RowKit Go.Lk
set_option linter.unusedVariables false
set_option linter.unusedSimpArgs false
theorem set_back (arr:Array Value) (a:Nat) (v o:Value) (h:arr[a]?=some o):(arr.setIfInBounds a v).setIfInBounds a o=arr:=by
 obtain ⟨hlt,e⟩:=Array.getElem?_eq_some_iff.1 h
 apply Array.ext_getElem?
 intro i
 rw [Array.getElem?_setIfInBounds,Array.getElem?_setIfInBounds]
 split
 ·rename_i e'
  subst e'
  simp [hlt,e]
 ·rfl
theorem note_back {w w1 w2:World} {cb a:Nat} {arr:Array Value} {v o:Value} (h:w.heap[cb]?=some (.cells arr 3 (0,0))) (ho:arr[a]?=some o) (h1:w1.heap[cb]?=(w.setCell ⟨cb,a,none⟩ v).heap[cb]?) (h2:w2.heap[cb]?=w1.heap[cb]?):(w2.setCell ⟨cb,a,none⟩ o).heap[cb]?=w.heap[cb]?:=by
 have e1:=Joins.block_setCell (i:=a) h v
 have e2:=Joins.block_setCell (i:=a) (h2.trans (h1.trans e1)) o
 rw [e2,set_back arr a v o ho,h]
set_option maxRecDepth 100000 in
set_option maxHeartbeats 4000000 in
theorem note46 {K N b:Nat} {l:List In} {tx:List Int} {w:World} {M:Mv} {s:Vst} {E:List En} {sF fb:List Nat} {x a:Nat} {c:List Int} {cb cp pb po:Nat} (f:Nat) (ih:Hid (VIH K N b l tx f)) (h:VC K N b l tx w M s E sF fb x c cb cp) (hf:l.length < f + s.met.length) (ha:a < K) (hK:K≤10000) (hcs:Hid (∀ W,Below N w W→W.cell? ⟨pb,po + 1,none⟩=some (.int .i64 (x:Int))∧W.cell? ⟨pb,po + 3,none⟩=some (.int .i64 (a:Int)))) :
  Calls Tryz.prog 151 #[.pointer (some ⟨b,0,none⟩),.pointer (some ⟨pb,po,none⟩),.slice (some ⟨cb,0,none⟩) K cp] w (VP N b l tx w M E sF fb (vis (act l tx M.j) M.j f x (c.set a (M.j:Int)) s)):=by
 have hcl:c.length=K:=by have:=h.cap.1;simpa using this
 obtain ⟨o,hoc⟩:∃ o,c[a]?=some o:=⟨c[a],List.getElem?_eq_getElem (by omega)⟩
 have hcell:w.cell? ⟨cb,a,none⟩=some (.int .i64 o):=by rw [h.cap.cellAt a (by omega)];simp [hoc]
 have hfz:=h.cap.frozenAt a
 obtain ⟨arr,harr⟩:=row_block h.cap
 have hao:arr[a]?=some (.int .i64 o):=by rw [← hcell,Joins.cell_of_block harr]
 have hcb:=h.cap.lt cb rfl
 obtain ⟨m1,m3⟩:=hcs.out w (Below.refl _ _)
 have c4:=h.vi.mb.c 4
 simp at c4
 have hjj:M.j≤35184372088832:=by have:=h.vi.hj;have:=h.vi.tt.2.1;omega
 have HB:Hid (∀ V,Eqw (w.setCell ⟨cb,a,none⟩ (.int .i64 (M.j:Int))) V→Below N w V∧VC K N b l tx V M s E sF fb x (c.set a (M.j:Int)) cb cp):=by
  intro V e
  have hb:Below N w V:=((Below.refl N w).setCell (p:=⟨cb,a,none⟩) hcb.1 _).trans (e.below N)
  refine ⟨hb,h.vi.kept hb (fun k hk=>(e.blk k).trans (Below.heap_setCell _ _ _ _ (fun e'=>h.cn (show cb ∈ _ from by rw [← show k=cb from e'];exact hk)))),h.hK,h.ov,h.inv,h.lt,?_,h.cn⟩
  have:=row_setC h.cap a (.int .i64 (M.j:Int))
  rw [← List.map_set] at this
  exact e.row this
 have HE:Hid (∀ V W2:World,Eqw (w.setCell ⟨cb,a,none⟩ (.int .i64 (M.j:Int))) V→W2.heap[cb]?=V.heap[cb]?→(W2.setCell ⟨cb,a,none⟩ (.int .i64 o)).heap[cb]?=w.heap[cb]?):=fun V W2 e h2=>note_back (w1:=V) harr hao (e.blk cb) h2
 have HQ:Hid (∀ V,Eqw (w.setCell ⟨cb,a,none⟩ (.int .i64 (M.j:Int))) V→V.cell? ⟨cb,a,none⟩=some (.int .i64 (M.j:Int))∧V.frozen? ⟨cb,a,none⟩=false):=fun V e=>by
  have h1:=row_setC h.cap a (.int .i64 (M.j:Int))
  have h2:=e.row h1
  refine ⟨?_,h2.frozenAt a⟩
  rw [h2.cellAt a (by omega)]
  simp [hcl,ha]
 have HH:=hid h
 have HF:=hid hf
 have i1:(a:Int) < (K:Int):=by omega
 clear h hf hcl hoc hao harr
 generalize hs2:vis (act l tx M.j) M.j f x (c.set a (M.j:Int)) s=s2
 have HS2:=hid hs2
 clear hs2
 go_enter Tryz.func151,Tryz.ntmps151
 go_upto_region 2 with fail
 go_region
 obtain ⟨V,hV⟩:∃ V,V=(w.setCell ⟨cb,a,none⟩ (.int .i64 (M.j:Int))).drew:=⟨_,rfl⟩
 rw [← hV]
 have e0:Hid (Eqw (w.setCell ⟨cb,a,none⟩ (.int .i64 (M.j:Int))) V):=by rw [hV];exact Eqw.drew _
 clear hV
 obtain ⟨hb,hvc⟩:=HB.out V e0.out
 have hb0:=hid hb
 have hvc0:=hid hvc
 obtain ⟨n1,n3⟩:=hcs.out V hb
 have HI:=ih.out x (c.set a (M.j:Int)) s V M E sF fb cb cp hvc HF.out
 rw [HS2.out] at HI
 clear hb hvc m1 m3 hcell hfz c4
 go_upto_region 4 with (go_at_call 104;(with_reducible refine HI.mono ?_);rintro e w3 hvp;have HP:=hid hvp;obtain ⟨rfl,M',E',sF',fb',hv',hM',hc'⟩:=hvp;have hbl:=(hc'.below hvc0.out.vi.nw (fun k hk=>(hvc0.out.vi.low k hk).1));have hb3:Below N w w3:=hb0.out.trans hbl;obtain ⟨p1,p3⟩:=hcs.out w3 hb3;have hcv:=hvc0.out.cap.lt cb rfl;have hblk:=hc'.block cb hcv.2 HH.out.cn;obtain ⟨q0,q1⟩:=HQ.out V e0.out;have q0:=(cell_eq hblk a).trans q0;have q1:=(frz_eq hblk a).trans q1;have HC:=hid hc';have HVI:=hid hv';have HM':=hid hM';have HBK:=hid hblk;have HB3:=hid hb3;clear hv' hM' hc' hbl hb3 hblk n1 n3 HI)
 go_wp2
 go_ret
 have hcn':cb ∉ VF b M' E' sF' fb':=fun hm=>by
  have hcl2:=(hvc0.out.cap.lt cb rfl).2
  rcases HC.out.new cb hm with h' | h'
  ·exact HH.out.cn h'
  ·omega
 have hb4:Below N w (w3.setCell ⟨cb,a,none⟩ (.int .i64 o)):=HB3.out.setCell (p:=⟨cb,a,none⟩) hcb.1 _
 have hsz:V.heap.size=w.heap.size:=by rw [e0.out.heap];simp [World.setCell]
 refine ⟨rfl,M',E',sF',fb',?_,HM'.out,?_⟩
 ·exact HVI.out.kept ((Below.refl N w3).setCell (p:=⟨cb,a,none⟩) hcb.1 _) (fun k hk=>Below.heap_setCell _ _ _ _ (fun e=>hcn' (by rw [← show k=cb from e];exact hk)))
 ·refine ⟨hb4.os,hb4.tape,hb4.output,hb4.size,fun k hk hn=>?_,fun k hk=>by have:=HC.out.new k hk;rw [hsz] at this;exact this⟩
  by_cases e:k=cb
  ·subst e;exact HE.out V w3 e0.out HBK.out
  ·exact (Below.heap_setCell _ _ _ _ e).trans ((HC.out.block k (by rw [hsz];exact hk) hn).trans ((e0.out.blk k).trans (Below.heap_setCell _ _ _ _ e)))
set_option maxRecDepth 100000 in
set_option maxHeartbeats 4000000 in
theorem visit_fail {K N b:Nat} {l:List In} {tx:List Int} {w:World} {M:Mv} {s:Vst} {E:List En} {sF fb:List Nat} {i:Nat} {c:List Int} {cb cp:Nat} {S:Int} (hmay:mayB l S (K:Int)=true) (f:Nat) (ih:Hid (VIH K N b l tx f)) (h:VC K N b l tx w M s E sF fb i c cb cp) (hf:l.length < f + 1 + s.met.length) (hm:i ∉ s.met) (hlt:i < l.length) (hop:l[i].op=6) :
  Calls Tryz.prog 104 #[.pointer (some ⟨b,0,none⟩),.int .i64 (i:Int),.slice (some ⟨cb,0,none⟩) K cp] w (VP N b l tx w M E sF fb (vis (act l tx M.j) M.j (f + 1) i c s)):=by
 have hmo:=may_ok hmay
 have hm20:=hmo.1
 have hok:=hmo.2.2.2.2.2 _ (List.getElem_mem hlt)
 have hKs:2≤K∧K≤1002:=by omega
 clear hmo
 have e1:vis (act l tx M.j) M.j (f + 1) i c s=s.mark i:=by
  rw [vis_step h.ov hm]
  have:act l tx M.j i=.stop:=by unfold act actI;rw [getD_in' hlt,hop];simp
  rw [this]
 rw [e1]
 have HA:=add10_yes N M.sb sF l.length (ints s.met) i w h.vi.set hlt (fun hn=>hm (mem_ints.1 hn)) (by rw [ints_len];have:=h.inv.small;omega) h.vi.nw
 obtain ⟨pb,po,r1,r2,r3,hpa,hpn,hpr,hcs⟩:=inst_at h.vi hlt
 have c5:=h.vi.mb.c 5
 simp at c5
 have HH:=hid h
 have HCS:=hid hcs
 have HPA:=hid hpa
 have HPN:=hid hpn
 have HPR:=hid hpr
 have HOP:=hid hop
 have hiv:=h.inv.mark hlt hm
 have HIV:=hid hiv
 have hlen:((s.mark i).met).length=s.met.length + 1:=by simp [Vst.mark]
 have HLEN:=hid hlen
 have b2:(i:Int) < (l.length:Int):=by omega
 clear h e1 hcs hpa hpn hop hiv hlen hpr
 generalize hsb:M.sb=sb at c5 HA
 have HSB:=hid hsb
 clear hsb
 go_enter Tryz.func104,Tryz.ntmps104
 go_wp2_with (go_at_call 150;(with_reducible refine HA.mono ?_);rintro e w2 ⟨rfl,sF2,hs2,hc2⟩;rw [← HSB.out] at hs2;obtain ⟨h1,h2⟩:=HH.out.vi.add hs2 hc2;have hbel:=hc2.below HH.out.vi.nw (fun k hk=>(HH.out.vi.set.low k hk).1);obtain ⟨⟨m0,m1,m2,m3,m4⟩,hrow⟩:=HCS.out w2 hbel;have d0:=h1.mb.c 0;simp at d0;rw [HPA.out,HPN.out] at d0;rw [HOP.out] at m0;have HC:=hid h2;have HB:=hid hbel;have HROW:=hid hrow;have HV:=hid h1;clear hs2 hc2 HA h1 h2 hbel hrow c5)
 go_ret
 exact ⟨ret_bool (by show _=!(s.over);rw [HH.out.ov];rfl),M,E,sF2,fb,HV.out,rfl,HC.out⟩
set_option maxRecDepth 100000 in
set_option maxHeartbeats 4000000 in
theorem visit_alt {K N b:Nat} {l:List In} {tx:List Int} {w:World} {M:Mv} {s:Vst} {E:List En} {sF fb:List Nat} {i:Nat} {c:List Int} {cb cp:Nat} {S:Int} (hmay:mayB l S (K:Int)=true) (f:Nat) (ih:Hid (VIH K N b l tx f)) (h:VC K N b l tx w M s E sF fb i c cb cp) (hf:l.length < f + 1 + s.met.length) (hm:i ∉ s.met) (hlt:i < l.length) (hop:l[i].op=2) :
  Calls Tryz.prog 104 #[.pointer (some ⟨b,0,none⟩),.int .i64 (i:Int),.slice (some ⟨cb,0,none⟩) K cp] w (VP N b l tx w M E sF fb (vis (act l tx M.j) M.j (f + 1) i c s)):=by
 have hmo:=may_ok hmay
 have hm20:=hmo.1
 have hok:=hmo.2.2.2.2.2 _ (List.getElem_mem hlt)
 have hKs:2≤K∧K≤1002:=by omega
 clear hmo
 have hx:=ok_x hok (by rw [hop];rfl)
 obtain ⟨x,hxe⟩:=Int.eq_ofNat_of_zero_le hx.1
 have hxl:x < l.length:=by omega
 have HXE:=hid hxe
 have hy:=ok_y hok (by rw [hop];rfl)
 obtain ⟨y,hye⟩:=Int.eq_ofNat_of_zero_le hy.1
 have hyl:y < l.length:=by omega
 have HYE:=hid hye
 have e1:vis (act l tx M.j) M.j (f + 1) i c s=vis (act l tx M.j) M.j f y c (vis (act l tx M.j) M.j f x c (s.mark i)):=by
  rw [vis_step h.ov hm]
  have:act l tx M.j i=.alt x y:=by unfold act actI;rw [getD_in' hlt,hop,hxe,hye];simp
  rw [this]
 rw [e1]
 have HA:=add10_yes N M.sb sF l.length (ints s.met) i w h.vi.set hlt (fun hn=>hm (mem_ints.1 hn)) (by rw [ints_len];have:=h.inv.small;omega) h.vi.nw
 obtain ⟨pb,po,r1,r2,r3,hpa,hpn,hpr,hcs⟩:=inst_at h.vi hlt
 have c5:=h.vi.mb.c 5
 simp at c5
 have HH:=hid h
 have HCS:=hid hcs
 have HPA:=hid hpa
 have HPN:=hid hpn
 have HPR:=hid hpr
 have HOP:=hid hop
 have hiv:=h.inv.mark hlt hm
 have HIV:=hid hiv
 have hlen:((s.mark i).met).length=s.met.length + 1:=by simp [Vst.mark]
 have HLEN:=hid hlen
 have b2:(i:Int) < (l.length:Int):=by omega
 clear h e1 hcs hpa hpn hop hiv hlen hpr
 generalize hsb:M.sb=sb at c5 HA
 have HSB:=hid hsb
 clear hsb
 have HAI:Hid (∀ k,k < l.length→(act l tx M.j k).ok l.length):=fun k hk=>act_ok hmay M.j k hk
 generalize hs1:vis (act l tx M.j) M.j f x c (s.mark i)=s1
 have HS1:=hid hs1
 have hiv1:Inv l.length K s1:=by rw [← hs1];exact vis_inv HAI.out f x c _ hxl (by have:=HH.out.cap.1;simpa using this) HIV.out
 have hgr:Grow (s.mark i) s1:=by rw [← hs1];exact vis_grow _ _ _ _
 have HIV1:=hid hiv1
 have HGR:=hid hgr
 clear hs1 hiv1 hgr hxe hye
 cases ho1:s1.over
 ·generalize hs2:vis (act l tx M.j) M.j f y c s1=s2
  have HS2:=hid hs2
  have HO1:=hid ho1
  clear hs2 ho1
  go_enter Tryz.func104,Tryz.ntmps104
  go_wp2_with (first | (go_at_call 150;(with_reducible refine HA.mono ?_);rintro e w2 ⟨rfl,sF2,hs2,hc2⟩;rw [← HSB.out] at hs2;obtain ⟨h1,h2⟩:=HH.out.vi.add hs2 hc2;have hbel:=hc2.below HH.out.vi.nw (fun k hk=>(HH.out.vi.set.low k hk).1);obtain ⟨⟨m0,m1,m2,m3,m4⟩,hrow⟩:=HCS.out w2 hbel;have d0:=h1.mb.c 0;simp at d0;rw [HPA.out,HPN.out] at d0;rw [HOP.out] at m0;have HC:=hid h2;have HB:=hid hbel;have HROW:=hid hrow;rw [HXE.out] at m1;have HV:=hid (HH.out.kept h1 rfl h2 HH.out.ov HIV.out hxl);have HI:=ih.out x c (s.mark i) w2 M E sF2 fb cb cp HV.out (by have:=HLEN.out;omega);rw [HS1.out] at HI;have HJ:Hid True:=trivial;clear hs2 hc2 HA h1 h2 hbel hrow c5) | (go_at_call 104;(with_reducible refine HI.mono ?_);rintro e w3 ⟨he,M',E',sF',fb',hv',hM',hc'⟩;rw [HO1.out] at he;subst he;have hb3:Below N w w3:=HB.out.trans (hc'.below HV.out.vi.nw (fun k hk=>(HV.out.vi.low k hk).1));obtain ⟨⟨_,_,p2,_,_⟩,_⟩:=HCS.out w3 hb3;rw [HYE.out] at p2;have HC2:=hid hc';have HM2:=hid hM';have HV2:=hid (HV.out.kept hv' hM' hc' HO1.out HIV1.out hyl);have HI2:=ih.out y c s1 w3 M' E' sF' fb' cb cp HV2.out (by have:=HLEN.out;obtain ⟨mm,hmm⟩:=HGR.out.met;rw [hmm,List.length_append];omega);rw [core_j hM',HS2.out] at HI2;clear hv' hM' hc' hb3 HI) | (go_at_call 104;(with_reducible refine HI2.mono ?_);rintro e w4 hvp;have HP:=hid hvp;obtain ⟨rfl,_⟩:=hvp;clear HI2))
  go_ret
  exact (HP.out.after HC2.out HM2.out).after HC.out rfl
 ·have HO1:=hid ho1
  rw [vis_over ho1]
  clear ho1
  go_enter Tryz.func104,Tryz.ntmps104
  go_wp2_with (first | (go_at_call 150;(with_reducible refine HA.mono ?_);rintro e w2 ⟨rfl,sF2,hs2,hc2⟩;rw [← HSB.out] at hs2;obtain ⟨h1,h2⟩:=HH.out.vi.add hs2 hc2;have hbel:=hc2.below HH.out.vi.nw (fun k hk=>(HH.out.vi.set.low k hk).1);obtain ⟨⟨m0,m1,m2,m3,m4⟩,hrow⟩:=HCS.out w2 hbel;have d0:=h1.mb.c 0;simp at d0;rw [HPA.out,HPN.out] at d0;rw [HOP.out] at m0;have HC:=hid h2;have HB:=hid hbel;have HROW:=hid hrow;rw [HXE.out] at m1;have HV:=hid (HH.out.kept h1 rfl h2 HH.out.ov HIV.out hxl);have HI:=ih.out x c (s.mark i) w2 M E sF2 fb cb cp HV.out (by have:=HLEN.out;omega);rw [HS1.out] at HI;clear hs2 hc2 HA h1 h2 hbel hrow c5) | (go_at_call 104;(with_reducible refine HI.mono ?_);rintro e w3 hvp;have HP:=hid hvp;obtain ⟨he,_⟩:=hvp;rw [HO1.out] at he;subst he;clear HI))
  go_ret
  exact VP.after HC.out rfl ⟨ret_bool (by rw [HO1.out];rfl),HP.out.2⟩
set_option maxRecDepth 100000 in
set_option maxHeartbeats 4000000 in
theorem visit_cap {K N b:Nat} {l:List In} {tx:List Int} {w:World} {M:Mv} {s:Vst} {E:List En} {sF fb:List Nat} {i:Nat} {c:List Int} {cb cp:Nat} {S:Int} (hmay:mayB l S (K:Int)=true) (f:Nat) (ih:Hid (VIH K N b l tx f)) (h:VC K N b l tx w M s E sF fb i c cb cp) (hf:l.length < f + 1 + s.met.length) (hm:i ∉ s.met) (hlt:i < l.length) (hop:l[i].op=3) :
  Calls Tryz.prog 104 #[.pointer (some ⟨b,0,none⟩),.int .i64 (i:Int),.slice (some ⟨cb,0,none⟩) K cp] w (VP N b l tx w M E sF fb (vis (act l tx M.j) M.j (f + 1) i c s)):=by
 have hmo:=may_ok hmay
 have hm20:=hmo.1
 have hok:=hmo.2.2.2.2.2 _ (List.getElem_mem hlt)
 have hKs:2≤K∧K≤1002:=by omega
 clear hmo
 have hx:=ok_x hok (by rw [hop];rfl)
 obtain ⟨x,hxe⟩:=Int.eq_ofNat_of_zero_le hx.1
 have hxl:x < l.length:=by omega
 have HXE:=hid hxe
 have ha:=ok_a hok hop
 obtain ⟨a,hae⟩:=Int.eq_ofNat_of_zero_le ha.1
 have hal:a < K:=by omega
 have HAE:=hid hae
 have e1:vis (act l tx M.j) M.j (f + 1) i c s=vis (act l tx M.j) M.j f x (c.set a (M.j:Int)) (s.mark i):=by
  rw [vis_step h.ov hm]
  have:act l tx M.j i=.cap x a:=by unfold act actI;rw [getD_in' hlt,hop,hxe,hae];simp
  rw [this]
 rw [e1]
 have HA:=add10_yes N M.sb sF l.length (ints s.met) i w h.vi.set hlt (fun hn=>hm (mem_ints.1 hn)) (by rw [ints_len];have:=h.inv.small;omega) h.vi.nw
 obtain ⟨pb,po,r1,r2,r3,hpa,hpn,hpr,hcs⟩:=inst_at h.vi hlt
 have c5:=h.vi.mb.c 5
 simp at c5
 have HH:=hid h
 have HCS:=hid hcs
 have HPA:=hid hpa
 have HPN:=hid hpn
 have HPR:=hid hpr
 have HOP:=hid hop
 have hiv:=h.inv.mark hlt hm
 have HIV:=hid hiv
 have hlen:((s.mark i).met).length=s.met.length + 1:=by simp [Vst.mark]
 have HLEN:=hid hlen
 have b2:(i:Int) < (l.length:Int):=by omega
 clear h e1 hcs hpa hpn hop hiv hlen hpr
 generalize hsb:M.sb=sb at c5 HA
 have HSB:=hid hsb
 clear hsb
 generalize hs2:vis (act l tx M.j) M.j f x (c.set a (M.j:Int)) (s.mark i)=s2
 have HS2:=hid hs2
 clear hs2 hxe hae
 go_enter Tryz.func104,Tryz.ntmps104
 go_wp2_with (first | (go_at_call 150;(with_reducible refine HA.mono ?_);rintro e w2 ⟨rfl,sF2,hs2,hc2⟩;rw [← HSB.out] at hs2;obtain ⟨h1,h2⟩:=HH.out.vi.add hs2 hc2;have hbel:=hc2.below HH.out.vi.nw (fun k hk=>(HH.out.vi.set.low k hk).1);obtain ⟨⟨m0,m1,m2,m3,m4⟩,hrow⟩:=HCS.out w2 hbel;have d0:=h1.mb.c 0;simp at d0;rw [HPA.out,HPN.out] at d0;rw [HOP.out] at m0;have HC:=hid h2;have HB:=hid hbel;have HROW:=hid hrow;have HV:=hid (HH.out.kept h1 rfl h2 HH.out.ov HIV.out hxl);have HI:=note46 (pb:=pb) (po:=po + i * 5) (a:=a) f ih HV.out (by have:=HLEN.out;omega) hal (by omega) (fun W hW=>by obtain ⟨⟨_,q1,_,q3,_⟩,_⟩:=HCS.out W (HB.out.trans hW);rw [HXE.out] at q1;rw [HAE.out] at q3;exact ⟨q1,q3⟩);rw [HS2.out] at HI;clear hs2 hc2 HA h1 h2 hbel hrow c5) | (go_at_call 151;(with_reducible refine HI.mono ?_);rintro e w3 hvp;have HP:=hid hvp;obtain ⟨rfl,_⟩:=hvp;clear HI))
 go_ret
 exact HP.out.after HC.out rfl
set_option maxRecDepth 100000 in
set_option maxHeartbeats 4000000 in
theorem visit_assert_t {K N b:Nat} {l:List In} {tx:List Int} {w:World} {M:Mv} {s:Vst} {E:List En} {sF fb:List Nat} {i:Nat} {c:List Int} {cb cp:Nat} {S:Int} (hmay:mayB l S (K:Int)=true) (f:Nat) (ih:Hid (VIH K N b l tx f)) (h:VC K N b l tx w M s E sF fb i c cb cp) (hf:l.length < f + 1 + s.met.length) (hm:i ∉ s.met) (hlt:i < l.length) (hop:l[i].op=4) (hh:holdsB l[i].a (atP tx M.j)=true) :
  Calls Tryz.prog 104 #[.pointer (some ⟨b,0,none⟩),.int .i64 (i:Int),.slice (some ⟨cb,0,none⟩) K cp] w (VP N b l tx w M E sF fb (vis (act l tx M.j) M.j (f + 1) i c s)):=by
 have hmo:=may_ok hmay
 have hm20:=hmo.1
 have hok:=hmo.2.2.2.2.2 _ (List.getElem_mem hlt)
 have hKs:2≤K∧K≤1002:=by omega
 clear hmo
 have hx:=ok_x hok (by rw [hop];rfl)
 obtain ⟨x,hxe⟩:=Int.eq_ofNat_of_zero_le hx.1
 have hxl:x < l.length:=by omega
 have HXE:=hid hxe
 have e1:vis (act l tx M.j) M.j (f + 1) i c s=vis (act l tx M.j) M.j f x c (s.mark i):=by
  rw [vis_step h.ov hm]
  have:act l tx M.j i=.go x:=by unfold act actI;rw [getD_in' hlt,hop,hh];simp [hxe]
  rw [this]
 rw [e1]
 have HA:=add10_yes N M.sb sF l.length (ints s.met) i w h.vi.set hlt (fun hn=>hm (mem_ints.1 hn)) (by rw [ints_len];have:=h.inv.small;omega) h.vi.nw
 obtain ⟨pb,po,r1,r2,r3,hpa,hpn,hpr,hcs⟩:=inst_at h.vi hlt
 have c5:=h.vi.mb.c 5
 simp at c5
 have HH:=hid h
 have HCS:=hid hcs
 have HPA:=hid hpa
 have HPN:=hid hpn
 have HPR:=hid hpr
 have HOP:=hid hop
 have hiv:=h.inv.mark hlt hm
 have HIV:=hid hiv
 have hlen:((s.mark i).met).length=s.met.length + 1:=by simp [Vst.mark]
 have HLEN:=hid hlen
 have b2:(i:Int) < (l.length:Int):=by omega
 clear h e1 hcs hpa hpn hop hiv hlen hpr
 generalize hsb:M.sb=sb at c5 HA
 have HSB:=hid hsb
 clear hsb
 have HHB:=hid hh
 generalize hs2:vis (act l tx M.j) M.j f x c (s.mark i)=s2
 have HS2:=hid hs2
 clear hs2 hxe hh
 go_enter Tryz.func104,Tryz.ntmps104
 go_wp2_with (first | (go_at_call 150;(with_reducible refine HA.mono ?_);rintro e w2 ⟨rfl,sF2,hs2,hc2⟩;rw [← HSB.out] at hs2;obtain ⟨h1,h2⟩:=HH.out.vi.add hs2 hc2;have hbel:=hc2.below HH.out.vi.nw (fun k hk=>(HH.out.vi.set.low k hk).1);obtain ⟨⟨m0,m1,m2,m3,m4⟩,hrow⟩:=HCS.out w2 hbel;have d0:=h1.mb.c 0;simp at d0;rw [HPA.out,HPN.out] at d0;rw [HOP.out] at m0;have HC:=hid h2;have HB:=hid hbel;have HROW:=hid hrow;rw [HXE.out] at m1;have HHO:=holds47 (w:=w2) (a:=l[i].a) h1.mb (h1.tt.mono h1.nw) h1.hj h1.bt;rw [HHB.out] at HHO;have HV0:=hid h1;clear hs2 hc2 HA h1 h2 hbel hrow c5) | (go_at_call 152;(with_reducible refine HHO.mono ?_);rintro e w3 ⟨rfl,hmb,hc'⟩;obtain ⟨hv',hc2⟩:=HV0.out.bits hmb hc';have hcc:=HC.out.trans hc2;have hb3:Below N w w3:=hcc.below HH.out.vi.nw (fun k hk=>(HH.out.vi.low k hk).1);obtain ⟨⟨_,p1,_,_,_⟩,_⟩:=HCS.out w3 hb3;rw [HXE.out] at p1;have HCC:=hid hcc;have HV:=hid (HH.out.kept hv' rfl hcc HH.out.ov HIV.out hxl);have HI:=ih.out x c (s.mark i) w3 _ E sF2 fb cb cp HV.out (by have:=HLEN.out;omega);rw [show (({ M with bits:=atP tx M.j }:Mv)).j=M.j from rfl,HS2.out] at HI;clear hv' hc2 hcc hb3 hc' hmb HHO) | (go_at_call 104;(with_reducible refine HI.mono ?_);rintro e w4 hvp;have HP:=hid hvp;obtain ⟨rfl,_⟩:=hvp;clear HI))
 go_ret
 exact HP.out.after HCC.out rfl
set_option maxRecDepth 100000 in
set_option maxHeartbeats 4000000 in
theorem visit_assert_f {K N b:Nat} {l:List In} {tx:List Int} {w:World} {M:Mv} {s:Vst} {E:List En} {sF fb:List Nat} {i:Nat} {c:List Int} {cb cp:Nat} {S:Int} (hmay:mayB l S (K:Int)=true) (f:Nat) (ih:Hid (VIH K N b l tx f)) (h:VC K N b l tx w M s E sF fb i c cb cp) (hf:l.length < f + 1 + s.met.length) (hm:i ∉ s.met) (hlt:i < l.length) (hop:l[i].op=4) (hh:holdsB l[i].a (atP tx M.j)=false) :
  Calls Tryz.prog 104 #[.pointer (some ⟨b,0,none⟩),.int .i64 (i:Int),.slice (some ⟨cb,0,none⟩) K cp] w (VP N b l tx w M E sF fb (vis (act l tx M.j) M.j (f + 1) i c s)):=by
 have hmo:=may_ok hmay
 have hm20:=hmo.1
 have hok:=hmo.2.2.2.2.2 _ (List.getElem_mem hlt)
 have hKs:2≤K∧K≤1002:=by omega
 clear hmo
 have hx:=ok_x hok (by rw [hop];rfl)
 obtain ⟨x,hxe⟩:=Int.eq_ofNat_of_zero_le hx.1
 have hxl:x < l.length:=by omega
 have HXE:=hid hxe
 have e1:vis (act l tx M.j) M.j (f + 1) i c s=s.mark i:=by
  rw [vis_step h.ov hm]
  have:act l tx M.j i=.stop:=by unfold act actI;rw [getD_in' hlt,hop,hh];simp
  rw [this]
 rw [e1]
 have HA:=add10_yes N M.sb sF l.length (ints s.met) i w h.vi.set hlt (fun hn=>hm (mem_ints.1 hn)) (by rw [ints_len];have:=h.inv.small;omega) h.vi.nw
 obtain ⟨pb,po,r1,r2,r3,hpa,hpn,hpr,hcs⟩:=inst_at h.vi hlt
 have c5:=h.vi.mb.c 5
 simp at c5
 have HH:=hid h
 have HCS:=hid hcs
 have HPA:=hid hpa
 have HPN:=hid hpn
 have HPR:=hid hpr
 have HOP:=hid hop
 have hiv:=h.inv.mark hlt hm
 have HIV:=hid hiv
 have hlen:((s.mark i).met).length=s.met.length + 1:=by simp [Vst.mark]
 have HLEN:=hid hlen
 have b2:(i:Int) < (l.length:Int):=by omega
 clear h e1 hcs hpa hpn hop hiv hlen hpr
 generalize hsb:M.sb=sb at c5 HA
 have HSB:=hid hsb
 clear hsb
 have HHB:=hid hh
 clear hxe hh
 go_enter Tryz.func104,Tryz.ntmps104
 go_wp2_with (first | (go_at_call 150;(with_reducible refine HA.mono ?_);rintro e w2 ⟨rfl,sF2,hs2,hc2⟩;rw [← HSB.out] at hs2;obtain ⟨h1,h2⟩:=HH.out.vi.add hs2 hc2;have hbel:=hc2.below HH.out.vi.nw (fun k hk=>(HH.out.vi.set.low k hk).1);obtain ⟨⟨m0,m1,m2,m3,m4⟩,hrow⟩:=HCS.out w2 hbel;have d0:=h1.mb.c 0;simp at d0;rw [HPA.out,HPN.out] at d0;rw [HOP.out] at m0;have HC:=hid h2;have HB:=hid hbel;have HROW:=hid hrow;rw [HXE.out] at m1;have HHO:=holds47 (w:=w2) (a:=l[i].a) h1.mb (h1.tt.mono h1.nw) h1.hj h1.bt;rw [HHB.out] at HHO;have HV0:=hid h1;clear hs2 hc2 HA h1 h2 hbel hrow c5) | (go_at_call 152;(with_reducible refine HHO.mono ?_);rintro e w3 ⟨rfl,hmb,hc'⟩;obtain ⟨hv',hc2⟩:=HV0.out.bits hmb hc';have hcc:=HC.out.trans hc2;have HCC:=hid hcc;have HV:=hid hv';clear hv' hc2 hcc hc' hmb HHO))
 go_ret
 exact ⟨ret_bool (by show _=!(s.over);rw [HH.out.ov];rfl),_,E,sF2,fb,HV.out,rfl,HCC.out⟩
set_option maxRecDepth 100000 in
set_option maxHeartbeats 4000000 in
theorem visit_rune_t {K N b:Nat} {l:List In} {tx:List Int} {w:World} {M:Mv} {s:Vst} {E:List En} {sF fb:List Nat} {i:Nat} {c:List Int} {cb cp:Nat} {S:Int} (hmay:mayB l S (K:Int)=true) (f:Nat) (ih:Hid (VIH K N b l tx f)) (h:VC K N b l tx w M s E sF fb i c cb cp) (hf:l.length < f + 1 + s.met.length) (hm:i ∉ s.met) (hlt:i < l.length) (hop:l[i].op=1) (hh:(decide (M.j < tx.length) && hsB l[i].R (tx.getD M.j 0))=true) :
  Calls Tryz.prog 104 #[.pointer (some ⟨b,0,none⟩),.int .i64 (i:Int),.slice (some ⟨cb,0,none⟩) K cp] w (VP N b l tx w M E sF fb (vis (act l tx M.j) M.j (f + 1) i c s)):=by
 have hmo:=may_ok hmay
 have hm20:=hmo.1
 have hok:=hmo.2.2.2.2.2 _ (List.getElem_mem hlt)
 have hKs:2≤K∧K≤1002:=by omega
 clear hmo
 have hx:=ok_x hok (by rw [hop];rfl)
 obtain ⟨x,hxe⟩:=Int.eq_ofNat_of_zero_le hx.1
 have hxl:x < l.length:=by omega
 have HXE:=hid hxe
 have e1:vis (act l tx M.j) M.j (f + 1) i c s={ s.mark i with next:=s.next ++ [(x,c)] }:=by
  rw [vis_step h.ov hm]
  have:act l tx M.j i=.rune x:=by unfold act actI;rw [getD_in' hlt,hop,hh];simp [hxe]
  rw [this]
 rw [e1]
 have HA:=add10_yes N M.sb sF l.length (ints s.met) i w h.vi.set hlt (fun hn=>hm (mem_ints.1 hn)) (by rw [ints_len];have:=h.inv.small;omega) h.vi.nw
 obtain ⟨pb,po,r1,r2,r3,hpa,hpn,hpr,hcs⟩:=inst_at h.vi hlt
 have c5:=h.vi.mb.c 5
 simp at c5
 have HH:=hid h
 have HCS:=hid hcs
 have HPA:=hid hpa
 have HPN:=hid hpn
 have HPR:=hid hpr
 have HOP:=hid hop
 have hiv:=h.inv.mark hlt hm
 have HIV:=hid hiv
 have hlen:((s.mark i).met).length=s.met.length + 1:=by simp [Vst.mark]
 have HLEN:=hid hlen
 have b2:(i:Int) < (l.length:Int):=by omega
 clear h e1 hcs hpa hpn hop hiv hlen hpr
 generalize hsb:M.sb=sb at c5 HA
 have HSB:=hid hsb
 clear hsb
 have HHB:=hid hh
 have HRR:Hid (rightB l[i].R=true):=ok_R hok HOP.out
 have hnl:s.next.length < 20000:=by have:=HIV.out.small;have:=HIV.out.le;have:=HLEN.out;have:((s.mark i).next).length=s.next.length:=rfl;have:=HH.out.inv.le;omega
 clear hxe hh
 go_enter Tryz.func104,Tryz.ntmps104
 go_upto_region 15 with (first | (go_at_call 150;(with_reducible refine HA.mono ?_);rintro e w2 ⟨rfl,sF2,hs2,hc2⟩;rw [← HSB.out] at hs2;obtain ⟨h1,h2⟩:=HH.out.vi.add hs2 hc2;have hbel:=hc2.below HH.out.vi.nw (fun k hk=>(HH.out.vi.set.low k hk).1);obtain ⟨⟨m0,m1,m2,m3,m4⟩,hrow⟩:=HCS.out w2 hbel;have d0:=h1.mb.c 0;simp at d0;rw [HPA.out,HPN.out] at d0;rw [HOP.out] at m0;have HC:=hid h2;have HB:=hid hbel;have HROW:=hid hrow;have HHO:=fits48 (w:=w2) (R:=l[i].R) (r1:=r1) (r2:=r2) (r3:=r3) h1.mb (h1.tt.mono h1.nw) h1.hj HPR.out (hrow.below (Below.refl _ _) (Nat.le_refl _) h1.nw) HRR.out;rw [HHB.out] at HHO;have HV0:=hid h1;clear hs2 hc2 HA h1 h2 hbel hrow c5) | (go_at_call 153;(with_reducible refine HHO.mono ?_);rintro e w3 ⟨rfl,hb3⟩;have hv3:=HV0.out.kept (hb3.mono HV0.out.nw) (fun k hk=>hb3.block k (HV0.out.low k hk).2);have hcc:Chg w w3 (VF b M E sF fb) (VF b M E sF2 fb):=HC.out.trans (Chg.of_below hb3);have hbw:Below N w w3:=HB.out.trans (hb3.mono HV0.out.nw);obtain ⟨⟨_,p1,_,_,_⟩,_⟩:=HCS.out w3 hbw;rw [HXE.out] at p1;have d11:=hv3.mb.c 11;simp at d11;have HCC:=hid hcc;have HV:=hid (HH.out.kept hv3 rfl hcc HH.out.ov HIV.out hxl);clear hv3 hcc hbw hb3 HHO))
 have HPT:Hid (∀ W,Eqw w3 W→Calls Tryz.prog 103 #[.pointer (some ⟨b,9,none⟩),.int .i64 (x:Int),.slice (some ⟨cb,0,none⟩) K cp] W fun e w'=>e=.returned (.tuple #[])∧∃ M' E',VI w' N b l tx M' { s.mark i with next:=s.next ++ [(x,c)] } E' sF2 fb∧M'.core=M.core∧Chg w w' (VF b M E sF fb) (VF b M' E' sF2 fb)):=by
  intro W e
  have hvW:VI W N b l tx M (s.mark i) E sF2 fb:=HV.out.vi.kept (e.below N) (fun k _=>e.blk k)
  have hK:=HV.out.hK
  have hrow:=hvW.row
  rw [hK] at hrow
  refine (put30 (K:=K) (N:=N) (cp:=cp) (c:=c) x hvW.mb hrow (by rw [hvW.k2];exact hvW.kl) (by rw [hvW.k2];exact hnl) hvW.el (by omega) (e.row HV.out.cap) (fun hm'=>HV.out.cn (by simp only [VF,RWF,List.mem_cons,List.mem_append];exact .inr (.inr (.inl (.inr hm'))))) hvW.nb hvW.nw).mono ?_
  rintro e2 w' ⟨he,y1,y2,y3,E',g1,g2,g3,g4,g5,g6⟩
  obtain ⟨q1,q2⟩:=hvW.put g1 g2 g3 g4 (by rw [hK];exact g5) g6
  exact ⟨he,_,E',q1,rfl,HCC.out.trans (e.chg q2)⟩
 go_region_with (go_at_call 103;(with_reducible refine (HPT.out _ (by exact ⟨rfl,rfl,rfl,rfl⟩)).mono ?_);rintro e w4 ⟨rfl,M',E',hv4,hM4,hc4⟩;have HV4:=hid hv4;have HM4:=hid hM4;have HC4:=hid hc4;clear hv4 hM4 hc4)
 all_goals go_wp2
 all_goals go_ret
 all_goals exact ⟨ret_bool (by show _=!(s.over);rw [HH.out.ov];rfl),M',E',sF2,fb,HV4.out,HM4.out,HC4.out⟩
set_option maxRecDepth 100000 in
set_option maxHeartbeats 4000000 in
theorem visit_rune_f {K N b:Nat} {l:List In} {tx:List Int} {w:World} {M:Mv} {s:Vst} {E:List En} {sF fb:List Nat} {i:Nat} {c:List Int} {cb cp:Nat} {S:Int} (hmay:mayB l S (K:Int)=true) (f:Nat) (ih:Hid (VIH K N b l tx f)) (h:VC K N b l tx w M s E sF fb i c cb cp) (hf:l.length < f + 1 + s.met.length) (hm:i ∉ s.met) (hlt:i < l.length) (hop:l[i].op=1) (hh:(decide (M.j < tx.length) && hsB l[i].R (tx.getD M.j 0))=false) :
  Calls Tryz.prog 104 #[.pointer (some ⟨b,0,none⟩),.int .i64 (i:Int),.slice (some ⟨cb,0,none⟩) K cp] w (VP N b l tx w M E sF fb (vis (act l tx M.j) M.j (f + 1) i c s)):=by
 have hmo:=may_ok hmay
 have hm20:=hmo.1
 have hok:=hmo.2.2.2.2.2 _ (List.getElem_mem hlt)
 have hKs:2≤K∧K≤1002:=by omega
 clear hmo
 have hx:=ok_x hok (by rw [hop];rfl)
 obtain ⟨x,hxe⟩:=Int.eq_ofNat_of_zero_le hx.1
 have hxl:x < l.length:=by omega
 have HXE:=hid hxe
 have e1:vis (act l tx M.j) M.j (f + 1) i c s=s.mark i:=by
  rw [vis_step h.ov hm]
  have:act l tx M.j i=.stop:=by unfold act actI;rw [getD_in' hlt,hop,hh];simp
  rw [this]
 rw [e1]
 have HA:=add10_yes N M.sb sF l.length (ints s.met) i w h.vi.set hlt (fun hn=>hm (mem_ints.1 hn)) (by rw [ints_len];have:=h.inv.small;omega) h.vi.nw
 obtain ⟨pb,po,r1,r2,r3,hpa,hpn,hpr,hcs⟩:=inst_at h.vi hlt
 have c5:=h.vi.mb.c 5
 simp at c5
 have HH:=hid h
 have HCS:=hid hcs
 have HPA:=hid hpa
 have HPN:=hid hpn
 have HPR:=hid hpr
 have HOP:=hid hop
 have hiv:=h.inv.mark hlt hm
 have HIV:=hid hiv
 have hlen:((s.mark i).met).length=s.met.length + 1:=by simp [Vst.mark]
 have HLEN:=hid hlen
 have b2:(i:Int) < (l.length:Int):=by omega
 clear h e1 hcs hpa hpn hop hiv hlen hpr
 generalize hsb:M.sb=sb at c5 HA
 have HSB:=hid hsb
 clear hsb
 have HHB:=hid hh
 have HRR:Hid (rightB l[i].R=true):=ok_R hok HOP.out
 clear hxe hh
 go_enter Tryz.func104,Tryz.ntmps104
 go_wp2_with (first | (go_at_call 150;(with_reducible refine HA.mono ?_);rintro e w2 ⟨rfl,sF2,hs2,hc2⟩;rw [← HSB.out] at hs2;obtain ⟨h1,h2⟩:=HH.out.vi.add hs2 hc2;have hbel:=hc2.below HH.out.vi.nw (fun k hk=>(HH.out.vi.set.low k hk).1);obtain ⟨⟨m0,m1,m2,m3,m4⟩,hrow⟩:=HCS.out w2 hbel;have d0:=h1.mb.c 0;simp at d0;rw [HPA.out,HPN.out] at d0;rw [HOP.out] at m0;have HC:=hid h2;have HB:=hid hbel;have HROW:=hid hrow;have HHO:=fits48 (w:=w2) (R:=l[i].R) (r1:=r1) (r2:=r2) (r3:=r3) h1.mb (h1.tt.mono h1.nw) h1.hj HPR.out (hrow.below (Below.refl _ _) (Nat.le_refl _) h1.nw) HRR.out;rw [HHB.out] at HHO;have HV0:=hid h1;clear hs2 hc2 HA h1 h2 hbel hrow c5) | (go_at_call 153;(with_reducible refine HHO.mono ?_);rintro e w3 ⟨rfl,hb3⟩;have hv3:=HV0.out.kept (hb3.mono HV0.out.nw) (fun k hk=>hb3.block k (HV0.out.low k hk).2);have hcc:Chg w w3 (VF b M E sF fb) (VF b M E sF2 fb):=HC.out.trans (Chg.of_below hb3);have HCC:=hid hcc;have HV:=hid hv3;clear hv3 hcc hb3 HHO))
 go_ret
 exact ⟨ret_bool (by show _=!(s.over);rw [HH.out.ov];rfl),M,E,sF2,fb,HV.out,rfl,HCC.out⟩
theorem match_vc {K N b:Nat} {l:List In} {tx:List Int} {w:World} {M:Mv} {s:Vst} {E:List En} {sF fb:List Nat} {i:Nat} {c:List Int} {cb cp:Nat} (a:Int) (h:VC K N b l tx w M s E sF fb i c cb cp) (hK:K≤10000) :
  Calls Tryz.prog 154 #[.pointer (some ⟨b,0,none⟩),.int .i64 a,.slice (some ⟨cb,0,none⟩) K cp] w fun e w'=>e=.returned (.tuple #[])∧∃ M' g,VI w' N b l tx M' { s with found:=some (a,c),over:=true } E sF [g]∧M'.core=M.core∧Chg w w' (VF b M E sF fb) (VF b M' E sF [g]):=by
 have hMK:=h.hK
 subst hMK
 have hfd:=h.vi.fd
 cases hs:s.found with
 | none =>
  rw [hs] at hfd
  obtain ⟨g1,g2,g3,g4,g5,g6⟩:=hfd
  refine (match49_first (N:=N) a h.vi.mb hK g1 h.vi.nw h.vi.nb h.cap).mono ?_
  rintro e w' ⟨he,g,hg,h1,h2,h3⟩
  obtain ⟨q1,q2⟩:=h.vi.fit h1 h2 (h3.wide (fun k hk=>by simp at hk;simp [hk]) (fun k hk=>.inl hk))
  exact ⟨he,_,g,q1,rfl,q2⟩
 | some y =>
  rw [hs] at hfd
  obtain ⟨g,g1,g2,g3,g4,g5,g6,g7⟩:=hfd
  refine (match49_next (N:=N) a h.vi.mb hK g1 g2 g3 g4 h.vi.nw h.vi.nb h.cap g7).mono ?_
  rintro e w' ⟨he,h1,h2,h3⟩
  obtain ⟨q1,q2⟩:=h.vi.fit h1 h2 (by rw [g6];exact h3)
  exact ⟨he,_,g,q1,rfl,q2⟩
set_option maxRecDepth 100000 in
set_option maxHeartbeats 4000000 in
theorem visit_match {K N b:Nat} {l:List In} {tx:List Int} {w:World} {M:Mv} {s:Vst} {E:List En} {sF fb:List Nat} {i:Nat} {c:List Int} {cb cp:Nat} {S:Int} (hmay:mayB l S (K:Int)=true) (f:Nat) (ih:Hid (VIH K N b l tx f)) (h:VC K N b l tx w M s E sF fb i c cb cp) (hf:l.length < f + 1 + s.met.length) (hm:i ∉ s.met) (hlt:i < l.length) (hop:l[i].op=5) :
  Calls Tryz.prog 104 #[.pointer (some ⟨b,0,none⟩),.int .i64 (i:Int),.slice (some ⟨cb,0,none⟩) K cp] w (VP N b l tx w M E sF fb (vis (act l tx M.j) M.j (f + 1) i c s)):=by
 have hmo:=may_ok hmay
 have hm20:=hmo.1
 have hok:=hmo.2.2.2.2.2 _ (List.getElem_mem hlt)
 have hKs:2≤K∧K≤1002:=by omega
 clear hmo
 have e1:vis (act l tx M.j) M.j (f + 1) i c s={ s.mark i with found:=some (l[i].a,c),over:=true }:=by
  rw [vis_step h.ov hm]
  have:act l tx M.j i=.fit l[i].a:=by unfold act actI;rw [getD_in' hlt,hop];simp
  rw [this]
 rw [e1]
 have HA:=add10_yes N M.sb sF l.length (ints s.met) i w h.vi.set hlt (fun hn=>hm (mem_ints.1 hn)) (by rw [ints_len];have:=h.inv.small;omega) h.vi.nw
 obtain ⟨pb,po,r1,r2,r3,hpa,hpn,hpr,hcs⟩:=inst_at h.vi hlt
 have c5:=h.vi.mb.c 5
 simp at c5
 have HH:=hid h
 have HCS:=hid hcs
 have HPA:=hid hpa
 have HPN:=hid hpn
 have HPR:=hid hpr
 have HOP:=hid hop
 have hiv:=h.inv.mark hlt hm
 have HIV:=hid hiv
 have hlen:((s.mark i).met).length=s.met.length + 1:=by simp [Vst.mark]
 have HLEN:=hid hlen
 have b2:(i:Int) < (l.length:Int):=by omega
 clear h e1 hcs hpa hpn hop hiv hlen hpr
 generalize hsb:M.sb=sb at c5 HA
 have HSB:=hid hsb
 clear hsb
 go_enter Tryz.func104,Tryz.ntmps104
 go_wp2_with (first | (go_at_call 150;(with_reducible refine HA.mono ?_);rintro e w2 ⟨rfl,sF2,hs2,hc2⟩;rw [← HSB.out] at hs2;obtain ⟨h1,h2⟩:=HH.out.vi.add hs2 hc2;have hbel:=hc2.below HH.out.vi.nw (fun k hk=>(HH.out.vi.set.low k hk).1);obtain ⟨⟨m0,m1,m2,m3,m4⟩,hrow⟩:=HCS.out w2 hbel;have d0:=h1.mb.c 0;simp at d0;rw [HPA.out,HPN.out] at d0;rw [HOP.out] at m0;have HC:=hid h2;have HB:=hid hbel;have HROW:=hid hrow;have HV:=hid (HH.out.kept h1 rfl h2 HH.out.ov HIV.out hlt);have HI:=match_vc l[i].a HV.out (by omega);clear hs2 hc2 HA h1 h2 hbel hrow c5) | (go_at_call 154;(with_reducible refine HI.mono ?_);rintro e w3 ⟨rfl,M',g,hv',hM',hc'⟩;have HV2:=hid hv';have HM2:=hid hM';have HC2:=hid hc';clear hv' hM' hc' HI))
 go_ret
 exact ⟨rfl,M',E,sF2,[g],HV2.out,HM2.out,HC.out.trans HC2.out⟩
theorem visit31 {K N b:Nat} {l:List In} {tx:List Int} {S:Int} (hmay:mayB l S (K:Int)=true):∀ f,VIH K N b l tx f:=by
 intro f
 induction f with
 | zero=>intro i c s w M E sF fb cb cp h hf;have:=h.inv.small;omega
 | succ f ih =>
  intro i c s w M E sF fb cb cp h hf
  by_cases hm:i ∈ s.met
  ·exact visit_old f h hm
  ·have hlt:=h.lt
   have hok:=(may_ok hmay).2.2.2.2.2 _ (List.getElem_mem hlt)
   rcases ok_op hok with ho | ho | ho | ho | ho | ho | ho
   ·cases hh:(decide (M.j < tx.length) && hsB l[i].R (tx.getD M.j 0))
    ·exact visit_rune_f hmay f ih h hf hm hlt ho hh
    ·exact visit_rune_t hmay f ih h hf hm hlt ho hh
   ·exact visit_alt hmay f ih h hf hm hlt ho
   ·exact visit_cap hmay f ih h hf hm hlt ho
   ·cases hh:holdsB l[i].a (atP tx M.j)
    ·exact visit_assert_f hmay f ih h hf hm hlt ho hh
    ·exact visit_assert_t hmay f ih h hf hm hlt ho hh
   ·exact visit_match hmay f ih h hf hm hlt ho
   ·exact visit_fail hmay f ih h hf hm hlt ho
   ·exact visit_nop hmay f ih h hf hm hlt ho
end Go.Proofs.YtacaanhnlfpbhaaGreat
