/- HELPERS: texts of ours put together. -/
import Derived.Test.YtacaanhnlfpbhaaGreatK41
import Derived.Deep.RegionHeld2
namespace Go.Proofs.YtacaanhnlfpbhaaGreat
open Go.RowKit Go.Lk
set_option linter.unusedVariables false
set_option linter.unusedSimpArgs false
theorem four_cellsM {w:World} {b:Nat} {v0 v1 v2 v3:Value} {t:TypeId} {fr:Nat × Nat} (h:w.heap[b]?=some (.cells #[v0,v1,v2,v3] t fr)):w.cell? ⟨b,0,none⟩=some v0∧w.cell? ⟨b,1,none⟩=some v1∧w.cell? ⟨b,2,none⟩=some v2∧w.cell? ⟨b,3,none⟩=some v3:=by
 refine ⟨?_,?_,?_,?_⟩ <;> simp [World.cell?,h]
theorem drew_belowM (w:World):Below w.heap.size w w.drew:=⟨rfl,rfl,rfl,Nat.le_refl _,fun _ _=>rfl⟩
set_option maxRecDepth 100000 in
set_option maxHeartbeats 64000000 in
theorem mparses3 {w:World} {N N2:Nv} {t u:Tn} {tad:Option Addr} {tn tc:Nat} {a:Int} {tx:List Int} (h:TI w w.heap.size N t) (h2:TI w w.heap.size N2 u) (hsm:t.small=true) (hT:Look.TextAt w.heap.size w tad tn tx) (htc:tn≤tc) (htn:tn≤17592186043904) :
  Calls Tryz.prog 3 #[N.v,N2.v,.agg #[.slice tad tn tc,.int .i64 a]] w fun e w'=>e=.returned (.bool true)∧Below w.heap.size w w':=by
 obtain ⟨U,hU⟩:∃ U,U=((w.alloc (.cells #[.int .i64 N.k,.slice N.r1 N.r2 N.r3,.int .i64 N.a2,.slice N.s1 N.s2 N.s3,.int .i64 N.a4,.int .i64 N.a5,.bool N.a6,.int .i64 N.a7,.string N.a8] 25)).alloc (.cells #[.int .i64 N2.k,.slice N2.r1 N2.r2 N2.r3,.int .i64 N2.a2,.slice N2.s1 N2.s2 N2.s3,.int .i64 N2.a4,.int .i64 N2.a5,.bool N2.a6,.int .i64 N2.a7,.string N2.a8] 25)).alloc (.cells #[.slice tad tn tc,.int .i64 a] 28):=⟨_,rfl⟩
 have hbU:Below w.heap.size w U:=by rw [hU];exact (below_two' w _ _).alloc (by simp;omega) _
 have hX:BNo U w.heap.size N:=by rw [hU];exact (heap_alloc_old _ _ (by simp;omega)).trans ((heap_alloc_old _ _ (by simp)).trans (heap_alloc_new w _))
 have hY:BNo U (w.heap.size + 1) N2:=by rw [hU];exact (heap_alloc_old _ _ (by simp)).trans (two_new w _ _ _)
 have hZ:U.heap[w.heap.size + 1 + 1]?=some (.cells #[.slice tad tn tc,.int .i64 a] 28 (0,0)):=by rw [hU];exact three_newM w _ _ _ _
 have hzU:w.heap.size + 1 + 1 < U.heap.size:=lt_of_block hZ
 have tiw:∀ (W:World),Below w.heap.size w W→TI W W.heap.size N t:=fun W hW=>(h.kept fun b hb=>hW.block b hb).le hW.size
 have tiw2:∀ (W:World),Below w.heap.size w W→TI W W.heap.size N2 u:=fun W hW=>(h2.kept fun b hb=>hW.block b hb).le hW.size
 have HD:=deep10 (tiw _ hbU)
 have TIW:=hid tiw
 have TIW2:=hid tiw2
 have HTW:Hid (∀ W,Below w.heap.size w W→Look.TextAt W.heap.size W tad tn tx):=fun W h=>(hT.below h).mono h.size
 have htm:tn≤35184372088832:=hT.2.1
 have HTL:=hid hT.1
 obtain ⟨x,hx⟩:∃ x,x=w.heap.size:=⟨_,rfl⟩
 obtain ⟨y,hy⟩:∃ y,y=w.heap.size + 1:=⟨_,rfl⟩
 obtain ⟨q,hq⟩:∃ q,q=w.heap.size + 1 + 1:=⟨_,rfl⟩
 have HK0:Hid (∀ W,Below U.heap.size U W→BNo W x N∧BNo W y N2∧(W.cell? ⟨q,0,none⟩=some (.slice tad tn tc)∧W.cell? ⟨q,1,none⟩=some (.int .i64 a))∧Below w.heap.size w W):=fun W h=>by rw [hx,hy,hq];exact ⟨(h.block _ (by omega)).trans hX,(h.block _ (by omega)).trans hY,two_cellsM ((h.block _ hzU).trans hZ),hbU.trans (Joins.below_le h hbU.size)⟩
 have HQU:Hid (q < U.heap.size∧U.heap[q]?=some (.cells #[.slice tad tn tc,.int .i64 a] 28 (0,0))):=by rw [hq];exact ⟨hzU,hZ⟩
 have HWU:Hid (Below w.heap.size w U):=hbU
 clear hbU hX hY hZ tiw tiw2 h h2 hT
 go_enter Tryz.func3,Tryz.ntmps3
 go_upto_region 1 with fail
 rw [← hU,← hq,← hy,← hx]
 clear hU hx hy hq hzU
 obtain ⟨hN0,hN1,⟨e0,e1⟩,hbw⟩:=HK0.out U (Below.refl _ _)
 obtain ⟨c0,c1,c2,c3,c4,c5,c6,c7,c8⟩:=nine' hN0
 clear hN0 hN1
 obtain ⟨dp,hdp⟩:∃ dp,dp=decide (4194304 < t.nodes):=⟨_,rfl⟩
 rw [← hdp] at HD
 have HDP:=hid hdp
 clear hdp
 go_upto_region 2 with (go_at_call 8;(with_reducible refine HD.mono ?_);rintro e U1 ⟨rfl,hb⟩;have HB1:=hid hb;clear hb HD)
 clear hbw e0 e1 c0 c1 c2 c3 c4 c5 c6 c7 c8
 obtain ⟨hN0,hN1,⟨e0,e1⟩,hbw⟩:=HK0.out U1 HB1.out
 obtain ⟨d0,d1,d2,d3,d4,d5,d6,d7,d8⟩:=nine' hN1
 have HD:=deep10 (TIW2.out _ hbw)
 obtain ⟨dq,hdq⟩:∃ dq,dq=decide (4194304 < u.nodes):=⟨_,rfl⟩
 rw [← hdq] at HD
 have HDQ:=hid hdq
 clear hdq
 clear hN0 hN1 hbw
 go_upto_region 3 with (go_at_call 8;(with_reducible refine HD.mono ?_);rintro e U2 ⟨rfl,hb⟩;have HB2:=hid (HB1.out.trans (Joins.below_le hb HB1.out.size));clear hb HD)
 clear e0 e1 d0 d1 d2 d3 d4 d5 d6 d7 d8
 by_cases dpT:dp=true
 ·subst dpT
  go_wp2
  all_goals go_ret
  all_goals exact ⟨rfl,(HK0.out _ HB2.out).2.2.2⟩
 have dpF:dp=false:=by simpa using dpT
 subst dpF
 by_cases dqT:dq=true
 ·subst dqT
  go_wp2
  all_goals go_ret
  all_goals exact ⟨rfl,(HK0.out _ HB2.out).2.2.2⟩
 have dqF:dq=false:=by simpa using dqT
 subst dqF
 go_upto_region 5 with fail
 obtain ⟨hN0,hN1,⟨e0,e1⟩,hbw⟩:=HK0.out U2 HB2.out
 obtain ⟨c0,c1,c2,c3,c4,c5,c6,c7,c8⟩:=nine' hN0
 have HM:=much11 N t tad tn tc U2 (TIW.out _ hbw) htm
 obtain ⟨mu,hmu⟩:∃ mu,mu=muchB t tn:=⟨_,rfl⟩
 rw [← hmu] at HM
 clear hmu hN0 hN1 hbw
 go_upto_region 6 with (go_at_call 9;(with_reducible refine HM.mono ?_);rintro e U3 ⟨rfl,hb⟩;have HB3:=hid (HB2.out.trans (Joins.below_le hb HB2.out.size));clear hb HM)
 clear e0 e1 c0 c1 c2 c3 c4 c5 c6 c7 c8
 obtain ⟨hN0,hN1,⟨e0,e1⟩,hbw⟩:=HK0.out U3 HB3.out
 obtain ⟨d0,d1,d2,d3,d4,d5,d6,d7,d8⟩:=nine' hN1
 have HM:=much11 N2 u tad tn tc U3 (TIW2.out _ hbw) htm
 obtain ⟨mv,hmv⟩:∃ mu,mu=muchB u tn:=⟨_,rfl⟩
 rw [← hmv] at HM
 clear hmv hN0 hN1 hbw
 go_upto_region 7 with (go_at_call 9;(with_reducible refine HM.mono ?_);rintro e U4 ⟨rfl,hb⟩;have HB4:=hid (HB3.out.trans (Joins.below_le hb HB3.out.size));clear hb HM)
 clear e0 e1 d0 d1 d2 d3 d4 d5 d6 d7 d8
 by_cases muT:mu=true
 ·subst muT
  go_wp2
  all_goals go_ret
  all_goals exact ⟨rfl,(HK0.out _ HB4.out).2.2.2⟩
 have muF:mu=false:=by simpa using muT
 subst muF
 by_cases mvT:mv=true
 ·subst mvT
  go_wp2
  all_goals go_ret
  all_goals exact ⟨rfl,(HK0.out _ HB4.out).2.2.2⟩
 have mvF:mv=false:=by simpa using mvT
 subst mvF
 go_upto_region 9 with fail
 have HA:=awake8 U4
 go_upto_region 10 with (go_at_call 10;(with_reducible refine HA.mono ?_);rintro e U5 ⟨rfl,hb⟩;have HB5:=hid (HB4.out.trans (Joins.below_le hb HB4.out.size));clear hb HA)
 obtain ⟨hN0,hN1,⟨e0,e1⟩,hbw⟩:=HK0.out U5 HB5.out
 obtain ⟨c0,c1,c2,c3,c4,c5,c6,c7,c8⟩:=nine' hN0
 have HG:=great14 (TIW.out _ hbw)
 obtain ⟨gr,hgr⟩:∃ gr,gr=decide (200000 < t.nodes):=⟨_,rfl⟩
 rw [← hgr] at HG
 have HGR:=hid hgr
 clear hgr
 clear hN0 hN1 hbw
 go_upto_region 11 with (go_at_call 11;(with_reducible refine HG.mono ?_);rintro e U6 ⟨rfl,hb⟩;have HB6:=hid (HB5.out.trans (Joins.below_le hb HB5.out.size));clear hb HG)
 clear e0 e1 c0 c1 c2 c3 c4 c5 c6 c7 c8
 obtain ⟨hN0,hN1,⟨e0,e1⟩,hbw⟩:=HK0.out U6 HB6.out
 obtain ⟨d0,d1,d2,d3,d4,d5,d6,d7,d8⟩:=nine' hN1
 have HG:=great14 (TIW2.out _ hbw)
 obtain ⟨gq,hgq⟩:∃ gr,gr=decide (200000 < u.nodes):=⟨_,rfl⟩
 rw [← hgq] at HG
 have HGQ:=hid hgq
 clear hgq
 clear hN0 hN1 hbw
 go_upto_region 12 with (go_at_call 11;(with_reducible refine HG.mono ?_);rintro e U7 ⟨rfl,hb⟩;have HB7:=hid (HB6.out.trans (Joins.below_le hb HB6.out.size));clear hb HG)
 clear e0 e1 d0 d1 d2 d3 d4 d5 d6 d7 d8
 by_cases grT:gr=true
 ·subst grT
  go_wp2
  all_goals go_ret
  all_goals exact ⟨rfl,(HK0.out _ HB7.out).2.2.2⟩
 have grF:gr=false:=by simpa using grT
 subst grF
 by_cases gqT:gq=true
 ·subst gqT
  go_wp2
  all_goals go_ret
  all_goals exact ⟨rfl,(HK0.out _ HB7.out).2.2.2⟩
 have gqF:gq=false:=by simpa using gqT
 subst gqF
 have hnt:t.nodes≤200000:=by have:=HGR.out;simp at this;omega
 have hnu:u.nodes≤200000:=by have:=HGQ.out;simp at this;omega
 go_upto_region 14 with fail
 clear HGR HGQ HDP HDQ HB1 HB2 HB3 HB4 HB5 HB6 dpT dqT muT mvT grT gqT
 obtain ⟨M,M2,M3,M4,tb,vv0,vv1,hmk,hbM,hcp,hbM2,hM3,hM4,hv0,f0,hv1,f1,hbM3,hbM4,hLR,htb⟩:=lendM (tc:=tc) (HTW.out _ (HK0.out U7 HB7.out).2.2.2) htn
 have HM3:=hid hM3
 have HM4:=hid hM4
 have HL4:=hid hLR
 have HbM:=hid hbM
 have HbM2:=hid hbM2
 have HbM3:=hid hbM3
 have HbM4:=hid hbM4
 have HTB:=hid htb
 have a2:IntKind.i64.wrap ((tn:Int) + 2)=(tn:Int) + 2:=wrap_ok _ (by omega) (by omega)
 have a1:IntKind.i64.wrap ((tn:Int) + 1)=(tn:Int) + 1:=wrap_ok _ (by omega) (by omega)
 have b1:(tn:Int) < (tn:Int) + 2:=by omega
 have b2:(tn:Int) + 1 < (tn:Int) + 2:=by omega
 have b3:(tn:Int)≤(tn:Int) + 2:=by omega
 clear hM3 hM4 hLR hbM hbM2 hbM3 hbM4 htb
 have HUB:Hid (∀ W,Below U7.heap.size U7 W→Below U.heap.size U W):=fun W h=>HB7.out.trans (Joins.below_le h HB7.out.size)
 obtain ⟨_,_,⟨e0,e1⟩,_⟩:=HK0.out U7 HB7.out
 go_upto_region 15 with fail
 clear hmk e0 e1
 obtain ⟨_,_,⟨e0,e1⟩,_⟩:=HK0.out M (HUB.out _ HbM.out)
 go_upto_region 16 with fail
 clear hcp e0 e1
 obtain ⟨_,_,⟨e0,e1⟩,_⟩:=HK0.out M2 (HUB.out _ HbM2.out)
 go_upto_region 17 with fail
 rw [← HM3.out]
 clear hv0 f0 e0 e1
 obtain ⟨_,_,⟨e0,e1⟩,_⟩:=HK0.out M3 (HUB.out _ HbM3.out)
 go_upto_region 18 with fail
 rw [← HM4.out]
 clear hv1 f1 e0 e1 HM3 HM4 HbM HbM2 HbM3
 obtain ⟨_,_,⟨e0,e1⟩,_⟩:=HK0.out M4 (HUB.out _ HbM4.out)
 go_upto_region 19 with fail
 clear e0 e1
 have HUV:Hid (Below U.heap.size U M4):=HUB.out _ HbM4.out
 have HTBL:Hid (U.heap.size≤tb∧tb < M4.heap.size):=⟨by rw [HTB.out];exact HB7.out.size,HL4.out.blk.2⟩
 have HK1:Hid (∀ W,Below M4.heap.size M4 W→Below U.heap.size U W∧LRM W U7.heap.size tb tn tx):=fun W h=>⟨HUV.out.trans (Joins.below_le h HUV.out.size),HL4.out.kept (h.block tb HTBL.out.2)⟩
 clear HL4 HbM4 HUB HTB HB7
 obtain ⟨hN0,hN1,⟨e0,e1⟩,hbw⟩:=HK0.out M4 HUV.out
 obtain ⟨c0,c1,c2,c3,c4,c5,c6,c7,c8⟩:=nine' hN0
 have HL:=lent12 (TIW.out _ hbw) hnt hsm M4 (Nat.le_refl _) (fun _ _=>rfl)
 clear hN0 hN1 hbw
 go_upto_region 20 with (go_at_call 12;(with_reducible refine HL.mono ?_);rintro e W1 ⟨Mi,Ai,rfl,hM,hA,hb⟩;have HMM:=hid hM;have HAA:=hid hA;have HBW:=hid hb;clear hM hb HL)
 clear hA e0 e1 c0 c1 c2 c3 c4 c5 c6 c7 c8
 obtain ⟨V,hV⟩:∃ V,V=W1.alloc (.cells #[.int .i64 Mi.k,.slice Mi.r1 Mi.r2 Mi.r3,.int .i64 Mi.a2,.slice Mi.s1 Mi.s2 Mi.s3,.int .i64 Mi.a4,.int .i64 Mi.a5,.bool Mi.a6,.int .i64 Mi.a7,.string Mi.a8] 25):=⟨_,rfl⟩
 obtain ⟨z,hz⟩:∃ z,z=W1.heap.size:=⟨_,rfl⟩
 rw [← hV,← hz]
 have HBV:Hid (Below M4.heap.size M4 V):=by rw [hV];exact HBW.out.alloc HBW.out.size _
 have HZV:Hid (BNo V z Mi):=by rw [hV,hz];exact heap_alloc_new W1 _
 have HTV:Hid (TL V Mi t Ai):=by rw [hV];exact HMM.out.kept (fun b hb=>heap_alloc_old _ _ (HMM.out.low b hb))
 have HAI:Hid (∀ b,Ai b→M4.heap.size≤b∧b < z):=fun b hb=>⟨HAA.out b hb,by rw [hz];exact HMM.out.low b hb⟩
 have HZL:Hid (M4.heap.size≤z∧z < V.heap.size):=⟨by rw [hz];exact HBW.out.size,lt_of_block HZV.out⟩
 clear hV hz HMM HAA HBW
 have HK2:Hid (∀ W,Below V.heap.size V W→Below U.heap.size U W∧LRM W U7.heap.size tb tn tx∧BNo W z Mi∧TL W Mi t Ai):=fun W h=>by
  obtain ⟨g1,g2⟩:=HK1.out W (HBV.out.trans (Joins.below_le h HBV.out.size))
  exact ⟨g1,g2,(h.block z HZL.out.2).trans HZV.out,HTV.out.kept (fun b hb=>h.block b (by have:=HAI.out b hb;have:=HZL.out.2;omega))⟩
 clear HZV HTV
 obtain ⟨E,hE⟩:∃ E,E=errP t tn a:=⟨_,rfl⟩
 obtain ⟨E2,hE2⟩:∃ E,E=errP u tn a:=⟨_,rfl⟩
 have HE:=hid hE
 have HE2:=hid hE2
 clear hE hE2
 obtain ⟨hbu,hlr,hzb,htl⟩:=HK2.out V (Below.refl _ _)
 obtain ⟨_,hN1,⟨e0,e1⟩,hbw⟩:=HK0.out V hbu
 obtain ⟨c0,c1,c2,c3,c4,c5,c6,c7,c8⟩:=nine' hzb
 have HC:=parsesM (N:=Mi) (a:=a) htl.ti (hlr.text HTL.out htn) (show tn≤tn + 2 by omega) HE.out
 clear hbu hlr hzb htl hN1 hbw
 go_upto_region 21 with (go_at_call 13;(with_reducible refine HC.mono ?_);rintro e A1 ⟨pa,ca,la,sa,Fa,rfl,hA,ho,hb⟩;have HAa:=hid hA;have HOa:=hid ho;have HSa:=hid hb;clear hA ho hb HC)
 clear e0 e1 c0 c1 c2 c3 c4 c5 c6 c7 c8
 have HBA1:Hid (Below V.heap.size V A1):=HSa.out
 obtain ⟨hbu,hlr,hzb,htl⟩:=HK2.out A1 HBA1.out
 obtain ⟨_,hN1,⟨e0,e1⟩,hbw⟩:=HK0.out A1 hbu
 obtain ⟨c0,c1,c2,c3,c4,c5,c6,c7,c8⟩:=nine' hN1
 have HC:=parsesM (N:=N2) (a:=a) (TIW2.out _ hbw) (hlr.text HTL.out htn) (show tn≤tn + 2 by omega) HE2.out
 clear hbu hlr hzb htl hN1 hbw
 go_upto_region 22 with (go_at_call 13;(with_reducible refine HC.mono ?_);rintro e A2 ⟨pb,cb,lb,sb,Fb,rfl,hA,ho,hb⟩;have HAb:=hid hA;have HOb:=hid ho;have HSb:=hid hb;clear hA ho hb HC)
 clear e0 e1 c0 c1 c2 c3 c4 c5 c6 c7 c8
 have HBA2:Hid (Below V.heap.size V A2):=HBA1.out.trans (Joins.below_le HSb.out HBA1.out.size)
 obtain ⟨hbu,hlr,hzb,htl⟩:=HK2.out A2 HBA2.out
 obtain ⟨_,hN1,⟨e0,e1⟩,hbw⟩:=HK0.out A2 hbu
 obtain ⟨c0,c1,c2,c3,c4,c5,c6,c7,c8⟩:=nine' hzb
 have HC:=parsesM (N:=Mi) (a:=a) htl.ti (hlr.text HTL.out htn) (show tn≤tn + 2 by omega) HE.out
 clear hbu hlr hzb htl hN1 hbw
 go_upto_region 23 with (go_at_call 13;(with_reducible refine HC.mono ?_);rintro e A3 ⟨pc,cc,lc,sc,Fc,rfl,hA,ho,hb⟩;have HAc:=hid hA;have HOc:=hid ho;have HSc:=hid hb;clear hA ho hb HC)
 clear e0 e1 c0 c1 c2 c3 c4 c5 c6 c7 c8
 have HBA3:Hid (Below V.heap.size V A3):=HBA2.out.trans (Joins.below_le HSc.out HBA2.out.size)
 obtain ⟨hbu,_,_,_⟩:=HK2.out A3 HBA3.out
 obtain ⟨hN0,hN1,⟨e0,e1⟩,hbw⟩:=HK0.out A3 hbu
 obtain ⟨c0,c1,c2,c3,c4,c5,c6,c7,c8⟩:=nine' hN0
 have HC:=rparsesM (a:=a) (TIW.out _ hbw) (HTW.out _ hbw) htc HE.out
 clear hbu hN0 hN1 hbw
 go_upto_region 24 with (go_at_call 14;(with_reducible refine HC.mono ?_);rintro e A4 ⟨pw,cw,lw,rfl,hA,ho,hb⟩;have HAw:=hid hA;have HOw:=hid ho;have HSw:=hid hb;clear hA ho hb HC)
 clear e0 e1 c0 c1 c2 c3 c4 c5 c6 c7 c8
 have HBA4:Hid (Below V.heap.size V A4):=HBA3.out.trans (Joins.below_le HSw.out HBA3.out.size)
 obtain ⟨hbu,_,_,_⟩:=HK2.out A4 HBA4.out
 obtain ⟨hN0,hN1,⟨e0,e1⟩,hbw⟩:=HK0.out A4 hbu
 obtain ⟨c0,c1,c2,c3,c4,c5,c6,c7,c8⟩:=nine' hN1
 have HC:=rparsesM (a:=a) (TIW2.out _ hbw) (HTW.out _ hbw) htc HE2.out
 clear hbu hN0 hN1 hbw
 go_upto_region 25 with (go_at_call 14;(with_reducible refine HC.mono ?_);rintro e A5 ⟨pv,cv,lv,rfl,hA,ho,hb⟩;have HAv:=hid hA;have HOv:=hid ho;have HSv:=hid hb;clear hA ho hb HC)
 clear e0 e1 c0 c1 c2 c3 c4 c5 c6 c7 c8
 have HBA5:Hid (Below V.heap.size V A5):=HBA4.out.trans (Joins.below_le HSv.out HBA4.out.size)
 obtain ⟨h1,hf1⟩:=HOa.out.agree HOw.out
 obtain ⟨h2,hf2⟩:=HOb.out.agree HOv.out
 obtain ⟨h3,hf3⟩:=HOc.out.agree HOw.out
 subst h1 h2 h3
 clear HOa HOb HOc HOw HOv
 have HF1:=hid hf1
 have HF2:=hid hf2
 clear hf1 hf2 hf3
 obtain ⟨o1,ho1⟩:∃ o,o=V.heap.size:=⟨_,rfl⟩
 obtain ⟨o2,ho2⟩:∃ o,o=A1.heap.size:=⟨_,rfl⟩
 obtain ⟨o3,ho3⟩:∃ o,o=A2.heap.size:=⟨_,rfl⟩
 obtain ⟨o4,ho4⟩:∃ o,o=A3.heap.size:=⟨_,rfl⟩
 have HOO:Hid (z < o1∧o1≤o2∧o2≤o3∧o3≤o4∧o4≤A5.heap.size):=by
  rw [ho1,ho2,ho3,ho4]
  exact ⟨HZL.out.2,HSa.out.size,HSb.out.size,HSc.out.size,Nat.le_trans HSw.out.size HSv.out.size⟩
 have HANS:Hid (∀ W:World,(∀ b,o1≤b→b < A5.heap.size→W.heap[b]?=A5.heap[b]?)→AnsAt o1 o2 W (.slice pa lw.length ca) lw sa Fa∧AnsAt o2 o3 W (.slice pb lv.length cb) lv sb Fb∧AnsAt o3 o4 W (.slice pc lw.length cc) lw sc Fc):=fun W hW=>by
  have g:=HOO.out
  have k5:∀ b,b < A4.heap.size→A5.heap[b]?=A4.heap[b]?:=fun b hb=>HSv.out.block b hb
  have k4:∀ b,b < A3.heap.size→A4.heap[b]?=A3.heap[b]?:=fun b hb=>HSw.out.block b hb
  have k3:∀ b,b < A2.heap.size→A3.heap[b]?=A2.heap[b]?:=fun b hb=>HSc.out.block b hb
  have k2:∀ b,b < A1.heap.size→A2.heap[b]?=A1.heap[b]?:=fun b hb=>HSb.out.block b hb
  have s4:=HSw.out.size
  have gA:=HAa.out
  have gB:=HAb.out
  have gC:=HAc.out
  rw [← ho1,← ho2] at gA
  rw [← ho2,← ho3] at gB
  rw [← ho3,← ho4] at gC
  refine ⟨gA.kept fun b h1 h2=>?_,gB.kept fun b h1 h2=>?_,gC.kept fun b h1 h2=>?_⟩
  ·rw [hW b h1 (by omega),k5 b (by omega),k4 b (by omega),k3 b (by omega),k2 b (by omega)]
  ·rw [hW b (by omega) (by omega),k5 b (by omega),k4 b (by omega),k3 b (by omega)]
  ·rw [hW b (by omega) (by omega),k5 b (by omega),k4 b (by omega)]
 have HDOC:Hid (∀ W,Below A5.heap.size A5 W→Parsed A3.heap.size W (.slice pw lw.length cw) lw∧Parsed A4.heap.size W (.slice pv lv.length cv) lv):=fun W h=>⟨(HAw.out.kept HSv.out).kept h,HAv.out.kept h⟩
 clear HAa HAb HAc HAw HAv HSa HSb HSc HSw HSv HBA1 HBA2 HBA3 HBA4
 have HOE:=hid ho1
 clear ho1 ho2 ho3 ho4
 obtain ⟨hbu,_,hzb,htl⟩:=HK2.out A5 HBA5.out
 obtain ⟨c0,c1,c2,c3,c4,c5,c6,c7,c8⟩:=nine' hzb
 have HC:=kept14 htl A5 (fun _ _=>rfl)
 clear hbu hzb htl
 go_upto_region 26 with (go_at_call 15;(with_reducible refine HC.mono ?_);rintro e A6 ⟨rfl,hb⟩;have HS:=hid hb;clear hb HC)
 clear c0 c1 c2 c3 c4 c5 c6 c7 c8
 have H5A6:Hid (Below A5.heap.size A5 A6):=HS.out
 have HBA6:Hid (Below V.heap.size V A6):=HBA5.out.trans (Joins.below_le HS.out HBA5.out.size)
 clear HS HBA5
 obtain ⟨hbu,_,hzb,htl⟩:=HK2.out A6 HBA6.out
 obtain ⟨hN0,_,⟨e0,e1⟩,hbw⟩:=HK0.out A6 hbu
 obtain ⟨c0,c1,c2,c3,c4,c5,c6,c7,c8⟩:=nine' hzb
 obtain ⟨d0,d1,d2,d3,d4,d5,d6,d7,d8⟩:=nine' hN0
 have HC:=same13 htl.ti (TIW.out _ hbw)
 clear hbu hzb htl hN0 hbw
 go_upto_region 27 with (go_at_call 16;(with_reducible refine HC.mono ?_);rintro e A7 ⟨rfl,hb⟩;have HS:=hid hb;clear hb HC)
 clear c0 d0 c1 d1 c2 d2 c3 d3 c4 d4 c5 d5 c6 d6 c7 d7 c8 d8 e0 e1
 have H5A7:Hid (Below A5.heap.size A5 A7):=H5A6.out.trans (Joins.below_le HS.out H5A6.out.size)
 have HBA7:Hid (Below V.heap.size V A7):=HBA6.out.trans (Joins.below_le HS.out HBA6.out.size)
 clear HS HBA6 H5A6
 obtain ⟨hbu,hlr,_,_⟩:=HK2.out A7 HBA7.out
 obtain ⟨_,_,⟨e0,e1⟩,hbw⟩:=HK0.out A7 hbu
 have HC:=sameInts41 tx (some ⟨tb,0,none⟩) tad tn (tn + 2) tc A7 (hlr.text HTL.out htn) (HTW.out _ hbw)
 clear hbu hlr hbw
 go_upto_region 28 with (go_at_call 17;(with_reducible refine HC.mono ?_);rintro e A8 ⟨rfl,hb⟩;have HS:=hid hb;clear hb HC)
 clear e0 e1
 have H5A8:Hid (Below A5.heap.size A5 A8):=H5A7.out.trans (Joins.below_le HS.out H5A7.out.size)
 have HBA8:Hid (Below V.heap.size V A8):=HBA7.out.trans (Joins.below_le HS.out HBA7.out.size)
 clear HS HBA7 H5A7
 obtain ⟨hA1,hA2,hA3⟩:=HANS.out A8 (fun b _ hb=>H5A8.out.block b hb)
 obtain ⟨hw1,hw2⟩:=HDOC.out A8 H5A8.out
 have HC:=same19 lw _ _ A8 hA1.parsed hw1 (by have:=HF1.out.few;omega) (fun x hx=>by have:=HF1.out.caps x hx;omega)
 clear hA1 hA2 hA3 hw1 hw2
 go_upto_region 29 with (go_at_call 18;(with_reducible refine HC.mono ?_);rintro e A9 ⟨rfl,hb⟩;have HS:=hid hb;clear hb HC)
 have H5A9:Hid (Below A5.heap.size A5 A9):=H5A8.out.trans (Joins.below_le HS.out H5A8.out.size)
 have HBA9:Hid (Below V.heap.size V A9):=HBA8.out.trans (Joins.below_le HS.out HBA8.out.size)
 clear HS HBA8 H5A8
 obtain ⟨hA1,hA2,hA3⟩:=HANS.out A9 (fun b _ hb=>H5A9.out.block b hb)
 obtain ⟨hw1,hw2⟩:=HDOC.out A9 H5A9.out
 have HC:=same19 lv _ _ A9 hA2.parsed hw2 (by have:=HF2.out.few;omega) (fun x hx=>by have:=HF2.out.caps x hx;omega)
 clear hA1 hA2 hA3 hw1 hw2
 go_upto_region 30 with (go_at_call 18;(with_reducible refine HC.mono ?_);rintro e A10 ⟨rfl,hb⟩;have HS:=hid hb;clear hb HC)
 have H5A10:Hid (Below A5.heap.size A5 A10):=H5A9.out.trans (Joins.below_le HS.out H5A9.out.size)
 have HBA10:Hid (Below V.heap.size V A10):=HBA9.out.trans (Joins.below_le HS.out HBA9.out.size)
 clear HS HBA9 H5A9
 obtain ⟨hA1,hA2,hA3⟩:=HANS.out A10 (fun b _ hb=>H5A10.out.block b hb)
 obtain ⟨hw1,hw2⟩:=HDOC.out A10 H5A10.out
 have HC:=same19 lw _ _ A10 hA3.parsed hw1 (by have:=HF1.out.few;omega) (fun x hx=>by have:=HF1.out.caps x hx;omega)
 clear hA1 hA2 hA3 hw1 hw2
 go_upto_region 31 with (go_at_call 18;(with_reducible refine HC.mono ?_);rintro e A11 ⟨rfl,hb⟩;have HS:=hid hb;clear hb HC)
 have H5A11:Hid (Below A5.heap.size A5 A11):=H5A10.out.trans (Joins.below_le HS.out H5A10.out.size)
 have HBA11:Hid (Below V.heap.size V A11):=HBA10.out.trans (Joins.below_le HS.out HBA10.out.size)
 clear HS HBA10 H5A10
 obtain ⟨hbu,hlr,_,_⟩:=HK2.out A11 HBA11.out
 obtain ⟨_,_,⟨e0,e1⟩,hbw⟩:=HK0.out A11 hbu
 have m1:=hlr.m1 HTL.out
 have m2:=hlr.m2 HTL.out
 have k1:(E != E)=false:=by simp
 have k2:(E2 != E2)=false:=by simp
 clear hbu hlr hbw HDOC
 go_upto_region 33 with fail
 clear e0 e1 m1 m2 k1 k2
 obtain ⟨hbu,hlr,hzb,htl⟩:=HK2.out A11 HBA11.out
 obtain ⟨_,_,_,hbw⟩:=HK0.out A11 hbu
 obtain ⟨c0,c1,c2,c3,c4,c5,c6,c7,c8⟩:=nine' hzb
 have HC:=turned15 htl hnt hsm A11 (fun _ _=>rfl)
 have HQA:Hid (A11.heap[q]?=some (.cells #[.slice tad tn tc,.int .i64 a] 28 (0,0))):=(hbu.block q HQU.out.1).trans HQU.out.2
 have HWA:=hid hbw
 have HLA:=hid hlr
 have HZA:=hid hzb
 have HSZ:Hid (A5.heap.size≤A11.heap.size∧q < U.heap.size∧U.heap.size≤tb∧tb < M4.heap.size∧M4.heap.size≤z∧w.heap.size≤U.heap.size∧z < o1∧o1≤A5.heap.size):=⟨H5A11.out.size,HQU.out.1,HTBL.out.1,HTBL.out.2,HZL.out.1,HWU.out.size,HOO.out.1,by have:=HOO.out;omega⟩
 have HA11:Hid (∀ b,o1≤b→b < A5.heap.size→A11.heap[b]?=A5.heap[b]?):=fun b _ h=>H5A11.out.block b h
 clear hbu hlr hzb htl hbw HK0 HK1 HK2 HQU HTBL HZL HUV HBV HTW TIW2 H5A11 HBA11
 go_upto_region 34 with (go_at_call 19;(with_reducible refine HC.mono ?_);rintro e T1 ⟨rfl,⟨t',hM,hno',hsm'⟩,hb⟩;have HTT:=hid hM;have HCH:=hid hb;clear hM hb HC)
 clear c0 c1 c2 c3 c4 c5 c6 c7 c8
 have HLT:Hid (LRM T1 U7.heap.size tb tn tx):=HLA.out.kept (HCH.out.block tb (by have:=HSZ.out;omega) (fun h=>by have:=HAI.out tb h;have:=HSZ.out;omega))
 have hnt':t'.nodes≤200000:=by omega
 clear HLA
 go_wp2_with fail
 go_loopw [33] (fun v33 wr=>∃ (i:Nat) (xs:List Value),v33=.int .i64 (i:Int)∧i≤tn∧Hid (wr.ownsRow U7.heap.size 3 1 (.slice (some ⟨tb,0,none⟩) (tn + 2) (tn + 2)) (tn + 2) xs∧∀ k,k < i→xs[k]?=some (.int .i64 1000))∧Hid (Chs (fun b=>b=tb) T1 wr)) (fun v33 _=>tn - (intOf v33).toNat)
 case atStart=>exact ⟨0,_,rfl,by omega,⟨HLT.out,fun k hk=>absurd hk (by omega)⟩,Chs.refl _ _⟩
 case round =>
  obtain ⟨i,xs,rfl,hi,HO,HC⟩:=hrel
  by_cases hil:i < tn
  ·have g1:decide ((i:Int) < (tn:Int))=true:=by simp;omega
   have g2:(i:Int) < (tn:Int):=by omega
   have ad1:IntKind.i64.wrap ((i:Int) + 1)=(i:Int) + 1:=wrap_ok _ (by omega) (by omega)
   have d0:=(row_there HO.out.1 (j:=i) (m:=1) (by omega) 0 (by omega))
   rw [Nat.add_zero] at d0
   obtain ⟨v0,hv0⟩:=Option.isSome_iff_exists.1 d0.1
   have f0:=d0.2
   have HN:Hid ((wr.setCell ⟨tb,i,none⟩ (.int .i64 1000)).ownsRow U7.heap.size 3 1 (.slice (some ⟨tb,0,none⟩) (tn + 2) (tn + 2)) (tn + 2) (xs.set i (.int .i64 1000))∧∀ k,k < i + 1→(xs.set i (.int .i64 1000))[k]?=some (.int .i64 1000)):=by
    refine ⟨row_setC HO.out.1 i _,fun k hk=>?_⟩
    by_cases e:k=i
    ·subst e
     have hl:xs.length=(tn + 2) * 1:=HO.out.1.1
     rw [List.getElem?_set_self (by omega)]
    ·rw [List.getElem?_set_ne (by omega)]
     exact HO.out.2 k (by omega)
   have HCN:Hid (Chs (fun b=>b=tb) T1 (wr.setCell ⟨tb,i,none⟩ (.int .i64 1000))):=HC.out.set (a:=⟨tb,i,none⟩) rfl _
   clear d0
   go_wp2
   exact ⟨⟨i + 1,_,by push_cast;rfl,by omega,HN.out,HCN.out⟩,by simp [intOf];omega⟩
  have hin:i=tn:=by omega
  subst hin
  have g1:decide ((i:Int) < (i:Int))=false:=by simp
  have HTX:Hid (Look.TextAt wr.heap.size wr (some ⟨tb,0,none⟩) i (List.replicate i 1000)):=text1000 HO.out.1 HO.out.2 htn
  go_upto_region 38 with fail
  clear g1 hil HO HLT
  have HKB:Hid (∀ b,b < A11.heap.size→¬ Ai b→b≠tb→wr.heap[b]?=A11.heap[b]?):=fun b h1 h2 h3=>(HC.out.block b (by have:=HCH.out.size;omega) h3).trans (HCH.out.block b h1 h2)
  have HSW:Hid (A11.heap.size≤wr.heap.size):=Nat.le_trans HCH.out.size HC.out.size
  have HTL3:Hid (TL wr Mi t' Ai):=HTT.out.kept fun b hb=>HC.out.block b (HTT.out.low b hb) (by have:=HAI.out b hb;have:=HSZ.out;omega)
  have HQ3:Hid (wr.heap[q]?=some (.cells #[.slice tad i tc,.int .i64 a] 28 (0,0))):=(HKB.out q (by have:=HSZ.out;omega) (fun h=>by have:=HAI.out q h;have:=HSZ.out;omega) (by have:=HSZ.out;omega)).trans HQA.out
  have HZ3:Hid (BNo wr z Mi):=(HKB.out z (by have:=HSZ.out;omega) (fun h=>by have:=HAI.out z h;omega) (by have:=HSZ.out;omega)).trans HZA.out
  have HW3:Hid (Below w.heap.size w wr):=⟨HC.out.os.trans (HCH.out.os.trans HWA.out.os),HC.out.tape.trans (HCH.out.tape.trans HWA.out.tape),HC.out.output.trans (HCH.out.output.trans HWA.out.output),Nat.le_trans HWA.out.size HSW.out,fun b hb=>(HKB.out b (by have:=HSZ.out;omega) (fun h=>by have:=HAI.out b h;have:=HSZ.out;omega) (by have:=HSZ.out;omega)).trans (HWA.out.block b hb)⟩
  have HA3:Hid (∀ b,o1≤b→b < A5.heap.size→wr.heap[b]?=A5.heap[b]?):=fun b h1 h2=>(HKB.out b (by have:=HSZ.out;omega) (fun h=>by have:=HAI.out b h;have:=HSZ.out;omega) (by have:=HSZ.out;omega)).trans (HA11.out b h1 h2)
  have HSZ3:Hid (q < wr.heap.size∧z < wr.heap.size∧tb < wr.heap.size∧A5.heap.size≤wr.heap.size):=by have:=HSZ.out;have:=HSW.out;exact ⟨by omega,by omega,by omega,by omega⟩
  have HK3:Hid (∀ W,Below wr.heap.size wr W→W.cell? ⟨q,1,none⟩=some (.int .i64 a)∧BNo W z Mi∧TL W Mi t' Ai∧Look.TextAt W.heap.size W (some ⟨tb,0,none⟩) i (List.replicate i 1000)∧Below w.heap.size w W∧(∀ b,o1≤b→b < A5.heap.size→W.heap[b]?=A5.heap[b]?)):=fun W h=>⟨(two_cellsM ((h.block q HSZ3.out.1).trans HQ3.out)).2,(h.block z HSZ3.out.2.1).trans HZ3.out,HTL3.out.kept (fun b hb=>h.block b (HTL3.out.low b hb)),(HTX.out.below h).mono h.size,HW3.out.trans (Joins.below_le h HW3.out.size),fun b h1 h2=>(h.block b (by have:=HSZ3.out;omega)).trans (HA3.out b h1 h2)⟩
  have HSZ4:Hid (A5.heap.size≤wr.heap.size∧w.heap.size≤o1):=by have:=HSZ.out;exact ⟨HSZ3.out.2.2.2,by omega⟩
  clear HKB HSW HTL3 HQ3 HZ3 HW3 HA3 HSZ3 HTX HC HCH HTT HQA HWA HZA HSZ HA11 HAI
  have HCOPY:Hid (∀ W,Below wr.heap.size wr W→Calls Tryz.prog 20 #[Mi.v] W fun e w'=>∃ M,e=.returned (Nv.v M)∧TP w' (fun b=>W.heap.size≤b∧b < w'.heap.size) M t'∧Below W.heap.size W w'):=fun W h=>copy16 (HK3.out W h).2.2.1.ti hnt' hsm' W (Nat.le_refl _) (fun _ _=>rfl)
  obtain ⟨E3,hE3⟩:∃ E,E=errP t' i a:=⟨_,rfl⟩
  have HE3:=hid hE3
  clear hE3
  obtain ⟨j0,hj0,hy0,hy1,hy2⟩:=info_parts info3H
  go_cut [34,35] from 39 (fun s34 s35 wx=>∃ pn cn ln bs,s34=.slice pn (List.length ln) cn∧s35=.int .i64 E3∧Hid (Parsed bs wx (.slice pn ln.length cn) ln)∧Hid (Ok14 t' (List.replicate i 1000) i a ln)∧Hid (Below wr.heap.size wr wx))
  case first =>
   have HD1:Hid (Below wr.heap.size wr wr.drew):=drew_belowM wr
   have HD2:Hid (Below wr.heap.size wr (wr.drew.alloc (.cells #[] 3))):=(drew_belowM wr).alloc (by exact (drew_belowM wr).size) _
   have HSS:Hid (∀ W,Below wr.heap.size wr W→(W.cell? ⟨q,1,none⟩=some (.int .i64 a)∧W.cell? ⟨z,0,none⟩=some (.int .i64 Mi.k)∧W.cell? ⟨z,1,none⟩=some (.slice Mi.r1 Mi.r2 Mi.r3)∧W.cell? ⟨z,2,none⟩=some (.int .i64 Mi.a2)∧W.cell? ⟨z,3,none⟩=some (.slice Mi.s1 Mi.s2 Mi.s3)∧W.cell? ⟨z,4,none⟩=some (.int .i64 Mi.a4)∧W.cell? ⟨z,5,none⟩=some (.int .i64 Mi.a5)∧W.cell? ⟨z,6,none⟩=some (.bool Mi.a6)∧W.cell? ⟨z,7,none⟩=some (.int .i64 Mi.a7)∧W.cell? ⟨z,8,none⟩=some (.string Mi.a8))):=fun W h=>⟨(HK3.out W h).1,nine' (HK3.out W h).2.1⟩
   have HO2:Hid ((wr.drew.alloc (.cells #[] 3)).ownsRow wr.heap.size 3 1 (.slice (some ⟨wr.heap.size,0,none⟩) 0 0) 0 []):=own_none wr.drew
   have hlr:(I64 (List.replicate i 1000)).length=i * 1:=by simp [I64]
   go_region_held2 (fun W=>W.cell? ⟨q,1,none⟩=some (.int .i64 a)∧W.cell? ⟨z,0,none⟩=some (.int .i64 Mi.k)∧W.cell? ⟨z,1,none⟩=some (.slice Mi.r1 Mi.r2 Mi.r3)∧W.cell? ⟨z,2,none⟩=some (.int .i64 Mi.a2)∧W.cell? ⟨z,3,none⟩=some (.slice Mi.s1 Mi.s2 Mi.s3)∧W.cell? ⟨z,4,none⟩=some (.int .i64 Mi.a4)∧W.cell? ⟨z,5,none⟩=some (.int .i64 Mi.a5)∧W.cell? ⟨z,6,none⟩=some (.bool Mi.a6)∧W.cell? ⟨z,7,none⟩=some (.int .i64 Mi.a7)∧W.cell? ⟨z,8,none⟩=some (.string Mi.a8)) (first | exact HSS.out _ HD1.out | exact HSS.out _ HD2.out | exact HSS.out _ HW2.out | exact HSS.out _ HW2a.out | exact HSS.out _ HW3.out | exact HSS.out _ HB4.out) (first
    | (refine step_call1 rfl 20 (.tmp 229) 25 rfl en20M ?_;refine (HCOPY.out _ (by first | exact HD1.out | exact HD2.out)).mono ?_;rintro e w2 ⟨M,rfl,hTP,hb2⟩;refine ⟨_,rfl,?_⟩;have HTP:=hid hTP;have HB2:=hid hb2;have HW2:Hid (Below wr.heap.size wr w2):=(by first | exact HD1.out.trans (Joins.below_le HB2.out HD1.out.size) | exact HD2.out.trans (Joins.below_le HB2.out HD2.out.size));have HW2a:Hid (Below wr.heap.size wr (w2.alloc (.cells #[] 3))):=HW2.out.alloc HW2.out.size _;clear hTP hb2)
    | (refine step_append_any rfl (.tmp 231) (.tmp 232) 26 rfl w2.heap.size 3 j0 (.int .i64 0) 1 8 Tryz.underlying26 hj0 hy0 hy1 hy2 rfl (by decide) ⟨w2.heap.size,0,none⟩ 0 0 [] (by simp [Act.eval,Act.put]) (by exact own_none w2) (some ⟨tb,0,none⟩) i (i + 2) (I64 (List.replicate i 1000)) (by simp [Act.eval,Act.put]) hlr (by exact src1000 (HK3.out _ HW2a.out).2.2.2.1) (one_cell_ints _) (by unfold maxLen;omega) (by omega) (by simp) ?_;intro v3 w3 ho3 hf3;obtain ⟨p1,p3,rfl,hp3,hx3,ht3,hb3⟩:=appM (T:=wr) (t:=t') (M:=M) (lo:=wr.drew.heap.size) (hi:=w2.heap.size) HW2a.out (HTP.out.kept (fun b hb=>heap_alloc_old _ _ hb.2) (fun b hb=>hb)) (by simp) HW2.out.size (.inr (Nat.le_refl _)) htn ho3 hf3;have HX3:=hid hx3;have HT3:=hid ht3;have HW3:=hid hb3;clear ho3 hf3 hx3 ht3 hb3)
    | (refine step_append_any rfl (.tmp 231) (.tmp 232) 26 rfl wr.heap.size 3 j0 (.int .i64 0) 1 8 Tryz.underlying26 hj0 hy0 hy1 hy2 rfl (by decide) ⟨wr.heap.size,0,none⟩ 0 0 [] (by simp [Act.eval,Act.put]) (by exact row_kept HO2.out (fun b hb=>HB2.out.block b (HO2.out.lt b hb).2)) (some ⟨tb,0,none⟩) i (i + 2) (I64 (List.replicate i 1000)) (by simp [Act.eval,Act.put]) hlr (by exact src1000 (HK3.out _ HW2.out).2.2.2.1) (one_cell_ints _) (by unfold maxLen;omega) (by omega) (by exact HW2.out.size) ?_;intro v3 w3 ho3 hf3;obtain ⟨p1,p3,rfl,hp3,hx3,ht3,hb3⟩:=appM (T:=wr) (t:=t') (M:=M) HW2.out HTP.out (Nat.le_refl _) (Nat.le_refl _) (.inl (by simp)) htn ho3 hf3;have HX3:=hid hx3;have HT3:=hid ht3;have HW3:=hid hb3;clear ho3 hf3 hx3 ht3 hb3)
    | (refine step_call3 rfl 14 (.tmp 230) (.tmp 233) (.tmp 235) 25 26 3 rfl en14M ?_;refine (rparsesM (N:=M) (a:=a) HT3.out HX3.out hp3 HE3.out).mono ?_;rintro e w4 ⟨pn,cn,ln,rfl,hA,ho,hb⟩;refine ⟨_,rfl,?_⟩;have HA4:=hid hA;have HO4:=hid ho;have HB4:Hid (Below wr.heap.size wr w4):=HW3.out.trans (Joins.below_le hb HW3.out.size);clear hA ho hb))
   all_goals go_wp2_with fail
   all_goals go_meet
   all_goals exact ⟨pn,cn,ln,_,rfl,rfl,HA4.out,HO4.out,HB4.out⟩
  case rest =>
   obtain ⟨pn,cn,ln,bs,rfl,rfl,HPN,HON,HBN⟩:=hcut
   obtain ⟨q1,hzb,htl,htx,hbw,_⟩:=HK3.out wc HBN.out
   obtain ⟨c0,c1,c2,c3,c4,c5,c6,c7,c8⟩:=nine' hzb
   have HC:=parsesM (N:=Mi) (a:=a) htl.ti htx (show i≤i + 2 by omega) HE3.out
   clear hzb htl htx hbw
   go_upto_region 40 with (go_at_call 13;(with_reducible refine HC.mono ?_);rintro e X1 ⟨pd,cd,ld,sd,Fd,rfl,hA,ho,hb⟩;have HAD:=hid hA;have HOD:=hid ho;have HSD:=hid hb;clear hA ho hb HC)
   clear c0 c1 c2 c3 c4 c5 c6 c7 c8 q1
   obtain ⟨h1,hf1⟩:=HOD.out.agree HON.out
   subst h1
   have HFD:=hid hf1
   clear hf1 HOD HON
   have HC:=same19 ln _ _ X1 HAD.out.parsed (HPN.out.kept HSD.out) (by have:=HFD.out.few;omega) (fun x hx=>by have:=HFD.out.caps x hx;omega)
   go_upto_region 41 with (go_at_call 18;(with_reducible refine HC.mono ?_);rintro e X2 ⟨rfl,hb⟩;have HS2:=hid hb;clear hb HC)
   obtain ⟨V4,hV4⟩:∃ V,V=X2.alloc (.cells #[.slice pa lw.length ca,.slice pb lv.length cb,.slice pc lw.length cc,.slice pd ln.length cd] 33):=⟨_,rfl⟩
   obtain ⟨g,hg⟩:∃ g,g=X2.heap.size:=⟨_,rfl⟩
   have HB4:Hid (Below X2.heap.size X2 V4):=by rw [hV4];exact Joins.below_alloc1 X2 _
   have HC4:Hid (V4.cell? ⟨g,0,none⟩=some (.slice pa lw.length ca)∧V4.cell? ⟨g,1,none⟩=some (.slice pb lv.length cb)∧V4.cell? ⟨g,2,none⟩=some (.slice pc lw.length cc)∧V4.cell? ⟨g,3,none⟩=some (.slice pd ln.length cd)):=by rw [hV4,hg];exact four_cellsM (heap_alloc_new X2 _)
   have HG4:Hid (g < V4.heap.size):=by show g < V4.heap.size;rw [hV4,hg];simp
   have HX4:Hid (Below X1.heap.size X1 V4):=HS2.out.trans (Joins.below_le HB4.out HS2.out.size)
   have HR4:Hid (Below wr.heap.size wr V4):=HBN.out.trans (Joins.below_le (HSD.out.trans (Joins.below_le HX4.out HSD.out.size)) HBN.out.size)
   obtain ⟨_,_,_,_,hbw,hans⟩:=HK3.out V4 HR4.out
   have HBW:=hid hbw
   obtain ⟨hA1,hA2,hA3⟩:=HANS.out V4 hans
   have hA4:=HAD.out.kept (w':=V4) (fun b h1 h2=>HX4.out.block b h2)
   have HC:=own4M (cp:=4) hA1 hA2 hA3 hA4 HOO.out.2.1 HOO.out.2.2.1 HOO.out.2.2.2.1 (by have:=HOO.out;have:=HSZ4.out;have:=HBN.out.size;omega) HSD.out.size (by rw [hg];exact HS2.out.size) HG4.out HC4.out.1 HC4.out.2.1 HC4.out.2.2.1 HC4.out.2.2.2 HF1.out HF2.out HF1.out HFD.out
   rw [hV4,hg] at HC
   clear hA1 hA2 hA3 hA4 hbw hans
   go_upto_region 42 with (go_at_call 21;(with_reducible refine HC.mono ?_);rintro e X3 ⟨rfl,hb⟩;rw [← hV4] at hb;have HB9:=hid hb;clear hb HC)
   clear hV4 hg
   have k1:(E3 == E3)=true:=by simp
   go_wp2
   all_goals go_ret
   all_goals exact ⟨rfl,HBW.out.trans (Joins.below_le HB9.out HSZ4.out.2)⟩
end Go.Proofs.YtacaanhnlfpbhaaGreat
