/- HELPERS: texts of ours put together. -/
import Derived.Test.YtacaanhnlfpbhaaGreatK39
import Derived.Test.YtacaanhnlfpbhaaGreatK40
namespace Go.Proofs.YtacaanhnlfpbhaaGreat
open Go.RowKit Go.Lk
set_option linter.unusedVariables false
set_option linter.unusedSimpArgs false
set_option maxRecDepth 100000 in
set_option maxHeartbeats 64000000 in
theorem pcomp4_small {w:World} {N N2:Nv} {t u:Tn} (h:TI w w.heap.size N t) (h2:TI w w.heap.size N2 u) (hsm:t.small=true) (hsm2:u.small=true) (hu:u.nodes≤200000) :
  Calls Tryz.prog 4 #[N.v,N2.v] w fun e w'=>e=.returned (.bool true)∧Below w.heap.size w w':=by
 obtain ⟨U,hU⟩:∃ U,U=(w.alloc (.cells #[.int .i64 N.k,.slice N.r1 N.r2 N.r3,.int .i64 N.a2,.slice N.s1 N.s2 N.s3,.int .i64 N.a4,.int .i64 N.a5,.bool N.a6,.int .i64 N.a7,.string N.a8] 25)).alloc (.cells #[.int .i64 N2.k,.slice N2.r1 N2.r2 N2.r3,.int .i64 N2.a2,.slice N2.s1 N2.s2 N2.s3,.int .i64 N2.a4,.int .i64 N2.a5,.bool N2.a6,.int .i64 N2.a7,.string N2.a8] 25):=⟨_,rfl⟩
 have hbU:Below w.heap.size w U:=by rw [hU];exact below_two' w _ _
 have hX:BNo U w.heap.size N:=by rw [hU];exact (heap_alloc_old _ _ (by simp)).trans (heap_alloc_new w _)
 have hY:BNo U (w.heap.size + 1) N2:=by rw [hU];exact two_new w _ _ _
 have hyU:w.heap.size + 1 < U.heap.size:=lt_of_block hY
 have tiw:∀ (W:World),Below w.heap.size w W→TI W W.heap.size N t:=fun W hW=>(h.kept fun b hb=>hW.block b hb).le hW.size
 have tiw2:∀ (W:World),Below w.heap.size w W→TI W W.heap.size N2 u:=fun W hW=>(h2.kept fun b hb=>hW.block b hb).le hW.size
 have TIW:=hid tiw
 have TIW2:=hid tiw2
 obtain ⟨x,hx⟩:∃ x,x=w.heap.size:=⟨_,rfl⟩
 obtain ⟨y,hy⟩:∃ y,y=w.heap.size + 1:=⟨_,rfl⟩
 have HK0:Hid (∀ W,Below U.heap.size U W→BNo W x N∧BNo W y N2∧Below w.heap.size w W):=fun W h=>by rw [hx,hy];exact ⟨(h.block _ (by omega)).trans hX,(h.block _ hyU).trans hY,hbU.trans (Joins.below_le h hbU.size)⟩
 clear hbU hX hY hyU tiw tiw2 h h2
 go_enter Tryz.func4,Tryz.ntmps4
 go_upto_region 1 with fail
 rw [← hU,← hy,← hx]
 clear hU hx hy
 obtain ⟨hN0,hN1,hbw⟩:=HK0.out U (Below.refl _ _)
 obtain ⟨c0,c1,c2,c3,c4,c5,c6,c7,c8⟩:=nine' hN0
 have HC:=deep10 (TIW.out _ hbw)
 obtain ⟨dp,hdp⟩:∃ v,v=decide (4194304 < t.nodes):=⟨_,rfl⟩
 rw [← hdp] at HC
 have HDP:=hid hdp
 clear hdp
 clear hN0 hN1 hbw
 go_upto_region 2 with (go_at_call 8;(with_reducible refine HC.mono ?_);rintro e U1 ⟨rfl,hb⟩;have HB1:=hid (hb);clear hb HC)
 clear c0 c1 c2 c3 c4 c5 c6 c7 c8
 obtain ⟨hN0,hN1,hbw⟩:=HK0.out U1 HB1.out
 obtain ⟨d0,d1,d2,d3,d4,d5,d6,d7,d8⟩:=nine' hN1
 have HC:=deep10 (TIW2.out _ hbw)
 obtain ⟨dq,hdq⟩:∃ v,v=decide (4194304 < u.nodes):=⟨_,rfl⟩
 rw [← hdq] at HC
 have HDQ:=hid hdq
 clear hdq
 clear hN0 hN1 hbw
 go_upto_region 3 with (go_at_call 8;(with_reducible refine HC.mono ?_);rintro e U2 ⟨rfl,hb⟩;have HB2:=hid (HB1.out.trans (Joins.below_le hb HB1.out.size));clear hb HC)
 clear d0 d1 d2 d3 d4 d5 d6 d7 d8
 by_cases dpT:dp=true
 ·subst dpT
  go_wp2
  all_goals go_ret
  all_goals exact ⟨rfl,(HK0.out _ HB2.out).2.2⟩
 have dpF:dp=false:=by simpa using dpT
 subst dpF
 by_cases dqT:dq=true
 ·subst dqT
  go_wp2
  all_goals go_ret
  all_goals exact ⟨rfl,(HK0.out _ HB2.out).2.2⟩
 have dqF:dq=false:=by simpa using dqT
 subst dqF
 go_upto_region 5 with fail
 obtain ⟨hN0,hN1,hbw⟩:=HK0.out U2 HB2.out
 obtain ⟨c0,c1,c2,c3,c4,c5,c6,c7,c8⟩:=nine' hN0
 have HC:=heavy8 (TIW.out _ hbw) hsm
 clear hN0 hN1 hbw
 go_upto_region 6 with (go_at_call 22;(with_reducible refine HC.mono ?_);rintro e U3 ⟨hv,rfl,hb⟩;have HB3:=hid (HB2.out.trans (Joins.below_le hb HB2.out.size));clear hb HC)
 clear c0 c1 c2 c3 c4 c5 c6 c7 c8
 obtain ⟨hN0,hN1,hbw⟩:=HK0.out U3 HB3.out
 obtain ⟨d0,d1,d2,d3,d4,d5,d6,d7,d8⟩:=nine' hN1
 have HC:=heavy8 (TIW2.out _ hbw) hsm2
 clear hN0 hN1 hbw
 go_upto_region 7 with (go_at_call 22;(with_reducible refine HC.mono ?_);rintro e U4 ⟨hw,rfl,hb⟩;have HB4:=hid (HB3.out.trans (Joins.below_le hb HB3.out.size));clear hb HC)
 clear d0 d1 d2 d3 d4 d5 d6 d7 d8
 by_cases hvT:hv=true
 ·subst hvT
  go_wp2
  all_goals go_ret
  all_goals exact ⟨rfl,(HK0.out _ HB4.out).2.2⟩
 have hvF:hv=false:=by simpa using hvT
 subst hvF
 by_cases hwT:hw=true
 ·subst hwT
  go_wp2
  all_goals go_ret
  all_goals exact ⟨rfl,(HK0.out _ HB4.out).2.2⟩
 have hwF:hw=false:=by simpa using hwT
 subst hwF
 go_upto_region 9 with fail
 have HA:=awake7 U4
 go_upto_region 10 with (go_at_call 23;(with_reducible refine HA.mono ?_);rintro e U5 ⟨rfl,hb⟩;have HB5:=hid (HB4.out.trans (Joins.below_le hb HB4.out.size));clear hb HA)
 obtain ⟨hN0,hN1,hbw⟩:=HK0.out U5 HB5.out
 obtain ⟨c0,c1,c2,c3,c4,c5,c6,c7,c8⟩:=nine' hN0
 have HC:=great14 (TIW.out _ hbw)
 obtain ⟨gr,hgr⟩:∃ v,v=decide (200000 < t.nodes):=⟨_,rfl⟩
 rw [← hgr] at HC
 have HGR:=hid hgr
 clear hgr
 clear hN0 hN1 hbw
 go_upto_region 11 with (go_at_call 11;(with_reducible refine HC.mono ?_);rintro e U6 ⟨rfl,hb⟩;have HB6:=hid (HB5.out.trans (Joins.below_le hb HB5.out.size));clear hb HC)
 clear c0 c1 c2 c3 c4 c5 c6 c7 c8
 obtain ⟨hN0,hN1,hbw⟩:=HK0.out U6 HB6.out
 obtain ⟨c0,c1,c2,c3,c4,c5,c6,c7,c8⟩:=nine' hN0
 by_cases grT:gr=true
 ·have hE:=errC_great (t:=t) (by have:=HGR.out;rw [grT] at this;simpa using this.symm)
  have HC:=compileO (TIW.out _ hbw)
  unfold CPostO at HC
  rw [hE] at HC
  subst grT
  clear hN0 hN1 hE
  have HBW:=hid hbw
  clear hbw
  go_wp2_with (first | (go_at_call 24;(with_reducible refine HC.mono ?_);rintro e A1 ⟨pa,na,ca,ia,rfl,hb,_⟩;have HA1:=hid hb;clear hb HC))
  all_goals go_ret
  all_goals exact ⟨rfl,(HBW.out.trans (Joins.below_le HA1.out HBW.out.size)).alloc (by have:=HBW.out.size;have:=HA1.out.size;omega) _⟩
 have grF:gr=false:=by simpa using grT
 subst grF
 have hnt:t.nodes≤200000:=by have:=HGR.out;simp at this;omega
 clear hN0 hN1 hbw c0 c1 c2 c3 c4 c5 c6 c7 c8
 go_upto_region 14 with fail
 clear HGR HDP HDQ HB1 HB2 HB3 HB4 HB5 dpT dqT hvT hwT grT
 obtain ⟨E,hE⟩:∃ E,E=errC t:=⟨_,rfl⟩
 obtain ⟨K,hK⟩:∃ K,K=kE t:=⟨_,rfl⟩
 obtain ⟨L,hL⟩:∃ L,L=progE t:=⟨_,rfl⟩
 have HE:=hid hE
 have HK:=hid hK
 have HL:=hid hL
 have HSL:Hid (L.length≤20000∧∀ I ∈ L,I.R.length≤20000):=by rw [hL];exact progE_small t
 clear hE hK hL
 obtain ⟨hN0,hN1,hbw⟩:=HK0.out U6 HB6.out
 obtain ⟨c0,c1,c2,c3,c4,c5,c6,c7,c8⟩:=nine' hN0
 have HC:=compileP (TIW.out _ hbw)
 unfold CPostP at HC
 rw [← HE.out,← HK.out,← HL.out] at HC
 clear hN0 hN1 hbw
 go_upto_region 15 with (go_at_call 25;(with_reducible refine HC.mono ?_);rintro e D1 ⟨wa,wn,wc_,rfl,hb,hp⟩;have HD1:=hid hb;have HPW:=hid hp;clear hb hp HC)
 clear c0 c1 c2 c3 c4 c5 c6 c7 c8
 obtain ⟨V1,hV⟩:∃ V,V=D1.alloc (.cells #[.slice wa wn wc_,.int .i64 0,.int .i64 K] 46):=⟨_,rfl⟩
 obtain ⟨zW,hz⟩:∃ z,z=D1.heap.size:=⟨_,rfl⟩
 rw [← hV,← hz]
 have HU1:Hid (Below U6.heap.size U6 V1):=by rw [hV];exact HD1.out.alloc HD1.out.size _
 have HZW:Hid (PBx V1 zW wa wn wc_ K):=by rw [hV,hz];exact heap_alloc_new D1 _
 have HZL:Hid (zW < V1.heap.size∧D1.heap.size≤zW):=⟨lt_of_block HZW.out,by rw [hz];exact Nat.le_refl _⟩
 have HDV:Hid (Below D1.heap.size D1 V1):=by rw [hV];exact Joins.below_alloc1 D1 _
 clear hV hz HD1
 have HKW:Hid (∀ W:World,(∀ b,b < V1.heap.size→W.heap[b]?=V1.heap[b]?)→V1.heap.size≤W.heap.size→PBx W zW wa wn wc_ K∧PI W W.heap.size wa wn L):=fun W h hs=>⟨(h zW HZL.out.1).trans HZW.out,HPW.out W (fun b h1 h2=>(h b (by have:=HDV.out.size;omega)).trans (HDV.out.block b h2)) (by have:=HDV.out.size;omega)⟩
 have HB1:Hid (Below U.heap.size U V1):=HB6.out.trans (Joins.below_le HU1.out HB6.out.size)
 obtain ⟨nL,hnL⟩:∃ n,n=L.length:=⟨_,rfl⟩
 have hwn:wn=nL:=by rw [hnL];exact (HKW.out V1 (fun _ _=>rfl) (Nat.le_refl _)).2.len
 have HNL:=hid hnL
 subst hwn
 clear hnL HPW HZW HZL HDV HU1 HB6
 obtain ⟨hN0,hN1,hbw⟩:=HK0.out V1 HB1.out
 obtain ⟨c0,c1,c2,c3,c4,c5,c6,c7,c8⟩:=nine' hN0
 have HC:=lent12 (TIW.out _ hbw) hnt hsm V1 (Nat.le_refl _) (fun _ _=>rfl)
 clear hN0 hN1 hbw
 go_upto_region 16 with (go_at_call 12;(with_reducible refine HC.mono ?_);rintro e W1 ⟨Mi,Ai,rfl,hM,hA,hb⟩;have HMM:=hid hM;have HAA:=hid hA;have HBW:=hid hb;clear hM hb HC)
 clear hA c0 c1 c2 c3 c4 c5 c6 c7 c8
 obtain ⟨V2,hV⟩:∃ V,V=W1.alloc (.cells #[.int .i64 Mi.k,.slice Mi.r1 Mi.r2 Mi.r3,.int .i64 Mi.a2,.slice Mi.s1 Mi.s2 Mi.s3,.int .i64 Mi.a4,.int .i64 Mi.a5,.bool Mi.a6,.int .i64 Mi.a7,.string Mi.a8] 25):=⟨_,rfl⟩
 obtain ⟨z,hz⟩:∃ z,z=W1.heap.size:=⟨_,rfl⟩
 rw [← hV,← hz]
 have HV12:Hid (Below V1.heap.size V1 V2):=by rw [hV];exact HBW.out.alloc HBW.out.size _
 have HZV:Hid (BNo V2 z Mi):=by rw [hV,hz];exact heap_alloc_new W1 _
 have HTV:Hid (TL V2 Mi t Ai):=by rw [hV];exact HMM.out.kept (fun b hb=>heap_alloc_old _ _ (HMM.out.low b hb))
 have HAI:Hid (∀ b,Ai b→V1.heap.size≤b∧b < z):=fun b hb=>⟨HAA.out b hb,by rw [hz];exact HMM.out.low b hb⟩
 have HZL:Hid (V1.heap.size≤z∧z < V2.heap.size):=⟨by rw [hz];exact HBW.out.size,lt_of_block HZV.out⟩
 clear hV hz HMM HAA HBW
 have HB2:Hid (Below U.heap.size U V2):=HB1.out.trans (Joins.below_le HV12.out HB1.out.size)
 have HKI:Hid (∀ W:World,(∀ b,b < V2.heap.size→W.heap[b]?=V2.heap[b]?)→BNo W z Mi∧TL W Mi t Ai):=fun W h=>⟨(h z HZL.out.2).trans HZV.out,HTV.out.kept (fun b hb=>h b (by have:=HAI.out b hb;have:=HZL.out.2;omega))⟩
 have HKV2:Hid (∀ W,Below V2.heap.size V2 W→Below U.heap.size U W∧(PBx W zW wa wn wc_ K∧PI W W.heap.size wa wn L)∧BNo W z Mi∧TL W Mi t Ai):=fun W h=>⟨HB2.out.trans (Joins.below_le h HB2.out.size),HKW.out W (fun b hb=>(h.block b (by have:=HV12.out.size;omega)).trans (HV12.out.block b hb)) (by have:=HV12.out.size;have:=h.size;omega),HKI.out W h.block⟩
 obtain ⟨_,_,hzb,htl⟩:=HKV2.out V2 (Below.refl _ _)
 obtain ⟨c0,c1,c2,c3,c4,c5,c6,c7,c8⟩:=nine' hzb
 have HC:=compileO htl.ti
 unfold CPostO at HC
 rw [← HE.out,← HK.out,← HL.out] at HC
 clear hzb htl
 go_upto_region 17 with (go_at_call 24;(with_reducible refine HC.mono ?_);rintro e A1 ⟨pa,na,ca,ia,rfl,hb,hg⟩;have HBX:=hid hb;have HGa:=hid hg;clear hb hg HC)
 clear c0 c1 c2 c3 c4 c5 c6 c7 c8
 obtain ⟨V3,hV⟩:∃ V,V=A1.alloc (.cells #[.slice pa na ca,.int .i64 0,.int .i64 K] 46):=⟨_,rfl⟩
 obtain ⟨zA,hz⟩:∃ z,z=A1.heap.size:=⟨_,rfl⟩
 rw [← hV,← hz]
 have HV23:Hid (Below V2.heap.size V2 V3):=by rw [hV];exact HBX.out.alloc HBX.out.size _
 have HZA:Hid (PBx V3 zA pa na ca K):=by rw [hV,hz];exact heap_alloc_new A1 _
 have HZAL:Hid (zA < V3.heap.size):=lt_of_block HZA.out
 obtain ⟨o1,ho1⟩:∃ o,o=V2.heap.size:=⟨_,rfl⟩
 have HGA3:Hid (GR V3 o1 (.slice pa na ca) ia L):=by rw [ho1,hV];exact HGa.out.below (Joins.below_alloc1 A1 _)
 have HOZ:Hid (o1≤zA∧o1=V2.heap.size∧A1.heap.size≤V3.heap.size):=⟨by rw [ho1,hz];exact HBX.out.size,ho1,by rw [hV];simp⟩
 have HTA:Hid (∀ b,((Value.slice pa na ca).ownBlock=some b∨∃ j,j < L.length∧(ia.getD j default).rv.ownBlock=some b)→b < V3.heap.size):=fun b hb=>by
  rcases hb with hb | ⟨j,hj,hb⟩
  ·exact (HGA3.out.row.lt b hb).2
  ·exact (HGA3.out.low j b hj hb).2
 have hna:na=wn:=by rw [HNL.out];exact row_len HGA3.out.row
 subst hna
 clear hV hz HBX HGa ho1
 have HKA:Hid (∀ W:World,(∀ b,o1≤b→b < V3.heap.size→W.heap[b]?=V3.heap[b]?)→PBx W zA pa na ca K∧GR W o1 (.slice pa na ca) ia L):=fun W h=>⟨(h zA HOZ.out.1 HZAL.out).trans HZA.out,HGA3.out.kept (fun b h1 h2 _=>h b h1 h2)⟩
 have HKV3:Hid (∀ W,Below V3.heap.size V3 W→Below V2.heap.size V2 W∧PBx W zA pa na ca K∧GR W o1 (.slice pa na ca) ia L):=fun W h=>⟨HV23.out.trans (Joins.below_le h HV23.out.size),HKA.out W (fun b _ hb=>h.block b hb)⟩
 clear HZA HGA3 HZAL
 obtain ⟨hbu,_⟩:=HKV2.out V3 HV23.out
 obtain ⟨_,hN1,hbw⟩:=HK0.out V3 hbu
 obtain ⟨d0,d1,d2,d3,d4,d5,d6,d7,d8⟩:=nine' hN1
 have HC:=great14 (TIW2.out _ hbw)
 rw [decide_eq_false (by omega)] at HC
 clear hbu hN1 hbw
 go_upto_region 19 with (go_at_call 11;(with_reducible refine HC.mono ?_);rintro e V4 ⟨rfl,hb⟩;have HB4:=hid hb;clear hb HC)
 clear d0 d1 d2 d3 d4 d5 d6 d7 d8
 obtain ⟨E2,hE2⟩:∃ E,E=errC u:=⟨_,rfl⟩
 obtain ⟨K2,hK2⟩:∃ K,K=kE u:=⟨_,rfl⟩
 obtain ⟨L2,hL2⟩:∃ L,L=progE u:=⟨_,rfl⟩
 have HE2:=hid hE2
 have HK2:=hid hK2
 have HL2:=hid hL2
 have HSL2:Hid (L2.length≤20000):=by rw [hL2];exact (progE_small u).1
 clear hE2 hK2 hL2
 have HYY:Hid (∀ W,Below V3.heap.size V3 W→BNo W y N2∧TI W W.heap.size N2 u):=fun W h=>by
  obtain ⟨h1,_⟩:=HKV2.out W (HKV3.out W h).1
  obtain ⟨_,h2,h3⟩:=HK0.out W h1
  exact ⟨h2,TIW2.out W h3⟩
 obtain ⟨hN1,hti⟩:=HYY.out V4 HB4.out
 obtain ⟨d0,d1,d2,d3,d4,d5,d6,d7,d8⟩:=nine' hN1
 have HC:=compileP hti
 unfold CPostP at HC
 rw [← HE2.out,← HK2.out,← HL2.out] at HC
 clear hN1 hti
 go_upto_region 20 with (go_at_call 25;(with_reducible refine HC.mono ?_);rintro e Q1 ⟨qa,qn,qc,rfl,hb,hp⟩;have HQ1:=hid hb;have HPQ:=hid hp;clear hb hp HC)
 clear d0 d1 d2 d3 d4 d5 d6 d7 d8
 obtain ⟨Q2,hV⟩:∃ V,V=Q1.alloc (.cells #[.slice qa qn qc,.int .i64 0,.int .i64 K2] 46):=⟨_,rfl⟩
 obtain ⟨zQ,hz⟩:∃ z,z=Q1.heap.size:=⟨_,rfl⟩
 rw [← hV,← hz]
 have HQ2:Hid (Below Q1.heap.size Q1 Q2):=by rw [hV];exact Joins.below_alloc1 Q1 _
 have HZQ:Hid (PBx Q2 zQ qa qn qc K2):=by rw [hV,hz];exact heap_alloc_new Q1 _
 clear hV hz
 have HV4Q:Hid (Below V4.heap.size V4 Q2):=HQ1.out.trans (Joins.below_le HQ2.out HQ1.out.size)
 have HB42:Hid (Below V3.heap.size V3 Q2):=HB4.out.trans (Joins.below_le HV4Q.out HB4.out.size)
 have HKQ:Hid (∀ W,Below Q2.heap.size Q2 W→PBx W zQ qa qn qc K2∧PI W W.heap.size qa qn L2):=fun W h=>⟨(h.block zQ (lt_of_block HZQ.out)).trans HZQ.out,HPQ.out W (fun b _ h2=>(h.block b (by have:=HQ2.out.size;omega)).trans (HQ2.out.block b h2)) (by have:=HQ2.out.size;have:=h.size;omega)⟩
 clear HPQ HZQ HQ1 HQ2
 obtain ⟨hN1,hti⟩:=HYY.out Q2 HB42.out
 obtain ⟨d0,d1,d2,d3,d4,d5,d6,d7,d8⟩:=nine' hN1
 have HC:=compileO hti
 unfold CPostO at HC
 rw [← HE2.out,← HK2.out,← HL2.out] at HC
 clear hN1 hti
 go_upto_region 21 with (go_at_call 24;(with_reducible refine HC.mono ?_);rintro e R1 ⟨ra,rn,rc,ri,rfl,hb,hg⟩;have HR1:=hid hb;have HGR:=hid hg;clear hb hg HC)
 clear d0 d1 d2 d3 d4 d5 d6 d7 d8
 obtain ⟨R2,hV⟩:∃ V,V=R1.alloc (.cells #[.slice ra rn rc,.int .i64 0,.int .i64 K2] 46):=⟨_,rfl⟩
 obtain ⟨zR,hz⟩:∃ z,z=R1.heap.size:=⟨_,rfl⟩
 rw [← hV,← hz]
 have HR2:Hid (Below R1.heap.size R1 R2):=by rw [hV];exact Joins.below_alloc1 R1 _
 have HZR:Hid (PBx R2 zR ra rn rc K2):=by rw [hV,hz];exact heap_alloc_new R1 _
 clear hV hz
 have HQR:Hid (Below Q2.heap.size Q2 R2):=HR1.out.trans (Joins.below_le HR2.out HR1.out.size)
 obtain ⟨hq1,hq2⟩:=HKQ.out R2 HQR.out
 have hg2:=gr_pi (HGR.out.below HR2.out)
 have hqr:rn=qn:=by rw [hq2.len,hg2.len]
 subst hqr
 obtain ⟨m0,m1,m2⟩:=three_cellsM hq1
 obtain ⟨r0,r1,r2⟩:=three_cellsM HZR.out
 have HC:=same11 (c:=rc) (c':=qc) (s:=0) (k:=K2) hg2 hq2 (by have:=HSL2.out;have:=hq2.len;omega)
 clear hq1 hq2 hg2 HGR
 go_upto_region 22 with (go_at_call 26;(with_reducible refine HC.mono ?_);rintro e S1 ⟨rfl,hb⟩;have HS1:=hid hb;clear hb HC)
 clear m0 m1 m2 r0 r1 r2
 have HEND:Hid (Below V3.heap.size V3 S1):=HB42.out.trans (Joins.below_le (HQR.out.trans (Joins.below_le HS1.out HQR.out.size)) HB42.out.size)
 have k1:(E2 != E2)=false:=by simp
 go_upto_region 24 with fail
 clear HE2 HK2 HL2 HSL2 HYY HV4Q HB42 HKQ HQR HS1 HR1 HR2 HZR k1
 obtain ⟨wc,hwc⟩:∃ v,v=S1:=⟨_,rfl⟩
 rw [← hwc]
 have HBC:Hid (Below V3.heap.size V3 wc):=by rw [hwc];exact HEND.out
 clear hwc HEND HB4
 obtain ⟨_,_,hzb,htl⟩:=HKV2.out wc (HKV3.out wc HBC.out).1
 obtain ⟨c0,c1,c2,c3,c4,c5,c6,c7,c8⟩:=nine' hzb
 have HC:=compileO htl.ti
 unfold CPostO at HC
 rw [← HE.out,← HK.out,← HL.out] at HC
 clear hzb htl
 go_upto_region 25 with (go_at_call 24;(with_reducible refine HC.mono ?_);rintro e A2 ⟨pc,nc,cc,ic,rfl,hb,hg⟩;have HBX:=hid hb;have HGc:=hid hg;clear hb hg HC)
 clear c0 c1 c2 c3 c4 c5 c6 c7 c8
 obtain ⟨V5,hV⟩:∃ V,V=A2.alloc (.cells #[.slice pc nc cc,.int .i64 0,.int .i64 K] 46):=⟨_,rfl⟩
 obtain ⟨zC,hz⟩:∃ z,z=A2.heap.size:=⟨_,rfl⟩
 rw [← hV,← hz]
 have HV35:Hid (Below wc.heap.size wc V5):=by rw [hV];exact HBX.out.alloc HBX.out.size _
 have HZC:Hid (PBx V5 zC pc nc cc K):=by rw [hV,hz];exact heap_alloc_new A2 _
 have HZCL:Hid (zC < V5.heap.size):=lt_of_block HZC.out
 obtain ⟨o2,ho2⟩:∃ o,o=wc.heap.size:=⟨_,rfl⟩
 have HGC5:Hid (GR V5 o2 (.slice pc nc cc) ic L):=by rw [ho2,hV];exact HGc.out.below (Joins.below_alloc1 A2 _)
 have HOZ2:Hid (o2≤zC∧o2=wc.heap.size∧o2≤V5.heap.size):=⟨by rw [ho2,hz];exact HBX.out.size,ho2,by rw [ho2];exact HV35.out.size⟩
 have HTC:Hid (∀ b,((Value.slice pc nc cc).ownBlock=some b∨∃ j,j < L.length∧(ic.getD j default).rv.ownBlock=some b)→b < V5.heap.size):=fun b hb=>by
  rcases hb with hb | ⟨j,hj,hb⟩
  ·exact (HGC5.out.row.lt b hb).2
  ·exact (HGC5.out.low j b hj hb).2
 have hnc:na=nc:=by rw [row_len HGC5.out.row];exact HNL.out
 subst hnc
 clear hV hz HBX HGc ho2
 have HKC:Hid (∀ W:World,(∀ b,o2≤b→b < V5.heap.size→W.heap[b]?=V5.heap[b]?)→PBx W zC pc na cc K∧GR W o2 (.slice pc na cc) ic L):=fun W h=>⟨(h zC HOZ2.out.1 HZCL.out).trans HZC.out,HGC5.out.kept (fun b h1 h2 _=>h b h1 h2)⟩
 have HB35:Hid (Below V3.heap.size V3 V5):=HBC.out.trans (Joins.below_le HV35.out HBC.out.size)
 have HKV5:Hid (∀ W,Below V5.heap.size V5 W→Below V3.heap.size V3 W∧PBx W zC pc na cc K∧GR W o2 (.slice pc na cc) ic L):=fun W h=>⟨HB35.out.trans (Joins.below_le h HB35.out.size),HKC.out W (fun b _ hb=>h.block b hb)⟩
 have HNB:Hid (na≤9223372036854775807):=by have:=HNL.out;have:=HSL.out.1;show na≤_;omega
 clear HZC HGC5 HZCL
 obtain ⟨h3,hzc,hgc⟩:=HKV5.out V5 (Below.refl _ _)
 obtain ⟨h2,hza,hga⟩:=HKV3.out V5 h3
 obtain ⟨_,⟨hzw,hpw⟩,_,_⟩:=HKV2.out V5 h2
 obtain ⟨m0,m1,m2⟩:=three_cellsM hza
 obtain ⟨r0,r1,r2⟩:=three_cellsM hzw
 have HC:=same11 (c:=ca) (c':=wc_) (s:=0) (k:=K) (gr_pi hga) hpw HNB.out
 clear h3 hzc hgc h2 hza hga hzw hpw
 go_upto_region 26 with (go_at_call 26;(with_reducible refine HC.mono ?_);rintro e X1 ⟨rfl,hb⟩;have HX1:=hid hb;clear hb HC)
 clear m0 m1 m2 r0 r1 r2
 obtain ⟨h3,hzc,hgc⟩:=HKV5.out X1 HX1.out
 obtain ⟨h2,hza,hga⟩:=HKV3.out X1 h3
 obtain ⟨_,⟨hzw,hpw⟩,_,_⟩:=HKV2.out X1 h2
 obtain ⟨m0,m1,m2⟩:=three_cellsM hzc
 obtain ⟨r0,r1,r2⟩:=three_cellsM hzw
 have HC:=same11 (c:=cc) (c':=wc_) (s:=0) (k:=K) (gr_pi hgc) hpw HNB.out
 clear h3 hzc hgc h2 hza hga hzw hpw
 go_upto_region 27 with (go_at_call 26;(with_reducible refine HC.mono ?_);rintro e X2 ⟨rfl,hb⟩;have HX2:=hid (HX1.out.trans (Joins.below_le hb HX1.out.size));clear hb HC)
 clear m0 m1 m2 r0 r1 r2 HX1
 obtain ⟨h1,_,hzb,htl⟩:=HKV2.out X2 (HKV3.out X2 (HKV5.out X2 HX2.out).1).1
 obtain ⟨hN0,_,hbw⟩:=HK0.out X2 h1
 obtain ⟨c0,c1,c2,c3,c4,c5,c6,c7,c8⟩:=nine' hzb
 obtain ⟨d0,d1,d2,d3,d4,d5,d6,d7,d8⟩:=nine' hN0
 have HC:=same13 htl.ti (TIW.out _ hbw)
 clear h1 hzb htl hN0 hbw
 go_upto_region 28 with (go_at_call 16;(with_reducible refine HC.mono ?_);rintro e X3 ⟨rfl,hb⟩;have HX3:=hid (HX2.out.trans (Joins.below_le hb HX2.out.size));clear hb HC)
 clear c0 c1 c2 c3 c4 c5 c6 c7 c8 d0 d1 d2 d3 d4 d5 d6 d7 d8 HX2
 obtain ⟨h1,_,hzb,htl⟩:=HKV2.out X3 (HKV3.out X3 (HKV5.out X3 HX3.out).1).1
 obtain ⟨c0,c1,c2,c3,c4,c5,c6,c7,c8⟩:=nine' hzb
 have HC:=kept14 htl X3 (fun _ _=>rfl)
 clear h1 hzb htl
 go_upto_region 29 with (go_at_call 15;(with_reducible refine HC.mono ?_);rintro e X4 ⟨rfl,hb⟩;have HX4:=hid (HX3.out.trans (Joins.below_le hb HX3.out.size));clear hb HC)
 clear c0 c1 c2 c3 c4 c5 c6 c7 c8 HX3
 have k1:(E != E)=false:=by simp
 go_upto_region 31 with fail
 clear k1
 obtain ⟨h1,_,hzb,htl⟩:=HKV2.out X4 (HKV3.out X4 (HKV5.out X4 HX4.out).1).1
 obtain ⟨_,_,hbw⟩:=HK0.out X4 h1
 obtain ⟨c0,c1,c2,c3,c4,c5,c6,c7,c8⟩:=nine' hzb
 have HC:=turned15 htl hnt hsm X4 (fun _ _=>rfl)
 have HWX:=hid hbw
 have HZX:=hid hzb
 have HVX:Hid (Below V2.heap.size V2 X4∧Below V3.heap.size V3 X4∧Below V5.heap.size V5 X4):=⟨(HKV3.out X4 (HKV5.out X4 HX4.out).1).1,(HKV5.out X4 HX4.out).1,HX4.out⟩
 have HSZ:Hid (w.heap.size≤V1.heap.size∧V1.heap.size≤z∧z < V2.heap.size∧V2.heap.size=o1∧V2.heap.size≤V3.heap.size∧V3.heap.size≤wc.heap.size∧wc.heap.size=o2∧o2≤V5.heap.size∧V5.heap.size≤X4.heap.size):=⟨(HK0.out V1 HB1.out).2.2.size,HZL.out.1,HZL.out.2,HOZ.out.2.1.symm,HV23.out.size,HBC.out.size,HOZ2.out.2.1.symm,HOZ2.out.2.2,HX4.out.size⟩
 clear h1 hzb htl hbw HK0 HKV2 HKV3 HKV5 HX4 HKI TIW TIW2 HB1 HB2 HB35 HV35 HBC HOZ HOZ2 HZL
 go_upto_region 32 with (go_at_call 19;(with_reducible refine HC.mono ?_);rintro e T1 ⟨rfl,⟨t',hM,hno',hsm'⟩,hb⟩;have HTT:=hid hM;have HCH:=hid hb;clear hM hb HC)
 clear c0 c1 c2 c3 c4 c5 c6 c7 c8
 have hnt':t'.nodes≤200000:=by omega
 have HKB:Hid (∀ b,b < X4.heap.size→¬ Ai b→T1.heap[b]?=X4.heap[b]?):=fun b h1 h2=>HCH.out.block b h1 h2
 have HKT:Hid (∀ W,Below T1.heap.size T1 W→Below w.heap.size w W∧(PBx W zW wa na wc_ K∧PI W W.heap.size wa na L)∧(PBx W zA pa na ca K∧GR W o1 (.slice pa na ca) ia L)∧(PBx W zC pc na cc K∧GR W o2 (.slice pc na cc) ic L)∧BNo W z Mi∧TL W Mi t' Ai):=fun W h=>by
  have hs:=HCH.out.size
  have sz:=HSZ.out
  have hk:∀ b,b < X4.heap.size→¬ Ai b→W.heap[b]?=X4.heap[b]?:=fun b h1 h2=>(h.block b (by omega)).trans (HKB.out b h1 h2)
  refine ⟨⟨h.os.trans (HCH.out.os.trans HWX.out.os),h.tape.trans (HCH.out.tape.trans HWX.out.tape),h.output.trans (HCH.out.output.trans HWX.out.output),by have:=HWX.out.size;have:=h.size;omega,fun b hb=>(hk b (by omega) (fun ha=>by have:=HAI.out b ha;omega)).trans (HWX.out.block b hb)⟩,?_,?_,?_,?_,?_⟩
  ·exact HKW.out W (fun b hb=>(hk b (by omega) (fun ha=>by have:=HAI.out b ha;omega)).trans ((HVX.out.1.block b (by omega)).trans (HV12.out.block b hb))) (by have:=h.size;omega)
  ·exact HKA.out W (fun b h1 h2=>(hk b (by omega) (fun ha=>by have:=HAI.out b ha;omega)).trans (HVX.out.2.1.block b h2))
  ·exact HKC.out W (fun b h1 h2=>(hk b (by omega) (fun ha=>by have:=HAI.out b ha;omega)).trans (HVX.out.2.2.block b h2))
  ·exact (hk z (by omega) (fun ha=>by have:=HAI.out z ha;omega)).trans HZX.out
  ·exact HTT.out.kept (fun b hb=>h.block b (HTT.out.low b hb))
 have HSZ2:Hid (z < o1∧V5.heap.size≤T1.heap.size∧V3.heap.size≤o2∧o1≤V3.heap.size∧o2≤V5.heap.size∧w.heap.size≤o1):=by have:=HSZ.out;have:=HCH.out.size;exact ⟨by omega,by omega,by omega,by omega,by omega,by omega⟩
 have HAZ:Hid (∀ b,Ai b→b < z):=fun b hb=>(HAI.out b hb).2
 clear HKB HKW HKA HKC HWX HZX HVX HSZ HTT HCH HV12 HV23 HAI
 obtain ⟨_,_,_,_,hzb,htl⟩:=HKT.out T1 (Below.refl _ _)
 obtain ⟨c0,c1,c2,c3,c4,c5,c6,c7,c8⟩:=nine' hzb
 have HC:=copy16 htl.ti hnt' hsm' T1 (Nat.le_refl _) (fun _ _=>rfl)
 clear hzb htl
 go_upto_region 33 with (go_at_call 20;(with_reducible refine HC.mono ?_);rintro e C1 ⟨Mt,rfl,hM,hb⟩;have HMM:=hid hM;have HBW:=hid hb;clear hM hb HC)
 clear c0 c1 c2 c3 c4 c5 c6 c7 c8
 obtain ⟨V7,hV⟩:∃ V,V=C1.alloc (.cells #[.int .i64 Mt.k,.slice Mt.r1 Mt.r2 Mt.r3,.int .i64 Mt.a2,.slice Mt.s1 Mt.s2 Mt.s3,.int .i64 Mt.a4,.int .i64 Mt.a5,.bool Mt.a6,.int .i64 Mt.a7,.string Mt.a8] 25):=⟨_,rfl⟩
 obtain ⟨zT,hz⟩:∃ z,z=C1.heap.size:=⟨_,rfl⟩
 rw [← hV,← hz]
 have HT7:Hid (Below T1.heap.size T1 V7):=by rw [hV];exact HBW.out.alloc HBW.out.size _
 have HZT:Hid (BNo V7 zT Mt):=by rw [hV,hz];exact heap_alloc_new C1 _
 have HTP:Hid (TP V7 (fun b=>T1.heap.size≤b∧b < zT) Mt t'):=by rw [hV,hz];exact HMM.out.kept (fun b hb=>heap_alloc_old _ _ hb.2) (fun b hb=>hb)
 have HZTL:Hid (zT < V7.heap.size∧T1.heap.size≤zT):=⟨lt_of_block HZT.out,by rw [hz];exact HBW.out.size⟩
 clear hV hz HMM HBW
 have HKV7:Hid (∀ W:World,(∀ b,T1.heap.size≤b→b < V7.heap.size→W.heap[b]?=V7.heap[b]?)→V7.heap.size≤W.heap.size→BNo W zT Mt∧TI W W.heap.size Mt t'):=fun W h hs=>⟨(h zT HZTL.out.2 HZTL.out.1).trans HZT.out,(HTP.out.kept (A':=fun b=>T1.heap.size≤b∧b < zT) (fun b hb=>h b hb.1 (by have:=HZTL.out.1;omega)) (fun b hb=>hb)).ti (fun b hb=>by have:=HZTL.out.1;omega)⟩
 clear HZT HTP
 obtain ⟨E3,hE3⟩:∃ E,E=errC t':=⟨_,rfl⟩
 obtain ⟨K3,hK3⟩:∃ K,K=kE t':=⟨_,rfl⟩
 obtain ⟨L3,hL3⟩:∃ L,L=progE t':=⟨_,rfl⟩
 have HE3:=hid hE3
 have HK3:=hid hK3
 have HL3:=hid hL3
 have HSL3:Hid (L3.length≤20000∧∀ I ∈ L3,I.R.length≤20000):=by rw [hL3];exact progE_small t'
 clear hE3 hK3 hL3
 obtain ⟨hzb,hti⟩:=HKV7.out V7 (fun _ _ _=>rfl) (Nat.le_refl _)
 obtain ⟨c0,c1,c2,c3,c4,c5,c6,c7,c8⟩:=nine' hzb
 have HC:=compileP hti
 unfold CPostP at HC
 rw [← HE3.out,← HK3.out,← HL3.out] at HC
 clear hzb hti
 go_upto_region 34 with (go_at_call 25;(with_reducible refine HC.mono ?_);rintro e F1 ⟨fa,fn,fc,rfl,hb,hp⟩;have HF1:=hid hb;have HPF:=hid hp;clear hb hp HC)
 clear c0 c1 c2 c3 c4 c5 c6 c7 c8
 obtain ⟨V8,hV⟩:∃ V,V=F1.alloc (.cells #[.slice fa fn fc,.int .i64 0,.int .i64 K3] 46):=⟨_,rfl⟩
 obtain ⟨zN,hz⟩:∃ z,z=F1.heap.size:=⟨_,rfl⟩
 rw [← hV,← hz]
 have HFV:Hid (Below F1.heap.size F1 V8):=by rw [hV];exact Joins.below_alloc1 F1 _
 have HZN:Hid (PBx V8 zN fa fn fc K3):=by rw [hV,hz];exact heap_alloc_new F1 _
 clear hV hz
 have H78:Hid (Below V7.heap.size V7 V8):=HF1.out.trans (Joins.below_le HFV.out HF1.out.size)
 have HT8:Hid (Below T1.heap.size T1 V8):=HT7.out.trans (Joins.below_le H78.out HT7.out.size)
 have HKN:Hid (∀ W,Below V8.heap.size V8 W→PBx W zN fa fn fc K3∧PI W W.heap.size fa fn L3):=fun W h=>⟨(h.block zN (lt_of_block HZN.out)).trans HZN.out,HPF.out W (fun b _ h2=>(h.block b (by have:=HFV.out.size;omega)).trans (HFV.out.block b h2)) (by have:=HFV.out.size;have:=h.size;omega)⟩
 clear HZN HPF HF1 HFV
 obtain ⟨_,_,_,_,hzb,htl⟩:=HKT.out V8 HT8.out
 obtain ⟨c0,c1,c2,c3,c4,c5,c6,c7,c8⟩:=nine' hzb
 have HC:=compileO htl.ti
 unfold CPostO at HC
 rw [← HE3.out,← HK3.out,← HL3.out] at HC
 clear hzb htl
 go_upto_region 35 with (go_at_call 24;(with_reducible refine HC.mono ?_);rintro e G1 ⟨pd,nd,cd,id,rfl,hb,hg⟩;have HBX:=hid hb;have HGd:=hid hg;clear hb hg HC)
 clear c0 c1 c2 c3 c4 c5 c6 c7 c8
 obtain ⟨V9,hV⟩:∃ V,V=G1.alloc (.cells #[.slice pd nd cd,.int .i64 0,.int .i64 K3] 46):=⟨_,rfl⟩
 obtain ⟨zD,hz⟩:∃ z,z=G1.heap.size:=⟨_,rfl⟩
 rw [← hV,← hz]
 have H89:Hid (Below V8.heap.size V8 V9):=by rw [hV];exact HBX.out.alloc HBX.out.size _
 have HZD:Hid (PBx V9 zD pd nd cd K3):=by rw [hV,hz];exact heap_alloc_new G1 _
 have HGD9:Hid (GR V9 V8.heap.size (.slice pd nd cd) id L3):=by rw [hV];exact HGd.out.below (Joins.below_alloc1 G1 _)
 have hnd:nd=fn:=by rw [row_len HGD9.out.row];exact (HKN.out V8 (Below.refl _ _)).2.len.symm
 subst hnd
 clear hV hz HBX HGd
 have HNB3:Hid (nd≤9223372036854775807):=by have:=row_len HGD9.out.row;have:=HSL3.out.1;show nd≤_;omega
 have HK9:Hid (∀ W,Below V9.heap.size V9 W→Below V8.heap.size V8 W∧Below T1.heap.size T1 W∧PBx W zD pd nd cd K3∧GR W V8.heap.size (.slice pd nd cd) id L3):=fun W h=>by
  have h8:=H89.out.trans (Joins.below_le h H89.out.size)
  exact ⟨h8,HT8.out.trans (Joins.below_le h8 HT8.out.size),(h.block zD (lt_of_block HZD.out)).trans HZD.out,HGD9.out.below h⟩
 clear HZD HGD9
 obtain ⟨h8,hT,hzd,hgd⟩:=HK9.out V9 (Below.refl _ _)
 obtain ⟨hzn,hpn⟩:=HKN.out V9 h8
 obtain ⟨m0,m1,m2⟩:=three_cellsM hzd
 obtain ⟨r0,r1,r2⟩:=three_cellsM hzn
 have HC:=same11 (c:=cd) (c':=fc) (s:=0) (k:=K3) (gr_pi hgd) hpn HNB3.out
 clear h8 hT hzd hgd hzn hpn
 go_upto_region 36 with (go_at_call 26;(with_reducible refine HC.mono ?_);rintro e Y1 ⟨rfl,hb⟩;have HY1:=hid hb;clear hb HC)
 clear m0 m1 m2 r0 r1 r2
 obtain ⟨h8,hT,hzd,hgd⟩:=HK9.out Y1 HY1.out
 obtain ⟨_,⟨hzw,hpw⟩,⟨hza,hga⟩,_,_,_⟩:=HKT.out Y1 hT
 obtain ⟨m0,m1,m2⟩:=three_cellsM hza
 obtain ⟨r0,r1,r2⟩:=three_cellsM hzw
 have HC:=same11 (c:=ca) (c':=wc_) (s:=0) (k:=K) (gr_pi hga) hpw HNB.out
 clear h8 hT hzd hgd hzw hpw hza hga
 go_upto_region 37 with (go_at_call 26;(with_reducible refine HC.mono ?_);rintro e Y2 ⟨rfl,hb⟩;have HY2:=hid (HY1.out.trans (Joins.below_le hb HY1.out.size));clear hb HC)
 clear m0 m1 m2 r0 r1 r2 HY1
 obtain ⟨Y3,hV⟩:∃ V,V=Y2.alloc (.cells #[.slice pa na ca,.int .i64 0,.int .i64 K,.slice pc na cc,.int .i64 0,.int .i64 K,.slice pd nd cd,.int .i64 0,.int .i64 K3] 46):=⟨_,rfl⟩
 obtain ⟨g,hg⟩:∃ g,g=Y2.heap.size:=⟨_,rfl⟩
 have H93:Hid (Below V9.heap.size V9 Y3):=by rw [hV];exact HY2.out.alloc HY2.out.size _
 have HGG:Hid (Y3.cell? ⟨g,0 * 3,none⟩=some (.slice pa na ca)∧Y3.cell? ⟨g,1 * 3,none⟩=some (.slice pc na cc)∧Y3.cell? ⟨g,2 * 3,none⟩=some (.slice pd nd cd)):=by rw [hV,hg];exact nine_cellsP (heap_alloc_new Y2 _)
 have HGL:Hid (g < Y3.heap.size):=by show g < Y3.heap.size;rw [hV,hg];simp
 obtain ⟨_,hT,_,hgd⟩:=HK9.out Y3 H93.out
 obtain ⟨_,_,⟨_,hga⟩,⟨_,hgc⟩,hzb,htl⟩:=HKT.out Y3 hT
 have HC:=own27P (g:=g) hga hgc hgd HTA.out HTC.out (by have:=HSZ2.out;omega) (by have:=HSZ2.out;omega) (by have:=HSZ2.out;have:=HT8.out.size;omega) (by have:=HSZ2.out;omega) HGL.out HSL.out HSL3.out HGG.out.1 HGG.out.2.1 HGG.out.2.2
 have HTY:=hid hT
 clear hga hgc hgd hT hzb htl
 rw [hV,hg] at HC
 obtain ⟨hY8,hYT,hzd2,_⟩:=HK9.out Y2 HY2.out
 obtain ⟨_,_,⟨hza2,_⟩,⟨hzc2,_⟩,_,_⟩:=HKT.out Y2 hYT
 obtain ⟨m0,m1,m2⟩:=three_cellsM hza2
 obtain ⟨r0,r1,r2⟩:=three_cellsM hzc2
 obtain ⟨s0,s1,s2⟩:=three_cellsM hzd2
 clear hY8 hYT hzd2 hza2 hzc2
 go_upto_region 38 with (go_at_call 27;(with_reducible refine HC.mono ?_);rintro e Y4 ⟨rfl,hb⟩;rw [← hV] at hb;have HCY:=hid hb;clear hb HC)
 clear m0 m1 m2 r0 r1 r2 s0 s1 s2 hV hg
 have HKY:Hid (∀ b,b < Y3.heap.size→(b < o1∨(V5.heap.size≤b∧b < V8.heap.size))→Y4.heap[b]?=Y3.heap[b]?):=fun b h1 h2=>HCY.out.block b h1 (by
  have:=HSZ2.out
  rintro (h | h | h)
  ·omega
  ·omega
  ·have:=H78.out.size;have:=HT7.out.size;omega)
 obtain ⟨hW3,_,_,_,hzb3,htl3⟩:=HKT.out Y3 HTY.out
 have hs78:V7.heap.size≤V8.heap.size:=H78.out.size
 have hs8Y:V8.heap.size≤Y3.heap.size:=by have:=H89.out.size;have:=H93.out.size;omega
 have hsT7:T1.heap.size≤V7.heap.size:=HT7.out.size
 have hzb4:BNo Y4 z Mi:=(HKY.out z (by have:=HSZ2.out;omega) (.inl HSZ2.out.1)).trans hzb3
 have htl4:TL Y4 Mi t' Ai:=htl3.kept (fun b hb=>HKY.out b (htl3.low b hb) (.inl (by have:=HAZ.out b hb;have:=HSZ2.out;omega)))
 obtain ⟨hzt4,hti4⟩:=HKV7.out Y4 (fun b h1 h2=>(HKY.out b (by omega) (.inr ⟨by have:=HSZ2.out;omega,by omega⟩)).trans (((H89.out.trans (Joins.below_le H93.out H89.out.size)).block b (by omega)).trans (H78.out.block b h2))) (by have:=HCY.out.size;omega)
 have HWY:Hid (Below w.heap.size w Y4):=⟨HCY.out.os.trans hW3.os,HCY.out.tape.trans hW3.tape,HCY.out.output.trans hW3.output,Nat.le_trans hW3.size HCY.out.size,fun b hb=>(HKY.out b (by have:=hW3.size;omega) (.inl (by have:=HSZ2.out;omega))).trans (hW3.block b hb)⟩
 obtain ⟨c0,c1,c2,c3,c4,c5,c6,c7,c8⟩:=nine' hzb4
 obtain ⟨d0,d1,d2,d3,d4,d5,d6,d7,d8⟩:=nine' hzt4
 have HC:=same13 htl4.ti hti4
 clear hW3 hzb3 htl3 hzb4 htl4 hzt4 hti4 hs78 hs8Y hsT7
 have k1:(E3 == E3)=true:=by simp
 go_upto_region 39 with (go_at_call 16;(with_reducible refine HC.mono ?_);rintro e Y5 ⟨rfl,hb⟩;have HY5:=hid hb;clear hb HC)
 clear c0 c1 c2 c3 c4 c5 c6 c7 c8 d0 d1 d2 d3 d4 d5 d6 d7 d8
 go_wp2
 all_goals go_ret
 all_goals exact ⟨rfl,HWY.out.trans (Joins.below_le HY5.out HWY.out.size)⟩
theorem pcomp4 {w:World} {N N2:Nv} {t u:Tn} (h:TI w w.heap.size N t) (h2:TI w w.heap.size N2 u) (hsm:t.small=true) (hsm2:u.small=true) :
  Calls Tryz.prog 4 #[N.v,N2.v] w fun e w'=>e=.returned (.bool true)∧Below w.heap.size w w':=by
 by_cases hu:200000 < u.nodes
 ·exact pcomp4_huge h h2 hsm hsm2 hu
 ·exact pcomp4_small h h2 hsm hsm2 (by omega)
end Go.Proofs.YtacaanhnlfpbhaaGreat
