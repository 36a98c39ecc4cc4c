/- HELPERS: texts of ours put together. -/
import Derived.Test.YtacaanhnlfpbhaaGreatK29
namespace Go.Proofs.YtacaanhnlfpbhaaGreat
open Go.RowKit
set_option linter.unusedVariables false
set_option linter.unusedSimpArgs false
structure RK (w:World) (z:Nat) (N:Nv) (r:R7) (wq:World):Prop where
 hz:z=w.heap.size
 node:BN wq z N
 res:B4 wq (z + 1) ⟨0,0,0,0⟩
 row:BRs wq (z + 1 + 1) r
 below:Below z w wq
theorem RK.size {w:World} {z:Nat} {N:Nv} {r:R7} {wq:World} (h:RK w z N r wq):z + 1 + 1 < wq.heap.size:=(Array.getElem?_eq_some_iff.1 h.row).1
theorem RK.low {w:World} {z:Nat} {N:Nv} {r:R7} {wq w':World} (h:RK w z N r wq) (hb:Below (z + 1 + 1 + 1) wq w'):RK w z N r w':=
 ⟨h.hz,(hb.block _ (by omega)).trans h.node,(hb.block _ (by omega)).trans h.res,(hb.block _ (by omega)).trans h.row,h.below.trans (Joins.below_le hb (by omega))⟩
theorem RK.chg {w:World} {z:Nat} {N:Nv} {r r':R7} {wq w':World} (h:RK w z N r wq) (hc:Chg wq w' [z + 1 + 1] [z + 1 + 1]) (hr:BRs w' (z + 1 + 1) r'):RK w z N r' w':=by
 have hs:=h.size
 exact ⟨h.hz,(hc.block _ (by omega) (by simp;omega)).trans h.node,(hc.block _ (by omega) (by simp)).trans h.res,hr,h.below.trans (hc.below (by omega) (by simp;omega))⟩
theorem ones_take (ts:List Tn) (i:Nat) (h:i < ts.length):ones (SL (ts.take (i + 1)))=ones (SL (ts.take i)) ++ [((ts[i]).S,1)]:=by
 rw [SL_map,SL_map,List.take_succ_eq_append_getElem h]
 simp only [ones,List.map_append,List.map_cons,List.map_nil]
theorem take_deep {ts:List Tn} {M:Nat} (h:∀ i (hi:i < ts.length),(ts[i]).S.depth≤M) (n:Nat):∀ x ∈ ones (SL (ts.take n)),x.1.depth≤M:=fun x hx=>by
 obtain ⟨u,hu,rfl⟩:=List.mem_map.1 hx
 rw [SL_map] at hu
 obtain ⟨v,hv,rfl⟩:=List.mem_map.1 hu
 obtain ⟨j,hj,rfl⟩:=List.getElem_of_mem (List.mem_of_mem_take hv)
 exact h j hj
theorem take_nf {ts:List Tn} (h:∀ i (hi:i < ts.length),Nf (ts[i]).S) (n:Nat):∀ x ∈ ones (SL (ts.take n)),Nf x.1:=fun x hx=>by
 obtain ⟨u,hu,rfl⟩:=List.mem_map.1 hx
 rw [SL_map] at hu
 obtain ⟨v,hv,rfl⟩:=List.mem_map.1 hu
 obtain ⟨j,hj,rfl⟩:=List.getElem_of_mem (List.mem_of_mem_take hv)
 exact h j hj
theorem sum_group (y:Tn) (ix:Int) (nm:ByteArray):sumOf 1099511627776 (.mk 7 [] 0 [y] 0 0 false ix nm)=⟨7,min ((sumOf 1099511627776 y).n + 1) 1099511627776,1,(sumOf 1099511627776 y).d + 1⟩:=by
 have h1:(Tn.mk 7 [] 0 [y] 0 0 false ix nm).nodes=y.nodes + 1:=by simp [Tn.nodes,nodesL];omega
 have h2:(Tn.mk 7 [] 0 [y] 0 0 false ix nm).depth=y.depth + 1:=by simp [Tn.depth,depthL];omega
 unfold sumOf
 rw [h1,h2]
 simp only [Tn.kind,Tn.subs,List.length_cons,List.length_nil]
 congr 1 <;> omega
set_option maxRecDepth 100000 in
set_option maxHeartbeats 8000000 in
theorem reckon50 {w0:World} {B:Nat} {N:Nv} {t:Tn} (h:TI w0 B N t):t.fine=true→t.depth≤100000→∀ (w:World),B≤w.heap.size→(∀ b,b < B→w.heap[b]?=w0.heap[b]?) →
  Calls Tryz.prog 96 #[N.v] w fun e w'=>e=.returned (S4.v (sumOf 1099511627776 t.S))∧Below w.heap.size w w':=by
 induction h with
 | @mk N R ts ND ok hr hR hRk hs hS hk ih =>
 intro hf hdp w hB hw
 have hdS:(Tn.mk N.k R N.a2 ts N.a4 N.a5 N.a6 N.a7 N.a8).depth=1 + depthL ts:=by simp only [Tn.depth]
 rw [hdS] at hdp
 simp only [Tn.fine,Bool.and_eq_true] at hf
 have hfk:=fine_kind hf.1
 have ihS:∀ i (hi:i < ts.length),∀ w1:World,B≤w1.heap.size→(∀ b,b < B→w1.heap[b]?=w0.heap[b]?)→Calls Tryz.prog 96 #[(ND i).v] w1 fun e w'=>e=.returned (S4.v (sumOf 1099511627776 (ts[i]).S))∧Below w1.heap.size w1 w':=fun i hi =>
  ih i hi (fineL_get hf.2 i hi) (by have:=depthL_mem (List.getElem_mem hi);omega)
 have hSd:∀ i (hi:i < ts.length),(ts[i]).S.depth≤1000000000:=fun i hi=>by
  have:=S_depth ts[i] (fineL_get hf.2 i hi)
  have:=depthL_mem (List.getElem_mem hi)
  omega
 have hNf:∀ i (hi:i < ts.length),Nf (ts[i]).S:=fun i hi=>nf_S _ (fineL_get hf.2 i hi)
 have hm2:N.s2≤9223372036854775807:=by have:=ok.s;have:maxLen=9223372036854775807:=rfl;omega
 obtain ⟨k,r1,r2,r3,a2,s1,s2,s3,a4,a5,a6,a7,a8⟩:=N
 dsimp only at hs hS hfk hr hm2 ⊢
 obtain ⟨W,hW⟩:∃ W,W=(w.alloc (.cells #[.int .i64 k,.slice r1 r2 r3,.int .i64 a2,.slice s1 s2 s3,.int .i64 a4,.int .i64 a5,.bool a6,.int .i64 a7,.string a8] 25)).alloc (.cells #[.int .i64 0,.int .i64 0,.int .i64 0,.int .i64 0] 156):=⟨_,rfl⟩
 have hBW:Below w.heap.size w W:=by rw [hW];exact below_two' w _ _
 have hSW:W.heap.size=w.heap.size + 1 + 1:=by rw [hW];simp
 have hBN:BN W w.heap.size ⟨k,r1,r2,r3,a2,s1,s2,s3,a4,a5,a6,a7,a8⟩:=by rw [hW];exact (heap_alloc_old _ _ (by simp)).trans (heap_alloc_new w _)
 have hZW:B4 W (w.heap.size + 1) ⟨0,0,0,0⟩:=by rw [hW];exact two_new w _ _ _
 obtain ⟨z,hz⟩:∃ z,z=w.heap.size:=⟨_,rfl⟩
 rw [← hz] at hBN hSW hZW
 have hwW:∀ b,b < B→W.heap[b]?=w0.heap[b]?:=fun b hb=>(hBW.block b (by omega)).trans (hw b hb)
 obtain ⟨q0,q1,q2,q3,q4,q5,q6,q7,q8⟩:=nine' hBN
 have hsub:0 < s2→∃ b o,s1=some ⟨b,o,none⟩∧b < B∧∀ i,i < s2→N9 w0 b o i (ND i):=fun hp=>by
  obtain ⟨b,o,h1,h2,h3⟩:=hS (by omega)
  exact ⟨b,o,h1,by omega,fun i hi=>h3 i (by omega)⟩
 have HBN:=hid hBN
 have HBW:=hid hBW
 have HSW:=hid hSW
 have HZW:=hid hZW
 have HZ:=hid hz
 have HWW:=hid hwW
 have HIS:=hid ihS
 have HSD:=hid hSd
 have HNF:=hid hNf
 have HSUB:=hid hsub
 have HL:=hid hs
 have HBB:=hid hB
 have HFK:=hid hfk
 have HW0:=hid hw
 clear hw hBN hBW hSW hZW hwW ihS hSd hNf hsub ok hr hs hR hRk hS hk ih hf hdp hdS hfk hB
 by_cases k7:k=7
 ·subst k7
  have hlt:0 < ts.length:=by have:=HFK.out;have:=HL.out;omega
  have hSS:(Tn.mk 7 R a2 ts a4 a5 a6 a7 a8).S=.mk 7 [] 0 [(ts[0]'hlt).S] 0 0 false a7 a8:=by simp only [Tn.S];rw [if_neg (by decide),if_neg (by decide),if_neg (by decide),if_pos trivial,SL_head hlt]
  rw [hSS]
  clear hSS
  have hfk:s2=1:=by have:=HFK.out;have:=HL.out;omega
  obtain ⟨b,o,hs1,hbl,h9⟩:=HSUB.out (by omega)
  subst hs1 hfk
  have hM:=h9 0 (by omega)
  obtain ⟨M,hMe⟩:∃ M,M=ND 0:=⟨_,rfl⟩
  rw [← hMe] at hM
  have HME:=hid hMe
  obtain ⟨n0,n1,n2,n3,n4,n5,n6,n7,n8⟩:=hM.kept (HWW.out b hbl)
  simp only [Nat.zero_mul,Nat.add_zero] at n0 n1 n2 n3 n4 n5 n6 n7 n8
  clear h9 hMe hM
  obtain ⟨T,hT⟩:∃ T,T=sumOf 1099511627776 (ts[0]'hlt).S:=⟨_,rfl⟩
  have HC:=HIS.out 0 hlt W (by have:=HBB.out;have:=HSW.out;have:=HZ.out;omega) HWW.out
  rw [← hT,← HME.out] at HC
  have hokT:OkS T:=by rw [hT];exact oks (by have:=HSD.out 0 hlt;omega)
  have HT:=hid hT
  have HOT:=hid hokT
  obtain ⟨RT,hRT⟩:∃ RT,RT=sumOf 1099511627776 (Tn.mk 7 [] 0 [(ts[0]'hlt).S] 0 0 false a7 a8):=⟨_,rfl⟩
  rw [← hRT]
  have HRT:=hid hRT
  clear hT hokT hRT
  go_enter Tryz.func96,Tryz.ntmps96
  go_upto_region 1 with fail
  rw [← hz,← hW]
  clear hW hz
  go_wp2_with (first | (go_at_call 96;(with_reducible refine HC.mono ?_);rintro e w1 ⟨rfl,hb1⟩;have HC2:=over69 7 T w1 HOT.out.n HOT.out.d;rw [show (⟨7,min (T.n + 1) 1099511627776,1,T.d + 1⟩:S4)=RT by rw [HRT.out,sum_group,← HT.out]] at HC2;have hz1:=(hb1.block (z + 1) (by have:=HSW.out;omega)).trans HZW.out;have hn1:=(hb1.block z (by have:=HSW.out;omega)).trans HBN.out;have HZ1:=hid hz1;have HB1:=hid (HBW.out.trans (Joins.below_le hb1 HBW.out.size));clear q0 q1 q2 q3 q4 q5 q6 q7 q8 n0 n1 n2 n3 n4 n5 n6 n7 n8;obtain ⟨q0,q1,q2,q3,q4,q5,q6,q7,q8⟩:=nine' hn1;clear hn1 hz1 hb1 HC) | (go_at_call 139;(with_reducible refine HC2.mono ?_);rintro e w2 ⟨rfl,hb2⟩;have hz2:=(hb2.block (z + 1) (Array.getElem?_eq_some_iff.1 HZ1.out).1).trans HZ1.out;obtain ⟨z0,z1,z2,z3⟩:=four hz2;obtain ⟨f0,f1,f2,f3⟩:=fourF hz2;have HZ2:=hid hz2;have HB2:=hid (HB1.out.trans (Joins.below_le hb2 HB1.out.size));clear hz2 hb2 HC2))
  all_goals
   obtain ⟨y1,y3⟩:=four_end (T:=RT) HZ2.out HB2.out (by have:=HZ.out;omega)
   exact bodyPost_ret (results_cell_row rfl _ _ (z + 1) 156 _ (0,0) _ rfl y1 Tryz.underlying156 rfl (by kernel_rfl)) rfl ⟨rfl,y3⟩
 ·have g7:(k == 7)=false:=by simp [k7]
  by_cases k6:k=6
  ·subst k6
   have hlt:0 < ts.length:=by have:=HFK.out;have:=HL.out;omega
   have hSS:(Tn.mk 6 R a2 ts a4 a5 a6 a7 a8).S=repT (ts[0]'hlt).S a4 a5 a6:=by simp only [Tn.S];rw [if_neg (by decide),if_neg (by decide),if_pos trivial,SL_head hlt]
   rw [hSS]
   clear hSS
   have hfk:s2=1:=by have:=HFK.out;have:=HL.out;omega
   have HF6:Hid (0≤a4∧a4≤1000∧(a5=-1∨a4≤a5∧a5≤1000)):=hid (by have:=HFK.out;have:=HL.out;omega)
   obtain ⟨b,o,hs1,hbl,h9⟩:=HSUB.out (by omega)
   subst hs1 hfk
   have hM:=h9 0 (by omega)
   obtain ⟨M,hMe⟩:∃ M,M=ND 0:=⟨_,rfl⟩
   rw [← hMe] at hM
   have HME:=hid hMe
   obtain ⟨n0,n1,n2,n3,n4,n5,n6,n7,n8⟩:=hM.kept (HWW.out b hbl)
   simp only [Nat.zero_mul,Nat.add_zero] at n0 n1 n2 n3 n4 n5 n6 n7 n8
   have HMM:=hid hM
   clear h9 hMe hM
   obtain ⟨T,hT⟩:∃ T,T=sumOf 1099511627776 (ts[0]'hlt).S:=⟨_,rfl⟩
   have HC:=HIS.out 0 hlt W.drew (by show B≤W.heap.size;have:=HBB.out;have:=HSW.out;have:=HZ.out;omega) HWW.out
   rw [← hT,← HME.out] at HC
   have hokT:OkS T:=by rw [hT];exact oks (by have:=HSD.out 0 hlt;omega)
   have HT:=hid hT
   have HOT:=hid hokT
   obtain ⟨RT,hRT⟩:∃ RT,RT=sumOf 1099511627776 (repT (ts[0]'hlt).S a4 a5 a6):=⟨_,rfl⟩
   rw [← hRT]
   have HRT:=hid hRT
   have hS:∀ w3:World,(∀ k,k < z + 1→w3.heap[k]?=W.heap[k]?)→w3.cell? ⟨z,0,none⟩=some (.int .i64 6)∧w3.cell? ⟨z,1,none⟩=some (.slice r1 r2 r3)∧w3.cell? ⟨z,2,none⟩=some (.int .i64 a2)∧w3.cell? ⟨z,3,none⟩=some (.slice (some ⟨b,o,none⟩) 1 s3)∧w3.cell? ⟨z,4,none⟩=some (.int .i64 a4)∧w3.cell? ⟨z,5,none⟩=some (.int .i64 a5)∧w3.cell? ⟨z,6,none⟩=some (.bool a6)∧w3.cell? ⟨z,7,none⟩=some (.int .i64 a7)∧w3.cell? ⟨z,8,none⟩=some (.string a8)∧w3.cell? ⟨b,o,none⟩=some (.int .i64 M.k)∧w3.cell? ⟨b,o + 1,none⟩=some (.slice M.r1 M.r2 M.r3)∧w3.cell? ⟨b,o + 2,none⟩=some (.int .i64 M.a2)∧w3.cell? ⟨b,o + 3,none⟩=some (.slice M.s1 M.s2 M.s3)∧w3.cell? ⟨b,o + 4,none⟩=some (.int .i64 M.a4)∧w3.cell? ⟨b,o + 5,none⟩=some (.int .i64 M.a5)∧w3.cell? ⟨b,o + 6,none⟩=some (.bool M.a6)∧w3.cell? ⟨b,o + 7,none⟩=some (.int .i64 M.a7)∧w3.cell? ⟨b,o + 8,none⟩=some (.string M.a8):=fun w3 h3=>by
    have hq3:=(h3 z (by omega)).trans HBN.out
    obtain ⟨q0,q1,q2,q3,q4,q5,q6,q7,q8⟩:=nine' hq3
    obtain ⟨n0,n1,n2,n3,n4,n5,n6,n7,n8⟩:=HMM.out.kept ((h3 b (by have:=HBB.out;have:=HZ.out;omega)).trans (HWW.out b hbl))
    simp only [Nat.zero_mul,Nat.add_zero] at n0 n1 n2 n3 n4 n5 n6 n7 n8
    exact ⟨q0,q1,q2,q3,q4,q5,q6,q7,q8,n0,n1,n2,n3,n4,n5,n6,n7,n8⟩
   have HS3:=hid hS
   have HD:=hid (below_drew W)
   clear hT hokT hRT hS n0 n1 n2 n3 n4 n5 n6 n7 n8
   go_enter Tryz.func96,Tryz.ntmps96
   go_upto_region 1 with fail
   rw [← hz,← hW]
   clear hW hz
   go_upto_region 5 with fail
   go_region_held2 (fun w3=>w3.cell? ⟨z,0,none⟩=some (.int .i64 6)∧w3.cell? ⟨z,1,none⟩=some (.slice r1 r2 r3)∧w3.cell? ⟨z,2,none⟩=some (.int .i64 a2)∧w3.cell? ⟨z,3,none⟩=some (.slice (some ⟨b,o,none⟩) 1 s3)∧w3.cell? ⟨z,4,none⟩=some (.int .i64 a4)∧w3.cell? ⟨z,5,none⟩=some (.int .i64 a5)∧w3.cell? ⟨z,6,none⟩=some (.bool a6)∧w3.cell? ⟨z,7,none⟩=some (.int .i64 a7)∧w3.cell? ⟨z,8,none⟩=some (.string a8)∧w3.cell? ⟨b,o,none⟩=some (.int .i64 M.k)∧w3.cell? ⟨b,o + 1,none⟩=some (.slice M.r1 M.r2 M.r3)∧w3.cell? ⟨b,o + 2,none⟩=some (.int .i64 M.a2)∧w3.cell? ⟨b,o + 3,none⟩=some (.slice M.s1 M.s2 M.s3)∧w3.cell? ⟨b,o + 4,none⟩=some (.int .i64 M.a4)∧w3.cell? ⟨b,o + 5,none⟩=some (.int .i64 M.a5)∧w3.cell? ⟨b,o + 6,none⟩=some (.bool M.a6)∧w3.cell? ⟨b,o + 7,none⟩=some (.int .i64 M.a7)∧w3.cell? ⟨b,o + 8,none⟩=some (.string M.a8))
    (first | exact HS3.out _ (fun k hk=>HD.out.block k (by have:=HSW.out;omega)) | exact HS3.out _ (fun k hk=>HB1.out.block k (by have:=HSW.out;omega)) | exact HS3.out _ (fun k hk=>HB2.out.block k (by have:=HSW.out;omega)) | exact HS3.out _ (fun k hk=>((four_set w2 (z + 1) (.int .i64 RT.k) (.int .i64 (RT.n:Int)) (.int .i64 (RT.s:Int)) (.int .i64 (RT.d:Int)) HZ2.out).2.1 k (by omega)).trans (HB2.out.block k (by have:=HSW.out;omega))))
    (first | (go_at_call 96;(with_reducible refine HC.mono ?_);rintro e w1 ⟨rfl,hb1⟩;have HC2:=repeat70 ⟨6,r1,r2,r3,a2,some ⟨b,o,none⟩,1,s3,a4,a5,a6,a7,a8⟩ (ts[0]'hlt).S w1 (HNF.out 0 hlt) (HSD.out 0 hlt) HF6.out.1 HF6.out.2.1 HF6.out.2.2;rw [← HT.out,← HRT.out] at HC2;have HB1:=hid (HD.out.trans (Joins.below_le hb1 HD.out.size));clear hb1 HC) | (go_at_call 140;(with_reducible refine HC2.mono ?_);rintro e w2 ⟨rfl,hb2⟩;have HB2:=hid (HB1.out.trans (Joins.below_le hb2 HB1.out.size));have hz2:=(HB2.out.block (z + 1) (by have:=HSW.out;omega)).trans HZW.out;obtain ⟨c0,c1,c2,c3⟩:=four hz2;obtain ⟨f0,f1,f2,f3⟩:=fourF hz2;have HZ2:=hid hz2;clear hz2 hb2 HC2))
   all_goals
    obtain ⟨y1,y3⟩:=four_end (T:=RT) HZ2.out (HBW.out.trans (Joins.below_le HB2.out HBW.out.size)) (by have:=HZ.out;omega)
    go_wp2
    exact bodyPost_ret (results_cell_row rfl _ _ (z + 1) 156 _ (0,0) _ rfl y1 Tryz.underlying156 rfl (by kernel_rfl)) rfl ⟨rfl,y3⟩
  ·have g6:(k == 6)=false:=by simp [k6]
   by_cases k45:k=4∨k=5
   ·by_cases k4:k=4
    ·subst k4
     have hSS:(Tn.mk 4 R a2 ts a4 a5 a6 a7 a8).S=joinT (ones (SL ts)):=by simp [Tn.S]
     rw [hSS]
     clear hSS k7 k6 k45
     obtain ⟨V,hV⟩:∃ V,V=W.alloc (.cells #[.int .i64 0,.int .i64 0,.int .i64 0,.int .i64 0,.int .i64 0,.int .i64 0,.int .i64 0] 205):=⟨_,rfl⟩
     have hK:RK w z ⟨4,r1,r2,r3,a2,s1,s2,s3,a4,a5,a6,a7,a8⟩ r0 V:=by
      have hz':=HZ.out
      have hsw:=HSW.out
      refine ⟨hz',?_,?_,?_,?_⟩
      ·rw [hV];exact (heap_alloc_old _ _ (by omega)).trans HBN.out
      ·rw [hV];exact (heap_alloc_old _ _ (by omega)).trans HZW.out
      ·rw [hV,← hsw];exact heap_alloc_new W _
      ·rw [hV,hz'];exact HBW.out.trans (Joins.below_le (Joins.below_alloc1 W _) HBW.out.size)
     have HK:=hid hK
     have HV:=hid hV
     have hsW:=HSW.out
     clear hK hV
     go_enter Tryz.func96,Tryz.ntmps96
     go_upto_region 1 with fail
     rw [← hz,← hW]
     clear hW hz
     go_wp2_with fail
     rw [← HV.out]
     clear hsW HBN HZW HBW
     go_loopw [4] (fun v wq=>∃ i:Nat,v=.int .i64 (i:Int)∧i≤s2∧∃ r:R7,Hid (RowOf 1099511627776 (rowS 4 ((ones (SL (ts.take i))).filter keep)) r)∧Hid (RK w z ⟨4,r1,r2,r3,a2,s1,s2,s3,a4,a5,a6,a7,a8⟩ r wq)) (fun v _=>s2 - (intOf v).toNat)
     case atStart=>exact ⟨0,rfl,by omega,r0,hid (by simpa [rowS,SL] using row_none 1099511627776),HK⟩
     case round =>
      obtain ⟨i,rfl,hi,r,HRO,HKI⟩:=hrel
      clear q0 q1 q2 q3 q4 q5 q6 q7 q8
      obtain ⟨q0,q1,q2,q3,q4,q5,q6,q7,q8⟩:=nine' HKI.out.node
      have hokr:OkR r:=okr HRO.out (Nat.le_trans (rowS_dle 4 _ fun x hx=>take_deep HSD.out i x (List.mem_filter.1 hx).1) (by omega:1000000000≤4000000000))
      have HOR:=hid hokr
      clear hokr
      by_cases hil:i < s2
      ·have b1:decide ((i:Int) < (s2:Int))=true:=by simp;omega
       have b2:(i:Int) < (s2:Int):=by omega
       have ad1:IntKind.i64.wrap ((i:Int) + 1)=(i:Int) + 1:=by simp [IntKind.wrap,IntKind.bits,IntKind.signed];omega
       have hlt:i < ts.length:=by have:=HL.out;omega
       obtain ⟨b,o,rfl,hbl,h9⟩:=HSUB.out (by omega)
       have hw0:∀ b,b < B→wr.heap[b]?=w0.heap[b]?:=fun b hb=>(HKI.out.below.block b (by have:=HBB.out;have:=HZ.out;omega)).trans (HW0.out b hb)
       obtain ⟨n0,n1,n2,n3,n4,n5,n6,n7,n8⟩:=(h9 i hil).kept (hw0 b hbl)
       have HC:=HIS.out i hlt wr (by have:=HKI.out.size;have:=HBB.out;have:=HZ.out;omega) hw0
       obtain ⟨T,hT⟩:∃ T,T=sumOf 1099511627776 (ts[i]).S:=⟨_,rfl⟩
       obtain ⟨M,hM⟩:∃ M,M=ND i:=⟨_,rfl⟩
       rw [← hT,← hM] at HC
       rw [← hM] at n0 n1 n2 n3 n4 n5 n6 n7 n8
       have hokT:OkS T:=by rw [hT];exact oks (by have:=HSD.out i hlt;omega)
       have HT:=hid hT
       have HOT:=hid hokT
       clear hT hokT hM h9 hw0
       go_upto_region 13 with (first | (go_at_call 96;(with_reducible refine HC.mono ?_);rintro e w1 ⟨rfl,hb1⟩;have HB1:=hid hb1;clear hb1 HC))
       obtain ⟨X,hX⟩:∃ X,X=w1.alloc (.cells T.c 156):=⟨_,rfl⟩
       obtain ⟨x5,hx5⟩:∃ x5,x5=w1.heap.size:=⟨_,rfl⟩
       rw [← hX,← hx5]
       have hKX:RK w z ⟨4,r1,r2,r3,a2,some ⟨b,o,none⟩,s2,s3,a4,a5,a6,a7,a8⟩ r X:=HKI.out.low (by rw [hX];exact Joins.below_le (HB1.out.trans (Joins.below_le (Joins.below_alloc1 w1 _) HB1.out.size)) (by have:=HKI.out.size;omega))
       have hx5X:B4 X x5 T:=by rw [hX,hx5];exact heap_alloc_new w1 _
       have HCJ:Calls Tryz.prog 141 #[.pointer (some ⟨z + 1 + 1,0,none⟩),T.v,.int .i64 1] X _:=join71 (z + 1 + 1) r T 1 X hKX.row HOR.out HOT.out (by omega)
       have HKX:=hid hKX
       clear q0 q1 q2 q3 q4 q5 q6 q7 q8 n0 n1 n2 n3 n4 n5 n6 n7 n8 hX hx5 HB1 HKI hKX
       obtain ⟨q0,q1,q2,q3,q4,q5,q6,q7,q8⟩:=nine' HKX.out.node
       obtain ⟨z0,z1,z2,z3⟩:=four hx5X
       clear hx5X
       go_wp2_with (first | (go_at_call 141;(with_reducible refine HCJ.mono ?_);rintro e w2 ⟨rfl,hr2,hc2⟩;have HR2:=hid hr2;have HK2:=hid hc2;clear hr2 hc2 HCJ))
       refine ⟨⟨i + 1,by push_cast;rfl,by omega,_,hid ?_,hid (HKX.out.chg HK2.out HR2.out)⟩,by simp [intOf];omega⟩
       rw [HT.out,ones_take ts i hlt]
       exact join_row (by omega) HRO.out (HNF.out i hlt) 1
      ·have b1:decide ((i:Int) < (s2:Int))=false:=by simp;omega
       obtain rfl:i=s2:=by omega
       have HC6:=joined73 (z + 1 + 1) r wr HKI.out.row HOR.out
       have HJ:joinedR 1099511627776 r=sumOf 1099511627776 (joinT (ones (SL ts))):=by
        have h:=HRO.out
        rw [List.take_of_length_le (by have:=HL.out;omega)] at h
        exact joined_sum (by omega) (fun x hx=>take_nf HNF.out ts.length x (by rw [List.take_length];exact hx)) h
       rw [HJ] at HC6
       clear HJ
       obtain ⟨RT,hRT⟩:∃ RT,RT=sumOf 1099511627776 (joinT (ones (SL ts))):=⟨_,rfl⟩
       rw [← hRT] at HC6
       have HRT:=hid hRT
       clear hRT
       go_wp2_with (first | (go_at_call 143;(with_reducible refine HC6.mono ?_);rintro e w6 ⟨rfl,hb6⟩;have hK6:=HKI.out.low (Joins.below_le hb6 (by have:=HKI.out.size;omega));obtain ⟨z0,z1,z2,z3⟩:=four hK6.res;obtain ⟨f0,f1,f2,f3⟩:=fourF hK6.res;have HK6:=hid hK6;clear hK6 hb6 HC6))
       all_goals
        obtain ⟨y1,y3⟩:=four_end (T:=RT) HK6.out.res HK6.out.below (by omega)
        replace y3:=Joins.below_le y3 (show w.heap.size≤z by have:=HZ.out;omega)
        refine bodyPost_ret (results_cell_row rfl _ _ (z + 1) 156 _ (0,0) _ rfl y1 Tryz.underlying156 rfl (by kernel_rfl)) rfl ⟨?_,y3⟩
        rw [← HRT.out]
    ·obtain rfl:k=5:=by omega
     have hSS:(Tn.mk 5 R a2 ts a4 a5 a6 a7 a8).S=rowT 5 (ones (SL ts)):=by simp [Tn.S]
     rw [hSS]
     clear hSS k7 k6 k45 k4
     obtain ⟨V,hV⟩:∃ V,V=W.alloc (.cells #[.int .i64 0,.int .i64 0,.int .i64 0,.int .i64 0,.int .i64 0,.int .i64 0,.int .i64 0] 205):=⟨_,rfl⟩
     have hK:RK w z ⟨5,r1,r2,r3,a2,s1,s2,s3,a4,a5,a6,a7,a8⟩ r0 V:=by
      have hz':=HZ.out
      have hsw:=HSW.out
      refine ⟨hz',?_,?_,?_,?_⟩
      ·rw [hV];exact (heap_alloc_old _ _ (by omega)).trans HBN.out
      ·rw [hV];exact (heap_alloc_old _ _ (by omega)).trans HZW.out
      ·rw [hV,← hsw];exact heap_alloc_new W _
      ·rw [hV,hz'];exact HBW.out.trans (Joins.below_le (Joins.below_alloc1 W _) HBW.out.size)
     have HK:=hid hK
     have HV:=hid hV
     have hsW:=HSW.out
     clear hK hV
     go_enter Tryz.func96,Tryz.ntmps96
     go_upto_region 1 with fail
     rw [← hz,← hW]
     clear hW hz
     go_wp2_with fail
     rw [← HV.out]
     clear hsW HBN HZW HBW
     go_loopw [4] (fun v wq=>∃ i:Nat,v=.int .i64 (i:Int)∧i≤s2∧∃ r:R7,Hid (RowOf 1099511627776 (rowS 5 (ones (SL (ts.take i)))) r)∧Hid (RK w z ⟨5,r1,r2,r3,a2,s1,s2,s3,a4,a5,a6,a7,a8⟩ r wq)) (fun v _=>s2 - (intOf v).toNat)
     case atStart=>exact ⟨0,rfl,by omega,r0,hid (by simpa [rowS,SL] using row_none 1099511627776),HK⟩
     case round =>
      obtain ⟨i,rfl,hi,r,HRO,HKI⟩:=hrel
      clear q0 q1 q2 q3 q4 q5 q6 q7 q8
      obtain ⟨q0,q1,q2,q3,q4,q5,q6,q7,q8⟩:=nine' HKI.out.node
      have hokr:OkR r:=okr HRO.out (Nat.le_trans (rowS_dle 5 _ (take_deep HSD.out i)) (by omega:1000000000≤4000000000))
      have HOR:=hid hokr
      clear hokr
      by_cases hil:i < s2
      ·have b1:decide ((i:Int) < (s2:Int))=true:=by simp;omega
       have b2:(i:Int) < (s2:Int):=by omega
       have ad1:IntKind.i64.wrap ((i:Int) + 1)=(i:Int) + 1:=by simp [IntKind.wrap,IntKind.bits,IntKind.signed];omega
       have hlt:i < ts.length:=by have:=HL.out;omega
       obtain ⟨b,o,rfl,hbl,h9⟩:=HSUB.out (by omega)
       have hw0:∀ b,b < B→wr.heap[b]?=w0.heap[b]?:=fun b hb=>(HKI.out.below.block b (by have:=HBB.out;have:=HZ.out;omega)).trans (HW0.out b hb)
       obtain ⟨n0,n1,n2,n3,n4,n5,n6,n7,n8⟩:=(h9 i hil).kept (hw0 b hbl)
       have HC:=HIS.out i hlt wr (by have:=HKI.out.size;have:=HBB.out;have:=HZ.out;omega) hw0
       obtain ⟨T,hT⟩:∃ T,T=sumOf 1099511627776 (ts[i]).S:=⟨_,rfl⟩
       obtain ⟨M,hM⟩:∃ M,M=ND i:=⟨_,rfl⟩
       rw [← hT,← hM] at HC
       rw [← hM] at n0 n1 n2 n3 n4 n5 n6 n7 n8
       have hokT:OkS T:=by rw [hT];exact oks (by have:=HSD.out i hlt;omega)
       have HT:=hid hT
       have HOT:=hid hokT
       clear hT hokT hM h9 hw0
       go_upto_region 13 with (first | (go_at_call 96;(with_reducible refine HC.mono ?_);rintro e w1 ⟨rfl,hb1⟩;have HB1:=hid hb1;clear hb1 HC))
       obtain ⟨X,hX⟩:∃ X,X=w1.alloc (.cells T.c 156):=⟨_,rfl⟩
       obtain ⟨x5,hx5⟩:∃ x5,x5=w1.heap.size:=⟨_,rfl⟩
       rw [← hX,← hx5]
       have hKX:RK w z ⟨5,r1,r2,r3,a2,some ⟨b,o,none⟩,s2,s3,a4,a5,a6,a7,a8⟩ r X:=HKI.out.low (by rw [hX];exact Joins.below_le (HB1.out.trans (Joins.below_le (Joins.below_alloc1 w1 _) HB1.out.size)) (by have:=HKI.out.size;omega))
       have hx5X:B4 X x5 T:=by rw [hX,hx5];exact heap_alloc_new w1 _
       have HCJ:Calls Tryz.prog 142 #[.pointer (some ⟨z + 1 + 1,0,none⟩),T.v,.int .i64 1,.int .i64 5] X _:=add72 (z + 1 + 1) r T 1 5 X hKX.row HOR.out HOT.out (by omega)
       have HKX:=hid hKX
       clear q0 q1 q2 q3 q4 q5 q6 q7 q8 n0 n1 n2 n3 n4 n5 n6 n7 n8 hX hx5 HB1 HKI hKX
       obtain ⟨q0,q1,q2,q3,q4,q5,q6,q7,q8⟩:=nine' HKX.out.node
       obtain ⟨z0,z1,z2,z3⟩:=four hx5X
       clear hx5X
       go_wp2_with (first | (go_at_call 142;(with_reducible refine HCJ.mono ?_);rintro e w2 ⟨rfl,hr2,hc2⟩;have HR2:=hid hr2;have HK2:=hid hc2;clear hr2 hc2 HCJ))
       refine ⟨⟨i + 1,by push_cast;rfl,by omega,_,hid ?_,hid (HKX.out.chg HK2.out HR2.out)⟩,by simp [intOf];omega⟩
       rw [HT.out,ones_take ts i hlt]
       rw [rowS_append]
       have h:=add_row (by omega) HRO.out (HNF.out i hlt) 1 (k:=5) (.inr rfl)
       simpa [rowS] using h
      ·have b1:decide ((i:Int) < (s2:Int))=false:=by simp;omega
       obtain rfl:i=s2:=by omega
       obtain ⟨rs,rn,rd,rl⟩:=r
       have hRT:sumOf 1099511627776 (rowT 5 (ones (SL ts)))=⟨5,min (rn + 1) 1099511627776,rs,rd + 1⟩:=by
        have h:=HRO.out
        rw [List.take_of_length_le (by have:=HL.out;omega)] at h
        have e1:=h.s
        have e2:=h.n.2
        have e3:=h.d
        dsimp only at e1 e2 e3
        unfold sumOf
        rw [rowT_nodes,rowT_depth]
        have e4:(rowT 5 (ones (SL ts))).subs=rowS 5 (ones (SL ts)):=rfl
        rw [e4]
        have e5:(rowT 5 (ones (SL ts))).kind=5:=rfl
        rw [e5]
        congr 1 <;> omega
       have hor:=HOR.out
       have o1:=hor.s
       have o2:=hor.n
       have o3:=hor.d
       dsimp only at o1 o2 o3
       have w1:IntKind.i64.wrap ((rn:Int) + 1)=(rn:Int) + 1:=by simp [IntKind.wrap,IntKind.bits,IntKind.signed];omega
       have w2:IntKind.i64.wrap ((rd:Int) + 1)=(rd:Int) + 1:=by simp [IntKind.wrap,IntKind.bits,IntKind.signed];omega
       have c0:=Joins.cell_of_block HKI.out.row 0
       have c1:=Joins.cell_of_block HKI.out.row 1
       have c2:=Joins.cell_of_block HKI.out.row 2
       obtain ⟨z0,z1,z2,z3⟩:=four HKI.out.res
       obtain ⟨f0,f1,f2,f3⟩:=fourF HKI.out.res
       have hmm:((min (rn + 1) 1099511627776:Nat):Int)=min ((rn:Int) + 1) 1099511627776:=by omega
       obtain ⟨mn,hmn⟩:∃ mn:Nat,mn=min (rn + 1) 1099511627776:=⟨_,rfl⟩
       rw [← hmn] at hRT hmm
       have hm':=hmm.symm
       have HRT:=hid hRT
       have HMN:=hid hmn
       clear hRT hor hmm hmn
       go_wp2
       go_region
       all_goals go_wp2
       all_goals
        obtain ⟨y1,y2,y3⟩:=four_set wr (z + 1) (.int .i64 5) (.int .i64 (mn:Int)) (.int .i64 (rs:Int)) (.int .i64 ((rd:Int) + 1)) HKI.out.res
        have hb:=y3 _ _ HKI.out.below (by omega)
        have hb2:Below w.heap.size w ((((wr.setCell ⟨z + 1,0,none⟩ (.int .i64 5)).setCell ⟨z + 1,1,none⟩ (.int .i64 (mn:Int))).setCell ⟨z + 1,2,none⟩ (.int .i64 (rs:Int))).setCell ⟨z + 1,3,none⟩ (.int .i64 ((rd:Int) + 1))).drew:=Joins.below_le ⟨hb.os,hb.tape,hb.output,hb.size,hb.block⟩ (show w.heap.size≤z by have:=HZ.out;omega)
        have y1':((((wr.setCell ⟨z + 1,0,none⟩ (.int .i64 5)).setCell ⟨z + 1,1,none⟩ (.int .i64 (mn:Int))).setCell ⟨z + 1,2,none⟩ (.int .i64 (rs:Int))).setCell ⟨z + 1,3,none⟩ (.int .i64 ((rd:Int) + 1))).drew.heap[z + 1]?=some (.cells #[.int .i64 5,.int .i64 (mn:Int),.int .i64 (rs:Int),.int .i64 ((rd:Int) + 1)] 156 (0,0)):=y1
        generalize ((((wr.setCell ⟨z + 1,0,none⟩ (.int .i64 5)).setCell ⟨z + 1,1,none⟩ (.int .i64 (mn:Int))).setCell ⟨z + 1,2,none⟩ (.int .i64 (rs:Int))).setCell ⟨z + 1,3,none⟩ (.int .i64 ((rd:Int) + 1))).drew=U at hb2 y1' ⊢
        refine bodyPost_ret (results_cell_row rfl _ _ (z + 1) 156 _ (0,0) _ rfl y1' Tryz.underlying156 rfl (by kernel_rfl)) rfl ⟨?_,hb2⟩
        rw [HRT.out]
        rfl
   ·have g4:(k == 4)=false:=by simp;omega
    have g5:(k == 5)=false:=by simp;omega
    have hSS:(Tn.mk k R a2 ts a4 a5 a6 a7 a8).S=.mk k R a2 [] a4 a5 a6 a7 a8:=by simp only [Tn.S];rw [if_neg (by omega),if_neg (by omega),if_neg k6,if_neg k7]
    have hRT:sumOf 1099511627776 (Tn.mk k R a2 [] a4 a5 a6 a7 a8)=⟨k,1,0,1⟩:=by simp [sumOf,Tn.nodes,nodesL,Tn.depth,depthL,Tn.kind,Tn.subs]
    rw [hSS,hRT]
    obtain ⟨c0,c1,c2,c3⟩:=four HZW.out
    obtain ⟨f0,f1,f2,f3⟩:=fourF HZW.out
    clear hSS hRT k7 k6 k45
    go_enter Tryz.func96,Tryz.ntmps96
    go_upto_region 1 with fail
    rw [← hz,← hW]
    clear hW hz
    go_wp2
    all_goals
     obtain ⟨y1,y3⟩:=four_end (T:=⟨k,1,0,1⟩) HZW.out HBW.out (by have:=HZ.out;omega)
     exact bodyPost_ret (results_cell_row rfl _ _ (z + 1) 156 _ (0,0) _ rfl y1 Tryz.underlying156 rfl (by kernel_rfl)) rfl ⟨rfl,y3⟩
end Go.Proofs.YtacaanhnlfpbhaaGreat
