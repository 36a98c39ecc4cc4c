/- HELPERS: texts of ours put together. -/
import Derived.Test.YtacaanhnlfpbhaaGreatK27
namespace Go.Proofs.YtacaanhnlfpbhaaGreat
open Go.RowKit
set_option linter.unusedVariables false
set_option linter.unusedSimpArgs false
theorem rep_zero (y:Tn) (lz:Bool):repT y 0 0 lz=emptyT:=by
 unfold repT
 rw [if_pos (by decide)]
 have k0:keep (y,0)=false:=by simp [keep]
 have k1:keep (emptyT,1)=false:=by simp [keep,Tn.kind]
 simp only [show ((0:Int) - 0).toNat=0 from rfl,show (0:Int).toNat=0 from rfl,optT,joinT,List.filter_cons,List.filter_nil,k0,k1,Bool.false_eq_true,if_false]
 rfl
theorem joinT_one {o:Tn} (ho:Nf o) (hk:o.kind≠1) (h4:o.kind≠4):joinT (ones [o])=o:=by
 rw [joinT_jn (by simpa using ho)]
 simp [jn,within,hk,h4,joinU]
theorem rep_inf {y:Tn} (hy:Nf y) (p:Nat) (lz:Bool):repT y (p:Int) (-1) lz=joinT (ones (List.replicate (p - 1) y ++ [loopT (min (p:Int) 1) (-1) lz y])):=by
 unfold repT
 rw [if_neg (by decide)]
 by_cases h0:p=0
 ·subst h0
  rw [if_pos (by rfl)]
  exact (joinT_one (.loop (.inr (.inl ⟨rfl,rfl⟩)) hy) (by simp [Tn.kind]) (by simp [Tn.kind])).symm
 ·rw [if_neg (by omega),show min (p:Int) 1=1 by omega,joinT_runs _ hy (.loop (.inr (.inr ⟨rfl,rfl⟩)) hy),show ((p:Int) - 1).toNat=p - 1 by omega]
theorem rep_fin {y:Tn} (hy:Nf y) (p q:Nat) (lz:Bool):repT y (p:Int) ((p + q:Nat):Int) lz=joinT (ones (List.replicate p y ++ [optT y lz q])):=by
 unfold repT
 rw [if_pos (by omega),joinT_runs _ hy (nf_opt lz hy _),show (((p + q:Nat):Int) - (p:Int)).toNat=q by omega,show (p:Int).toNat=p by omega]
theorem rep_snoc (i:Nat) (y:Tn):List.replicate (i + 1) y=List.replicate i y ++ [y]:=List.replicate_succ'
set_option maxRecDepth 100000 in
set_option maxHeartbeats 8000000 in
theorem unfold75_zero {A:Nat→Prop} {w:World} {k a2 a7:Int} {lz:Bool} {a8:ByteArray} {r1 s1:Option Addr} {r2 r3 s2 s3:Nat} {y:Tn} (hA:∀ b,A b→b < w.heap.size):Calls Tryz.prog 145 #[Nv.v ⟨k,r1,r2,r3,a2,s1,s2,s3,0,0,lz,a7,a8⟩] w fun e w'=>∃ M,e=.returned (Nv.v M)∧TP w' (New A w w') M (repT y 0 0 lz)∧Below w.heap.size w w':=by
 rw [rep_zero]
 have HA:=hid hA
 clear hA
 go_enter Tryz.func145,Tryz.ntmps145
 go_wp2
 all_goals
  refine bodyPost_ret (results_cell_row rfl _ _ (w.heap.size + 1) 25 _ (0,0) _ rfl (two_new w _ _ _) Tryz.underlying25 rfl (by kernel_rfl)) rfl ?_
  refine ⟨NK 1,rfl,?_,below_two' w _ _⟩
  exact TP.mk (N:=NK 1) (R:=[]) (ts:=[]) (ND:=fun _=>default) (ok_NO 1 0 0 false 0 ⟨#[]⟩ (by decide) (by decide) (by decide) (by decide) (Nat.zero_le _)) rfl (fun h=>absurd rfl h) (by simp) rfl (fun h=>by simp at h) (fun i hi=>by simp at hi)
set_option maxRecDepth 100000 in
set_option maxHeartbeats 16000000 in
theorem unfold75_inf {A:Nat→Prop} {w:World} {k a2 a7:Int} {lz:Bool} {a8:ByteArray} {r1:Option Addr} {r2 r3 s3 p b o:Nat} {M:Nv} {y:Tn} (hA:∀ b,A b→b < w.heap.size) (hbA:A b) (h9:N9 w b o 0 M) (hs3:1≤s3) (hy:Nf y) (hp:p≤1000)
  (HF:∀ w1,Below w.heap.size w w1→Calls Tryz.prog 97 #[M.v] w1 fun e w'=>∃ Y,e=.returned (Nv.v Y)∧TP w' (New A w1 w') Y y∧Below w1.heap.size w1 w') (hbig:(repT y (p:Int) (-1) lz).nodes≤200000) :
  Calls Tryz.prog 145 #[Nv.v ⟨k,r1,r2,r3,a2,some ⟨b,o,none⟩,1,s3,(p:Int),-1,lz,a7,a8⟩] w fun e w'=>∃ M,e=.returned (Nv.v M)∧TP w' (New A w w') M (repT y (p:Int) (-1) lz)∧Below w.heap.size w w':=by
 rw [rep_inf hy] at hbig ⊢
 obtain ⟨W,hW⟩:∃ W,W=(w.alloc (.cells #[.int .i64 k,.slice r1 r2 r3,.int .i64 a2,.slice (some ⟨b,o,none⟩) 1 s3,.int .i64 (p:Int),.int .i64 (-1),.bool lz,.int .i64 a7,.string a8] 25)).alloc (.cells #[.int .i64 0,.slice none 0 0,.int .i64 0,.slice none 0 0,.int .i64 0,.int .i64 0,.bool false,.int .i64 0,.string ⟨#[]⟩] 25):=⟨_,rfl⟩
 have hBW:Below w.heap.size w W:=by rw [hW];exact below_two' w _ _
 have hSW:W.heap.size=w.heap.size + 1 + 1:=by rw [hW];simp
 have hBN:BN W w.heap.size ⟨k,r1,r2,r3,a2,some ⟨b,o,none⟩,1,s3,(p:Int),-1,lz,a7,a8⟩:=by rw [hW];exact (heap_alloc_old _ _ (by simp)).trans (heap_alloc_new w _)
 have hZW:BN W (w.heap.size + 1) default:=by rw [hW];exact two_new w _ _ _
 obtain ⟨n0,n1,n2,n3,n4,n5,n6,n7,n8⟩:=h9.kept (hBW.block b (hA b hbA))
 simp only [Nat.zero_mul,Nat.add_zero] at n0 n1 n2 n3 n4 n5 n6 n7 n8
 have HC:=HF W hBW
 obtain ⟨z,hz⟩:∃ z,z=w.heap.size:=⟨_,rfl⟩
 rw [← hz] at hBN hSW hZW hA
 obtain ⟨q0,q1,q2,q3,q4,q5,q6,q7,q8⟩:=nine' hBN
 obtain ⟨i0,hi0,hz0,hz1,hz2⟩:=info_parts info25
 obtain ⟨q,hq⟩:∃ q:Nat,max ((p:Int) - 1) 0=(q:Int):=⟨(max ((p:Int) - 1) 0).toNat,by omega⟩
 have hw:IntKind.i64.wrap ((p:Int) - 1)=(p:Int) - 1:=by simp [IntKind.wrap,IntKind.bits,IntKind.signed];omega
 have hqp:p - 1=q:=by omega
 rw [hqp] at hbig ⊢
 have HBN:=hid hBN
 have HBW:=hid hBW
 have HSW:=hid hSW
 have HZW:=hid hZW
 have HZ:=hid hz
 have HA:=hid hA
 have HY:=hid hy
 have HBIG:=hid hbig
 have hq1:q≤1000:=by omega
 clear hBN hBW hSW hZW hA hy hbig HF h9 hqp hbA
 go_enter Tryz.func145,Tryz.ntmps145
 go_upto_region 1 with fail
 rw [← hz,← hW]
 clear hz hW
 go_upto_region 4 with (first | (go_at_call 97;(with_reducible refine HC.mono ?_);rintro e w1 ⟨Y,rfl,hY,hb1⟩;have HTY:=hid hY;have HB1:=hid hb1;clear hY hb1 HC))
 clear q0 q1 q2 q3 q4 q5 q6 q7 q8 n0 n1 n2 n3 n4 n5 n6 n7 n8
 obtain ⟨V,hV⟩:∃ V,V=w1.alloc (.cells #[.int .i64 Y.k,.slice Y.r1 Y.r2 Y.r3,.int .i64 Y.a2,.slice Y.s1 Y.s2 Y.s3,.int .i64 Y.a4,.int .i64 Y.a5,.bool Y.a6,.int .i64 Y.a7,.string Y.a8] 25):=⟨_,rfl⟩
 rw [← hV]
 have hVb:Below w1.heap.size w1 V:=by rw [hV];exact Joins.below_alloc1 w1 _
 have hVs:V.heap.size=w1.heap.size + 1:=by rw [hV];simp
 have hVY:BN V w1.heap.size Y:=by rw [hV];exact heap_alloc_new w1 _
 have hWV:Below W.heap.size W V:=HB1.out.trans (Joins.below_le hVb HB1.out.size)
 have hVN:=(hWV.block z (by have:=HSW.out;omega)).trans HBN.out
 have hVZ:=(hWV.block (z + 1) (by have:=HSW.out;omega)).trans HZW.out
 have hA1:∀ b,New A W w1 b→b < w1.heap.size:=fun b hb=>by
  rcases hb with h | h
  ·have:=HA.out b h;have:=HSW.out;have:=HB1.out.size;omega
  ·exact h.2
 have hTV:TP V (New A W w1) Y y:=HTY.out.kept (fun b hb=>hVb.block b (hA1 b hb)) fun b hb=>hb
 have hA2:∀ b,New A W w1 b→A b∨z + 1 < b:=fun b hb=>by
  rcases hb with h | h
  ·exact .inl h
  ·right;have:=HSW.out;omega
 obtain ⟨zy,hzy⟩:∃ zy,zy=w1.heap.size:=⟨_,rfl⟩
 have hW1:=HB1.out.size
 rw [← hzy] at hVs hVY hA1 hW1 ⊢
 obtain ⟨A1,hAe⟩:∃ A1,A1=New A W w1:=⟨_,rfl⟩
 rw [← hAe] at hTV hA1 hA2
 have HVB:=hid (HBW.out.trans (Joins.below_le hWV HBW.out.size))
 have HVS:=hid hVs
 have HVY:=hid hVY
 have HVN:=hid hVN
 have HVZ:=hid hVZ
 have HA1:=hid hA1
 have HA2:=hid hA2
 have HTV:=hid hTV
 have hzz:z + 1 < zy:=by have:=HSW.out;omega
 clear hV hVb hVs hVY hWV hVN hVZ hA1 hTV hA2 hzy hAe HTY HB1 HBN HBW HSW HZW hW1
 obtain ⟨q0,q1,q2,q3,q4,q5,q6,q7,q8⟩:=nine' HVN.out
 go_wp2_with fail
 go_loopw [4,6] (fun u x wq=>∃ (i:Nat) (u1:Option Addr) (u3:Nat),u=.slice u1 i u3∧x=.int .i64 (i:Int)∧i≤q∧Hid (RG A1 V wq (.slice u1 i u3) (List.replicate i y))) (fun _ x _=>q - (intOf x).toNat)
 case atStart=>exact ⟨0,none,0,rfl,rfl,by omega,by show RG _ _ _ _ _;exact RG.start (fun b hb=>by have:=HA1.out b hb;have:=HVS.out;omega) (Below.refl _ _)⟩
 case round =>
  obtain ⟨i,u1,u3,rfl,rfl,hi,HR⟩:=hrel
  have hbel:Below V.heap.size V wr:=by obtain ⟨MS,A',h⟩:=HR.out;exact h.bel
  have hbs:=hbel.size
  have bN:=(hbel.block z (by have:=HVS.out;omega)).trans HVN.out
  have bY:=(hbel.block zy (by have:=HVS.out;omega)).trans HVY.out
  have hTY:TP wr A1 Y y:=HTV.out.kept (fun b hb=>hbel.block b (by have:=HA1.out b hb;have:=HVS.out;omega)) fun b hb=>hb
  have HTY:=hid hTY
  have HBY:=hid bY
  have HBN:=hid bN
  have HBEL:=hid hbel
  clear q0 q1 q2 q3 q4 q5 q6 q7 q8
  obtain ⟨q0,q1,q2,q3,q4,q5,q6,q7,q8⟩:=nine' bN
  obtain ⟨y0,y1,y2,y3,y4,y5,y6,y7,y8⟩:=nine' bY
  obtain ⟨MS,A',hR⟩:=HR.out
  have hrow:=hR.row
  rw [List.length_replicate] at hrow
  have HR1:=hid hR
  have HROW:=hid hrow
  clear hbel bN bY hTY hR hrow
  by_cases hil:i < q
  ·have b1:decide ((i:Int) < (q:Int))=true:=by simp;omega
   have ad1:IntKind.i64.wrap ((i:Int) + 1)=(i:Int) + 1:=by simp [IntKind.wrap,IntKind.bits,IntKind.signed];omega
   go_wp2_with (first | (at_builtin;refine wpList_append_moveN rfl (.tmp 32) (.tmp 34) 23 rfl V.heap.size 25 i0 Z9 9 112 Tryz.underlying23 hi0 hz0 hz1 hz2 rfl (by decide) (.slice u1 i u3) i (MS.flatMap Nv.cs) rfl (HROW.out.alloc _) ⟨wr.heap.size,0,none⟩ 1 1 (Nv.cs Y) rfl rfl (by decide) (news9 wr Y) (one9 _) (by unfold maxLen;omega) (by omega) (by simp;omega) ?_;intro v' w3 ho3 hm3;obtain ⟨vb,vc,rfl⟩:=Joins.ownsRow_form ho3.out (by omega)))
   refine ⟨⟨i + 1,some ⟨vb,0,none⟩,vc,rfl,by push_cast;rfl,by omega,?_⟩,by simp [intOf];omega⟩
   rw [rep_snoc]
   refine HR1.out.app (A2:=A1) (Below.refl _ _) (news:=[Y]) rfl (fun j hj hj'=>?_) (fun b hb=>.inl hb) (Joins.below_alloc1 wr _) ?_ hm3.out
   ·have e:j=0:=by simpa using hj
    subst e
    exact HTY.out
   ·rw [List.length_replicate];simpa using ho3.out
  ·have b1:decide ((i:Int) < (q:Int))=false:=by simp;omega
   obtain rfl:i=q:=by omega
   obtain ⟨m1,hm1⟩:∃ m1:Int,min (p:Int) 1=m1:=⟨_,rfl⟩
   have HM1:=hid hm1
   have hm1b:0≤m1∧m1≤1:=by omega
   have HC:=loop97 (A:=A1) (Y:=Y) (y:=y) m1 (-1) lz (w:=wr) (by constructor <;> omega) (by decide) (fun b hb=>by have:=HA1.out b hb;have:=HVS.out;omega) HTY.out
   go_upto_region 14 with (first | (go_at_call 212;(with_reducible refine HC.mono ?_);rintro e w2 ⟨L,rfl,hL,hb2⟩;have HL:=hid hL;have HB2:=hid hb2;have hrow2:=HR1.out.rowAt hb2;rw [List.length_replicate] at hrow2;have HROW2:=hid hrow2;have hs2:=hb2.size;clear hL hb2 HC hrow2) | (at_builtin;refine wpList_append_moveN rfl (.tmp 39) (.tmp 47) 23 rfl V.heap.size 25 i0 Z9 9 112 Tryz.underlying23 hi0 hz0 hz1 hz2 rfl (by decide) (.slice u1 i u3) i (MS.flatMap Nv.cs) rfl (HROW2.out.alloc _) ⟨w2.heap.size,0,none⟩ 1 1 (Nv.cs L) rfl rfl (by decide) (news9 w2 L) (one9 _) (by unfold maxLen;omega) (by omega) (by simp;omega) ?_;intro v' w3 ho3 hm3;obtain ⟨vb,vc,rfl⟩:=Joins.ownsRow_form ho3.out (by omega)))
   have hRG:RG A1 V w3 (.slice (some ⟨vb,0,none⟩) (i + 1) vc) (List.replicate i y ++ [loopT m1 (-1) lz y]):=by
    refine HR1.out.app (A2:=New A1 wr w2) HB2.out (news:=[L]) rfl (fun j hj hj'=>?_) (fun b hb=>hb) (Joins.below_alloc1 w2 _) ?_ hm3.out
    ·have e:j=0:=by simpa using hj
     subst e
     exact HL.out
    ·rw [List.length_replicate];simpa using ho3.out
   have hbel3:Below V.heap.size V w3:=by obtain ⟨MS,A',h⟩:=hRG;exact h.bel
   obtain ⟨hLT,hln,hl1,hl2⟩:=hRG.ltr
   have hnf:∀ x ∈ List.replicate i y ++ [loopT m1 (-1) lz y],Nf x:=fun x hx=>by
    rw [List.mem_append,List.mem_replicate] at hx
    rcases hx with h | h
    ·rw [h.2];exact HY.out
    ·rw [List.mem_singleton] at h
     rw [h]
     refine .loop ?_ HY.out
     have:m1=0∨m1=1:=by omega
     rcases this with h | h
     ·exact .inr (.inl ⟨h,rfl⟩)
     ·exact .inr (.inr ⟨h,rfl⟩)
   have hbig:=HBIG.out
   rw [HM1.out] at hbig
   have hA3:∀ b,New A1 V w3 b→b < w3.heap.size:=New.low (fun b hb=>by have:=HA1.out b hb;have:=HVS.out;omega) hbel3.size
   have HC2:=join74 (c:=vc) hA3 hln (by simp;omega) hLT hnf hbig
   have b3Z:=(hbel3.block (z + 1) (by have:=HVS.out;omega)).trans HVZ.out
   have HB3Z:=hid b3Z
   have HB3:=hid hbel3
   clear hRG hLT hl1 hl2 hnf hbig hA3 hbel3 b3Z hln q0 q1 q2 q3 q4 q5 q6 q7 q8 y0 y1 y2 y3 y4 y5 y6 y7 y8
   go_wp2_with (first | (go_at_call 144;(with_reducible refine HC2.mono ?_);rintro e w4 ⟨J,rfl,hJ,hb4⟩;have b4Z:=(hb4.block (z + 1) (Array.getElem?_eq_some_iff.1 HB3Z.out).1).trans HB3Z.out;have HJ:=hid hJ;have HB4:=hid hb4;have HB4Z:=hid b4Z;obtain ⟨q0,q1,q2,q3,q4,q5,q6,q7,q8⟩:=nine' b4Z;have f0:=Joins.unfrozen_of_block b4Z 0;have f1:=Joins.unfrozen_of_block b4Z 1;have f2:=Joins.unfrozen_of_block b4Z 2;have f3:=Joins.unfrozen_of_block b4Z 3;have f4:=Joins.unfrozen_of_block b4Z 4;have f5:=Joins.unfrozen_of_block b4Z 5;have f6:=Joins.unfrozen_of_block b4Z 6;have f7:=Joins.unfrozen_of_block b4Z 7;have f8:=Joins.unfrozen_of_block b4Z 8;clear hJ hb4 b4Z HC2))
   all_goals
    have hzz':=HZ.out
    obtain ⟨y1,y2,y3⟩:=box_end (A:=A) (w:=w) (M:=J) (t:=joinT (ones (List.replicate i y ++ [loopT m1 (-1) lz y]))) (z:=z + 1) (by omega) (fun b hb=>by have:=HA.out b hb;omega) HB4Z.out ((HVB.out.trans (Joins.below_le HB3.out HVB.out.size)).trans (Joins.below_le HB4.out (Nat.le_trans HVB.out.size HB3.out.size))) HJ.out (fun b h=>by
     have hs3:=HB3.out.size
     have hs4:=HB4.out.size
     have hsv:=HVS.out
     rcases h with (h1 | h1) | h1
     ·rcases HA2.out b h1 with h2 | h2
      ·exact .inl h2
      ·have:=HA1.out b h1;exact .inr ⟨by omega,by omega,by omega⟩
     ·exact .inr ⟨by omega,by omega,by omega⟩
     ·exact .inr ⟨by omega,by omega,by omega⟩)
    refine bodyPost_ret (results_cell_row rfl _ _ (z + 1) 25 _ (0,0) _ rfl y1 Tryz.underlying25 rfl (by kernel_rfl)) rfl ⟨J,rfl,?_,y3⟩
    rw [HM1.out]
    exact y2
set_option maxRecDepth 100000 in
set_option maxHeartbeats 16000000 in
theorem unfold75_fin {A:Nat→Prop} {w:World} {k a2 a7:Int} {lz:Bool} {a8:ByteArray} {r1:Option Addr} {r2 r3 s3 p q b o:Nat} {mx:Int} {M:Nv} {y:Tn} (hA:∀ b,A b→b < w.heap.size) (hbA:A b) (h9:N9 w b o 0 M) (hs3:1≤s3) (hy:Nf y) (hp:p≤1000) (hmx:mx=((p + q:Nat):Int)) (hpq:p + q≤1000) (hp0:0 < p + q)
  (HF:∀ w1,Below w.heap.size w w1→Calls Tryz.prog 97 #[M.v] w1 fun e w'=>∃ Y,e=.returned (Nv.v Y)∧TP w' (New A w1 w') Y y∧Below w1.heap.size w1 w') (hbig:(repT y (p:Int) ((p + q:Nat):Int) lz).nodes≤200000) :
  Calls Tryz.prog 145 #[Nv.v ⟨k,r1,r2,r3,a2,some ⟨b,o,none⟩,1,s3,(p:Int),mx,lz,a7,a8⟩] w fun e w'=>∃ M,e=.returned (Nv.v M)∧TP w' (New A w w') M (repT y (p:Int) ((p + q:Nat):Int) lz)∧Below w.heap.size w w':=by
 rw [rep_fin hy] at hbig ⊢
 have g0:(mx == 0)=false:=by simp;omega
 have g1:(mx == -1)=false:=by simp;omega
 have hw:IntKind.i64.wrap (mx - (p:Int))=(q:Int):=by simp [IntKind.wrap,IntKind.bits,IntKind.signed];omega
 obtain ⟨W,hW⟩:∃ W,W=(w.alloc (.cells #[.int .i64 k,.slice r1 r2 r3,.int .i64 a2,.slice (some ⟨b,o,none⟩) 1 s3,.int .i64 (p:Int),.int .i64 mx,.bool lz,.int .i64 a7,.string a8] 25)).alloc (.cells #[.int .i64 0,.slice none 0 0,.int .i64 0,.slice none 0 0,.int .i64 0,.int .i64 0,.bool false,.int .i64 0,.string ⟨#[]⟩] 25):=⟨_,rfl⟩
 have hBW:Below w.heap.size w W:=by rw [hW];exact below_two' w _ _
 have hSW:W.heap.size=w.heap.size + 1 + 1:=by rw [hW];simp
 have hBN:BN W w.heap.size ⟨k,r1,r2,r3,a2,some ⟨b,o,none⟩,1,s3,(p:Int),mx,lz,a7,a8⟩:=by rw [hW];exact (heap_alloc_old _ _ (by simp)).trans (heap_alloc_new w _)
 have hZW:BN W (w.heap.size + 1) default:=by rw [hW];exact two_new w _ _ _
 obtain ⟨n0,n1,n2,n3,n4,n5,n6,n7,n8⟩:=h9.kept (hBW.block b (hA b hbA))
 simp only [Nat.zero_mul,Nat.add_zero] at n0 n1 n2 n3 n4 n5 n6 n7 n8
 have HC:=HF W hBW
 obtain ⟨z,hz⟩:∃ z,z=w.heap.size:=⟨_,rfl⟩
 rw [← hz] at hBN hSW hZW hA
 obtain ⟨q0,q1,q2,q3,q4,q5,q6,q7,q8⟩:=nine' hBN
 obtain ⟨i0,hi0,hz0,hz1,hz2⟩:=info_parts info25
 have HBN:=hid hBN
 have HBW:=hid hBW
 have HSW:=hid hSW
 have HZW:=hid hZW
 have HZ:=hid hz
 have HA:=hid hA
 have HY:=hid hy
 have HBIG:=hid hbig
 have hq1:q≤1000:=by omega
 clear hBN hBW hSW hZW hA hy hbig HF h9 hbA hmx hp0
 go_enter Tryz.func145,Tryz.ntmps145
 go_upto_region 1 with fail
 rw [← hz,← hW]
 clear hz hW
 go_upto_region 4 with (first | (go_at_call 97;(with_reducible refine HC.mono ?_);rintro e w1 ⟨Y,rfl,hY,hb1⟩;have HTY:=hid hY;have HB1:=hid hb1;clear hY hb1 HC))
 clear q0 q1 q2 q3 q4 q5 q6 q7 q8 n0 n1 n2 n3 n4 n5 n6 n7 n8
 obtain ⟨V,hV⟩:∃ V,V=w1.alloc (.cells #[.int .i64 Y.k,.slice Y.r1 Y.r2 Y.r3,.int .i64 Y.a2,.slice Y.s1 Y.s2 Y.s3,.int .i64 Y.a4,.int .i64 Y.a5,.bool Y.a6,.int .i64 Y.a7,.string Y.a8] 25):=⟨_,rfl⟩
 rw [← hV]
 have hVb:Below w1.heap.size w1 V:=by rw [hV];exact Joins.below_alloc1 w1 _
 have hVs:V.heap.size=w1.heap.size + 1:=by rw [hV];simp
 have hVY:BN V w1.heap.size Y:=by rw [hV];exact heap_alloc_new w1 _
 have hWV:Below W.heap.size W V:=HB1.out.trans (Joins.below_le hVb HB1.out.size)
 have hVN:=(hWV.block z (by have:=HSW.out;omega)).trans HBN.out
 have hVZ:=(hWV.block (z + 1) (by have:=HSW.out;omega)).trans HZW.out
 have hA1:∀ b,New A W w1 b→b < w1.heap.size:=fun b hb=>by
  rcases hb with h | h
  ·have:=HA.out b h;have:=HSW.out;have:=HB1.out.size;omega
  ·exact h.2
 have hTV:TP V (New A W w1) Y y:=HTY.out.kept (fun b hb=>hVb.block b (hA1 b hb)) fun b hb=>hb
 have hA2:∀ b,New A W w1 b→A b∨z + 1 < b:=fun b hb=>by
  rcases hb with h | h
  ·exact .inl h
  ·right;have:=HSW.out;omega
 obtain ⟨zy,hzy⟩:∃ zy,zy=w1.heap.size:=⟨_,rfl⟩
 have hW1:=HB1.out.size
 rw [← hzy] at hVs hVY hA1 hW1 ⊢
 obtain ⟨A1,hAe⟩:∃ A1,A1=New A W w1:=⟨_,rfl⟩
 rw [← hAe] at hTV hA1 hA2
 have HVB:=hid (HBW.out.trans (Joins.below_le hWV HBW.out.size))
 have HVS:=hid hVs
 have HVY:=hid hVY
 have HVN:=hid hVN
 have HVZ:=hid hVZ
 have HA1:=hid hA1
 have HA2:=hid hA2
 have HTV:=hid hTV
 have hzz:z + 1 < zy:=by have:=HSW.out;omega
 clear hV hVb hVs hVY hWV hVN hVZ hA1 hTV hA2 hzy hAe HTY HB1 HBN HBW HSW HZW hW1
 obtain ⟨q0,q1,q2,q3,q4,q5,q6,q7,q8⟩:=nine' HVN.out
 go_wp2_with fail
 go_loopw [4,6] (fun u x wq=>∃ (i:Nat) (u1:Option Addr) (u3:Nat),u=.slice u1 i u3∧x=.int .i64 (i:Int)∧i≤p∧Hid (RG A1 V wq (.slice u1 i u3) (List.replicate i y))) (fun _ x _=>p - (intOf x).toNat)
 case atStart=>exact ⟨0,none,0,rfl,rfl,by omega,by show RG _ _ _ _ _;exact RG.start (fun b hb=>by have:=HA1.out b hb;have:=HVS.out;omega) (Below.refl _ _)⟩
 case round =>
  obtain ⟨i,u1,u3,rfl,rfl,hi,HR⟩:=hrel
  have hbel:Below V.heap.size V wr:=by obtain ⟨MS,A',h⟩:=HR.out;exact h.bel
  have hbs:=hbel.size
  have bN:=(hbel.block z (by have:=HVS.out;omega)).trans HVN.out
  have bY:=(hbel.block zy (by have:=HVS.out;omega)).trans HVY.out
  have hTY:TP wr A1 Y y:=HTV.out.kept (fun b hb=>hbel.block b (by have:=HA1.out b hb;have:=HVS.out;omega)) fun b hb=>hb
  have HTY:=hid hTY
  have HBY:=hid bY
  have HBN:=hid bN
  have HBEL:=hid hbel
  clear q0 q1 q2 q3 q4 q5 q6 q7 q8
  obtain ⟨q0,q1,q2,q3,q4,q5,q6,q7,q8⟩:=nine' bN
  obtain ⟨y0,y1,y2,y3,y4,y5,y6,y7,y8⟩:=nine' bY
  obtain ⟨MS,A',hR⟩:=HR.out
  have hrow:=hR.row
  rw [List.length_replicate] at hrow
  have HR1:=hid hR
  have HROW:=hid hrow
  clear hbel bN bY hTY hR hrow
  by_cases hil:i < p
  ·have b1:decide ((i:Int) < (p:Int))=true:=by simp;omega
   have ad1:IntKind.i64.wrap ((i:Int) + 1)=(i:Int) + 1:=by simp [IntKind.wrap,IntKind.bits,IntKind.signed];omega
   go_wp2_with (first | (at_builtin;refine wpList_append_moveN rfl (.tmp 32) (.tmp 34) 23 rfl V.heap.size 25 i0 Z9 9 112 Tryz.underlying23 hi0 hz0 hz1 hz2 rfl (by decide) (.slice u1 i u3) i (MS.flatMap Nv.cs) rfl (HROW.out.alloc _) ⟨wr.heap.size,0,none⟩ 1 1 (Nv.cs Y) rfl rfl (by decide) (news9 wr Y) (one9 _) (by unfold maxLen;omega) (by omega) (by simp;omega) ?_;intro v' w3 ho3 hm3;obtain ⟨vb,vc,rfl⟩:=Joins.ownsRow_form ho3.out (by omega)))
   refine ⟨⟨i + 1,some ⟨vb,0,none⟩,vc,rfl,by push_cast;rfl,by omega,?_⟩,by simp [intOf];omega⟩
   rw [rep_snoc]
   refine HR1.out.app (A2:=A1) (Below.refl _ _) (news:=[Y]) rfl (fun j hj hj'=>?_) (fun b hb=>.inl hb) (Joins.below_alloc1 wr _) ?_ hm3.out
   ·have e:j=0:=by simpa using hj
    subst e
    exact HTY.out
   ·rw [List.length_replicate];simpa using ho3.out
  ·have b1:decide ((i:Int) < (p:Int))=false:=by simp;omega
   obtain rfl:i=p:=by omega
   obtain ⟨w0,hw0⟩:∃ w0,w0=wr:=⟨_,rfl⟩
   subst hw0
   go_upto_region 16 with fail
   obtain ⟨V2,hV2⟩:∃ V2,V2=w0.alloc (.cells #[.int .i64 1,.slice none 0 0,.int .i64 0,.slice none 0 0,.int .i64 0,.int .i64 0,.bool false,.int .i64 0,.string ⟨#[]⟩] 25):=⟨_,rfl⟩
   rw [← hV2]
   have hVb2:Below w0.heap.size w0 V2:=by rw [hV2];exact Joins.below_alloc1 w0 _
   have hVs2:w0.heap.size < V2.heap.size:=by rw [hV2];simp
   have hVO:BN V2 w0.heap.size (NK 1):=by rw [hV2];exact heap_alloc_new w0 _
   obtain ⟨zo,hzo⟩:∃ zo,zo=w0.heap.size:=⟨_,rfl⟩
   rw [← hzo] at hVb2 hVs2 hVO ⊢
   have HZO:=hid hzo
   have HVB2:=hid hVb2
   have HVS2:=hid hVs2
   have HVO:=hid hVO
   have hzyo:zy < zo:=by have:=HVS.out;omega
   have HHB:Hid (∀ j,j≤q→(optT y lz j).nodes≤200000):=fun j hj=>by
    have h1:=HBIG.out
    have h2:=join_mem (l:=List.replicate i y ++ [optT y lz q]) (fun x hx=>by
     rw [List.mem_append,List.mem_replicate] at hx
     rcases hx with h | h
     ·rw [h.2];exact HY.out
     ·rw [List.mem_singleton] at h;rw [h];exact nf_opt lz HY.out _) (y:=optT y lz q) (by simp)
    have h3:=opt_le y lz hj
    omega
   clear hV2 hVb2 hVs2 hVO hzo q0 q1 q2 q3 q4 q5 q6 q7 q8 y0 y1 y2 y3 y4 y5 y6 y7 y8
   go_wp2_with fail
   go_loopw [8] (fun x wq=>∃ (j:Nat) (O:Nv),x=.int .i64 ((j:Int) + 1)∧j≤q∧Hid (Below zo w0 wq)∧Hid (zo < wq.heap.size)∧Hid (BN wq zo O)∧Hid (TP wq (fun b=>A1 b∨zo < b∧b < wq.heap.size) O (optT y lz j))) (fun x _=>q + 1 - (intOf x).toNat)
   case atStart=>exact ⟨0,NK 1,rfl,by omega,HVB2,HVS2,HVO,by show TP _ _ _ _;exact TP.mk (N:=NK 1) (R:=[]) (ts:=[]) (ND:=fun _=>default) (ok_NO 1 0 0 false 0 ⟨#[]⟩ (by decide) (by decide) (by decide) (by decide) (Nat.zero_le _)) rfl (fun h=>absurd rfl h) (by simp) rfl (fun h=>by simp at h) (fun i hi=>by simp at hi)⟩
   case round =>
    obtain ⟨j,O,rfl,hj,BB,BS,BO,BT⟩:=hrel
    have bN:=(BB.out.block z (by omega)).trans HBN.out
    have bY:=(BB.out.block zy (by omega)).trans HBY.out
    have hTYr:TP wr A1 Y y:=HTY.out.kept (fun b hb=>BB.out.block b (by have:=HA1.out b hb;omega)) fun b hb=>hb
    have HTYr:=hid hTYr
    have HbN:=hid bN
    have HbY:=hid bY
    obtain ⟨q0,q1,q2,q3,q4,q5,q6,q7,q8⟩:=nine' bN
    obtain ⟨y0,y1,y2,y3,y4,y5,y6,y7,y8⟩:=nine' bY
    obtain ⟨o0,o1,o2,o3,o4,o5,o6,o7,o8⟩:=nine' BO.out
    clear bN bY hTYr
    by_cases hjq:j < q
    ·have b2:decide ((j:Int) + 1≤(q:Int))=true:=by simp;omega
     have ad2:IntKind.i64.wrap ((j:Int) + 1 + 1)=(j:Int) + 1 + 1:=by simp [IntKind.wrap,IntKind.bits,IntKind.signed];omega
     go_upto_region 20 with fail
     obtain ⟨X3,hX3⟩:∃ X3,X3=wr.alloc (.cells #[.int .i64 Y.k,.slice Y.r1 Y.r2 Y.r3,.int .i64 Y.a2,.slice Y.s1 Y.s2 Y.s3,.int .i64 Y.a4,.int .i64 Y.a5,.bool Y.a6,.int .i64 Y.a7,.string Y.a8] 25):=⟨_,rfl⟩
     rw [← hX3]
     have hXb:Below wr.heap.size wr X3:=by rw [hX3];exact Joins.below_alloc1 wr _
     have hXs:X3.heap.size=wr.heap.size + 1:=by rw [hX3];simp
     have hXY:BN X3 wr.heap.size Y:=by rw [hX3];exact heap_alloc_new wr _
     obtain ⟨zx,hzx⟩:∃ zx,zx=wr.heap.size:=⟨_,rfl⟩
     have hzox:zo < zx:=by have:=BS.out;omega
     have cN:=(hXb.block z (by omega)).trans HbN.out
     have cY:=(hXb.block zy (by omega)).trans HbY.out
     have cO:=(hXb.block zo (by omega)).trans BO.out
     have cTY:TP X3 A1 Y y:=HTYr.out.kept (fun b hb=>hXb.block b (by have:=HA1.out b hb;omega)) fun b hb=>hb
     have cTO:TP X3 (fun b=>A1 b∨zo < b∧b < zx) O (optT y lz j):=BT.out.kept (fun b hb=>hXb.block b (by rcases hb with h | h;have:=HA1.out b h;omega;omega)) fun b hb=>by rcases hb with h | h;exact .inl h;exact .inr ⟨h.1,by omega⟩
     have cB:Below zo w0 X3:=BB.out.trans (Joins.below_le hXb (by omega))
     rw [← hzx] at hXs hXY ⊢
     have CN:=hid cN
     have CY:=hid cY
     have CO:=hid cO
     have CX:=hid hXY
     have CTY:=hid cTY
     have CTO:=hid cTO
     have CB:=hid cB
     have CS:=hid hXs
     clear hX3 hXb hXs hXY cN cY cO cTY cTO cB q0 q1 q2 q3 q4 q5 q6 q7 q8 y0 y1 y2 y3 y4 y5 y6 y7 y8 o0 o1 o2 o3 o4 o5 o6 o7 o8 hzx HTYr HbN HbY
     obtain ⟨q0,q1,q2,q3,q4,q5,q6,q7,q8⟩:=nine' CN.out
     obtain ⟨x0,x1,x2,x3,x4,x5,x6,x7,x8⟩:=nine' CX.out
     by_cases hj0:j=0
     ·have b3:decide ((1:Int) < (j:Int) + 1)=false:=by simp;omega
      have HC:=loop97 (A:=A1) (Y:=Y) (y:=y) 0 1 lz (w:=X3) (by decide) (by decide) (fun b hb=>by have:=HA1.out b hb;have:=CS.out;omega) CTY.out
      go_wp2_with (first | (go_at_call 212;(with_reducible refine HC.mono ?_);rintro e w5 ⟨L,rfl,hL,hb5⟩;have b5O:=(hb5.block zo (by have:=CS.out;omega)).trans CO.out;have HL:=hid hL;have HB5:=hid hb5;have HB5O:=hid b5O;obtain ⟨o0,o1,o2,o3,o4,o5,o6,o7,o8⟩:=nine' b5O;have f0:=Joins.unfrozen_of_block b5O 0;have f1:=Joins.unfrozen_of_block b5O 1;have f2:=Joins.unfrozen_of_block b5O 2;have f3:=Joins.unfrozen_of_block b5O 3;have f4:=Joins.unfrozen_of_block b5O 4;have f5:=Joins.unfrozen_of_block b5O 5;have f6:=Joins.unfrozen_of_block b5O 6;have f7:=Joins.unfrozen_of_block b5O 7;have f8:=Joins.unfrozen_of_block b5O 8;clear hL hb5 b5O HC))
      obtain ⟨s1,s2,s3,s4⟩:=setN9 w5 zo O L HB5O.out
      have hs5:=HB5.out.size
      have hcs:=CS.out
      refine ⟨⟨j + 1,L,by rw [hj0];rfl,by omega,s4 _ _ (CB.out.trans (Joins.below_le HB5.out (by omega))) (Nat.le_refl _),?_,s1,?_⟩,by simp [intOf];omega⟩
      ·show _ < _
       rw [s3];omega
      ·show TP _ _ _ _
       rw [hj0]
       refine HL.out.kept (fun b hb=>s2 b ?_) fun b hb=>?_
       ·rcases hb with h | h
        ·have:=HA1.out b h;omega
        ·omega
       ·rcases hb with h | h
        ·exact .inl h
        ·exact .inr ⟨by omega,by rw [s3];exact h.2⟩
     ·have b3:decide ((1:Int) < (j:Int) + 1)=true:=by simp;omega
      obtain ⟨y0,y1,y2,y3,y4,y5,y6,y7,y8⟩:=nine' CY.out
      obtain ⟨o0,o1,o2,o3,o4,o5,o6,o7,o8⟩:=nine' CO.out
      obtain ⟨X4,hX4⟩:∃ X4,X4=X3.alloc (.cells #[.int .i64 Y.k,.slice Y.r1 Y.r2 Y.r3,.int .i64 Y.a2,.slice Y.s1 Y.s2 Y.s3,.int .i64 Y.a4,.int .i64 Y.a5,.bool Y.a6,.int .i64 Y.a7,.string Y.a8,.int .i64 O.k,.slice O.r1 O.r2 O.r3,.int .i64 O.a2,.slice O.s1 O.s2 O.s3,.int .i64 O.a4,.int .i64 O.a5,.bool O.a6,.int .i64 O.a7,.string O.a8] 25):=⟨_,rfl⟩
      have h4b:Below X3.heap.size X3 X4:=by rw [hX4];exact Joins.below_alloc1 X3 _
      have h4s:X4.heap.size=X3.heap.size + 1:=by rw [hX4];simp
      have h4L:X4.heap[X3.heap.size]?=some (.cells (Y.cs ++ O.cs).toArray 25 (0,0)):=by rw [hX4];exact heap_alloc_new X3 _
      have hcs:=CS.out
      have hLT:LTr X4 (fun b=>A1 b∨zo < b∧b≠zx∧b < X4.heap.size) (some ⟨X3.heap.size,0,none⟩) [y,optT y lz j]:=by
       refine ⟨fun i=>if i=0 then Y else O,fun _=>⟨X3.heap.size,0,rfl,.inr ⟨by omega,by omega,by omega⟩,fun i hi=>?_⟩,fun i hi=>?_⟩
       ·have e:i=0∨i=1:=by simp at hi;omega
        rcases e with rfl | rfl
        ·exact ⟨Joins.cell_of_block h4L 0,Joins.cell_of_block h4L 1,Joins.cell_of_block h4L 2,Joins.cell_of_block h4L 3,Joins.cell_of_block h4L 4,Joins.cell_of_block h4L 5,Joins.cell_of_block h4L 6,Joins.cell_of_block h4L 7,Joins.cell_of_block h4L 8⟩
        ·exact ⟨Joins.cell_of_block h4L 9,Joins.cell_of_block h4L 10,Joins.cell_of_block h4L 11,Joins.cell_of_block h4L 12,Joins.cell_of_block h4L 13,Joins.cell_of_block h4L 14,Joins.cell_of_block h4L 15,Joins.cell_of_block h4L 16,Joins.cell_of_block h4L 17⟩
       ·have e:i=0∨i=1:=by simp at hi;omega
        rcases e with rfl | rfl
        ·exact CTY.out.kept (fun b hb=>h4b.block b (by have:=HA1.out b hb;omega)) fun b hb=>.inl hb
        ·exact CTO.out.kept (fun b hb=>h4b.block b (by rcases hb with h | h;have:=HA1.out b h;omega;omega)) fun b hb=>by rcases hb with h | h;exact .inl h;exact .inr ⟨h.1,by omega,by omega⟩
      have hbj:(joinT (ones [y,optT y lz j])).nodes≤200000:=by
       obtain ⟨j',rfl⟩:∃ j',j=j' + 1:=⟨j - 1,by omega⟩
       have h1:=HHB.out (j' + 2) (by omega)
       rw [optT_step,loopT_nodes] at h1
       show (joinT [(y,1),(optT y lz (j' + 1),1)]).nodes≤200000
       omega
      have HC:=join74 (A:=fun b=>A1 b∨zo < b∧b≠zx∧b < X4.heap.size) (w:=X4) (c:=2) (n:=2) (fun b hb=>by rcases hb with h | h;have:=HA1.out b h;omega;omega) rfl (by simp) hLT (by simpa using ⟨HY.out,nf_opt lz HY.out _⟩) hbj
      rw [hcs] at HC
      have h4X:=(h4b.block zx (by omega)).trans CX.out
      have h4O:=(h4b.block zo (by omega)).trans CO.out
      have h4N:=(h4b.block z (by omega)).trans CN.out
      have H4S:=hid h4s
      have H4X:=hid h4X
      have H4O:=hid h4O
      have H4N:=hid h4N
      have H4B:=hid (CB.out.trans (Joins.below_le h4b (by omega)))
      have HX4:=hid hX4
      clear h4b h4s h4L hLT hbj h4X h4O h4N
      go_upto_region 22 with (first | (rw [← hX4];clear hX4;go_at_call 144;(with_reducible refine HC.mono ?_);rintro e w5 ⟨J,rfl,hJ,hb5⟩;have hs4:=H4S.out;have b5X:=(hb5.block zx (by omega)).trans H4X.out;have b5O:=(hb5.block zo (by omega)).trans H4O.out;have b5N:=(hb5.block z (by omega)).trans H4N.out;have HJ:=hid hJ;have HB5:=hid hb5;have H5X:=hid b5X;have H5O:=hid b5O;have H5N:=hid b5N;clear x0 x1 x2 x3 x4 x5 x6 x7 x8;obtain ⟨x0,x1,x2,x3,x4,x5,x6,x7,x8⟩:=nine' b5X;have f0:=Joins.unfrozen_of_block b5X 0;have f1:=Joins.unfrozen_of_block b5X 1;have f2:=Joins.unfrozen_of_block b5X 2;have f3:=Joins.unfrozen_of_block b5X 3;have f4:=Joins.unfrozen_of_block b5X 4;have f5:=Joins.unfrozen_of_block b5X 5;have f6:=Joins.unfrozen_of_block b5X 6;have f7:=Joins.unfrozen_of_block b5X 7;have f8:=Joins.unfrozen_of_block b5X 8;clear hJ hb5 b5X b5O b5N HC))
      obtain ⟨s1,s2,s3,s4⟩:=setN9 w5 zx Y J H5X.out
      obtain ⟨X6,hX6⟩:∃ X6,X6=(((((((((w5.setCell ⟨zx,0,none⟩ (.int .i64 J.k)).setCell ⟨zx,1,none⟩ (.slice J.r1 J.r2 J.r3)).setCell ⟨zx,2,none⟩ (.int .i64 J.a2)).setCell ⟨zx,3,none⟩ (.slice J.s1 J.s2 J.s3)).setCell ⟨zx,4,none⟩ (.int .i64 J.a4)).setCell ⟨zx,5,none⟩ (.int .i64 J.a5)).setCell ⟨zx,6,none⟩ (.bool J.a6)).setCell ⟨zx,7,none⟩ (.int .i64 J.a7)).setCell ⟨zx,8,none⟩ (.string J.a8)):=⟨_,rfl⟩
      rw [← hX6]
      rw [← hX6] at s1 s2 s3 s4
      have h5s:=HB5.out.size
      have h6N:=(s2 z (by omega)).trans H5N.out
      have h6O:=(s2 zo (by omega)).trans H5O.out
      have h6J:TP X6 (fun b=>A1 b∨zo < b∧b≠zx∧b < w5.heap.size) J (joinT (ones [y,optT y lz j])):=HJ.out.kept (fun b hb=>s2 b (by rcases hb with (h | h) | h;have:=HA1.out b h;omega;exact h.2.1;omega)) fun b hb=>by
       rcases hb with (h | h) | h
       ·exact .inl h
       ·exact .inr ⟨h.1,h.2.1,by omega⟩
       ·exact .inr ⟨by omega,by omega,h.2⟩
      have h6B:Below zo w0 X6:=s4 _ _ (H4B.out.trans (Joins.below_le HB5.out (by omega))) (by omega)
      have HC2:=loop97 (A:=fun b=>A1 b∨zo < b∧b≠zx∧b < w5.heap.size) (Y:=J) (y:=joinT (ones [y,optT y lz j])) 0 1 lz (w:=X6) (by decide) (by decide) (fun b hb=>by rw [s3];rcases hb with h | h;have:=HA1.out b h;omega;exact h.2.2) h6J
      clear q0 q1 q2 q3 q4 q5 q6 q7 q8 y0 y1 y2 y3 y4 y5 y6 y7 y8 o0 o1 o2 o3 o4 o5 o6 o7 o8 x0 x1 x2 x3 x4 x5 x6 x7 x8 f0 f1 f2 f3 f4 f5 f6 f7 f8
      obtain ⟨x0,x1,x2,x3,x4,x5,x6,x7,x8⟩:=nine' s1
      obtain ⟨q0,q1,q2,q3,q4,q5,q6,q7,q8⟩:=nine' h6N
      have H6O:=hid h6O
      have H6B:=hid h6B
      have H6S:=hid s3
      clear hX6 s1 s2 s3 s4 h6N h6O h6J h6B
      go_wp2_with (first | (go_at_call 212;(with_reducible refine HC2.mono ?_);rintro e w7 ⟨L,rfl,hL,hb7⟩;have h6s:=H6S.out;have b7O:=(hb7.block zo (by omega)).trans H6O.out;have HL:=hid hL;have HB7:=hid hb7;have HB7O:=hid b7O;obtain ⟨o0,o1,o2,o3,o4,o5,o6,o7,o8⟩:=nine' b7O;have f0:=Joins.unfrozen_of_block b7O 0;have f1:=Joins.unfrozen_of_block b7O 1;have f2:=Joins.unfrozen_of_block b7O 2;have f3:=Joins.unfrozen_of_block b7O 3;have f4:=Joins.unfrozen_of_block b7O 4;have f5:=Joins.unfrozen_of_block b7O 5;have f6:=Joins.unfrozen_of_block b7O 6;have f7:=Joins.unfrozen_of_block b7O 7;have f8:=Joins.unfrozen_of_block b7O 8;clear hL hb7 b7O HC2))
      obtain ⟨s1,s2,s3,s4⟩:=setN9 w7 zo O L HB7O.out
      have hs7:=HB7.out.size
      refine ⟨⟨j + 1,L,by push_cast;rfl,by omega,s4 _ _ (H6B.out.trans (Joins.below_le HB7.out (by omega))) (Nat.le_refl _),?_,s1,?_⟩,by simp [intOf];omega⟩
      ·show _ < _
       rw [s3];omega
      ·show TP _ _ _ _
       obtain ⟨j',rfl⟩:∃ j',j=j' + 1:=⟨j - 1,by omega⟩
       rw [optT_step]
       refine HL.out.kept (fun b hb=>s2 b ?_) fun b hb=>?_
       ·rcases hb with (h | h) | h
        ·have:=HA1.out b h;omega
        ·omega
        ·omega
       ·rcases hb with (h | h) | h
        ·exact .inl h
        ·exact .inr ⟨h.1,by rw [s3];omega⟩
        ·exact .inr ⟨by omega,by rw [s3];exact h.2⟩
    ·have b2:decide ((j:Int) + 1≤(q:Int))=false:=by simp;omega
     obtain rfl:j=q:=by omega
     have hrow2:=HR1.out.rowAt (X:=wr) (by rw [← HZO.out];exact BB.out)
     rw [List.length_replicate] at hrow2
     have HROW2:=hid hrow2
     have hs2:V.heap.size≤wr.heap.size:=by have:=BS.out;have:=HZO.out;omega
     clear hrow2
     go_upto_region 24 with (first | (at_builtin;refine wpList_append_moveN rfl (.tmp 72) (.tmp 74) 23 rfl V.heap.size 25 i0 Z9 9 112 Tryz.underlying23 hi0 hz0 hz1 hz2 rfl (by decide) (.slice u1 i u3) i (MS.flatMap Nv.cs) rfl (HROW2.out.alloc _) ⟨wr.heap.size,0,none⟩ 1 1 (Nv.cs O) rfl rfl (by decide) (news9 wr O) (one9 _) (by unfold maxLen;omega) (by omega) (by simp;omega) ?_;intro v' w3 ho3 hm3;obtain ⟨vb,vc,rfl⟩:=Joins.ownsRow_form ho3.out (by omega)))
     have hRG:RG A1 V w3 (.slice (some ⟨vb,0,none⟩) (i + 1) vc) (List.replicate i y ++ [optT y lz j]):=by
      refine HR1.out.app (A2:=fun b=>A1 b∨zo < b∧b < wr.heap.size) (W:=wr) (by rw [← HZO.out];exact BB.out) (news:=[O]) rfl (fun j hj hj'=>?_) (fun b hb=>by rcases hb with h | h;exact .inl h;exact .inr ⟨by have:=HZO.out;omega,h.2⟩) (Joins.below_alloc1 wr _) ?_ hm3.out
      ·have e:j=0:=by simpa using hj
       subst e
       exact BT.out
      ·rw [List.length_replicate];simpa using ho3.out
     have hbel3:Below V.heap.size V w3:=by obtain ⟨MS,A',h⟩:=hRG;exact h.bel
     obtain ⟨hLT,hln,hl1,hl2⟩:=hRG.ltr
     have hnf:∀ x ∈ List.replicate i y ++ [optT y lz j],Nf x:=fun x hx=>by
      rw [List.mem_append,List.mem_replicate] at hx
      rcases hx with h | h
      ·rw [h.2];exact HY.out
      ·rw [List.mem_singleton] at h;rw [h];exact nf_opt lz HY.out _
     have hA3:∀ b,New A1 V w3 b→b < w3.heap.size:=New.low (fun b hb=>by have:=HA1.out b hb;have:=HVS.out;omega) hbel3.size
     have HC2:=join74 (c:=vc) hA3 hln (by simp;omega) hLT hnf HBIG.out
     have b3Z:=(hbel3.block (z + 1) (by have:=HVS.out;omega)).trans HVZ.out
     have HB3Z:=hid b3Z
     have HB3:=hid hbel3
     clear hRG hLT hl1 hl2 hnf hA3 hbel3 b3Z hln q0 q1 q2 q3 q4 q5 q6 q7 q8 y0 y1 y2 y3 y4 y5 y6 y7 y8 o0 o1 o2 o3 o4 o5 o6 o7 o8
     go_wp2_with (first | (go_at_call 144;(with_reducible refine HC2.mono ?_);rintro e w4 ⟨J,rfl,hJ,hb4⟩;have b4Z:=(hb4.block (z + 1) (Array.getElem?_eq_some_iff.1 HB3Z.out).1).trans HB3Z.out;have HJ:=hid hJ;have HB4:=hid hb4;have HB4Z:=hid b4Z;obtain ⟨q0,q1,q2,q3,q4,q5,q6,q7,q8⟩:=nine' b4Z;have f0:=Joins.unfrozen_of_block b4Z 0;have f1:=Joins.unfrozen_of_block b4Z 1;have f2:=Joins.unfrozen_of_block b4Z 2;have f3:=Joins.unfrozen_of_block b4Z 3;have f4:=Joins.unfrozen_of_block b4Z 4;have f5:=Joins.unfrozen_of_block b4Z 5;have f6:=Joins.unfrozen_of_block b4Z 6;have f7:=Joins.unfrozen_of_block b4Z 7;have f8:=Joins.unfrozen_of_block b4Z 8;clear hJ hb4 b4Z HC2))
     all_goals
      have hzz':=HZ.out
      obtain ⟨y1,y2,y3⟩:=box_end (A:=A) (w:=w) (M:=J) (t:=joinT (ones (List.replicate i y ++ [optT y lz j]))) (z:=z + 1) (by omega) (fun b hb=>by have:=HA.out b hb;omega) HB4Z.out ((HVB.out.trans (Joins.below_le HB3.out HVB.out.size)).trans (Joins.below_le HB4.out (Nat.le_trans HVB.out.size HB3.out.size))) HJ.out (fun b h=>by
       have hs3:=HB3.out.size
       have hs4:=HB4.out.size
       have hsv:=HVS.out
       rcases h with (h1 | h1) | h1
       ·rcases HA2.out b h1 with h2 | h2
        ·exact .inl h2
        ·have:=HA1.out b h1;exact .inr ⟨by omega,by omega,by omega⟩
       ·exact .inr ⟨by omega,by omega,by omega⟩
       ·exact .inr ⟨by omega,by omega,by omega⟩)
      exact bodyPost_ret (results_cell_row rfl _ _ (z + 1) 25 _ (0,0) _ rfl y1 Tryz.underlying25 rfl (by kernel_rfl)) rfl ⟨J,rfl,y2,y3⟩
end Go.Proofs.YtacaanhnlfpbhaaGreat
