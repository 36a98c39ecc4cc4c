/- HELPERS: texts of ours put together. -/
import Derived.Test.YtacaanhnlfpbhaaGreatK06
namespace Go.Proofs.YtacaanhnlfpbhaaGreat
open Go.RowKit
set_option linter.unusedVariables false
set_option linter.unusedSimpArgs false
set_option maxRecDepth 100000 in
set_option maxHeartbeats 8000000 in
theorem repeat46 (A:Nat→Prop) (N M:Nv) (y:Tn) (b o:Nat) (w:World) (hA:∀ b,A b→b < w.heap.size) (hs1:N.s1=some ⟨b,o,none⟩) (hs2:N.s2=1) (hb:b < w.heap.size) (hM:N9 w b o 0 M) (hd:y.depth≤1000000000)
  (h1:0≤N.a4) (h2:N.a4≤1000) (h3:N.a5=-1∨N.a4≤N.a5∧N.a5≤1000)
  (IH:Hid (∀ w1:World,w.heap.size≤w1.heap.size→(∀ b,b < w.heap.size→w1.heap[b]?=w.heap[b]?)→Calls Tryz.prog 91 #[M.v] w1 fun e w'=>∃ f,e=.returned (pt f)∧FA w' (New A w1 w') f y∧Below w1.heap.size w1 w')) :
  Calls Tryz.prog 133 #[N.v] w fun e w'=>∃ f,e=.returned (pt f)∧FA w' (New A w w') f (repT y N.a4 N.a5 N.a6)∧Below w.heap.size w w':=by
 obtain ⟨k,r1,r2,r3,a2,s1,s2,s3,a4,mx,lz,a7,a8⟩:=N
 dsimp only at hs1 hs2 h1 h2 h3 ⊢
 subst hs1 hs2
 obtain ⟨p,rfl⟩:∃ p:Nat,a4=(p:Int):=⟨a4.toNat,by omega⟩
 have hBN:BN (w.alloc (.cells #[.int .i64 k,.slice r1 r2 r3,.int .i64 a2,.slice (some ⟨b,o,none⟩) 1 s3,.int .i64 (p:Int),.int .i64 mx,.bool lz,.int .i64 a7,.string a8] 25)) w.heap.size ⟨k,r1,r2,r3,a2,some ⟨b,o,none⟩,1,s3,(p:Int),mx,lz,a7,a8⟩:=heap_alloc_new w _
 obtain ⟨W,hW⟩:∃ W,W=w.alloc (.cells #[.int .i64 k,.slice r1 r2 r3,.int .i64 a2,.slice (some ⟨b,o,none⟩) 1 s3,.int .i64 (p:Int),.int .i64 mx,.bool lz,.int .i64 a7,.string a8] 25):=⟨_,rfl⟩
 have hBW:Below w.heap.size w W:=by rw [hW];exact Joins.below_alloc1 w _
 have hSW:W.heap.size=w.heap.size + 1:=by rw [hW];simp
 rw [← hW] at hBN
 obtain ⟨z,hz⟩:∃ z,z=w.heap.size:=⟨_,rfl⟩
 have HC:=IH.out W (by omega) (fun b hb=>hBW.block b hb)
 rw [← hz] at hBN hSW
 obtain ⟨n0,n1,n2,n3,n4,n5,n6,n7,n8⟩:=hM.kept (hBW.block b hb)
 simp only [Nat.zero_mul,Nat.add_zero] at n0 n1 n2 n3 n4 n5 n6 n7 n8
 obtain ⟨q0,q1,q2,q3,q4,q5,q6,q7,q8⟩:=nine' hBN
 have HBN:=hid hBN
 have HBW:=hid hBW
 have HSW:=hid hSW
 have HZ:=hid hz
 have HAA:=hid hA
 clear hBN hBW hSW hA hM IH
 go_enter Tryz.func133,Tryz.ntmps133
 go_upto_region 1 with fail
 rw [← hz,← hW]
 clear hW hz
 go_upto_region 2 with (first | (go_at_call 91;(with_reducible refine HC.mono ?_);rintro e w1 ⟨g,rfl,hg,hb1⟩;have hB1:=(hb1.block z (by have:=HSW.out;omega)).trans HBN.out;clear q0 q1 q2 q3 q4 q5 q6 q7 q8;obtain ⟨q0,q1,q2,q3,q4,q5,q6,q7,q8⟩:=nine' hB1;have HG:=hid hg;have HB1:=hid hb1;have HBN1:=hid hB1;clear hg hb1 HC hB1))
 have hs1:W.heap.size≤w1.heap.size:=HB1.out.size
 have hAW:∀ b,A b→b < W.heap.size:=fun b hb=>by have:=HAA.out b hb;have:=HSW.out;have:=HZ.out;omega
 have hA1:∀ b,New A W w1 b→b < w1.heap.size:=New.low hAW hs1
 have HA1:=hid hA1
 have HAW:=hid hAW
 clear n0 n1 n2 n3 n4 n5 n6 n7 n8 hAW hA1
 have hS:∀ w3,Below w1.heap.size w1 w3→w3.cell? ⟨z,4,none⟩=some (.int .i64 (p:Int))∧w3.cell? ⟨z,5,none⟩=some (.int .i64 mx)∧w3.cell? ⟨z,6,none⟩=some (.bool lz):=fun w3 h3=>by
  have hq3:=(h3.block z (by have:=HSW.out;omega)).trans HBN1.out
  obtain ⟨q0,q1,q2,q3,q4,q5,q6,q7,q8⟩:=nine' hq3
  exact ⟨q4,q5,q6⟩
 have HSS:=hid hS
 have HD1:=hid (below_drew w1)
 clear hS
 by_cases hmx:mx=-1
 ·subst hmx
  by_cases hp:p=0
  ·have b2:((p:Int) == 0)=true:=by simp [hp]
   have hrT:repT y (p:Int) (-1) lz=loopT 0 (-1) lz y:=by unfold repT;simp [hp]
   have HRT:=hid hrT
   have HC1:=loop66 0 (-1) lz w1
   have HC2:=fun (W':World) (hb:Below w1.heap.size w1 W')=>over47 (New A W w1) 6 0 (-1) lz 0 ⟨#[]⟩ g y W' (ok_NO 6 0 (-1) lz 0 ⟨#[]⟩ (by decide) (by decide) (by decide) (by decide) (Nat.zero_le _)) (fun b h=>by have:=HA1.out b h;have:=hb.size;omega) (HG.out.up HA1.out hb (fun _ h=>h)) (by omega)
   clear hrT hp
   go_wp2_with (first | (go_at_call 201;(with_reducible refine HC1.mono ?_);rintro e w2 ⟨rfl,hb2⟩;have HC3:=HC2 w2 hb2;have HB2:=hid hb2;clear hb2 HC1 HC2) | (go_at_call 134;(with_reducible refine HC3.mono ?_);rintro e w4 ⟨f4,rfl,hf4,hb4⟩;have HF4:=hid hf4;have HB4:=hid hb4;clear hf4 hb4 HC3))
   all_goals go_ret
   all_goals
    have hz:=HZ.out
    have hsw:=HSW.out
    have hz2:=HB2.out.size
    have hz4:w2.heap.size≤w4.heap.size:=HB4.out.size
    refine ⟨f4,rfl,?_,?_⟩
    ·rw [HRT.out]
     exact HF4.out.kept (fun _ _=>rfl) (fun b hb=>(New.trans (v':=w2) hb (by omega) (by omega)).more (by omega) (Nat.le_refl _))
    ·exact ((HBW.out.trans (Joins.below_le HB1.out (by omega))).trans (Joins.below_le HB2.out (by omega))).trans (Joins.below_le HB4.out (by omega))
  ·have b2:((p:Int) == 0)=false:=by simp;omega
   obtain ⟨p1,hp1⟩:∃ p1:Nat,(p:Int) - 1=(p1:Int):=⟨p - 1,by omega⟩
   have hw:IntKind.i64.wrap ((p:Int) - 1)=(p:Int) - 1:=by simp [IntKind.wrap,IntKind.bits,IntKind.signed];omega
   have hrT:repT y (p:Int) (-1) lz=joinT [(y,p1),(loopT 1 (-1) lz y,1)]:=by
    unfold repT
    rw [if_neg (by simp),if_neg (by omega),hp1]
    simp
   have HRT:=hid hrT
   have HP1:=hid hp1
   have hp1b:p1≤1000:=by omega
   have HC1:=loop66 1 (-1) lz w1.drew
   have HC2:=fun (W':World) (hb:Below w1.heap.size w1 W')=>over47 (New A W w1) 6 1 (-1) lz 0 ⟨#[]⟩ g y W' (ok_NO 6 1 (-1) lz 0 ⟨#[]⟩ (by decide) (by decide) (by decide) (by decide) (Nat.zero_le _)) (fun b h=>by have:=HA1.out b h;have:=hb.size;omega) (HG.out.up HA1.out hb (fun _ h=>h)) (by omega)
   clear hrT hp hp1
   go_upto_region 6 with fail
   go_region_held2 (fun w3=>w3.cell? ⟨z,4,none⟩=some (.int .i64 (p:Int))∧w3.cell? ⟨z,5,none⟩=some (.int .i64 (-1))∧w3.cell? ⟨z,6,none⟩=some (.bool lz))
    (first | exact HSS.out _ HD1.out | exact HSS.out _ HB2.out | exact HSS.out _ (HB2.out.trans (Joins.below_le HB5.out HB2.out.size)) | (rw [← HV2.out];exact HSS.out _ HV2B.out) | exact HSS.out _ (HV2B.out.trans (Joins.below_le HB4.out HV2B.out.size)))
    (first | (go_at_call 201;(with_reducible refine HC1.mono ?_);rintro e w2 ⟨rfl,hb2⟩;have hbb:=HD1.out.trans (Joins.below_le hb2 HD1.out.size);have HC3:=HC2 w2 hbb;have HB2:=hid hbb;clear hb2 hbb HC1 HC2) | (go_at_call 134;(with_reducible refine HC3.mono ?_);rintro e w5 ⟨f2,rfl,hf2,hb5⟩;have HF2:=hid hf2;have HB5:=hid hb5;have hz25:w2.heap.size≤w5.heap.size:=hb5.size;have hz12:w1.heap.size≤w2.heap.size:=HB2.out.size;clear hf2 hb5 HC3;obtain ⟨V2,hV2⟩:∃ V2,V2=w5.alloc (.cells #[pt g,.int .i64 ((p:Int) - 1),pt f2,.int .i64 1] 245):=⟨_,rfl⟩;have hV2n:V2.heap[w5.heap.size]?=some (.cells #[pt g,.int .i64 (p1:Int),pt f2,.int .i64 1] 245 (0,0)):=(by rw [hV2,HP1.out];exact heap_alloc_new w5 _);have hV2b:Below w5.heap.size w5 V2:=(by rw [hV2];exact Joins.below_alloc1 w5 _);have hV2s:V2.heap.size=w5.heap.size + 1:=(by rw [hV2];simp);have hb15:Below w1.heap.size w1 w5:=HB2.out.trans (Joins.below_le HB5.out HB2.out.size);have hb12:Below w1.heap.size w1 V2:=hb15.trans (Joins.below_le hV2b (by omega));have HC4:=join_pair (A:=New A W V2) hV2n (by omega) (New.low HAW.out (by omega)) (.inr ⟨by omega,by omega⟩) (HG.out.up HA1.out hb12 (fun b hb=>hb.more (Nat.le_refl _) (by omega))) (HF2.out.up (New.low (fun b h=>by have:=HA1.out b h;omega) hz25) hV2b (fun b hb=>(New.trans (v':=w2) hb (by omega) (by omega)).more (Nat.le_refl _) (by omega))) (by omega) (by rw [loopT_depth];omega);have HV2B:=hid hb12;have HV2:=hid hV2;have HV2S:=hid hV2s;clear hV2 hV2n hV2b hV2s hb12 hb15) | (go_at_call 130;rw [← HV2.out];(with_reducible refine HC4.mono ?_);rintro e w4 ⟨f4,rfl,hf4,hb4⟩;have HF4:=hid hf4;have HB4:=hid hb4;clear hf4 hb4 HC4))
   all_goals
    go_wp2
    go_ret
    have hz:=HZ.out
    have hsw:=HSW.out
    have hv2:=HV2S.out
    have hz4:V2.heap.size≤w4.heap.size:=HB4.out.size
    refine ⟨f4,rfl,?_,?_⟩
    ·rw [HRT.out]
     exact HF4.out.kept (fun _ _=>rfl) (fun b hb=>(New.trans (v':=V2) hb (by omega) (by omega)).more (by omega) (Nat.le_refl _))
    ·exact ((HBW.out.trans (Joins.below_le HB1.out (by omega))).trans (Joins.below_le HV2B.out (by omega))).trans (Joins.below_le HB4.out (by omega))
 ·have b1:(mx != -1)=true:=by simp [hmx]
  obtain ⟨q,hq⟩:∃ q:Nat,mx - (p:Int)=(q:Int):=⟨(mx - p).toNat,by omega⟩
  have hw:IntKind.i64.wrap (mx - (p:Int))=mx - (p:Int):=by simp [IntKind.wrap,IntKind.bits,IntKind.signed];omega
  have hrT:repT y (p:Int) mx lz=joinT [(y,p),(optT y lz q,1)]:=by
   unfold repT
   rw [if_pos hmx,hq]
   simp
  have HC1:=opt65 (New A W w1) g y q lz w1.drew HA1.out (HG.out.kept (fun _ _=>rfl) (fun _ h=>h)) (by omega) hd
  rw [← hq] at HC1
  have hdo:=optT_dle y lz q
  have HRT:=hid hrT
  have hq2:q≤1000:=by omega
  clear hrT hq
  go_upto_region 3 with fail
  go_region_held2 (fun w3=>w3.cell? ⟨z,4,none⟩=some (.int .i64 (p:Int))∧w3.cell? ⟨z,5,none⟩=some (.int .i64 mx)∧w3.cell? ⟨z,6,none⟩=some (.bool lz))
   (first | exact HSS.out _ HD1.out | exact HSS.out _ (HD1.out.trans (Joins.below_le HB2.out HD1.out.size)) | (rw [← HV2.out];exact HSS.out _ HV2B.out) | exact HSS.out _ (HV2B.out.trans (Joins.below_le HB4.out HV2B.out.size)))
   (first | (go_at_call 200;(with_reducible refine HC1.mono ?_);rintro e w2 ⟨f2,rfl,hf2,hb2⟩;have HF2:=hid hf2;have HB2:=hid hb2;have hz12:w1.heap.size≤w2.heap.size:=hb2.size;clear hf2 hb2 HC1;obtain ⟨V2,hV2⟩:∃ V2,V2=w2.alloc (.cells #[pt g,.int .i64 (p:Int),pt f2,.int .i64 1] 245):=⟨_,rfl⟩;have hV2n:V2.heap[w2.heap.size]?=some (.cells #[pt g,.int .i64 (p:Int),pt f2,.int .i64 1] 245 (0,0)):=(by rw [hV2];exact heap_alloc_new w2 _);have hV2b:Below w2.heap.size w2 V2:=(by rw [hV2];exact Joins.below_alloc1 w2 _);have hV2s:V2.heap.size=w2.heap.size + 1:=(by rw [hV2];simp);have hb12:Below w1.heap.size w1 V2:=(HD1.out.trans (Joins.below_le HB2.out HD1.out.size)).trans (Joins.below_le hV2b hz12);have HC2:=join_pair (A:=New A W V2) hV2n (by omega) (New.low HAW.out (by omega)) (.inr ⟨by omega,by omega⟩) (HG.out.up HA1.out hb12 (fun b hb=>hb.more (Nat.le_refl _) (by omega))) (HF2.out.up (New.low HA1.out hz12) hV2b (fun b hb=>(New.trans (v':=w1) hb (by omega) (by omega)).more (Nat.le_refl _) (by omega))) (by omega) (by omega);have HV2B:=hid hb12;have HV2:=hid hV2;have HV2S:=hid hV2s;clear hV2 hV2n hV2b hV2s hb12) | (go_at_call 130;rw [← HV2.out];(with_reducible refine HC2.mono ?_);rintro e w4 ⟨f4,rfl,hf4,hb4⟩;have HF4:=hid hf4;have HB4:=hid hb4;clear hf4 hb4 HC2))
  all_goals
   go_wp2
   go_ret
   have hz:=HZ.out
   have hsw:=HSW.out
   have hv2:=HV2S.out
   have hz4:V2.heap.size≤w4.heap.size:=HB4.out.size
   refine ⟨f4,rfl,?_,?_⟩
   ·rw [HRT.out]
    exact HF4.out.kept (fun _ _=>rfl) (fun b hb=>(New.trans (v':=V2) hb (by omega) (by omega)).more (by omega) (Nat.le_refl _))
   ·exact ((HBW.out.trans (Joins.below_le HB1.out (by omega))).trans (Joins.below_le HV2B.out (by omega))).trans (Joins.below_le HB4.out (by omega))
theorem R2.rp {w:World} {B:Nat} {ad:Option Addr} {R:List (Int × Int)} (h:R2 w B ad R):RP w (fun b=>b < B) ad R:=h
theorem ones_runs {w:World} {A:Nat→Prop} {us:Nat→Tn} {K:List Rn} {ts:List Tn} (hl:K.length=ts.length) (hK:∀ i (hi:i < K.length),K[i].2=(us i,1)∧FA w A K[i].1 (us i)) (hu:∀ i (hi:i < ts.length),us i=ts[i].S):K.map (·.2)=ones (SL ts):=by
 rw [SL_map]
 apply List.ext_getElem (by simp [hl])
 intro i h1 h2
 simp only [List.length_map] at h1
 simp only [List.getElem_map]
 rw [(hK i h1).1,hu i (by omega)]
set_option maxRecDepth 100000 in
set_option maxHeartbeats 8000000 in
theorem formOf31 {w0:World} {B:Nat} {N:Nv} {t:Tn} (h:TI w0 B N t):t.fine=true→t.depth≤10000→t.nodes≤200000→∀ (w:World),B≤w.heap.size→(∀ b,b < B→w.heap[b]?=w0.heap[b]?) →
  Calls Tryz.prog 91 #[N.v] w fun e w'=>∃ f,e=.returned (pt f)∧FA w' (New (fun b=>b < B) w w') f t.S∧Below w.heap.size w w':=by
 induction h with
 | @mk N R ts ND ok hr hR hRk hs hS hk ih =>
 intro hf hdp hnd w hB hw
 have hdS:(Tn.mk N.k R N.a2 ts N.a4 N.a5 N.a6 N.a7 N.a8).depth=1 + depthL ts:=by simp only [Tn.depth]
 have hnS:(Tn.mk N.k R N.a2 ts N.a4 N.a5 N.a6 N.a7 N.a8).nodes=1 + nodesL ts:=by simp only [Tn.nodes]
 rw [hdS] at hdp
 rw [hnS] at hnd
 have hnl:=nodes_ge ts
 simp only [Tn.fine,Bool.and_eq_true] at hf
 have hfk:=fine_kind hf.1
 have ihS:∀ i (hi:i < ts.length),∀ w1:World,B≤w1.heap.size→(∀ b,b < B→w1.heap[b]?=w0.heap[b]?)→Calls Tryz.prog 91 #[(ND i).v] w1 fun e w'=>∃ f,e=.returned (pt f)∧FA w' (New (fun b=>b < B) w1 w') f (ts[i]).S∧Below w1.heap.size w1 w':=fun i hi =>
  ih i hi (fineL_get hf.2 i hi) (by have:=depthL_mem (List.getElem_mem hi);omega) (by have:=nodes_get ts i hi;omega)
 have hSd:∀ i (hi:i < ts.length),(ts[i]).S.depth≤1000000000:=fun i hi=>by
  have:=S_depth ts[i] (fineL_get hf.2 i hi)
  have:=depthL_mem (List.getElem_mem hi)
  omega
 have hBW:Below w.heap.size w (w.alloc (.cells #[.int .i64 N.k,.slice N.r1 N.r2 N.r3,.int .i64 N.a2,.slice N.s1 N.s2 N.s3,.int .i64 N.a4,.int .i64 N.a5,.bool N.a6,.int .i64 N.a7,.string N.a8] 25)):=Joins.below_alloc1 w _
 have hBN:BN (w.alloc (.cells #[.int .i64 N.k,.slice N.r1 N.r2 N.r3,.int .i64 N.a2,.slice N.s1 N.s2 N.s3,.int .i64 N.a4,.int .i64 N.a5,.bool N.a6,.int .i64 N.a7,.string N.a8] 25)) w.heap.size N:=heap_alloc_new w _
 have hRw:RP w (fun b=>b < B) N.r1 R:=(R2.rp hR).kept (fun b hb=>hw b hb) (fun _ h=>h)
 obtain ⟨k,r1,r2,r3,a2,s1,s2,s3,a4,a5,a6,a7,a8⟩:=N
 dsimp only at hs hS hfk hBW hBN hRw hr ⊢
 obtain ⟨W,hW⟩:∃ W,W=w.alloc (.cells #[.int .i64 k,.slice r1 r2 r3,.int .i64 a2,.slice s1 s2 s3,.int .i64 a4,.int .i64 a5,.bool a6,.int .i64 a7,.string a8] 25):=⟨_,rfl⟩
 have hSW:W.heap.size=w.heap.size + 1:=by rw [hW];simp
 rw [← hW] at hBN hBW
 obtain ⟨z,hz⟩:∃ z,z=w.heap.size:=⟨_,rfl⟩
 rw [← hz] at hBN hSW
 have hwW:∀ b,b < B→W.heap[b]?=w0.heap[b]?:=fun b hb=>(hBW.block b (by omega)).trans (hw b hb)
 obtain ⟨q0,q1,q2,q3,q4,q5,q6,q7,q8⟩:=nine' hBN
 have hA:∀ b,b < B→b < W.heap.size:=fun b hb=>by omega
 have hsub:0 < s2→∃ b o,s1=some ⟨b,o,none⟩∧b < W.heap.size∧∀ i,i < s2→N9 W b o i (ND i):=fun hp=>by
  obtain ⟨b,o,h1,h2,h3⟩:=hS (by omega)
  exact ⟨b,o,h1,by omega,fun i hi=>(h3 i (by omega)).kept (hwW b h2)⟩
 have HBN:=hid hBN
 have HBW:=hid hBW
 have HSW:=hid hSW
 have HZ:=hid hz
 have HA:=hid hA
 have HWW:=hid hwW
 have HIS:=hid ihS
 have HSD:=hid hSd
 have HSUB:=hid hsub
 have HOK:=hid ok
 have HRW:=hid hRw
 have HRR:=hid hr
 have HL:=hid hs
 have HBB:=hid hB
 have hs2:s2≤200000:=by omega
 have HFK:=hid hfk
 clear hBN hBW hSW hA hwW ihS hSd hsub ok hRw hr hs hR hS hk ih hf hdp hnd hw hdS hnS hnl hfk hB
 by_cases k4:k=4
 ·subst k4
  have hSS:(Tn.mk 4 R a2 ts a4 a5 a6 a7 a8).S=joinT (ones (SL ts)):=by simp [Tn.S]
  have HSS:=hid hSS
  have HC:=onceEach44 (fun b=>b < B) s2 ND (fun i=>(ts.getD i default).S) s1 s3 W HA.out hs2 HSUB.out (fun i hi w1 h1 h2=>by
   have hlt:i < ts.length:=by have:=HL.out;omega
   have:=HIS.out i hlt w1 (by have:=HBB.out;have:=HSW.out;have:=HZ.out;omega) (fun b hb=>(h2 b (HA.out b hb)).trans (HWW.out b hb))
   rw [List.getD_eq_getElem?_getD,List.getElem?_eq_getElem hlt]
   exact this)
  clear hSS
  go_enter Tryz.func91,Tryz.ntmps91
  go_upto_region 1 with fail
  rw [← hz,← hW]
  clear hW hz
  go_wp2_with (first | (go_at_call 131;(with_reducible refine HC.mono ?_);rintro e w1 ⟨v,K,rfl,hKl,hKo,hKF,hb1⟩;obtain ⟨ka,kc,rfl,hkc,hkm⟩:=row_shape hKo;have hrv:=rv_of (A:=New (fun b=>b < B) W w1) hKo (fun b h1 h2=>.inr ⟨h1,h2⟩);have hl1:K.map (·.2)=ones (SL ts):=ones_runs (by have:=HL.out;omega) hKF (fun i hi=>by simp [List.getD_eq_getElem?_getD,List.getElem?_eq_getElem hi]);have HC2:=join43 (New (fun b=>b < B) W w1) ka kc _ (K.map (·.2)) w1 (New.low HA.out hb1.size) hrv (by intro x hx;rw [hl1] at hx;obtain ⟨u,hu,rfl⟩:=List.mem_map.1 hx;simp) (by simp;omega) (fun j hj=>by simp only [List.length_map] at hj;have:=(hKF j hj).2;rw [List.getElem_map,(hKF j hj).1];simpa [List.getD_eq_getElem?_getD,List.getElem?_eq_getElem hj] using this) (by intro x hx;rw [hl1] at hx;obtain ⟨u,hu,rfl⟩:=List.mem_map.1 hx;rw [SL_map] at hu;obtain ⟨u',hu',rfl⟩:=List.mem_map.1 hu;obtain ⟨j,hj,rfl⟩:=List.getElem_of_mem hu';have:=HSD.out j hj;simp only;omega);rw [hl1] at HC2;have hsl:(ones (SL ts)).length=K.length:=(by rw [← hl1];simp);rw [hsl] at HC2;have HB1:=hid hb1;clear hKF hrv hl1 hsl hkc hkm hKo hb1 HC hKl) | (go_at_call 130;(with_reducible refine HC2.mono ?_);rintro e w4 ⟨f4,rfl,hf4,hb4⟩;have HF4:=hid hf4;have HB4:=hid hb4;clear hf4 hb4 HC2))
  all_goals go_ret
  all_goals
   have hz:=HZ.out
   have hsw:=HSW.out
   have hz1:=HB1.out.size
   have hz4:w1.heap.size≤w4.heap.size:=HB4.out.size
   refine ⟨f4,rfl,?_,?_⟩
   ·rw [HSS.out]
    exact HF4.out.kept (fun _ _=>rfl) (fun b hb=>(New.trans (v':=w1) hb (by omega) (by omega)).more (by omega) (Nat.le_refl _))
   ·exact (HBW.out.trans (Joins.below_le HB1.out (by omega))).trans (Joins.below_le HB4.out (by omega))
 ·have g4:(k == 4)=false:=by simp [k4]
  by_cases k5:k=5
  ·subst k5
   have hSS:(Tn.mk 5 R a2 ts a4 a5 a6 a7 a8).S=rowT 5 (ones (SL ts)):=by simp [Tn.S]
   have HSS:=hid hSS
   have HC:=onceEach44 (fun b=>b < B) s2 ND (fun i=>(ts.getD i default).S) s1 s3 W HA.out hs2 HSUB.out (fun i hi w1 h1 h2=>by
    have hlt:i < ts.length:=by have:=HL.out;omega
    have:=HIS.out i hlt w1 (by have:=HBB.out;have:=HSW.out;have:=HZ.out;omega) (fun b hb=>(h2 b (HA.out b hb)).trans (HWW.out b hb))
    rw [List.getD_eq_getElem?_getD,List.getElem?_eq_getElem hlt]
    exact this)
   clear hSS
   go_enter Tryz.func91,Tryz.ntmps91
   go_upto_region 1 with fail
   rw [← hz,← hW]
   clear hW hz
   go_wp2_with (first | (go_at_call 131;(with_reducible refine HC.mono ?_);rintro e w1 ⟨v,K,rfl,hKl,hKo,hKF,hb1⟩;obtain ⟨ka,kc,rfl,hkc,hkm⟩:=row_shape hKo;have hrv:=rv_of (A:=New (fun b=>b < B) W w1) hKo (fun b h1 h2=>.inr ⟨h1,h2⟩);have hl1:K.map (·.2)=ones (SL ts):=ones_runs (by have:=HL.out;omega) hKF (fun i hi=>by simp [List.getD_eq_getElem?_getD,List.getElem?_eq_getElem hi]);have HC2:=row45 (New (fun b=>b < B) W w1) 5 ka kc _ (K.map (·.2)) w1 (.inr rfl) (New.low HA.out hb1.size) hrv (by intro x hx;rw [hl1] at hx;obtain ⟨u,hu,rfl⟩:=List.mem_map.1 hx;simp) (by simp;omega) (by simp only [List.length_map];have:=HFK.out;have:=HL.out;omega) (fun j hj=>by simp only [List.length_map] at hj;have:=(hKF j hj).2;rw [List.getElem_map,(hKF j hj).1];simpa [List.getD_eq_getElem?_getD,List.getElem?_eq_getElem hj] using this) (by intro x hx;rw [hl1] at hx;obtain ⟨u,hu,rfl⟩:=List.mem_map.1 hx;rw [SL_map] at hu;obtain ⟨u',hu',rfl⟩:=List.mem_map.1 hu;obtain ⟨j,hj,rfl⟩:=List.getElem_of_mem hu';have:=HSD.out j hj;simp only;omega);rw [hl1] at HC2;have hsl:(ones (SL ts)).length=K.length:=(by rw [← hl1];simp);rw [hsl] at HC2;have HB1:=hid hb1;clear hKF hrv hl1 hsl hkc hkm hKo hb1 HC hKl) | (go_at_call 132;(with_reducible refine HC2.mono ?_);rintro e w4 ⟨f4,rfl,hf4,hb4⟩;have HF4:=hid hf4;have HB4:=hid hb4;clear hf4 hb4 HC2))
   all_goals go_ret
   all_goals
    have hz:=HZ.out
    have hsw:=HSW.out
    have hz1:=HB1.out.size
    have hz4:w1.heap.size≤w4.heap.size:=HB4.out.size
    refine ⟨f4,rfl,?_,?_⟩
    ·rw [HSS.out]
     exact HF4.out.kept (fun _ _=>rfl) (fun b hb=>(New.trans (v':=w1) hb (by omega) (by omega)).more (by omega) (Nat.le_refl _))
    ·exact (HBW.out.trans (Joins.below_le HB1.out (by omega))).trans (Joins.below_le HB4.out (by omega))
  ·have g5:(k == 5)=false:=by simp [k5]
   by_cases k6:k=6
   ·subst k6
    have hlt:0 < ts.length:=by have:=HFK.out;have:=HL.out;omega
    have hSS:(Tn.mk 6 R a2 ts a4 a5 a6 a7 a8).S=repT (ts[0]'hlt).S a4 a5 a6:=by simp only [Tn.S];rw [if_neg (by decide),if_neg (by decide),if_pos trivial,SL_head hlt]
    have HSS:=hid hSS
    have hfk:s2=1∧0≤a4∧a4≤1000∧(a5=-1∨a4≤a5∧a5≤1000):=by have:=HFK.out;have:=HL.out;omega
    obtain ⟨b,o,hs1,hbl,h9⟩:=HSUB.out (by omega)
    have HC:=repeat46 (fun b=>b < B) ⟨6,r1,r2,r3,a2,s1,s2,s3,a4,a5,a6,a7,a8⟩ (ND 0) (ts[0]'hlt).S b o W HA.out hs1 hfk.1 hbl (h9 0 (by omega)) (HSD.out 0 hlt) hfk.2.1 hfk.2.2.1 hfk.2.2.2 (fun w1 h1 h2=>HIS.out 0 hlt w1 (by have:=HBB.out;have:=HSW.out;have:=HZ.out;omega) (fun b hb=>(h2 b (HA.out b hb)).trans (HWW.out b hb)))
    dsimp only at HC
    clear hSS h9 hs1 hfk
    go_enter Tryz.func91,Tryz.ntmps91
    go_upto_region 1 with fail
    rw [← hz,← hW]
    clear hW hz
    go_wp2_with (first | (go_at_call 133;(with_reducible refine HC.mono ?_);rintro e w4 ⟨f4,rfl,hf4,hb4⟩;have HF4:=hid hf4;have HB4:=hid hb4;clear hf4 hb4 HC))
    all_goals go_ret
    all_goals
     have hz:=HZ.out
     have hsw:=HSW.out
     refine ⟨f4,rfl,?_,?_⟩
     ·rw [HSS.out]
      exact HF4.out.kept (fun _ _=>rfl) (fun b hb=>hb.more (by omega) (Nat.le_refl _))
     ·exact HBW.out.trans (Joins.below_le HB4.out (by omega))
   ·have g6:(k == 6)=false:=by simp [k6]
    by_cases k7:k=7
    ·subst k7
     have hlt:0 < ts.length:=by have:=HFK.out;have:=HL.out;omega
     have hSS:(Tn.mk 7 R a2 ts a4 a5 a6 a7 a8).S=.mk 7 [] 0 [(ts[0]'hlt).S] 0 0 false a7 a8:=by simp only [Tn.S];rw [if_neg (by decide),if_neg (by decide),if_neg (by decide),if_pos trivial,SL_head hlt]
     have HSS:=hid hSS
     have hfk:s2=1:=by have:=HFK.out;have:=HL.out;omega
     obtain ⟨b,o,hs1,hbl,h9⟩:=HSUB.out (by omega)
     subst hs1 hfk
     have hM:=h9 0 (by omega)
     have HC:=HIS.out 0 hlt W.drew (by show B≤W.heap.size;have:=HBB.out;have:=HSW.out;have:=HZ.out;omega) (fun b hb=>HWW.out b hb)
     obtain ⟨M,hMe⟩:∃ M,M=ND 0:=⟨_,rfl⟩
     rw [← hMe] at HC hM
     have hS:∀ w3,Below W.heap.size W w3→w3.cell? ⟨z,3,none⟩=some (.slice (some ⟨b,o,none⟩) 1 s3)∧w3.cell? ⟨z,7,none⟩=some (.int .i64 a7)∧w3.cell? ⟨z,8,none⟩=some (.string a8)∧w3.cell? ⟨b,o,none⟩=some (.int .i64 M.k)∧w3.cell? ⟨b,o + 1,none⟩=some (.slice M.r1 M.r2 M.r3)∧w3.cell? ⟨b,o + 2,none⟩=some (.int .i64 M.a2)∧w3.cell? ⟨b,o + 3,none⟩=some (.slice M.s1 M.s2 M.s3)∧w3.cell? ⟨b,o + 4,none⟩=some (.int .i64 M.a4)∧w3.cell? ⟨b,o + 5,none⟩=some (.int .i64 M.a5)∧w3.cell? ⟨b,o + 6,none⟩=some (.bool M.a6)∧w3.cell? ⟨b,o + 7,none⟩=some (.int .i64 M.a7)∧w3.cell? ⟨b,o + 8,none⟩=some (.string M.a8):=fun w3 h3=>by
      have hq3:=(h3.block z (by have:=HSW.out;omega)).trans HBN.out
      obtain ⟨q0,q1,q2,q3,q4,q5,q6,q7,q8⟩:=nine' hq3
      obtain ⟨n0,n1,n2,n3,n4,n5,n6,n7,n8⟩:=hM.kept (h3.block b hbl)
      simp only [Nat.zero_mul,Nat.add_zero] at n0 n1 n2 n3 n4 n5 n6 n7 n8
      exact ⟨q3,q7,q8,n0,n1,n2,n3,n4,n5,n6,n7,n8⟩
     have HS3:=hid hS
     have HD:=hid (below_drew W)
     have hok7:I64ok a7∧a8.size≤maxLen:=⟨HOK.out.a7,HOK.out.a8⟩
     clear hSS h9 hMe hM hS
     go_enter Tryz.func91,Tryz.ntmps91
     go_upto_region 1 with fail
     rw [← hz,← hW]
     clear hW hz
     go_upto_region 9 with fail
     go_region_held2 (fun w3=>w3.cell? ⟨z,3,none⟩=some (.slice (some ⟨b,o,none⟩) 1 s3)∧w3.cell? ⟨z,7,none⟩=some (.int .i64 a7)∧w3.cell? ⟨z,8,none⟩=some (.string a8)∧w3.cell? ⟨b,o,none⟩=some (.int .i64 M.k)∧w3.cell? ⟨b,o + 1,none⟩=some (.slice M.r1 M.r2 M.r3)∧w3.cell? ⟨b,o + 2,none⟩=some (.int .i64 M.a2)∧w3.cell? ⟨b,o + 3,none⟩=some (.slice M.s1 M.s2 M.s3)∧w3.cell? ⟨b,o + 4,none⟩=some (.int .i64 M.a4)∧w3.cell? ⟨b,o + 5,none⟩=some (.int .i64 M.a5)∧w3.cell? ⟨b,o + 6,none⟩=some (.bool M.a6)∧w3.cell? ⟨b,o + 7,none⟩=some (.int .i64 M.a7)∧w3.cell? ⟨b,o + 8,none⟩=some (.string M.a8))
      (first | exact HS3.out _ HD.out | exact HS3.out _ (HD.out.trans (Joins.below_le HB1.out HD.out.size)) | exact HS3.out _ ((HD.out.trans (Joins.below_le HB1.out HD.out.size)).trans (Joins.below_le HB4.out HZ1.out)))
      (first | (go_at_call 91;(with_reducible refine HC.mono ?_);rintro e w1 ⟨g,rfl,hg,hb1⟩;have hz1:W.heap.size≤w1.heap.size:=hb1.size;have HC2:=over47 (New (fun b=>b < B) W w1) 7 0 0 false a7 a8 g _ w1 (ok_NO 7 0 0 false a7 a8 (by decide) (by decide) (by decide) hok7.1 hok7.2) (New.low HA.out hz1) hg (by have:=HSD.out 0 hlt;omega);have HB1:=hid hb1;have HZ1:=hid hz1;clear hg hb1 hz1 HC) | (go_at_call 134;(with_reducible refine HC2.mono ?_);rintro e w4 ⟨f4,rfl,hf4,hb4⟩;have HF4:=hid hf4;have HB4:=hid hb4;clear hf4 hb4 HC2))
     all_goals
      go_wp2
      go_ret
      have hz:=HZ.out
      have hsw:=HSW.out
      have hz1:=HZ1.out
      have hz4:w1.heap.size≤w4.heap.size:=HB4.out.size
      refine ⟨f4,rfl,?_,?_⟩
      ·rw [HSS.out]
       exact HF4.out.kept (fun _ _=>rfl) (fun b hb=>(New.trans (v':=w1) hb (by omega) (by omega)).more (by omega) (Nat.le_refl _))
      ·exact (HBW.out.trans (Joins.below_le (HD.out.trans (Joins.below_le HB1.out HD.out.size)) (by omega))).trans (Joins.below_le HB4.out (by omega))
    ·have g7:(k == 7)=false:=by simp [k7]
     have hSS:(Tn.mk k R a2 ts a4 a5 a6 a7 a8).S=.mk k R a2 [] a4 a5 a6 a7 a8:=by simp [Tn.S,k4,k5,k6,k7]
     have HSS:=hid hSS
     have h5:R.length≤5000:=by have:=HFK.out;omega
     have HC:=leaf48 (fun b=>b < B) ⟨k,r1,r2,r3,a2,s1,s2,s3,a4,a5,a6,a7,a8⟩ R W HOK.out HRR.out HA.out (HRW.out.kept (fun b hb=>HBW.out.block b (by have:=HBB.out;omega)) (fun _ h=>h)) hRk h5
     dsimp only at HC
     clear hSS
     go_enter Tryz.func91,Tryz.ntmps91
     go_upto_region 1 with fail
     rw [← hz,← hW]
     clear hW hz
     go_wp2_with (first | (go_at_call 135;(with_reducible refine HC.mono ?_);rintro e w4 ⟨f4,rfl,hf4,hb4⟩;have HF4:=hid hf4;have HB4:=hid hb4;clear hf4 hb4 HC))
     all_goals go_ret
     all_goals
      have hz:=HZ.out
      have hsw:=HSW.out
      refine ⟨f4,rfl,?_,?_⟩
      ·rw [HSS.out]
       exact HF4.out.kept (fun _ _=>rfl) (fun b hb=>hb.more (by omega) (Nat.le_refl _))
      ·exact HBW.out.trans (Joins.below_le HB4.out (by omega))
theorem step_call1 {P:Program} {ops:Array Oper} {o:Oper} {a:Act} {w:World} {K:Act→World→Prop} {Q:Exit→Act→World→Prop} {E:Prop} (hg:o.guard=none) (f:FuncId) (x:Operand) (t:TypeId)
  (hop:o.op=Op.call { callee:=Callee.value (.func f),args:=#[x],argTypes:=#[t] }) (hen:∀ args w,(callFunc f args).run P w=.ok (.enter f args) w)
  (hc:Calls P f #[a.eval x] w fun e w'=>∃ v,e=.returned v∧K (a.put o.dst v) w') :
  if Region.wanted o (yielded ops a.tmps)=true then Oper.wp P o a w K Q else E:=by
 have hw:Region.wanted o (yielded ops a.tmps)=true:=by simp [Region.wanted,hg]
 rw [if_pos hw]
 have h2:=hen #[a.eval x] w
 unfold Oper.wp
 have ev:a.eval (.func f)=.func (.func f) #[] #[]:=rfl
 simp [execOp,hop,resolve,invoke,ev,Deferred.ofValue,h2,Result.andThen]
 show Calls P f #[a.eval x] w _
 refine hc.mono fun e w' h=>?_
 obtain ⟨v,rfl,hk⟩:=h
 exact hk
theorem enter_of {P : Program} {f : FuncId} {fn : Func} {c : Code} (hf : P.funcs[f]? = some fn) (hname : (fn.name == "runtime.NumGoroutine") = false) (hb : fn.body = some c) : ∀ (args : Array Value) (w : World), (callFunc f args).run P w = .ok (.enter f args) w := by
 intro args w
 have h1 : fn.name ≠ "runtime.NumGoroutine" := by simpa using hname
 simp [callFunc,hf,h1,hb]
theorem en32:∀ (args:Array Value) (w:World),(callFunc 92 args).run Tryz.prog w=.ok (.enter 92 args) w:=enter_of Tryz.func92 (by kernel_rfl) rfl
theorem en63:∀ (args:Array Value) (w:World),(callFunc 198 args).run Tryz.prog w=.ok (.enter 198 args) w:=enter_of Tryz.func198 (by kernel_rfl) rfl
theorem en67:∀ (args:Array Value) (w:World),(callFunc 202 args).run Tryz.prog w=.ok (.enter 202 args) w:=enter_of Tryz.func202 (by kernel_rfl) rfl
theorem en68:∀ (args:Array Value) (w:World),(callFunc 203 args).run Tryz.prog w=.ok (.enter 203 args) w:=enter_of Tryz.func203 (by kernel_rfl) rfl
theorem en95:∀ (args:Array Value) (w:World),(callFunc 232 args).run Tryz.prog w=.ok (.enter 232 args) w:=enter_of Tryz.func232 (by kernel_rfl) rfl
theorem row_last {w:World} {base e s g n cap:Nat} {xs ys zs:List Value} (h:w.ownsRow base e s (.slice (some ⟨g,0,none⟩) n cap) n (xs ++ ys)) (hl:zs.length=ys.length):(w.setCells g xs.length zs).ownsRow base e s (.slice (some ⟨g,0,none⟩) n cap) n (xs ++ zs):=by
 have hlen:=h.1
 have hrow:=h
 rcases h.2 with ⟨h,_⟩ | ⟨g',cap',cur,he,hb,hgg,h1,h2,h3,h4⟩
 ·cases h
 ·simp only [Value.slice.injEq,Option.some.injEq,Addr.mk.injEq] at he
  obtain ⟨⟨rfl,_⟩,_,rfl⟩:=he
  have hsz:n * s≤cur.size:=by rw [h3];exact Nat.mul_le_mul_right _ h1
  simp only [List.length_append] at hlen
  obtain ⟨cur',g1,g2⟩:=block_setCells zs xs.length w cur hgg
  have hex:∀ i,i < zs.length→(w.cell? ⟨g,xs.length + i,none⟩).isSome=true:=fun i hi=>by
   rw [Joins.cell_of_block hgg,Array.getElem?_eq_getElem (by omega)];rfl
  refine ⟨by simp only [List.length_append];omega,.inr ⟨g,cap,cur',rfl,hb,g1,h1,h2,by omega,?_⟩⟩
  apply List.ext_getElem?
  intro j
  by_cases hj:j < n * s
  ·rw [List.getElem?_take_of_lt hj,Array.getElem?_toList,← Joins.cell_of_block g1 j]
   by_cases hjx:j < xs.length
   ·rw [World.cell?_setCells_out g zs xs.length w ⟨g,j,none⟩ (fun _ _=>by simp only;omega),List.getElem?_append_left hjx,hrow.cellAt j (by omega),List.getElem?_append_left hjx]
   ·obtain ⟨i,rfl⟩:∃ i,j=xs.length + i:=⟨j - xs.length,by omega⟩
    rw [World.cell?_setCells_in g zs xs.length w hex i (by omega),List.getElem?_append_right (by omega),show xs.length + i - xs.length=i by omega,List.getElem?_eq_getElem (by omega)]
  ·rw [List.getElem?_eq_none (by simp;omega),List.getElem?_eq_none (by simp;omega)]
structure RO (x:Nat) (w:World) (b:Nat) (uv:Value) (MS:List Nv) (us:List Tn) (AS:Nat→Nat→Prop):Prop where
 box:Bx w b 23 uv
 xb:x≤b
 row:w.ownsRow x 25 9 uv MS.length (MS.flatMap Nv.cs)
 out:uv.ownBlock≠some b
 len:MS.length=us.length
 tos:∀ j (h:j < us.length) (h':j < MS.length),TO w MS[j] us[j] (AS j)
 low:∀ j c,j < us.length→AS j c→x≤c∧c≠b∧uv.ownBlock≠some c
 apart:∀ i j c,i < us.length→j < us.length→i≠j→AS i c→¬ AS j c
def ROv (x:Nat) (w:World) (b:Nat) (uv:Value) (us:List Tn):Prop:=∃ MS AS,RO x w b uv MS us AS
abbrev FB (b:Nat) (uv:Value):List Nat:=b :: uv.ownBlock.toList
abbrev EPost (x b:Nat) (W:World) (uv:Value) (us:List Tn):Ending→World→Prop:=fun e w'=>e=.returned (.tuple #[])∧∃ uv',ROv x w' b uv' us∧Chg W w' (FB b uv) (FB b uv')
theorem ROv.below {x:Nat} {w w':World} {b:Nat} {uv uv':Value} {us:List Tn} (h:ROv x w b uv us) (hc:Chg w w' (FB b uv) (FB b uv')) (hx:x≤w.heap.size):Below x w w':=by
 obtain ⟨MS,AS,h⟩:=h
 refine ⟨hc.os,hc.tape,hc.output,hc.size,fun c hk=>hc.block c (by omega) fun hm=>?_⟩
 simp only [FB,List.mem_cons,Option.mem_toList] at hm
 rcases hm with rfl | hm
 ·have:=h.xb;omega
 ·have:=(h.row.lt c hm).1;omega
theorem ROv.kept {x:Nat} {w w':World} {b:Nat} {uv:Value} {us:List Tn} (h:ROv x w b uv us) (hb:Below w.heap.size w w'):ROv x w' b uv us:=by
 obtain ⟨MS,AS,h⟩:=h
 have hl:=h.len
 exact ⟨MS,AS,(hb.block b (Array.getElem?_eq_some_iff.1 h.box).1).trans h.box,h.xb,row_kept h.row fun c hc=>hb.block c (h.row.lt c hc).2,h.out,h.len,fun j hj hj'=>(h.tos j hj hj').kept fun c hc=>hb.block c ((h.tos j hj hj').low c hc),h.low,h.apart⟩
theorem RO.next {x:Nat} {w:World} {b:Nat} {uv:Value} {MS:List Nv} {us:List Tn} {AS:Nat→Nat→Prop} (h:RO x w b uv MS us AS) {W2 w5 U:World} {v5:Value} {M:Nv} {s:Tn} {AA:Nat→Prop} (hW:Below w.heap.size w W2) (hM:TO W2 M s AA) (hAA:∀ c,AA c→w.heap.size≤c) (hm:Moved W2 w5 uv v5)
  (u1:Bx U b 23 v5) (u2:U.ownsRow x 25 9 v5 (MS.length + 1) (MS.flatMap Nv.cs ++ Nv.cs M)) (u3:∀ c,c≠b→v5.ownBlock≠some c→U.heap[c]?=w5.heap[c]?) (hxw:x≤w.heap.size):RO x U b v5 (MS ++ [M]) (us ++ [s]) (fun j c=>if j=us.length then AA c else AS j c):=by
 have hbl:b < w.heap.size:=(Array.getElem?_eq_some_iff.1 h.box).1
 have hl:=h.len
 have hub:∀ c,uv.ownBlock=some c→c < w.heap.size:=fun c hc=>(h.row.lt c hc).2
 have hs:=hW.size
 have hlow:∀ j c,j < us.length→AS j c→c < w.heap.size:=fun j c hj hc=>(h.tos j hj (by omega)).low c hc
 have hv:∀ c,c < W2.heap.size→uv.ownBlock≠some c→v5.ownBlock≠some c:=fun c hc hn e=>by
  rcases hm with ⟨h0,_⟩ | ⟨h0,_⟩
  ·rw [h0] at e;exact hn e
  ·rw [h0] at e;simp at e;omega
 have hnA:∀ c,AA c→uv.ownBlock≠some c:=fun c hc e=>by have:=hub c e;have:=hAA c hc;omega
 have hnb:∀ c,AA c→c≠b:=fun c hc e=>by have:=hAA c hc;omega
 have keep:∀ c,c < W2.heap.size→c≠b→uv.ownBlock≠some c→U.heap[c]?=W2.heap[c]?:=fun c h1 h2 h3=>(u3 c h2 (hv c h1 h3)).trans (moved_old' hm h1 h3)
 refine ⟨u1,h.xb,?_,hv b (by omega) h.out,by simp [hl],fun j hj hj'=>?_,fun j c hj hc=>?_,fun i j c hi hj hne h1 h2=>?_⟩
 ·rw [List.length_append,List.flatMap_append]
  simpa using u2
 ·by_cases hjl:j < us.length
  ·rw [List.getElem_append_left (by omega),List.getElem_append_left hjl]
   have hne:j≠us.length:=by omega
   simp only [if_neg hne]
   exact (h.tos j hjl (by omega)).kept fun c hc=>(keep c (by have:=hlow j c hjl hc;omega) (h.low j c hjl hc).2.1 (h.low j c hjl hc).2.2).trans (hW.block c (hlow j c hjl hc))
  ·simp only [List.length_append,List.length_cons,List.length_nil] at hj hj'
   have e:j=us.length:=by omega
   subst e
   rw [List.getElem_append_right (by omega),List.getElem_append_right (Nat.le_refl _)]
   simp only [Nat.sub_self,hl,List.getElem_cons_zero,if_pos]
   exact hM.kept fun c hc=>keep c (hM.low c hc) (hnb c hc) (hnA c hc)
 ·by_cases e:j=us.length
  ·simp only [if_pos e] at hc
   exact ⟨by have:=hAA c hc;omega,hnb c hc,hv c (hM.low c hc) (hnA c hc)⟩
  ·simp only [if_neg e] at hc
   have hjl:j < us.length:=by simp at hj;omega
   have:=h.low j c hjl hc
   exact ⟨this.1,this.2.1,hv c (by have:=hlow j c hjl hc;omega) this.2.2⟩
 ·simp only [List.length_append,List.length_cons,List.length_nil] at hi hj
  by_cases ei:i=us.length
  ·simp only [if_pos ei] at h1
   have ej:j≠us.length:=by omega
   simp only [if_neg ej] at h2
   have:=hAA c h1
   have:=hlow j c (by omega) h2
   omega
  ·simp only [if_neg ei] at h1
   by_cases ej:j=us.length
   ·simp only [if_pos ej] at h2
    have:=hAA c h2
    have:=hlow i c (by omega) h1
    omega
   ·simp only [if_neg ej] at h2
    exact h.apart i j c (by omega) (by omega) hne h1 h2
end Go.Proofs.YtacaanhnlfpbhaaGreat
