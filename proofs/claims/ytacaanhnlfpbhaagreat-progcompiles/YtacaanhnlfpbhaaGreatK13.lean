/- HELPERS: texts of ours put together. -/
import Derived.Test.YtacaanhnlfpbhaaGreatK12
namespace Go.Proofs.YtacaanhnlfpbhaaGreat
open Go.RowKit
set_option linter.unusedVariables false
set_option linter.unusedSimpArgs false
set_option maxRecDepth 100000 in
set_option maxHeartbeats 8000000 in
theorem quest111Q {base:Nat} {A:AG} {a2 a4 a5 a7:Int} {a6:Bool} {a8:ByteArray} {r1 s1:Option Addr} {r2 r3 s2 s3:Nat} {R:List (Int × Int)} {ts:List Tn} (hA:∀ b,A b→b < base) (y:Tn) (hts:ts=[y]) (h1:a4≠1) (h2:a5=1) (hIH:∀ N,LPQ 94 base A N y):LPQ 235 base A ⟨6,r1,r2,r3,a2,s1,s2,s3,a4,a5,a6,a7,a8⟩ (.mk 6 R a2 ts a4 a5 a6 a7 a8):=by
 intro w m l hM hm hb hT hlen
 obtain ⟨U,hU⟩:∃ U,U=w.alloc (.cells #[.int .i64 6,.slice r1 r2 r3,.int .i64 a2,.slice s1 s2 s3,.int .i64 a4,.int .i64 a5,.bool a6,.int .i64 a7,.string a8] 25):=⟨_,rfl⟩
 have hbU:Below w.heap.size w U:=by rw [hU];exact Joins.below_alloc1 w _
 have hQ:BNo U w.heap.size ⟨6,r1,r2,r3,a2,s1,s2,s3,a4,a5,a6,a7,a8⟩:=by rw [hU];exact heap_alloc_new w _
 have hMU:=hM.below hbU hA (by omega)
 have hbU2:base≤U.heap.size:=Nat.le_trans hb hbU.size
 have hTU:TPQ U A ⟨6,r1,r2,r3,a2,s1,s2,s3,a4,a5,a6,a7,a8⟩ (.mk 6 R a2 ts a4 a5 a6 a7 a8):=hT.kept (fun b hb'=>hbU.block b (by have:=hA b hb';omega)) (fun _ h=>h)
 have HF:=hid (Fr.of_below hbU hb)
 have HQ:=hid hQ
 have hpU:w.heap.size < U.heap.size:=(Array.getElem?_eq_some_iff.1 hQ).1
 obtain ⟨c0,c1,c2,c3,c4,c5,c6,c7,c8⟩:=nine' hQ
 obtain ⟨p,hp⟩:∃ p,p=w.heap.size:=⟨_,rfl⟩
 have HMU:=hid hMU
 have HTU:=hid hTU
 rw [← hp] at c0 c1 c2 c3 c4 c5 c6 c7 c8 hpU HQ
 subst hts
 have hl6:(Tn.mk 6 R a2 [y] a4 a5 a6 a7 a8).len=y.len + 1:=by simp [Tn.len,lenL,h1,h2]
 rw [hl6] at hlen
 have e:(Tn.mk 6 R a2 [y] a4 a5 a6 a7 a8).lay l.length=forkI (l.length + 1) (l.length + 1 + y.len) a6 :: y.lay (l.length + 1):=by simp [Tn.lay,layL,lenL,h1,h2]
 rw [e]
 clear h1 h2
 obtain ⟨M,b,o,hs2,hs1,hbl,h9,hTM⟩:∃ (M:Nv) (b o:Nat),s2=1∧s1=some ⟨b,o,none⟩∧A b∧N9 U b o 0 M∧TPQ U A M y:=by
  cases hTU with
  | @mk _ _ _ ND ok hr hR hRk hs hS hk =>
   obtain ⟨b,o,h1,h2,h3⟩:=hS (by simp)
   exact ⟨ND 0,b,o,hs,h1,h2,h3 0 (by simp),hk 0 (by simp)⟩
 subst hs1 hs2
 obtain ⟨n,hn⟩:∃ n,n=l.length:=⟨_,rfl⟩
 have HNX:=next65lQ HMU.out
 rw [← hn] at HNX hlen
 have HN:=hid hn
 have HIH:=hid hIH
 have H9:=hid h9
 have HTM:=hid hTM
 clear hIH h9 hTM hn
 clear hM hMU hbU hQ hT hTU
 go_enter Tryz.func235,Tryz.ntmps235
 go_upto_region 1 with fail
 rw [← hU,← hp]
 clear hU hp
 go_upto_region 2 with (first | (go_at_call 137;(with_reducible refine HNX.mono ?_);rintro e w2 ⟨rfl,hw⟩;have hw':=hw.symm;clear hw;subst hw';clear HNX))
 have HC:=addLQ ⟨2,0,0,0,none,0,0⟩ ⟨2,0,0,0,[]⟩ HMU.out (im_bareQ _ _ _ _ _ _) hm hA (by have:=HN.out;omega) hbU2
 go_upto_region 3 with (first | (go_at_call 95;(with_reducible refine HC.mono ?_);rintro e V1 ⟨rfl,hM,hf⟩;have HV1:=hid hM;have HG1:=hid hf;clear hM hf HC))
 have FR1:Hid (Fr base U V1):=hid ((Fr.of_below (Below.refl _ _) hbU2).trans HG1.out)
 have hbV1:base≤V1.heap.size:=Nat.le_trans hbU2 FR1.out.size
 have hfb2:=(FR1.out).bel hA
 obtain ⟨n0,n1,n2,n3,n4,n5,n6,n7,n8⟩:=H9.out.kept (hfb2 b hbl)
 simp only [Nat.zero_mul,Nat.add_zero] at n0 n1 n2 n3 n4 n5 n6 n7 n8
 have bQ2:=(FR1.out).blk p _ _ _ HQ.out (by decide) (by decide)
 clear c0 c1 c2 c3 c4 c5 c6 c7 c8
 obtain ⟨c0,c1,c2,c3,c4,c5,c6,c7,c8⟩:=nine' bQ2
 have HC:=HIH.out M V1 m (l ++ [(⟨2,0,0,0,[]⟩:In)]) HV1.out hm hbV1 (HTM.out.kept hfb2 (fun _ h=>h)) (by simp;have:=HN.out;omega)
 have hll2:(l ++ [(⟨2,0,0,0,[]⟩:In)]).length=n + 1:=by first | (simp [lay_len];have:=HN.out;omega) | (have:=HN.out;omega)
 rw [hll2] at HC
 clear bQ2 hfb2 hll2
 go_upto_region 4 with (first | (go_at_call 94;(with_reducible refine HC.mono ?_);rintro e V2 ⟨rfl,hM,hf⟩;have HV2:=hid hM;have HG2:=hid hf;clear hM hf HC))
 have FR2:Hid (Fr base U V2):=hid ((FR1.out).trans HG2.out)
 have hbV2:base≤V2.heap.size:=Nat.le_trans hbU2 FR2.out.size
 clear n0 n1 n2 n3 n4 n5 n6 n7 n8
 have bQ:=(FR2.out).blk p _ _ _ HQ.out (by decide) (by decide)
 clear c0 c1 c2 c3 c4 c5 c6 c7 c8
 obtain ⟨c0,c1,c2,c3,c4,c5,c6,c7,c8⟩:=nine' bQ
 have hlf:(l ++ [(⟨2,0,0,0,[]⟩:In)] ++ y.lay (n + 1)).length=n + 1 + y.len:=by simp [lay_len];have:=HN.out;omega
 have HNN:Hid (∀ W,Below V2.heap.size V2 W→Calls Tryz.prog 137 #[pt m] W fun e w'=>e=.returned (.int .i64 ((n + 1 + y.len:Nat):Int))∧w'=W):=fun W hW=>by
  have h:=next65lQ ((HV2.out).below hW hA (by omega))
  rw [hlf] at h
  exact h
 have HFK:Hid (∀ W,Below V2.heap.size V2 W→Calls Tryz.prog 233 #[pt m,.int .i64 ((n:Nat):Int),.int .i64 ((n + 1:Nat):Int),.int .i64 ((n + 1 + y.len:Nat):Int),.bool a6] W fun e w'=>e=.returned (.tuple #[])∧MKLQ w' m base A (((l ++ [(⟨2,0,0,0,[]⟩:In)] ++ y.lay (n + 1)).modify (n) (In.setX (if a6 then ((n + 1 + y.len:Nat):Int) else ((n + 1:Nat):Int)))).modify (n) (In.setY (if a6 then ((n + 1:Nat):Int) else ((n + 1 + y.len:Nat):Int))))∧Fr base W w'):=fun W hW =>
  fork109Q (n) _ _ a6 ((HV2.out).below hW hA (by omega)) (by rw [hlf];omega) hm hA (by rw [hlf];omega) (Nat.le_trans hbV2 hW.size)
 have w1:IntKind.i64.wrap ((n:Int) + 1)=(n:Int) + 1:=by simp [IntKind.wrap,IntKind.bits,IntKind.signed];omega
 push_cast at HNN HFK
 clear bQ
 go_region_with (first | (go_at_call 137;(with_reducible refine (HNN.out _ ?_).mono ?_);(exact drew_below _);rintro e w5 ⟨rfl,hw⟩;have hw':=hw.symm;clear hw;subst hw') | (go_at_call 233;(with_reducible refine (HFK.out _ ?_).mono ?_);(exact drew_below _);rintro e w6 ⟨rfl,hM,hf⟩;have HM6:=hid hM;have HF6:=hid hf;clear hM hf))
 all_goals go_wp2_with fail
 all_goals go_end0
 all_goals
  refine ⟨rfl,?_,HF.out.trans ((FR2.out).trans ((Fr.of_below (drew_below _) hbV2).trans HF6.out))⟩
  have h:=HM6.out
  have el:l.length=n:=HN.out.symm
  rw [List.append_assoc] at h
  have h':=h
  rw [show n=l.length from HN.out] at h'
  simp only [List.singleton_append,List.cons_append,List.nil_append,List.append_assoc] at h'
  rw [modify_mid,modify_mid] at h'
  have ef:=fork_eq (l.length + 1) (l.length + 1 + y.len) a6
  push_cast at ef h'
  rw [ef] at h'
  exact h'
set_option maxRecDepth 100000 in
set_option maxHeartbeats 8000000 in
theorem star112Q {base:Nat} {A:AG} {a2 a4 a5 a7:Int} {a6:Bool} {a8:ByteArray} {r1 s1:Option Addr} {r2 r3 s2 s3:Nat} {R:List (Int × Int)} {ts:List Tn} (hA:∀ b,A b→b < base) (y:Tn) (hts:ts=[y]) (h1:a4≠1) (h2:a5≠1) (hIH:∀ N,LPQ 94 base A N y):LPQ 236 base A ⟨6,r1,r2,r3,a2,s1,s2,s3,a4,a5,a6,a7,a8⟩ (.mk 6 R a2 ts a4 a5 a6 a7 a8):=by
 intro w m l hM hm hb hT hlen
 obtain ⟨U,hU⟩:∃ U,U=w.alloc (.cells #[.int .i64 6,.slice r1 r2 r3,.int .i64 a2,.slice s1 s2 s3,.int .i64 a4,.int .i64 a5,.bool a6,.int .i64 a7,.string a8] 25):=⟨_,rfl⟩
 have hbU:Below w.heap.size w U:=by rw [hU];exact Joins.below_alloc1 w _
 have hQ:BNo U w.heap.size ⟨6,r1,r2,r3,a2,s1,s2,s3,a4,a5,a6,a7,a8⟩:=by rw [hU];exact heap_alloc_new w _
 have hMU:=hM.below hbU hA (by omega)
 have hbU2:base≤U.heap.size:=Nat.le_trans hb hbU.size
 have hTU:TPQ U A ⟨6,r1,r2,r3,a2,s1,s2,s3,a4,a5,a6,a7,a8⟩ (.mk 6 R a2 ts a4 a5 a6 a7 a8):=hT.kept (fun b hb'=>hbU.block b (by have:=hA b hb';omega)) (fun _ h=>h)
 have HF:=hid (Fr.of_below hbU hb)
 have HQ:=hid hQ
 have hpU:w.heap.size < U.heap.size:=(Array.getElem?_eq_some_iff.1 hQ).1
 obtain ⟨c0,c1,c2,c3,c4,c5,c6,c7,c8⟩:=nine' hQ
 obtain ⟨p,hp⟩:∃ p,p=w.heap.size:=⟨_,rfl⟩
 have HMU:=hid hMU
 have HTU:=hid hTU
 rw [← hp] at c0 c1 c2 c3 c4 c5 c6 c7 c8 hpU HQ
 subst hts
 have hl6:(Tn.mk 6 R a2 [y] a4 a5 a6 a7 a8).len=y.len + 2:=by simp [Tn.len,lenL,h1,h2]
 rw [hl6] at hlen
 have e:(Tn.mk 6 R a2 [y] a4 a5 a6 a7 a8).lay l.length=forkI (l.length + 1) (l.length + 1 + y.len + 1) a6 :: (y.lay (l.length + 1) ++ [⟨7,(l.length:Int),0,0,[]⟩]):=by simp [Tn.lay,layL,lenL,h1,h2]
 rw [e]
 clear h1 h2
 obtain ⟨M,b,o,hs2,hs1,hbl,h9,hTM⟩:∃ (M:Nv) (b o:Nat),s2=1∧s1=some ⟨b,o,none⟩∧A b∧N9 U b o 0 M∧TPQ U A M y:=by
  cases hTU with
  | @mk _ _ _ ND ok hr hR hRk hs hS hk =>
   obtain ⟨b,o,h1,h2,h3⟩:=hS (by simp)
   exact ⟨ND 0,b,o,hs,h1,h2,h3 0 (by simp),hk 0 (by simp)⟩
 subst hs1 hs2
 obtain ⟨n,hn⟩:∃ n,n=l.length:=⟨_,rfl⟩
 have HNX:=next65lQ HMU.out
 rw [← hn] at HNX hlen
 have HN:=hid hn
 have HIH:=hid hIH
 have H9:=hid h9
 have HTM:=hid hTM
 clear hIH h9 hTM hn
 clear hM hMU hbU hQ hT hTU
 go_enter Tryz.func236,Tryz.ntmps236
 go_upto_region 1 with fail
 rw [← hU,← hp]
 clear hU hp
 go_upto_region 2 with (first | (go_at_call 137;(with_reducible refine HNX.mono ?_);rintro e w2 ⟨rfl,hw⟩;have hw':=hw.symm;clear hw;subst hw';clear HNX))
 have HC:=addLQ ⟨2,0,0,0,none,0,0⟩ ⟨2,0,0,0,[]⟩ HMU.out (im_bareQ _ _ _ _ _ _) hm hA (by have:=HN.out;omega) hbU2
 go_upto_region 3 with (first | (go_at_call 95;(with_reducible refine HC.mono ?_);rintro e V1 ⟨rfl,hM,hf⟩;have HV1:=hid hM;have HG1:=hid hf;clear hM hf HC))
 have FR1:Hid (Fr base U V1):=hid ((Fr.of_below (Below.refl _ _) hbU2).trans HG1.out)
 have hbV1:base≤V1.heap.size:=Nat.le_trans hbU2 FR1.out.size
 have hfb2:=(FR1.out).bel hA
 obtain ⟨n0,n1,n2,n3,n4,n5,n6,n7,n8⟩:=H9.out.kept (hfb2 b hbl)
 simp only [Nat.zero_mul,Nat.add_zero] at n0 n1 n2 n3 n4 n5 n6 n7 n8
 have bQ2:=(FR1.out).blk p _ _ _ HQ.out (by decide) (by decide)
 clear c0 c1 c2 c3 c4 c5 c6 c7 c8
 obtain ⟨c0,c1,c2,c3,c4,c5,c6,c7,c8⟩:=nine' bQ2
 have HC:=HIH.out M V1 m (l ++ [(⟨2,0,0,0,[]⟩:In)]) HV1.out hm hbV1 (HTM.out.kept hfb2 (fun _ h=>h)) (by simp;have:=HN.out;omega)
 have hll2:(l ++ [(⟨2,0,0,0,[]⟩:In)]).length=n + 1:=by first | (simp [lay_len];have:=HN.out;omega) | (have:=HN.out;omega)
 rw [hll2] at HC
 clear bQ2 hfb2 hll2
 go_upto_region 4 with (first | (go_at_call 94;(with_reducible refine HC.mono ?_);rintro e V2 ⟨rfl,hM,hf⟩;have HV2:=hid hM;have HG2:=hid hf;clear hM hf HC))
 have FR2:Hid (Fr base U V2):=hid ((FR1.out).trans HG2.out)
 have hbV2:base≤V2.heap.size:=Nat.le_trans hbU2 FR2.out.size
 clear n0 n1 n2 n3 n4 n5 n6 n7 n8
 have HC:=addLQ ⟨7,(n:Int),0,0,none,0,0⟩ ⟨7,(n:Int),0,0,[]⟩ HV2.out (im_bareQ _ _ _ _ _ _) hm hA (by simp [lay_len];have:=HN.out;omega) hbV2
 go_upto_region 5 with (first | (go_at_call 95;(with_reducible refine HC.mono ?_);rintro e V3 ⟨rfl,hM,hf⟩;have HV3:=hid hM;have HG3:=hid hf;clear hM hf HC))
 have FR3:Hid (Fr base U V3):=hid ((FR2.out).trans HG3.out)
 have hbV3:base≤V3.heap.size:=Nat.le_trans hbU2 FR3.out.size
 have bQ:=(FR3.out).blk p _ _ _ HQ.out (by decide) (by decide)
 clear c0 c1 c2 c3 c4 c5 c6 c7 c8
 obtain ⟨c0,c1,c2,c3,c4,c5,c6,c7,c8⟩:=nine' bQ
 have hlf:(l ++ [(⟨2,0,0,0,[]⟩:In)] ++ y.lay (n + 1) ++ [(⟨7,(n:Int),0,0,[]⟩:In)]).length=n + 1 + y.len + 1:=by simp [lay_len];have:=HN.out;omega
 have HNN:Hid (∀ W,Below V3.heap.size V3 W→Calls Tryz.prog 137 #[pt m] W fun e w'=>e=.returned (.int .i64 ((n + 1 + y.len + 1:Nat):Int))∧w'=W):=fun W hW=>by
  have h:=next65lQ ((HV3.out).below hW hA (by omega))
  rw [hlf] at h
  exact h
 have HFK:Hid (∀ W,Below V3.heap.size V3 W→Calls Tryz.prog 233 #[pt m,.int .i64 ((n:Nat):Int),.int .i64 ((n + 1:Nat):Int),.int .i64 ((n + 1 + y.len + 1:Nat):Int),.bool a6] W fun e w'=>e=.returned (.tuple #[])∧MKLQ w' m base A (((l ++ [(⟨2,0,0,0,[]⟩:In)] ++ y.lay (n + 1) ++ [(⟨7,(n:Int),0,0,[]⟩:In)]).modify (n) (In.setX (if a6 then ((n + 1 + y.len + 1:Nat):Int) else ((n + 1:Nat):Int)))).modify (n) (In.setY (if a6 then ((n + 1:Nat):Int) else ((n + 1 + y.len + 1:Nat):Int))))∧Fr base W w'):=fun W hW =>
  fork109Q (n) _ _ a6 ((HV3.out).below hW hA (by omega)) (by rw [hlf];omega) hm hA (by rw [hlf];omega) (Nat.le_trans hbV3 hW.size)
 have w1:IntKind.i64.wrap ((n:Int) + 1)=(n:Int) + 1:=by simp [IntKind.wrap,IntKind.bits,IntKind.signed];omega
 push_cast at HNN HFK
 clear bQ
 go_region_with (first | (go_at_call 137;(with_reducible refine (HNN.out _ ?_).mono ?_);(exact drew_below _);rintro e w5 ⟨rfl,hw⟩;have hw':=hw.symm;clear hw;subst hw') | (go_at_call 233;(with_reducible refine (HFK.out _ ?_).mono ?_);(exact drew_below _);rintro e w6 ⟨rfl,hM,hf⟩;have HM6:=hid hM;have HF6:=hid hf;clear hM hf))
 all_goals go_wp2_with fail
 all_goals go_end0
 all_goals
  refine ⟨rfl,?_,HF.out.trans ((FR3.out).trans ((Fr.of_below (drew_below _) hbV3).trans HF6.out))⟩
  have h:=HM6.out
  have el:l.length=n:=HN.out.symm
  rw [List.append_assoc] at h
  have h':=h
  rw [show n=l.length from HN.out] at h'
  simp only [List.singleton_append,List.cons_append,List.nil_append,List.append_assoc] at h'
  rw [modify_mid,modify_mid] at h'
  have ef:=fork_eq (l.length + 1) (l.length + 1 + y.len + 1) a6
  push_cast at ef h'
  rw [ef] at h'
  exact h'
set_option maxRecDepth 100000 in
set_option maxHeartbeats 8000000 in
theorem plus110Q {base:Nat} {A:AG} {a2 a4 a5 a7:Int} {a6:Bool} {a8:ByteArray} {r1 s1:Option Addr} {r2 r3 s2 s3:Nat} {R:List (Int × Int)} {ts:List Tn} (hA:∀ b,A b→b < base) (y:Tn) (hts:ts=[y]) (h1:a4=1) (hIH:∀ N,LPQ 94 base A N y):LPQ 234 base A ⟨6,r1,r2,r3,a2,s1,s2,s3,a4,a5,a6,a7,a8⟩ (.mk 6 R a2 ts a4 a5 a6 a7 a8):=by
 intro w m l hM hm hb hT hlen
 obtain ⟨U,hU⟩:∃ U,U=w.alloc (.cells #[.int .i64 6,.slice r1 r2 r3,.int .i64 a2,.slice s1 s2 s3,.int .i64 a4,.int .i64 a5,.bool a6,.int .i64 a7,.string a8] 25):=⟨_,rfl⟩
 have hbU:Below w.heap.size w U:=by rw [hU];exact Joins.below_alloc1 w _
 have hQ:BNo U w.heap.size ⟨6,r1,r2,r3,a2,s1,s2,s3,a4,a5,a6,a7,a8⟩:=by rw [hU];exact heap_alloc_new w _
 have hMU:=hM.below hbU hA (by omega)
 have hbU2:base≤U.heap.size:=Nat.le_trans hb hbU.size
 have hTU:TPQ U A ⟨6,r1,r2,r3,a2,s1,s2,s3,a4,a5,a6,a7,a8⟩ (.mk 6 R a2 ts a4 a5 a6 a7 a8):=hT.kept (fun b hb'=>hbU.block b (by have:=hA b hb';omega)) (fun _ h=>h)
 have HF:=hid (Fr.of_below hbU hb)
 have HQ:=hid hQ
 have hpU:w.heap.size < U.heap.size:=(Array.getElem?_eq_some_iff.1 hQ).1
 obtain ⟨c0,c1,c2,c3,c4,c5,c6,c7,c8⟩:=nine' hQ
 obtain ⟨p,hp⟩:∃ p,p=w.heap.size:=⟨_,rfl⟩
 have HMU:=hid hMU
 have HTU:=hid hTU
 rw [← hp] at c0 c1 c2 c3 c4 c5 c6 c7 c8 hpU HQ
 subst hts
 have hl6:(Tn.mk 6 R a2 [y] a4 a5 a6 a7 a8).len=y.len + 1:=by simp [Tn.len,lenL,h1]
 rw [hl6] at hlen
 have e:(Tn.mk 6 R a2 [y] a4 a5 a6 a7 a8).lay l.length=y.lay l.length ++ [forkI l.length (l.length + y.len + 1) a6]:=by simp [Tn.lay,layL,lenL,h1]
 rw [e]
 clear h1
 obtain ⟨M,b,o,hs2,hs1,hbl,h9,hTM⟩:∃ (M:Nv) (b o:Nat),s2=1∧s1=some ⟨b,o,none⟩∧A b∧N9 U b o 0 M∧TPQ U A M y:=by
  cases hTU with
  | @mk _ _ _ ND ok hr hR hRk hs hS hk =>
   obtain ⟨b,o,h1,h2,h3⟩:=hS (by simp)
   exact ⟨ND 0,b,o,hs,h1,h2,h3 0 (by simp),hk 0 (by simp)⟩
 subst hs1 hs2
 obtain ⟨n,hn⟩:∃ n,n=l.length:=⟨_,rfl⟩
 have HNX:=next65lQ HMU.out
 rw [← hn] at HNX hlen
 have HN:=hid hn
 have HIH:=hid hIH
 have H9:=hid h9
 have HTM:=hid hTM
 clear hIH h9 hTM hn
 clear hM hMU hbU hQ hT hTU
 go_enter Tryz.func234,Tryz.ntmps234
 go_upto_region 1 with fail
 rw [← hU,← hp]
 clear hU hp
 go_upto_region 2 with (first | (go_at_call 137;(with_reducible refine HNX.mono ?_);rintro e w2 ⟨rfl,hw⟩;have hw':=hw.symm;clear hw;subst hw';clear HNX))
 have hfb1:=(Fr.of_below (Below.refl _ _) hbU2).bel hA
 obtain ⟨n0,n1,n2,n3,n4,n5,n6,n7,n8⟩:=H9.out.kept (hfb1 b hbl)
 simp only [Nat.zero_mul,Nat.add_zero] at n0 n1 n2 n3 n4 n5 n6 n7 n8
 have bQ1:=(Fr.of_below (Below.refl _ _) hbU2).blk p _ _ _ HQ.out (by decide) (by decide)
 clear c0 c1 c2 c3 c4 c5 c6 c7 c8
 obtain ⟨c0,c1,c2,c3,c4,c5,c6,c7,c8⟩:=nine' bQ1
 have HC:=HIH.out M U m (l) HMU.out hm hbU2 (HTM.out.kept hfb1 (fun _ h=>h)) (by have:=HN.out;omega)
 have hll1:(l).length=n:=by first | (simp [lay_len];have:=HN.out;omega) | (have:=HN.out;omega)
 rw [hll1] at HC
 clear bQ1 hfb1 hll1
 go_upto_region 3 with (first | (go_at_call 94;(with_reducible refine HC.mono ?_);rintro e V1 ⟨rfl,hM,hf⟩;have HV1:=hid hM;have HG1:=hid hf;clear hM hf HC))
 have FR1:Hid (Fr base U V1):=hid ((Fr.of_below (Below.refl _ _) hbU2).trans HG1.out)
 have hbV1:base≤V1.heap.size:=Nat.le_trans hbU2 FR1.out.size
 clear n0 n1 n2 n3 n4 n5 n6 n7 n8
 have HNX:=next65lQ HV1.out
 have hll:(l ++ y.lay n).length=n + y.len:=by simp [lay_len];have:=HN.out;omega
 rw [hll] at HNX
 go_upto_region 4 with (first | (go_at_call 137;(with_reducible refine HNX.mono ?_);rintro e w2 ⟨rfl,hw⟩;have hw':=hw.symm;clear hw;subst hw';clear HNX))
 have HC:=addLQ ⟨2,0,0,0,none,0,0⟩ ⟨2,0,0,0,[]⟩ HV1.out (im_bareQ _ _ _ _ _ _) hm hA (by rw [hll];omega) hbV1
 go_upto_region 5 with (first | (go_at_call 95;(with_reducible refine HC.mono ?_);rintro e V2 ⟨rfl,hM,hf⟩;have HV2:=hid hM;have HG2:=hid hf;clear hM hf HC))
 have FR2:Hid (Fr base U V2):=hid ((FR1.out).trans HG2.out)
 have hbV2:base≤V2.heap.size:=Nat.le_trans hbU2 FR2.out.size
 have bQ:=(FR2.out).blk p _ _ _ HQ.out (by decide) (by decide)
 clear c0 c1 c2 c3 c4 c5 c6 c7 c8
 obtain ⟨c0,c1,c2,c3,c4,c5,c6,c7,c8⟩:=nine' bQ
 have hlf:(l ++ y.lay n ++ [(⟨2,0,0,0,[]⟩:In)]).length=n + y.len + 1:=by simp [lay_len];have:=HN.out;omega
 have HNN:Hid (∀ W,Below V2.heap.size V2 W→Calls Tryz.prog 137 #[pt m] W fun e w'=>e=.returned (.int .i64 ((n + y.len + 1:Nat):Int))∧w'=W):=fun W hW=>by
  have h:=next65lQ ((HV2.out).below hW hA (by omega))
  rw [hlf] at h
  exact h
 have HFK:Hid (∀ W,Below V2.heap.size V2 W→Calls Tryz.prog 233 #[pt m,.int .i64 ((n + y.len:Nat):Int),.int .i64 ((n:Nat):Int),.int .i64 ((n + y.len + 1:Nat):Int),.bool a6] W fun e w'=>e=.returned (.tuple #[])∧MKLQ w' m base A (((l ++ y.lay n ++ [(⟨2,0,0,0,[]⟩:In)]).modify (n + y.len) (In.setX (if a6 then ((n + y.len + 1:Nat):Int) else ((n:Nat):Int)))).modify (n + y.len) (In.setY (if a6 then ((n:Nat):Int) else ((n + y.len + 1:Nat):Int))))∧Fr base W w'):=fun W hW =>
  fork109Q (n + y.len) _ _ a6 ((HV2.out).below hW hA (by omega)) (by rw [hlf];omega) hm hA (by rw [hlf];omega) (Nat.le_trans hbV2 hW.size)
 have w1:IntKind.i64.wrap ((n:Int) + 1)=(n:Int) + 1:=by simp [IntKind.wrap,IntKind.bits,IntKind.signed];omega
 push_cast at HNN HFK
 clear bQ
 go_region_with (first | (go_at_call 137;(with_reducible refine (HNN.out _ ?_).mono ?_);(exact drew_below _);rintro e w5 ⟨rfl,hw⟩;have hw':=hw.symm;clear hw;subst hw') | (go_at_call 233;(with_reducible refine (HFK.out _ ?_).mono ?_);(exact drew_below _);rintro e w6 ⟨rfl,hM,hf⟩;have HM6:=hid hM;have HF6:=hid hf;clear hM hf))
 all_goals go_wp2_with fail
 all_goals go_end0
 all_goals
  refine ⟨rfl,?_,HF.out.trans ((FR2.out).trans ((Fr.of_below (drew_below _) hbV2).trans HF6.out))⟩
  have h:=HM6.out
  have el:(l ++ y.lay n).length=n + y.len:=by simp [lay_len];have:=HN.out;omega
  rw [← el,modify_mid,modify_mid] at h
  have ef:=fork_eq n (n + y.len + 1) a6
  push_cast at ef h
  rw [ef] at h
  rw [← HN.out]
  simpa [List.append_assoc] using h
theorem Fr.setQ {base:Nat} {w:World} {z:Nat} (o:Nat) (v:Value) (hz:base≤z) {arr:Array Value} (h:w.heap[z]?=some (.cells arr 3 (0,0))):∀ {m:Nat} {A:AG} {l:List In},MKLQ w m base A l→(∀ b,A b→b < base)→MKLQ (w.setCell ⟨z,o,none⟩ v) m base A l:=by
 intro m A l hM hA
 obtain ⟨is,⟨z1,c,h1,h2⟩,h3,h4⟩:=hM
 refine ⟨is,⟨z1,c,(Below.heap_setCell _ _ _ _ (fun e=>?_)).trans h1,own_setCell h2 (fun e=>own_ne h2 h (by decide) e)⟩,h3,fun k hk hk'=>(h4 k hk hk').kept fun b hb'=>Below.heap_setCell _ _ _ _ (by have:=hA b hb';show b≠z;omega)⟩
 subst e
 rw [h1] at h
 cases h
end Go.Proofs.YtacaanhnlfpbhaaGreat
