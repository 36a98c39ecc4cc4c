/- HELPERS: texts of ours put together. -/
import Derived.Test.YtacaanhnlfpbhaaGreatK41
namespace Go.Proofs.YtacaanhnlfpbhaaGreat
open Go.RowKit
set_option linter.unusedVariables false
set_option linter.unusedSimpArgs false
theorem modify_mid (l r:List In) (I:In) (f:In → In):(l ++ I :: r).modify l.length f = l ++ f I :: r:=by
 induction l with
 | nil => simp [List.modify]
 | cons J l ih => simp only [List.cons_append,List.length_cons,List.modify_succ_cons,ih]
theorem fork_eq (r q:Nat) (lz:Bool):In.setY (if lz then (r:Int) else (q:Int)) (In.setX (if lz then (q:Int) else (r:Int)) ⟨2,0,0,0,[]⟩) = forkI r q lz:=by
 cases lz <;> rfl
set_option maxRecDepth 100000 in
set_option maxHeartbeats 8000000 in
theorem quest111 {base:Nat} {A:Nat → Prop} {a2 a4 a5 a7:Int} {a6:Bool} {a8:ByteArray} {r1 s1:Option Addr} {r2 r3 s2 s3:Nat} {R:List (Int × Int)} {ts:List Tn} (hA:∀ b,A b → b < base) (y:Tn) (hts:ts = [y]) (h1:a4 ≠ 1) (h2:a5 = 1) (hIH:∀ N,LP 94 base A N y):LP 235 base A ⟨6,r1,r2,r3,a2,s1,s2,s3,a4,a5,a6,a7,a8⟩ (.mk 6 R a2 ts a4 a5 a6 a7 a8):=by
 intro w m l hM hm hb hT hlen
 obtain ⟨U,hU⟩:∃ U,U = w.alloc (.cells #[.int .i64 6,.slice r1 r2 r3,.int .i64 a2,.slice s1 s2 s3,.int .i64 a4,.int .i64 a5,.bool a6,.int .i64 a7,.string a8] 25):=⟨_,rfl⟩
 have hbU:Below w.heap.size w U:=by rw [hU];exact Joins.below_alloc1 w _
 have hQ:BNo U w.heap.size ⟨6,r1,r2,r3,a2,s1,s2,s3,a4,a5,a6,a7,a8⟩:=by rw [hU];exact heap_alloc_new w _
 have hMU:=hM.below hbU hA (by omega)
 have hbU2:base ≤ U.heap.size:=Nat.le_trans hb hbU.size
 have hTU:TP U A ⟨6,r1,r2,r3,a2,s1,s2,s3,a4,a5,a6,a7,a8⟩ (.mk 6 R a2 ts a4 a5 a6 a7 a8):=hT.kept (fun b hb' => hbU.block b (by have:=hA b hb';omega)) (fun _ h => h)
 have HF:=hid (Fr.of_below hbU hb)
 have HQ:=hid hQ
 have hpU:w.heap.size < U.heap.size:=(Array.getElem?_eq_some_iff.1 hQ).1
 obtain ⟨c0,c1,c2,c3,c4,c5,c6,c7,c8⟩:=nine' hQ
 obtain ⟨p,hp⟩:∃ p,p = w.heap.size:=⟨_,rfl⟩
 have HMU:=hid hMU
 have HTU:=hid hTU
 rw [← hp] at c0 c1 c2 c3 c4 c5 c6 c7 c8 hpU HQ
 subst hts
 have hl6:(Tn.mk 6 R a2 [y] a4 a5 a6 a7 a8).len = y.len + 1:=by simp [Tn.len,lenL,h1,h2]
 rw [hl6] at hlen
 have e:(Tn.mk 6 R a2 [y] a4 a5 a6 a7 a8).lay l.length = forkI (l.length + 1) (l.length + 1 + y.len) a6 :: y.lay (l.length + 1):=by simp [Tn.lay,layL,lenL,h1,h2]
 rw [e]
 clear h1 h2
 obtain ⟨M,b,o,hs2,hs1,hbl,h9,hTM⟩:∃ (M:Nv) (b o:Nat),s2 = 1 ∧ s1 = some ⟨b,o,none⟩ ∧ A b ∧ N9 U b o 0 M ∧ TP U A M y:=by
  cases hTU with
  | @mk _ _ _ ND ok hr hR hRk hs hS hk =>
   obtain ⟨b,o,h1,h2,h3⟩:=hS (by simp)
   exact ⟨ND 0,b,o,hs,h1,h2,h3 0 (by simp),hk 0 (by simp)⟩
 subst hs1 hs2
 obtain ⟨n,hn⟩:∃ n,n = l.length:=⟨_,rfl⟩
 have HNX:=next65l HMU.out
 rw [← hn] at HNX hlen
 have HN:=hid hn
 have HIH:=hid hIH
 have H9:=hid h9
 have HTM:=hid hTM
 clear hIH h9 hTM hn
 clear hM hMU hbU hQ hT hTU
 go_enter Tryz.func235,Tryz.ntmps235
 go_upto_region 1 with fail
 rw [← hU,← hp]
 clear hU hp
 go_upto_region 2 with (first | (go_at_call 137;(with_reducible refine HNX.mono ?_);rintro e w2 ⟨rfl,hw⟩;have hw':=hw.symm;clear hw;subst hw';clear HNX))
 have HC:=addL ⟨2,0,0,0,none,0,0⟩ ⟨2,0,0,0,[]⟩ HMU.out (im_bare _ _ _ _ _ _) hm hA (by have:=HN.out;omega) hbU2
 go_upto_region 3 with (first | (go_at_call 95;(with_reducible refine HC.mono ?_);rintro e V1 ⟨rfl,hM,hf⟩;have HV1:=hid hM;have HG1:=hid hf;clear hM hf HC))
 have FR1:Hid (Fr base U V1):=hid ((Fr.of_below (Below.refl _ _) hbU2).trans HG1.out)
 have hbV1:base ≤ V1.heap.size:=Nat.le_trans hbU2 FR1.out.size
 have hfb2:=(FR1.out).bel hA
 obtain ⟨n0,n1,n2,n3,n4,n5,n6,n7,n8⟩:=H9.out.kept (hfb2 b hbl)
 simp only [Nat.zero_mul,Nat.add_zero] at n0 n1 n2 n3 n4 n5 n6 n7 n8
 have bQ2:=(FR1.out).blk p _ _ _ HQ.out (by decide) (by decide)
 clear c0 c1 c2 c3 c4 c5 c6 c7 c8
 obtain ⟨c0,c1,c2,c3,c4,c5,c6,c7,c8⟩:=nine' bQ2
 have HC:=HIH.out M V1 m (l ++ [(⟨2,0,0,0,[]⟩:In)]) HV1.out hm hbV1 (HTM.out.kept hfb2 (fun _ h => h)) (by simp;have:=HN.out;omega)
 have hll2:(l ++ [(⟨2,0,0,0,[]⟩:In)]).length = n + 1:=by first | (simp [lay_len];have:=HN.out;omega) | (have:=HN.out;omega)
 rw [hll2] at HC
 clear bQ2 hfb2 hll2
 go_upto_region 4 with (first | (go_at_call 94;(with_reducible refine HC.mono ?_);rintro e V2 ⟨rfl,hM,hf⟩;have HV2:=hid hM;have HG2:=hid hf;clear hM hf HC))
 have FR2:Hid (Fr base U V2):=hid ((FR1.out).trans HG2.out)
 have hbV2:base ≤ V2.heap.size:=Nat.le_trans hbU2 FR2.out.size
 clear n0 n1 n2 n3 n4 n5 n6 n7 n8
 have bQ:=(FR2.out).blk p _ _ _ HQ.out (by decide) (by decide)
 clear c0 c1 c2 c3 c4 c5 c6 c7 c8
 obtain ⟨c0,c1,c2,c3,c4,c5,c6,c7,c8⟩:=nine' bQ
 have hlf:(l ++ [(⟨2,0,0,0,[]⟩:In)] ++ y.lay (n + 1)).length = n + 1 + y.len:=by simp [lay_len];have:=HN.out;omega
 have HNN:Hid (∀ W,Below V2.heap.size V2 W → Calls Tryz.prog 137 #[pt m] W fun e w' => e = .returned (.int .i64 ((n + 1 + y.len:Nat):Int)) ∧ w' = W):=fun W hW => by
  have h:=next65l ((HV2.out).below hW hA (by omega))
  rw [hlf] at h
  exact h
 have HFK:Hid (∀ W,Below V2.heap.size V2 W → Calls Tryz.prog 233 #[pt m,.int .i64 ((n:Nat):Int),.int .i64 ((n + 1:Nat):Int),.int .i64 ((n + 1 + y.len:Nat):Int),.bool a6] W fun e w' => e = .returned (.tuple #[]) ∧ MKL w' m base A (((l ++ [(⟨2,0,0,0,[]⟩:In)] ++ y.lay (n + 1)).modify (n) (In.setX (if a6 then ((n + 1 + y.len:Nat):Int) else ((n + 1:Nat):Int)))).modify (n) (In.setY (if a6 then ((n + 1:Nat):Int) else ((n + 1 + y.len:Nat):Int)))) ∧ Fr base W w'):=fun W hW =>
  fork109 (n) _ _ a6 ((HV2.out).below hW hA (by omega)) (by rw [hlf];omega) hm hA (by rw [hlf];omega) (Nat.le_trans hbV2 hW.size)
 have w1:IntKind.i64.wrap ((n:Int) + 1) = (n:Int) + 1:=by simp [IntKind.wrap,IntKind.bits,IntKind.signed];omega
 push_cast at HNN HFK
 clear bQ
 go_region_with (first | (go_at_call 137;(with_reducible refine (HNN.out _ ?_).mono ?_);(exact drew_below _);rintro e w5 ⟨rfl,hw⟩;have hw':=hw.symm;clear hw;subst hw') | (go_at_call 233;(with_reducible refine (HFK.out _ ?_).mono ?_);(exact drew_below _);rintro e w6 ⟨rfl,hM,hf⟩;have HM6:=hid hM;have HF6:=hid hf;clear hM hf))
 all_goals go_wp2_with fail
 all_goals go_end0
 all_goals
  refine ⟨rfl,?_,HF.out.trans ((FR2.out).trans ((Fr.of_below (drew_below _) hbV2).trans HF6.out))⟩
  have h:=HM6.out
  have el:l.length = n:=HN.out.symm
  rw [List.append_assoc] at h
  have h':=h
  rw [show n = l.length from HN.out] at h'
  simp only [List.singleton_append,List.cons_append,List.nil_append,List.append_assoc] at h'
  rw [modify_mid,modify_mid] at h'
  have ef:=fork_eq (l.length + 1) (l.length + 1 + y.len) a6
  push_cast at ef h'
  rw [ef] at h'
  exact h'
set_option maxRecDepth 100000 in
set_option maxHeartbeats 8000000 in
theorem star112 {base:Nat} {A:Nat → Prop} {a2 a4 a5 a7:Int} {a6:Bool} {a8:ByteArray} {r1 s1:Option Addr} {r2 r3 s2 s3:Nat} {R:List (Int × Int)} {ts:List Tn} (hA:∀ b,A b → b < base) (y:Tn) (hts:ts = [y]) (h1:a4 ≠ 1) (h2:a5 ≠ 1) (hIH:∀ N,LP 94 base A N y):LP 236 base A ⟨6,r1,r2,r3,a2,s1,s2,s3,a4,a5,a6,a7,a8⟩ (.mk 6 R a2 ts a4 a5 a6 a7 a8):=by
 intro w m l hM hm hb hT hlen
 obtain ⟨U,hU⟩:∃ U,U = w.alloc (.cells #[.int .i64 6,.slice r1 r2 r3,.int .i64 a2,.slice s1 s2 s3,.int .i64 a4,.int .i64 a5,.bool a6,.int .i64 a7,.string a8] 25):=⟨_,rfl⟩
 have hbU:Below w.heap.size w U:=by rw [hU];exact Joins.below_alloc1 w _
 have hQ:BNo U w.heap.size ⟨6,r1,r2,r3,a2,s1,s2,s3,a4,a5,a6,a7,a8⟩:=by rw [hU];exact heap_alloc_new w _
 have hMU:=hM.below hbU hA (by omega)
 have hbU2:base ≤ U.heap.size:=Nat.le_trans hb hbU.size
 have hTU:TP U A ⟨6,r1,r2,r3,a2,s1,s2,s3,a4,a5,a6,a7,a8⟩ (.mk 6 R a2 ts a4 a5 a6 a7 a8):=hT.kept (fun b hb' => hbU.block b (by have:=hA b hb';omega)) (fun _ h => h)
 have HF:=hid (Fr.of_below hbU hb)
 have HQ:=hid hQ
 have hpU:w.heap.size < U.heap.size:=(Array.getElem?_eq_some_iff.1 hQ).1
 obtain ⟨c0,c1,c2,c3,c4,c5,c6,c7,c8⟩:=nine' hQ
 obtain ⟨p,hp⟩:∃ p,p = w.heap.size:=⟨_,rfl⟩
 have HMU:=hid hMU
 have HTU:=hid hTU
 rw [← hp] at c0 c1 c2 c3 c4 c5 c6 c7 c8 hpU HQ
 subst hts
 have hl6:(Tn.mk 6 R a2 [y] a4 a5 a6 a7 a8).len = y.len + 2:=by simp [Tn.len,lenL,h1,h2]
 rw [hl6] at hlen
 have e:(Tn.mk 6 R a2 [y] a4 a5 a6 a7 a8).lay l.length = forkI (l.length + 1) (l.length + 1 + y.len + 1) a6 :: (y.lay (l.length + 1) ++ [⟨7,(l.length:Int),0,0,[]⟩]):=by simp [Tn.lay,layL,lenL,h1,h2]
 rw [e]
 clear h1 h2
 obtain ⟨M,b,o,hs2,hs1,hbl,h9,hTM⟩:∃ (M:Nv) (b o:Nat),s2 = 1 ∧ s1 = some ⟨b,o,none⟩ ∧ A b ∧ N9 U b o 0 M ∧ TP U A M y:=by
  cases hTU with
  | @mk _ _ _ ND ok hr hR hRk hs hS hk =>
   obtain ⟨b,o,h1,h2,h3⟩:=hS (by simp)
   exact ⟨ND 0,b,o,hs,h1,h2,h3 0 (by simp),hk 0 (by simp)⟩
 subst hs1 hs2
 obtain ⟨n,hn⟩:∃ n,n = l.length:=⟨_,rfl⟩
 have HNX:=next65l HMU.out
 rw [← hn] at HNX hlen
 have HN:=hid hn
 have HIH:=hid hIH
 have H9:=hid h9
 have HTM:=hid hTM
 clear hIH h9 hTM hn
 clear hM hMU hbU hQ hT hTU
 go_enter Tryz.func236,Tryz.ntmps236
 go_upto_region 1 with fail
 rw [← hU,← hp]
 clear hU hp
 go_upto_region 2 with (first | (go_at_call 137;(with_reducible refine HNX.mono ?_);rintro e w2 ⟨rfl,hw⟩;have hw':=hw.symm;clear hw;subst hw';clear HNX))
 have HC:=addL ⟨2,0,0,0,none,0,0⟩ ⟨2,0,0,0,[]⟩ HMU.out (im_bare _ _ _ _ _ _) hm hA (by have:=HN.out;omega) hbU2
 go_upto_region 3 with (first | (go_at_call 95;(with_reducible refine HC.mono ?_);rintro e V1 ⟨rfl,hM,hf⟩;have HV1:=hid hM;have HG1:=hid hf;clear hM hf HC))
 have FR1:Hid (Fr base U V1):=hid ((Fr.of_below (Below.refl _ _) hbU2).trans HG1.out)
 have hbV1:base ≤ V1.heap.size:=Nat.le_trans hbU2 FR1.out.size
 have hfb2:=(FR1.out).bel hA
 obtain ⟨n0,n1,n2,n3,n4,n5,n6,n7,n8⟩:=H9.out.kept (hfb2 b hbl)
 simp only [Nat.zero_mul,Nat.add_zero] at n0 n1 n2 n3 n4 n5 n6 n7 n8
 have bQ2:=(FR1.out).blk p _ _ _ HQ.out (by decide) (by decide)
 clear c0 c1 c2 c3 c4 c5 c6 c7 c8
 obtain ⟨c0,c1,c2,c3,c4,c5,c6,c7,c8⟩:=nine' bQ2
 have HC:=HIH.out M V1 m (l ++ [(⟨2,0,0,0,[]⟩:In)]) HV1.out hm hbV1 (HTM.out.kept hfb2 (fun _ h => h)) (by simp;have:=HN.out;omega)
 have hll2:(l ++ [(⟨2,0,0,0,[]⟩:In)]).length = n + 1:=by first | (simp [lay_len];have:=HN.out;omega) | (have:=HN.out;omega)
 rw [hll2] at HC
 clear bQ2 hfb2 hll2
 go_upto_region 4 with (first | (go_at_call 94;(with_reducible refine HC.mono ?_);rintro e V2 ⟨rfl,hM,hf⟩;have HV2:=hid hM;have HG2:=hid hf;clear hM hf HC))
 have FR2:Hid (Fr base U V2):=hid ((FR1.out).trans HG2.out)
 have hbV2:base ≤ V2.heap.size:=Nat.le_trans hbU2 FR2.out.size
 clear n0 n1 n2 n3 n4 n5 n6 n7 n8
 have HC:=addL ⟨7,(n:Int),0,0,none,0,0⟩ ⟨7,(n:Int),0,0,[]⟩ HV2.out (im_bare _ _ _ _ _ _) hm hA (by simp [lay_len];have:=HN.out;omega) hbV2
 go_upto_region 5 with (first | (go_at_call 95;(with_reducible refine HC.mono ?_);rintro e V3 ⟨rfl,hM,hf⟩;have HV3:=hid hM;have HG3:=hid hf;clear hM hf HC))
 have FR3:Hid (Fr base U V3):=hid ((FR2.out).trans HG3.out)
 have hbV3:base ≤ V3.heap.size:=Nat.le_trans hbU2 FR3.out.size
 have bQ:=(FR3.out).blk p _ _ _ HQ.out (by decide) (by decide)
 clear c0 c1 c2 c3 c4 c5 c6 c7 c8
 obtain ⟨c0,c1,c2,c3,c4,c5,c6,c7,c8⟩:=nine' bQ
 have hlf:(l ++ [(⟨2,0,0,0,[]⟩:In)] ++ y.lay (n + 1) ++ [(⟨7,(n:Int),0,0,[]⟩:In)]).length = n + 1 + y.len + 1:=by simp [lay_len];have:=HN.out;omega
 have HNN:Hid (∀ W,Below V3.heap.size V3 W → Calls Tryz.prog 137 #[pt m] W fun e w' => e = .returned (.int .i64 ((n + 1 + y.len + 1:Nat):Int)) ∧ w' = W):=fun W hW => by
  have h:=next65l ((HV3.out).below hW hA (by omega))
  rw [hlf] at h
  exact h
 have HFK:Hid (∀ W,Below V3.heap.size V3 W → Calls Tryz.prog 233 #[pt m,.int .i64 ((n:Nat):Int),.int .i64 ((n + 1:Nat):Int),.int .i64 ((n + 1 + y.len + 1:Nat):Int),.bool a6] W fun e w' => e = .returned (.tuple #[]) ∧ MKL w' m base A (((l ++ [(⟨2,0,0,0,[]⟩:In)] ++ y.lay (n + 1) ++ [(⟨7,(n:Int),0,0,[]⟩:In)]).modify (n) (In.setX (if a6 then ((n + 1 + y.len + 1:Nat):Int) else ((n + 1:Nat):Int)))).modify (n) (In.setY (if a6 then ((n + 1:Nat):Int) else ((n + 1 + y.len + 1:Nat):Int)))) ∧ Fr base W w'):=fun W hW =>
  fork109 (n) _ _ a6 ((HV3.out).below hW hA (by omega)) (by rw [hlf];omega) hm hA (by rw [hlf];omega) (Nat.le_trans hbV3 hW.size)
 have w1:IntKind.i64.wrap ((n:Int) + 1) = (n:Int) + 1:=by simp [IntKind.wrap,IntKind.bits,IntKind.signed];omega
 push_cast at HNN HFK
 clear bQ
 go_region_with (first | (go_at_call 137;(with_reducible refine (HNN.out _ ?_).mono ?_);(exact drew_below _);rintro e w5 ⟨rfl,hw⟩;have hw':=hw.symm;clear hw;subst hw') | (go_at_call 233;(with_reducible refine (HFK.out _ ?_).mono ?_);(exact drew_below _);rintro e w6 ⟨rfl,hM,hf⟩;have HM6:=hid hM;have HF6:=hid hf;clear hM hf))
 all_goals go_wp2_with fail
 all_goals go_end0
 all_goals
  refine ⟨rfl,?_,HF.out.trans ((FR3.out).trans ((Fr.of_below (drew_below _) hbV3).trans HF6.out))⟩
  have h:=HM6.out
  have el:l.length = n:=HN.out.symm
  rw [List.append_assoc] at h
  have h':=h
  rw [show n = l.length from HN.out] at h'
  simp only [List.singleton_append,List.cons_append,List.nil_append,List.append_assoc] at h'
  rw [modify_mid,modify_mid] at h'
  have ef:=fork_eq (l.length + 1) (l.length + 1 + y.len + 1) a6
  push_cast at ef h'
  rw [ef] at h'
  exact h'
set_option maxRecDepth 100000 in
set_option maxHeartbeats 8000000 in
theorem plus110 {base:Nat} {A:Nat → Prop} {a2 a4 a5 a7:Int} {a6:Bool} {a8:ByteArray} {r1 s1:Option Addr} {r2 r3 s2 s3:Nat} {R:List (Int × Int)} {ts:List Tn} (hA:∀ b,A b → b < base) (y:Tn) (hts:ts = [y]) (h1:a4 = 1) (hIH:∀ N,LP 94 base A N y):LP 234 base A ⟨6,r1,r2,r3,a2,s1,s2,s3,a4,a5,a6,a7,a8⟩ (.mk 6 R a2 ts a4 a5 a6 a7 a8):=by
 intro w m l hM hm hb hT hlen
 obtain ⟨U,hU⟩:∃ U,U = w.alloc (.cells #[.int .i64 6,.slice r1 r2 r3,.int .i64 a2,.slice s1 s2 s3,.int .i64 a4,.int .i64 a5,.bool a6,.int .i64 a7,.string a8] 25):=⟨_,rfl⟩
 have hbU:Below w.heap.size w U:=by rw [hU];exact Joins.below_alloc1 w _
 have hQ:BNo U w.heap.size ⟨6,r1,r2,r3,a2,s1,s2,s3,a4,a5,a6,a7,a8⟩:=by rw [hU];exact heap_alloc_new w _
 have hMU:=hM.below hbU hA (by omega)
 have hbU2:base ≤ U.heap.size:=Nat.le_trans hb hbU.size
 have hTU:TP U A ⟨6,r1,r2,r3,a2,s1,s2,s3,a4,a5,a6,a7,a8⟩ (.mk 6 R a2 ts a4 a5 a6 a7 a8):=hT.kept (fun b hb' => hbU.block b (by have:=hA b hb';omega)) (fun _ h => h)
 have HF:=hid (Fr.of_below hbU hb)
 have HQ:=hid hQ
 have hpU:w.heap.size < U.heap.size:=(Array.getElem?_eq_some_iff.1 hQ).1
 obtain ⟨c0,c1,c2,c3,c4,c5,c6,c7,c8⟩:=nine' hQ
 obtain ⟨p,hp⟩:∃ p,p = w.heap.size:=⟨_,rfl⟩
 have HMU:=hid hMU
 have HTU:=hid hTU
 rw [← hp] at c0 c1 c2 c3 c4 c5 c6 c7 c8 hpU HQ
 subst hts
 have hl6:(Tn.mk 6 R a2 [y] a4 a5 a6 a7 a8).len = y.len + 1:=by simp [Tn.len,lenL,h1]
 rw [hl6] at hlen
 have e:(Tn.mk 6 R a2 [y] a4 a5 a6 a7 a8).lay l.length = y.lay l.length ++ [forkI l.length (l.length + y.len + 1) a6]:=by simp [Tn.lay,layL,lenL,h1]
 rw [e]
 clear h1
 obtain ⟨M,b,o,hs2,hs1,hbl,h9,hTM⟩:∃ (M:Nv) (b o:Nat),s2 = 1 ∧ s1 = some ⟨b,o,none⟩ ∧ A b ∧ N9 U b o 0 M ∧ TP U A M y:=by
  cases hTU with
  | @mk _ _ _ ND ok hr hR hRk hs hS hk =>
   obtain ⟨b,o,h1,h2,h3⟩:=hS (by simp)
   exact ⟨ND 0,b,o,hs,h1,h2,h3 0 (by simp),hk 0 (by simp)⟩
 subst hs1 hs2
 obtain ⟨n,hn⟩:∃ n,n = l.length:=⟨_,rfl⟩
 have HNX:=next65l HMU.out
 rw [← hn] at HNX hlen
 have HN:=hid hn
 have HIH:=hid hIH
 have H9:=hid h9
 have HTM:=hid hTM
 clear hIH h9 hTM hn
 clear hM hMU hbU hQ hT hTU
 go_enter Tryz.func234,Tryz.ntmps234
 go_upto_region 1 with fail
 rw [← hU,← hp]
 clear hU hp
 go_upto_region 2 with (first | (go_at_call 137;(with_reducible refine HNX.mono ?_);rintro e w2 ⟨rfl,hw⟩;have hw':=hw.symm;clear hw;subst hw';clear HNX))
 have hfb1:=(Fr.of_below (Below.refl _ _) hbU2).bel hA
 obtain ⟨n0,n1,n2,n3,n4,n5,n6,n7,n8⟩:=H9.out.kept (hfb1 b hbl)
 simp only [Nat.zero_mul,Nat.add_zero] at n0 n1 n2 n3 n4 n5 n6 n7 n8
 have bQ1:=(Fr.of_below (Below.refl _ _) hbU2).blk p _ _ _ HQ.out (by decide) (by decide)
 clear c0 c1 c2 c3 c4 c5 c6 c7 c8
 obtain ⟨c0,c1,c2,c3,c4,c5,c6,c7,c8⟩:=nine' bQ1
 have HC:=HIH.out M U m (l) HMU.out hm hbU2 (HTM.out.kept hfb1 (fun _ h => h)) (by have:=HN.out;omega)
 have hll1:(l).length = n:=by first | (simp [lay_len];have:=HN.out;omega) | (have:=HN.out;omega)
 rw [hll1] at HC
 clear bQ1 hfb1 hll1
 go_upto_region 3 with (first | (go_at_call 94;(with_reducible refine HC.mono ?_);rintro e V1 ⟨rfl,hM,hf⟩;have HV1:=hid hM;have HG1:=hid hf;clear hM hf HC))
 have FR1:Hid (Fr base U V1):=hid ((Fr.of_below (Below.refl _ _) hbU2).trans HG1.out)
 have hbV1:base ≤ V1.heap.size:=Nat.le_trans hbU2 FR1.out.size
 clear n0 n1 n2 n3 n4 n5 n6 n7 n8
 have HNX:=next65l HV1.out
 have hll:(l ++ y.lay n).length = n + y.len:=by simp [lay_len];have:=HN.out;omega
 rw [hll] at HNX
 go_upto_region 4 with (first | (go_at_call 137;(with_reducible refine HNX.mono ?_);rintro e w2 ⟨rfl,hw⟩;have hw':=hw.symm;clear hw;subst hw';clear HNX))
 have HC:=addL ⟨2,0,0,0,none,0,0⟩ ⟨2,0,0,0,[]⟩ HV1.out (im_bare _ _ _ _ _ _) hm hA (by rw [hll];omega) hbV1
 go_upto_region 5 with (first | (go_at_call 95;(with_reducible refine HC.mono ?_);rintro e V2 ⟨rfl,hM,hf⟩;have HV2:=hid hM;have HG2:=hid hf;clear hM hf HC))
 have FR2:Hid (Fr base U V2):=hid ((FR1.out).trans HG2.out)
 have hbV2:base ≤ V2.heap.size:=Nat.le_trans hbU2 FR2.out.size
 have bQ:=(FR2.out).blk p _ _ _ HQ.out (by decide) (by decide)
 clear c0 c1 c2 c3 c4 c5 c6 c7 c8
 obtain ⟨c0,c1,c2,c3,c4,c5,c6,c7,c8⟩:=nine' bQ
 have hlf:(l ++ y.lay n ++ [(⟨2,0,0,0,[]⟩:In)]).length = n + y.len + 1:=by simp [lay_len];have:=HN.out;omega
 have HNN:Hid (∀ W,Below V2.heap.size V2 W → Calls Tryz.prog 137 #[pt m] W fun e w' => e = .returned (.int .i64 ((n + y.len + 1:Nat):Int)) ∧ w' = W):=fun W hW => by
  have h:=next65l ((HV2.out).below hW hA (by omega))
  rw [hlf] at h
  exact h
 have HFK:Hid (∀ W,Below V2.heap.size V2 W → Calls Tryz.prog 233 #[pt m,.int .i64 ((n + y.len:Nat):Int),.int .i64 ((n:Nat):Int),.int .i64 ((n + y.len + 1:Nat):Int),.bool a6] W fun e w' => e = .returned (.tuple #[]) ∧ MKL w' m base A (((l ++ y.lay n ++ [(⟨2,0,0,0,[]⟩:In)]).modify (n + y.len) (In.setX (if a6 then ((n + y.len + 1:Nat):Int) else ((n:Nat):Int)))).modify (n + y.len) (In.setY (if a6 then ((n:Nat):Int) else ((n + y.len + 1:Nat):Int)))) ∧ Fr base W w'):=fun W hW =>
  fork109 (n + y.len) _ _ a6 ((HV2.out).below hW hA (by omega)) (by rw [hlf];omega) hm hA (by rw [hlf];omega) (Nat.le_trans hbV2 hW.size)
 have w1:IntKind.i64.wrap ((n:Int) + 1) = (n:Int) + 1:=by simp [IntKind.wrap,IntKind.bits,IntKind.signed];omega
 push_cast at HNN HFK
 clear bQ
 go_region_with (first | (go_at_call 137;(with_reducible refine (HNN.out _ ?_).mono ?_);(exact drew_below _);rintro e w5 ⟨rfl,hw⟩;have hw':=hw.symm;clear hw;subst hw') | (go_at_call 233;(with_reducible refine (HFK.out _ ?_).mono ?_);(exact drew_below _);rintro e w6 ⟨rfl,hM,hf⟩;have HM6:=hid hM;have HF6:=hid hf;clear hM hf))
 all_goals go_wp2_with fail
 all_goals go_end0
 all_goals
  refine ⟨rfl,?_,HF.out.trans ((FR2.out).trans ((Fr.of_below (drew_below _) hbV2).trans HF6.out))⟩
  have h:=HM6.out
  have el:(l ++ y.lay n).length = n + y.len:=by simp [lay_len];have:=HN.out;omega
  rw [← el,modify_mid,modify_mid] at h
  have ef:=fork_eq n (n + y.len + 1) a6
  push_cast at ef h
  rw [ef] at h
  rw [← HN.out]
  simpa [List.append_assoc] using h
def layB:List Tn → Nat → Int → List In
 | [],_,_ => []
 | t :: ts,n,f => ⟨2,((n + 1:Nat):Int),((n + t.len + 2:Nat):Int),0,[]⟩ :: (t.lay (n + 1) ++ ⟨7,f,0,0,[]⟩ :: layB ts (n + t.len + 2) f)
def endsB:List Tn → Nat → List Nat
 | [],_ => []
 | t :: ts,n => (n + 1 + t.len) :: endsB ts (n + t.len + 2)
theorem layA_B:∀ (s:List Tn) (u:Tn) (n:Nat) (f:Int),layA (s ++ [u]) n f = layB s n f ++ u.lay (n + lenL s + 2 * s.length)
 | [],u,n,f => by simp [layA,layB,lenL]
 | [t],u,n,f => by simp [layA,layB,lenL]
 | t :: v :: s,u,n,f => by
  have ih:=layA_B (v :: s) u (n + t.len + 2) f
  simp only [List.cons_append] at ih
  simp only [List.cons_append,layA,layB,ih,lenL,List.length_cons,List.append_assoc]
  rw [show n + t.len + 2 + (v.len + lenL s) + 2 * (s.length + 1) = n + (t.len + (v.len + lenL s)) + 2 * (s.length + 1 + 1) by omega]
theorem layB_len:∀ (s:List Tn) (n:Nat) (f:Int),(layB s n f).length = lenL s + 2 * s.length
 | [],n,f => rfl
 | t :: s,n,f => by simp only [layB,lenL,List.length_cons,List.length_append,lay_len,layB_len s];omega
theorem endsB_len:∀ (s:List Tn) (n:Nat),(endsB s n).length = s.length
 | [],n => rfl
 | t :: s,n => by simp only [endsB,List.length_cons,endsB_len s]
theorem layB_app:∀ (s:List Tn) (t:Tn) (n:Nat) (f:Int),layB (s ++ [t]) n f = layB s n f ++ (⟨2,((n + lenL s + 2 * s.length + 1:Nat):Int),((n + lenL s + 2 * s.length + t.len + 2:Nat):Int),0,[]⟩ :: (t.lay (n + lenL s + 2 * s.length + 1) ++ [⟨7,f,0,0,[]⟩]))
 | [],t,n,f => by simp [layB,lenL]
 | v :: s,t,n,f => by
  have ih:=layB_app s t (n + v.len + 2) f
  simp only [List.cons_append,layB,ih,lenL,List.length_cons,List.append_assoc]
  rw [show n + v.len + 2 + lenL s + 2 * s.length = n + (v.len + lenL s) + 2 * (s.length + 1) by omega]
theorem endsB_app:∀ (s:List Tn) (t:Tn) (n:Nat),endsB (s ++ [t]) n = endsB s n ++ [n + lenL s + 2 * s.length + 1 + t.len]
 | [],t,n => by simp [endsB,lenL]
 | v :: s,t,n => by
  have ih:=endsB_app s t (n + v.len + 2)
  simp only [List.cons_append,endsB,ih,lenL,List.length_cons]
  rw [show n + v.len + 2 + lenL s + 2 * s.length + 1 + t.len = n + (v.len + lenL s) + 2 * (s.length + 1) + 1 + t.len by omega]
def setAll (f:Int) (L:List In) (es:List Nat):List In:=es.foldl (fun L e => L.modify e (In.setX f)) L
theorem setAll_len (f:Int):∀ (es:List Nat) (L:List In),(setAll f L es).length = L.length
 | [],L => rfl
 | e :: es,L => by
  show (setAll f (L.modify e (In.setX f)) es).length = _
  rw [setAll_len f es,List.length_modify]
theorem setAll_B (f:Int):∀ (s:List Tn) (n:Nat) (pre suf:List In),pre.length = n → setAll f (pre ++ (layB s n 0 ++ suf)) (endsB s n) = pre ++ (layB s n f ++ suf)
 | [],n,pre,suf,h => rfl
 | t :: s,n,pre,suf,h => by
  show setAll f ((pre ++ (layB (t :: s) n 0 ++ suf)).modify (n + 1 + t.len) (In.setX f)) (endsB s (n + t.len + 2)) = _
  have e1:pre ++ (layB (t :: s) n 0 ++ suf) = (pre ++ ⟨2,((n + 1:Nat):Int),((n + t.len + 2:Nat):Int),0,[]⟩ :: t.lay (n + 1)) ++ ⟨7,0,0,0,[]⟩ :: (layB s (n + t.len + 2) 0 ++ suf):=by simp [layB,List.append_assoc]
  have e2:(pre ++ (⟨2,((n + 1:Nat):Int),((n + t.len + 2:Nat):Int),0,[]⟩:In) :: t.lay (n + 1)).length = n + 1 + t.len:=by simp [lay_len,h];omega
  rw [e1,← e2,modify_mid]
  have ih:=setAll_B f s (n + t.len + 2) ((pre ++ ⟨2,((n + 1:Nat):Int),((n + t.len + 2:Nat):Int),0,[]⟩ :: t.lay (n + 1)) ++ [⟨7,f,0,0,[]⟩]) suf (by rw [List.length_append,e2];simp;omega)
  have e3:(pre ++ ⟨2,((n + 1:Nat):Int),((n + t.len + 2:Nat):Int),0,[]⟩ :: t.lay (n + 1)) ++ In.setX f ⟨7,0,0,0,[]⟩ :: (layB s (n + t.len + 2) 0 ++ suf) = ((pre ++ ⟨2,((n + 1:Nat):Int),((n + t.len + 2:Nat):Int),0,[]⟩ :: t.lay (n + 1)) ++ [⟨7,f,0,0,[]⟩]) ++ (layB s (n + t.len + 2) 0 ++ suf):=by simp [In.setX,List.append_assoc]
  rw [e3,ih]
  simp [layB,List.append_assoc]
theorem setAll_take (f:Int) (L:List In) (es:List Nat) (j:Nat) (hj:j < es.length):setAll f L (es.take (j + 1)) = (setAll f L (es.take j)).modify es[j] (In.setX f):=by
 unfold setAll
 rw [List.take_succ_eq_append_getElem hj,List.foldl_append];rfl
theorem endsB_lt:∀ (s:List Tn) (n:Nat) (e:Nat),e ∈ endsB s n → e < n + lenL s + 2 * s.length
 | [],n,e,h => by simp [endsB] at h
 | t :: s,n,e,h => by
  simp only [endsB,List.mem_cons] at h
  simp only [lenL,List.length_cons]
  rcases h with rfl | h
  ·omega
  ·have:=endsB_lt s _ e h;omega
def EB (w:World) (z n:Nat) (es:List Nat):Prop:=∃ arr:Array Value,w.heap[z]? = some (.cells arr 3 (0,0)) ∧ arr.size = n ∧ ∀ j (hj:j < es.length),arr[j]? = some (.int .i64 ((es[j]:Nat):Int))
theorem EB.fr {base:Nat} {w w':World} {z n:Nat} {es:List Nat} (h:EB w z n es) (hf:Fr base w w'):EB w' z n es:=by
 obtain ⟨arr,h1,h2,h3⟩:=h
 exact ⟨arr,hf.blk z _ _ _ h1 (by decide) (by decide),h2,h3⟩
theorem EB.set {w:World} {z n:Nat} {es:List Nat} (h:EB w z n es) (e:Nat) (he:es.length < n):EB (w.setCell ⟨z,es.length,none⟩ (.int .i64 ((e:Nat):Int))) z n (es ++ [e]):=by
 obtain ⟨arr,h1,h2,h3⟩:=h
 refine ⟨arr.setIfInBounds es.length (.int .i64 ((e:Nat):Int)),Joins.block_setCell h1 _,by simpa using h2,fun j hj => ?_⟩
 simp only [List.length_append,List.length_cons,List.length_nil] at hj
 rw [Array.getElem?_setIfInBounds]
 by_cases e':j = es.length
 ·subst e'
  rw [if_pos rfl,if_pos (by omega)]
  simp
 ·rw [if_neg (by omega),List.getElem_append_left (by omega)]
  exact h3 j (by omega)
theorem make3 (c:Nat) (hc:c ≤ 1000000) (w:World):(Instr.makeSlice 26 (.int .i64 (c:Int)) (.int .i64 (c:Int))).run Tryz.prog w = .ok (.slice (some ⟨w.heap.size,0,none⟩) c c) (w.alloc (.cells (madeCells (Value.int .i64 0).cells c) 3)):=by
 obtain ⟨i0,hi0,hz0,hz1,hz2⟩:=info_parts info3
 have h:=run_make (P:=Tryz.prog) w 26 3 i0 (.int .i64 0) Tryz.underlying26 hi0 hz0 .i64 .i64 c c (by omega) (Int.le_refl _) (by rw [hz2];omega) (by omega)
 simp only [Int.toNat_natCast,hz1,Nat.mul_one] at h
 exact h
theorem EB.made (w:World) (c:Nat):EB (w.alloc (.cells (madeCells (Value.int .i64 0).cells c) 3)) w.heap.size c []:=⟨_,heap_alloc_new w _,size_madeCells _ _,fun j hj => by simp at hj⟩
theorem Fr.set {base:Nat} {w:World} {z:Nat} (o:Nat) (v:Value) (hz:base ≤ z) {arr:Array Value} (h:w.heap[z]? = some (.cells arr 3 (0,0))):∀ {m:Nat} {A:Nat → Prop} {l:List In},MKL w m base A l → (∀ b,A b → b < base) → MKL (w.setCell ⟨z,o,none⟩ v) m base A l:=by
 intro m A l hM hA
 obtain ⟨is,⟨z1,c,h1,h2⟩,h3,h4⟩:=hM
 refine ⟨is,⟨z1,c,(Below.heap_setCell _ _ _ _ (fun e => ?_)).trans h1,own_setCell h2 (fun e => own_ne h2 h (by decide) e)⟩,h3,fun k hk hk' => (h4 k hk hk').kept fun b hb' => Below.heap_setCell _ _ _ _ (by have:=hA b hb';show b ≠ z;omega)⟩
 subst e
 rw [h1] at h
 cases h
end Go.Proofs.YtacaanhnlfpbhaaGreat
