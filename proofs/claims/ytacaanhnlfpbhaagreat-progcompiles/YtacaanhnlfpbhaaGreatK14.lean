/- HELPERS: texts of ours put together. -/
import Derived.Test.YtacaanhnlfpbhaaGreatK13
namespace Go.Proofs.YtacaanhnlfpbhaaGreat
open Go.RowKit
set_option linter.unusedVariables false
set_option linter.unusedSimpArgs false
set_option maxRecDepth 100000 in
set_option maxHeartbeats 8000000 in
theorem alt98Q {base:Nat} {A:AG} {a2 a4 a5 a7:Int} {a6:Bool} {a8:ByteArray} {r1 s1:Option Addr} {r2 r3 s2 s3:Nat} {R:List (Int × Int)} {ts:List Tn} (hA:∀ b,A b→b < base) (h2:2≤ts.length) (hIH:∀ i (hi:i < ts.length) N,LPQ 94 base A N ts[i]):LPQ 208 base A ⟨5,r1,r2,r3,a2,s1,s2,s3,a4,a5,a6,a7,a8⟩ (.mk 5 R a2 ts a4 a5 a6 a7 a8):=by
 intro w m l hM hm hb hT hlen
 obtain ⟨U,hU⟩:∃ U,U=w.alloc (.cells #[.int .i64 5,.slice r1 r2 r3,.int .i64 a2,.slice s1 s2 s3,.int .i64 a4,.int .i64 a5,.bool a6,.int .i64 a7,.string a8] 25):=⟨_,rfl⟩
 have hbU:Below w.heap.size w U:=by rw [hU];exact Joins.below_alloc1 w _
 have hQ:BNo U w.heap.size ⟨5,r1,r2,r3,a2,s1,s2,s3,a4,a5,a6,a7,a8⟩:=by rw [hU];exact heap_alloc_new w _
 have hMU:=hM.below hbU hA (by omega)
 have hbU2:base≤U.heap.size:=Nat.le_trans hb hbU.size
 have hTU:TPQ U A ⟨5,r1,r2,r3,a2,s1,s2,s3,a4,a5,a6,a7,a8⟩ (.mk 5 R a2 ts a4 a5 a6 a7 a8):=hT.kept (fun b hb'=>hbU.block b (by have:=hA b hb';omega)) (fun _ h=>h)
 have HF:=hid (Fr.of_below hbU hb)
 have HQ:=hid hQ
 have hpU:w.heap.size < U.heap.size:=(Array.getElem?_eq_some_iff.1 hQ).1
 obtain ⟨c0,c1,c2,c3,c4,c5,c6,c7,c8⟩:=nine' hQ
 obtain ⟨p,hp⟩:∃ p,p=w.heap.size:=⟨_,rfl⟩
 have HMU:=hid hMU
 have HTU:=hid hTU
 rw [← hp] at c0 c1 c2 c3 c4 c5 c6 c7 c8 hpU HQ
 obtain ⟨d,hd⟩:∃ d,ts.length=d + 1:=⟨ts.length - 1,by omega⟩
 have hl5:(Tn.mk 5 R a2 ts a4 a5 a6 a7 a8).len=lenL ts + 2 * d:=by simp [Tn.len];omega
 rw [hl5] at hlen
 obtain ⟨u,hu,hsplit⟩:∃ u,(∀ h:d < ts.length,ts[d]=u)∧ts=ts.take d ++ [u]:=by
  have e:=List.take_succ_eq_append_getElem (show d < ts.length by omega)
  rw [show d + 1=ts.length by omega,List.take_length] at e
  exact ⟨_,fun _=>rfl,e⟩
 have e:(Tn.mk 5 R a2 ts a4 a5 a6 a7 a8).lay l.length=layA ts l.length ((l.length + (lenL ts + 2 * d):Nat):Int):=by simp [Tn.lay,hd]
 rw [e]
 obtain ⟨ND,hs,hS,hk⟩:∃ ND:Nat→Nv,s2=ts.length∧(0 < ts.length→∃ b o,s1=some ⟨b,o,none⟩∧A b∧∀ i,i < ts.length→N9 U b o i (ND i))∧∀ i (hi:i < ts.length),TPQ U A (ND i) ts[i]:=by cases hTU with | @mk _ _ _ ND ok hr hR hRk hs hS hk=>exact ⟨ND,hs,hS,hk⟩
 obtain ⟨hsc,hmx⟩:s2≤s3∧s3≤9223372036854775807:=by cases hTU with | mk ok hr hR hRk hs hS hk=>have:=ok.s;have e:maxLen=9223372036854775807:=rfl;dsimp only at this;omega
 obtain ⟨b,o,hs1,hbl,h9⟩:=hS (by omega)
 subst hs1
 obtain rfl:s2=d + 1:=by omega
 obtain ⟨n,hn⟩:∃ n,n=l.length:=⟨_,rfl⟩
 rw [← hn] at hlen ⊢
 have HN:=hid hn
 have H9:=hid h9
 have HK:=hid hk
 have HIH:=hid hIH
 have HD:=hid hd
 have HSP:=hid hsplit
 have HLU:Hid (∀ N,LPQ 94 base A N u):=fun N=>by have h:=hIH d (by omega) N;rw [hu (by omega)] at h;exact h
 have HTU':Hid (TPQ U A (ND d) u):=by have h:=hk d (by omega);rw [hu (by omega)] at h;exact h
 have hdn:2 * d≤20000:=by omega
 have w1:IntKind.i64.wrap (((d + 1:Nat):Int) - 1)=(d:Int):=by simp [IntKind.wrap,IntKind.bits,IntKind.signed];omega
 have w1':IntKind.i64.wrap ((d:Int) + 1 - 1)=(d:Int):=by simp [IntKind.wrap,IntKind.bits,IntKind.signed];omega
 have hmk:=make3 d (by omega) U
 have hEB:=EB.made U d
 obtain ⟨V,hV⟩:∃ V,V=U.alloc (.cells (madeCells (Value.int .i64 0).cells d) 3):=⟨_,rfl⟩
 rw [← hV] at hmk hEB
 have hVb:Below U.heap.size U V:=by rw [hV];exact Joins.below_alloc1 U _
 obtain ⟨z,hz⟩:∃ z,z=U.heap.size:=⟨_,rfl⟩
 rw [← hz] at hmk hEB
 have HEB:=hid hEB
 have hMV:=HMU.out.below hVb hA (by omega)
 have HMV:=hid hMV
 have HFV:=hid (Fr.of_below hVb hbU2)
 have hbV:base≤V.heap.size:=Nat.le_trans hbU2 hVb.size
 have hbz:base≤z:=by omega
 have HUZ:Hid (U.heap.size≤z):=by show _≤_;omega
 have HLN:=hid hlen
 have hcc:(d:Int)≤(s3:Int):=by omega
 have HSI:Hid (∀ i (hlt:i < ts.length),lenL (ts.take i) + ts[i].len≤lenL ts):=fun i hlt=>by
  have h1:=lenL_append (ts.take (i + 1)) (ts.drop (i + 1))
  rw [List.take_append_drop,List.take_succ_eq_append_getElem hlt,lenL_append] at h1
  simp only [lenL] at h1
  omega
 clear hs hS hk hIH hlen hn h9 hsplit hd hV hVb hz hEB hMV h2 hu
 clear hM hMU hbU hQ hT hTU
 go_enter Tryz.func208,Tryz.ntmps208
 go_upto_region 1 with fail
 rw [← hU,← hp]
 clear hU hp
 go_upto_region 3 with fail
 have bQV:=HFV.out.blk p _ _ _ HQ.out (by decide) (by decide)
 clear c0 c1 c2 c3 c4 c5 c6 c7 c8
 obtain ⟨c0,c1,c2,c3,c4,c5,c6,c7,c8⟩:=nine' bQV
 have HQV:=hid bQV
 clear bQV
 go_wp2_with fail
 go_loopw [22] (fun y wq=>∃ i:Nat,y=.int .i64 (i:Int)∧i≤d∧Hid (MKLQ wq m base A (l ++ layB (ts.take i) n 0))∧Hid (EB wq z d (endsB (ts.take i) n))∧Hid (Fr base U wq)) (fun y _=>d - (intOf y).toNat)
 case atStart=>exact ⟨0,rfl,by omega,by show MKLQ _ _ _ _ _;simpa [layB] using HMV.out,by show EB _ _ _ _;simpa [endsB] using HEB.out,HFV⟩
 case round =>
  obtain ⟨i,rfl,hi,HI,HE,HFq⟩:=hrel
  have hbw:base≤wr.heap.size:=Nat.le_trans hbU2 HFq.out.size
  have bQ:=HFq.out.blk p _ _ _ HQ.out (by decide) (by decide)
  clear c0 c1 c2 c3 c4 c5 c6 c7 c8
  obtain ⟨c0,c1,c2,c3,c4,c5,c6,c7,c8⟩:=nine' bQ
  clear bQ
  by_cases hil:i < d
  ·have b1:decide ((i:Int) < (d:Int))=true:=by simp;omega
   have b2:(i:Int) < (d:Int):=by omega
   have ad1:IntKind.i64.wrap ((i:Int) + 1)=(i:Int) + 1:=by simp [IntKind.wrap,IntKind.bits,IntKind.signed];omega
   have hlt:i < ts.length:=by have:=HD.out;omega
   have hfb:=HFq.out.bel hA
   obtain ⟨n0,n1,n2,n3,n4,n5,n6,n7,n8⟩:=(H9.out i hlt).kept (hfb b hbl)
   have hTi:=(HK.out i hlt).kept hfb (fun _ h=>h)
   have hln:=HSI.out i hlt
   have hLP:=HIH.out i hlt
   have hapB:=layB_app (ts.take i) ts[i] n 0
   have hapE:=endsB_app (ts.take i) ts[i] n
   rw [← List.take_succ_eq_append_getElem hlt] at hapB hapE
   have htl:(ts.take i).length=i:=by rw [List.length_take];omega
   rw [htl] at hapB hapE
   have hEl:(endsB (ts.take i) n).length=i:=by rw [endsB_len,htl]
   have hla:(l ++ layB (ts.take i) n 0).length=n + lenL (ts.take i) + 2 * i:=by rw [List.length_append,layB_len,htl];have:=HN.out;omega
   obtain ⟨a,ha⟩:∃ a,a=n + lenL (ts.take i) + 2 * i:=⟨_,rfl⟩
   rw [← ha] at hapB hapE hla
   obtain ⟨t,ht⟩:∃ t,t=ts[i]:=⟨_,rfl⟩
   rw [← ht] at hTi hln hLP hapB hapE
   obtain ⟨M,hMe⟩:∃ M,M=ND i:=⟨_,rfl⟩
   rw [← hMe] at n0 n1 n2 n3 n4 n5 n6 n7 n8 hTi
   obtain ⟨lst,hlst⟩:∃ lst,lst=l ++ layB (ts.take i) n 0:=⟨_,rfl⟩
   have hI:=HI.out
   rw [← hlst] at hI hla
   obtain ⟨es,hes⟩:∃ es,es=endsB (ts.take i) n:=⟨_,rfl⟩
   have hE:=HE.out
   rw [← hes] at hE hEl
   have hlb:=HLN.out
   have hab:a + t.len + 2≤20000:=by omega
   have HTi:=hid hTi
   have HLP:=hid hLP
   have HAB:=hid hapB
   have HAE:=hid hapE
   have HLA:=hid hla
   have HLST:=hid hlst
   have HES:=hid hes
   have HEL:=hid hEl
   have HI':=hid hI
   have HE':=hid hE
   clear hfb hTi hln hLP hapB hapE htl hEl hla ha ht hMe hlst hI hes hE HI HE hlb
   go_upto_region 6 with fail
   obtain ⟨X,hX⟩:∃ X,X=wr.alloc (.cells #[.int .i64 M.k,.slice M.r1 M.r2 M.r3,.int .i64 M.a2,.slice M.s1 M.s2 M.s3,.int .i64 M.a4,.int .i64 M.a5,.bool M.a6,.int .i64 M.a7,.string M.a8] 25):=⟨_,rfl⟩
   rw [← hX]
   have hXb:Below wr.heap.size wr X:=by rw [hX];exact Joins.below_alloc1 wr _
   have hXn:BNo X wr.heap.size M:=by rw [hX];exact heap_alloc_new wr _
   have hXF:=Fr.of_below (base:=base) hXb hbw
   have hXM:=HI'.out.below hXb hA (by omega)
   have hbX:base≤X.heap.size:=Nat.le_trans hbw hXb.size
   have HNX:=next65lQ hXM
   rw [HLA.out] at HNX
   have HC:=addLQ ⟨2,0,0,0,none,0,0⟩ ⟨2,0,0,0,[]⟩ hXM (im_bareQ _ _ _ _ _ _) hm hA (by rw [HLA.out];omega) hbX
   have HXN:=hid hXn
   have HXE:=hid (HE'.out.fr hXF)
   have HXF:=hid hXF
   have HXT:=hid (HTi.out.kept (fun b hb'=>hXb.block b (by have:=hA b hb';omega)) (fun _ h=>h))
   obtain ⟨xb,hxb⟩:∃ xb,xb=wr.heap.size:=⟨_,rfl⟩
   rw [← hxb] at HXN ⊢
   clear hX hXb hXn hXF hXM n0 n1 n2 n3 n4 n5 n6 n7 n8 hxb HTi HE' HI'
   go_upto_region 7 with (first | (go_at_call 137;(with_reducible refine HNX.mono ?_);rintro e w2 ⟨rfl,hw⟩;have hw':=hw.symm;clear hw;subst hw';clear HNX))
   go_upto_region 8 with (first | (go_at_call 95;(with_reducible refine HC.mono ?_);rintro e V1 ⟨rfl,hM,hf⟩;have HM1:=hid hM;have HF1:=hid hf;clear hM hf HC))
   have hb1:base≤V1.heap.size:=Nat.le_trans hbX HF1.out.size
   have h1N:=HF1.out.blk xb _ _ _ HXN.out (by decide) (by decide)
   obtain ⟨x0,x1,x2,x3,x4,x5,x6,x7,x8⟩:=nine' h1N
   have hl1:(lst ++ [(⟨2,0,0,0,[]⟩:In)]).length=a + 1:=by rw [List.length_append,HLA.out];rfl
   have HC:=HLP.out M V1 m _ HM1.out hm hb1 (HXT.out.kept (HF1.out.bel hA) (fun _ h=>h)) (by rw [hl1];omega)
   rw [hl1] at HC
   clear h1N hl1
   go_upto_region 9 with (first | (go_at_call 94;(with_reducible refine HC.mono ?_);rintro e V2 ⟨rfl,hM,hf⟩;have HM2:=hid hM;have HF2:=hid hf;clear hM hf HC))
   clear x0 x1 x2 x3 x4 x5 x6 x7 x8
   have hb2:base≤V2.heap.size:=Nat.le_trans hb1 HF2.out.size
   have hl2:(lst ++ [(⟨2,0,0,0,[]⟩:In)] ++ t.lay (a + 1)).length=a + 1 + t.len:=by rw [List.length_append,List.length_append,HLA.out,lay_len];rfl
   have HNX:=next65lQ HM2.out
   rw [hl2] at HNX
   have hE2:=(HXE.out.fr HF1.out).fr HF2.out
   have HE2:=hid hE2
   obtain ⟨arr,hz2,hzs,_⟩:=hE2
   have fz:=Joins.unfrozen_of_block hz2 i
   have kz:V2.cell? ⟨z,i,none⟩=some (arr[i]'(by omega)):=by rw [Joins.cell_of_block hz2,Array.getElem?_eq_getElem (by omega)]
   obtain ⟨vz,hvz⟩:∃ vz,vz=arr[i]'(by omega):=⟨_,rfl⟩
   rw [← hvz] at kz
   have HZ2:=hid hz2
   clear hz2 hzs hvz hl2
   go_upto_region 10 with (first | (go_at_call 137;(with_reducible refine HNX.mono ?_);rintro e w2 ⟨rfl,hw⟩;have hw':=hw.symm;clear hw;subst hw';clear HNX))
   obtain ⟨V3,hV3⟩:∃ V3,V3=V2.setCell ⟨z,i,none⟩ (.int .i64 ((a + 1 + t.len:Nat):Int)):=⟨_,rfl⟩
   have hV3':=hV3
   push_cast at hV3'
   first | rw [← hV3] | rw [← hV3']
   have hM3:MKLQ V3 m base A (lst ++ [(⟨2,0,0,0,[]⟩:In)] ++ t.lay (a + 1)):=by rw [hV3];exact Fr.setQ i _ hbz HZ2.out HM2.out hA
   have hE3:EB V3 z d (es ++ [a + 1 + t.len]):=by
    rw [hV3]
    have h:=HE2.out.set (a + 1 + t.len) (by rw [HEL.out];exact hil)
    rw [HEL.out] at h
    exact h
   have hFr2:Fr base U V2:=HFq.out.trans (HXF.out.trans (HF1.out.trans HF2.out))
   have hF3:Fr base U V3:=by
    have hzz:=HUZ.out
    rw [hV3]
    exact ⟨hFr2.os,hFr2.tape,hFr2.output,by have:=hFr2.size;simpa [World.setCell] using this,fun b cs t fr e h1 h2=>(Below.heap_setCell _ _ _ _ (by have:=(Array.getElem?_eq_some_iff.1 e).1;show b≠z;omega)).trans (hFr2.blk b cs t fr e h1 h2),fun b hb'=>(Below.heap_setCell _ _ _ _ (by show b≠z;omega)).trans (hFr2.low b hb')⟩
   have hb3:base≤V3.heap.size:=Nat.le_trans hbU2 hF3.size
   have hl3:(lst ++ [(⟨2,0,0,0,[]⟩:In)] ++ t.lay (a + 1)).length=a + 1 + t.len:=by rw [List.length_append,List.length_append,HLA.out,lay_len];rfl
   have HC:=addLQ ⟨7,0,0,0,none,0,0⟩ ⟨7,0,0,0,[]⟩ hM3 (im_bareQ _ _ _ _ _ _) hm hA (by rw [hl3];omega) hb3
   have HE3:=hid hE3
   have HF3:=hid hF3
   clear hV3 hV3' hM3 hE3 hFr2 hF3 hl3 fz kz HZ2 HE2
   go_upto_region 11 with (first | (go_at_call 95;(with_reducible refine HC.mono ?_);rintro e V4 ⟨rfl,hM,hf⟩;have HM4:=hid hM;have HF4:=hid hf;clear hM hf HC))
   have hb4:base≤V4.heap.size:=Nat.le_trans hb3 HF4.out.size
   have hl4:(lst ++ [(⟨2,0,0,0,[]⟩:In)] ++ t.lay (a + 1) ++ [(⟨7,0,0,0,[]⟩:In)]).length=a + t.len + 2:=by rw [List.length_append,List.length_append,List.length_append,HLA.out,lay_len];simp;omega
   have HNN:Hid (∀ W,Below V4.heap.size V4 W→Calls Tryz.prog 137 #[pt m] W fun e w'=>e=.returned (.int .i64 ((a + t.len + 2:Nat):Int))∧w'=W):=fun W hW=>by
    have h:=next65lQ (HM4.out.below hW hA (by omega))
    rw [hl4] at h
    exact h
   have HFK:Hid (∀ W,Below V4.heap.size V4 W→Calls Tryz.prog 233 #[pt m,.int .i64 ((a:Nat):Int),.int .i64 ((a + 1:Nat):Int),.int .i64 ((a + t.len + 2:Nat):Int),.bool false] W fun e w'=>e=.returned (.tuple #[])∧MKLQ w' m base A (((lst ++ [(⟨2,0,0,0,[]⟩:In)] ++ t.lay (a + 1) ++ [(⟨7,0,0,0,[]⟩:In)]).modify a (In.setX ((a + 1:Nat):Int))).modify a (In.setY ((a + t.len + 2:Nat):Int)))∧Fr base W w'):=fun W hW=>by
    have h:=fork109Q a ((a + 1:Nat):Int) ((a + t.len + 2:Nat):Int) false (HM4.out.below hW hA (by omega)) (by rw [hl4];omega) hm hA (by rw [hl4];omega) (Nat.le_trans hb4 hW.size)
    simpa using h
   have wa:IntKind.i64.wrap ((a:Int) + 1)=(a:Int) + 1:=by simp [IntKind.wrap,IntKind.bits,IntKind.signed];omega
   push_cast at HNN HFK
   clear hl4
   go_region_with (first | (go_at_call 137;(with_reducible refine (HNN.out _ ?_).mono ?_);(exact drew_below _);rintro e w5 ⟨rfl,hw⟩;have hw':=hw.symm;clear hw;subst hw') | (go_at_call 233;(with_reducible refine (HFK.out _ ?_).mono ?_);(exact drew_below _);rintro e w6 ⟨rfl,hM,hf⟩;have HM6:=hid hM;have HF6:=hid hf;clear hM hf))
   all_goals go_wp2_with fail
   all_goals
    have hF46:Fr base V3 w6:=HF4.out.trans ((Fr.of_below (drew_below _) hb4).trans HF6.out)
    refine ⟨⟨i + 1,by push_cast;rfl,by omega,?_,?_,HF3.out.trans hF46⟩,by simp [intOf];omega⟩
    ·show MKLQ _ _ _ _ _
     rw [HAB.out]
     have h:=HM6.out
     have el:=HLA.out
     rw [show a=lst.length from el.symm] at h
     simp only [List.singleton_append,List.cons_append,List.nil_append,List.append_assoc] at h
     rw [modify_mid,modify_mid,el] at h
     rw [← List.append_assoc,← HLST.out]
     simpa [In.setX,In.setY,Int.add_assoc] using h
    ·show EB _ _ _ _
     rw [HAE.out,← HES.out]
     exact HE3.out.fr hF46
  ·have b1:decide ((i:Int) < (d:Int))=false:=by simp;omega
   obtain rfl:i=d:=by omega
   have hlt:i < ts.length:=by have:=HD.out;omega
   have b2:(i:Int) < (i:Int) + 1:=by omega
   have hfb:=HFq.out.bel hA
   obtain ⟨n0,n1,n2,n3,n4,n5,n6,n7,n8⟩:=(H9.out i hlt).kept (hfb b hbl)
   have hTi:=HTU'.out.kept hfb (fun _ h=>h)
   have hsp:=HSP.out
   have htl:(ts.take i).length=i:=by rw [List.length_take];omega
   obtain ⟨s,hse⟩:∃ s,s=ts.take i:=⟨_,rfl⟩
   rw [← hse] at hsp htl
   have hI:=HI.out
   have hE:=HE.out
   rw [← hse] at hI hE
   have hlen2:lenL ts=lenL s + u.len:=by rw [hsp,lenL_append];simp [lenL]
   have hla:(l ++ layB s n 0).length=n + lenL s + 2 * i:=by rw [List.length_append,layB_len,htl];have:=HN.out;omega
   obtain ⟨M,hMe⟩:∃ M,M=ND i:=⟨_,rfl⟩
   rw [← hMe] at n0 n1 n2 n3 n4 n5 n6 n7 n8 hTi
   have hlb:=HLN.out
   have HC:=HLU.out M wr m _ hI hm hbw hTi (by rw [hla];omega)
   rw [hla,List.append_assoc] at HC
   obtain ⟨f,hf⟩:∃ f,f=n + lenL ts + 2 * i:=⟨_,rfl⟩
   have hLw:(l ++ (layB s n 0 ++ u.lay (n + lenL s + 2 * i))).length=f:=by rw [List.length_append,List.length_append,layB_len,htl,lay_len];have:=HN.out;omega
   have hfin:l ++ layA ts n ((n + (lenL ts + 2 * i):Nat):Int)=setAll (f:Int) (l ++ (layB s n 0 ++ u.lay (n + lenL s + 2 * i))) (endsB s n):=by
    rw [setAll_B (f:Int) s n l _ HN.out.symm,hf,show n + (lenL ts + 2 * i)=n + lenL ts + 2 * i by omega]
    congr 1
    have h:=layA_B s u n ((n + lenL ts + 2 * i:Nat):Int)
    rw [← hsp,htl] at h
    exact h
   obtain ⟨Lw,hLwe⟩:∃ Lw,Lw=l ++ (layB s n 0 ++ u.lay (n + lenL s + 2 * i)):=⟨_,rfl⟩
   rw [← hLwe] at HC hLw hfin
   obtain ⟨es,hes⟩:∃ es,es=endsB s n:=⟨_,rfl⟩
   have hel:es.length=i:=by rw [hes,endsB_len,htl]
   have hlte:∀ j (h:j < es.length),es[j] < f:=fun j h=>by
    have h1:=endsB_lt s n es[j] (by rw [← hes];exact List.getElem_mem h)
    omega
   rw [← hes] at hE hfin
   have hff:f≤20000:=by omega
   have HE':=hid hE
   have HLW:=hid hLw
   have HFIN:=hid hfin
   have HEL:=hid hel
   have HLTE:=hid hlte
   clear hfb hTi hsp htl hse hI hE hlen2 hla hMe hlb hf hLw hfin hLwe hes hel hlte HI HE
   go_upto_region 14 with (first | (go_at_call 94;(with_reducible refine HC.mono ?_);rintro e V1 ⟨rfl,hM,hf⟩;have HM1:=hid hM;have HF1:=hid hf;clear hM hf HC))
   have hF1:Fr base U V1:=HFq.out.trans HF1.out
   have hE1:=HE'.out.fr HF1.out
   have HFV1:=hid hF1
   have HE1:=hid hE1
   clear hF1 hE1 n0 n1 n2 n3 n4 n5 n6 n7 n8 c0 c1 c2 c3 c4 c5 c6 c7 c8 HE' HF1 HFq
   go_wp2_with fail
   go_loopw [72] (fun y wq=>∃ j:Nat,y=.int .i64 (j:Int)∧j≤i∧Hid (MKLQ wq m base A (setAll (f:Int) Lw (es.take j)))∧Hid (EB wq z i es)∧Hid (Fr base U wq)) (fun y _=>i - (intOf y).toNat)
   case atStart=>exact ⟨0,rfl,by omega,by show MKLQ _ _ _ _ _;simpa [setAll] using HM1.out,HE1,HFV1⟩
   case round =>
    obtain ⟨j,rfl,hj,HJ,HEj,HFj⟩:=hrel
    have hbj:base≤wr.heap.size:=Nat.le_trans hbU2 HFj.out.size
    by_cases hji:j < i
    ·have d1:decide ((j:Int) < (i:Int))=true:=by simp;omega
     have d2:(j:Int) < (i:Int):=by omega
     have ad1:IntKind.i64.wrap ((j:Int) + 1)=(j:Int) + 1:=by simp [IntKind.wrap,IntKind.bits,IntKind.signed];omega
     have hje:j < es.length:=by have:=HEL.out;omega
     obtain ⟨E,hEe⟩:∃ E,E=es[j]:=⟨_,rfl⟩
     have hElt:=HLTE.out j hje
     have hst:=setAll_take (f:Int) Lw es j hje
     obtain ⟨arr,hz2,hzs,hz3⟩:=HEj.out
     have kz:wr.cell? ⟨z,j,none⟩=some (.int .i64 (E:Int)):=by rw [Joins.cell_of_block hz2,hz3 j hje,hEe]
     rw [← hEe] at hElt hst
     obtain ⟨Lj,hLj⟩:∃ Lj,Lj=setAll (f:Int) Lw (es.take j):=⟨_,rfl⟩
     have hM:=HJ.out
     rw [← hLj] at hM hst
     have hLl:Lj.length=f:=by rw [hLj,setAll_len];exact HLW.out
     obtain ⟨g,c,is,hx⟩:=hM.open (by omega)
     have k0:wr.cell? ⟨m,0,none⟩=some (.slice (some ⟨g,0,none⟩) Lj.length c):=Joins.cell_of_block hx.bx 0
     rw [hLl] at k0
     have b1':(E:Int) < (f:Int):=by omega
     have hne:=hx.ne
     have ht:=hx.there E (by omega)
     obtain ⟨v1,hv1⟩:=Option.isSome_iff_exists.1 (ht 1 (by omega)).1
     have f1:=(ht 1 (by omega)).2
     have h0:=hx.drew
     have h1:=h0.setX hA E (by omega) (f:Int)
     have e0:=Fr.of_below (base:=base) (drew_below wr) hbj
     have e1:=e0.trans (h0.keep (is':=is) (l':=Lj) hA (E * 5 + 1) (.int .i64 (f:Int)) rfl).2.2
     have HNN:Hid (∀ W,Below wr.heap.size wr W→Calls Tryz.prog 137 #[pt m] W fun e w'=>e=.returned (.int .i64 (f:Int))∧w'=W):=fun W hW=>by
      have h:=next65lQ (hM.below hW hA (by omega))
      rw [hLl] at h
      exact h
     have H1:=hid h1.close
     have E1:=hid e1
     have HST:=hid hst
     clear hEe hst hz2 hzs hz3 hLj hM hLl hx ht h0 h1 e0 e1 hElt
     go_upto_region 17 with fail
     go_region_with (first | (go_at_call 137;(with_reducible refine (HNN.out _ ?_).mono ?_);(exact drew_below _);rintro e w5 ⟨rfl,hw⟩;have hw':=hw.symm;clear hw;subst hw'))
     all_goals go_wp2_with fail
     all_goals
      refine ⟨⟨j + 1,by push_cast;rfl,by omega,?_,HEj.out.fr E1.out,HFj.out.trans E1.out⟩,by simp [intOf];omega⟩
      show MKLQ _ _ _ _ _
      rw [HST.out]
      exact H1.out
    ·have d1:decide ((j:Int) < (i:Int))=false:=by simp;omega
     obtain rfl:j=i:=by omega
     go_wp2
     all_goals go_end0
     all_goals
      have htk:es.take j=es:=by rw [List.take_of_length_le];rw [HEL.out];exact Nat.le_refl _
      have h:=HJ.out
      rw [htk] at h
      refine ⟨rfl,?_,HF.out.trans HFj.out⟩
      rw [HFIN.out]
      exact h
end Go.Proofs.YtacaanhnlfpbhaaGreat
