/- HELPERS: texts of ours put together. -/
import Derived.Test.YtacaanhnlfpbhaaGreatK21
namespace Go.Proofs.YtacaanhnlfpbhaaGreat
open Go.RowKit
set_option linter.unusedVariables false
set_option linter.unusedSimpArgs false
set_option maxRecDepth 100000 in
set_option maxHeartbeats 8000000 in
theorem dlay_group {base:Nat} {a2 a4 a5 a7:Int} {a6:Bool} {a8:ByteArray} {r1 s1:Option Addr} {r2 r3 s2 s3:Nat} {R:List (Int × Int)} {ts:List Tn} (y:Tn) (hts:ts=[y]) (hix:1≤a7∧a7≤500) (hIH:∀ N,LD 58 base N y):LDn 58 base ⟨7,r1,r2,r3,a2,s1,s2,s3,a4,a5,a6,a7,a8⟩ (.mk 7 R a2 ts a4 a5 a6 a7 a8):=by
 intro w m l hM hm hb hT hlen hroom
 subst hts
 obtain ⟨U,hU⟩:∃ U,U=w.alloc (.cells #[.int .i64 7,.slice r1 r2 r3,.int .i64 a2,.slice s1 s2 s3,.int .i64 a4,.int .i64 a5,.bool a6,.int .i64 a7,.string a8] 25):=⟨_,rfl⟩
 have hbU:Below w.heap.size w U:=by rw [hU];exact Joins.below_alloc1 w _
 have hQ:BNo U w.heap.size ⟨7,r1,r2,r3,a2,s1,s2,s3,a4,a5,a6,a7,a8⟩:=by rw [hU];exact heap_alloc_new w _
 have hMU:=hM.below hbU
 have hbU2:base≤U.heap.size:=Nat.le_trans hb hbU.size
 have hTU:TI U base ⟨7,r1,r2,r3,a2,s1,s2,s3,a4,a5,a6,a7,a8⟩ (.mk 7 R a2 [y] a4 a5 a6 a7 a8):=hT.kept (fun b hb'=>hbU.block b (by omega))
 have HF:=hid (FrD.of_below hbU hb)
 have hpU:w.heap.size < U.heap.size:=(Array.getElem?_eq_some_iff.1 hQ).1
 obtain ⟨c0,c1,c2,c3,c4,c5,c6,c7,c8⟩:=nine' hQ
 obtain ⟨p,hp⟩:∃ p,p=w.heap.size:=⟨_,rfl⟩
 have HMU:=hid hMU
 have HTU:=hid hTU
 rw [← hp] at c0 c1 c2 c3 c4 c5 c6 c7 c8 hpU hQ
 have HQ:Hid (∀ W,FrD base U W→BNo W p ⟨7,r1,r2,r3,a2,s1,s2,s3,a4,a5,a6,a7,a8⟩∧TI W base ⟨7,r1,r2,r3,a2,s1,s2,s3,a4,a5,a6,a7,a8⟩ (.mk 7 R a2 [y] a4 a5 a6 a7 a8)∧base≤W.heap.size∧FrD base w W):=fun W hW=>⟨hW.blk _ _ _ _ hQ (by decide) (by decide),hTU.kept hW.low,Nat.le_trans hbU2 hW.size,HF.out.trans hW⟩
 have HFU:=full59 hMU
 rw [decide_eq_false (show ¬ 20000 < l.length by omega)] at HFU
 clear hM hMU hbU hQ hT hTU
 obtain ⟨M,b,o,hs2,hs1,hbl,h9,hTM⟩:∃ (M:Nv) (b o:Nat),s2=1∧s1=some ⟨b,o,none⟩∧b < base∧N9 U b o 0 M∧TI U base M y:=by
  cases HTU.out with
  | @mk _ _ _ ND ok hr hR hRk hs hS hk =>
   obtain ⟨b,o,h1,h2,h3⟩:=hS (by simp)
   exact ⟨ND 0,b,o,hs,h1,h2,h3 0 (by simp),hk 0 (by simp)⟩
 subst hs1 hs2
 have hnd:(Tn.mk 7 R a2 [y] a4 a5 a6 a7 a8).nodes=1 + y.nodes:=by simp [Tn.nodes,nodesL]
 have hel:(Tn.mk 7 R a2 [y] a4 a5 a6 a7 a8).lay l.length=⟨3,((l.length + 1:Nat):Int),0,2 * a7,[]⟩ :: (y.lay (l.length + 1) ++ [⟨3,((l.length + 1 + y.len + 1:Nat):Int),0,2 * a7 + 1,[]⟩]):=by simp [Tn.lay,layL,lenL]
 have HND:=hid hnd
 have HEL:=hid hel
 have m1:IntKind.i64.wrap (2 * a7)=2 * a7:=by rw [wrap_ok _ (by omega) (by omega)]
 have m2:IntKind.i64.wrap (2 * a7 + 1)=2 * a7 + 1:=by rw [wrap_ok _ (by omega) (by omega)]
 have HP:=put57 3 (2 * a7) HMU.out hm (by omega) hbU2
 have H9:Hid (∀ W,FrD base U W→N9 W b o 0 M∧TI W base M y):=fun W hW=>⟨h9.kept (hW.low b hbl),hTM.kept hW.low⟩
 have HLEN:=hid hlen
 clear h9 hTM hnd hel hlen
 go_enter Tryz.func58,Tryz.ntmps58
 go_upto_region 1 with fail
 rw [← hU,← hp]
 clear hU hp
 go_upto_region 3 with (first | (go_at_call 59;(with_reducible refine HFU.mono ?_);rintro e w2 ⟨rfl,hw⟩;have hw':=hw.symm;clear hw;subst hw';clear HFU))
 go_upto_region 15 with (first | (go_at_call 57;(with_reducible refine HP.mono ?_);rintro e V1 ⟨rfl,hM1,hf1⟩;have HM1:=hid hM1;have HF1:=hid hf1;clear hM1 hf1 HP))
 clear c0 c1 c2 c3 c4 c5 c6 c7 c8
 obtain ⟨hQ1,_,hbV1,_⟩:=HQ.out V1 HF1.out
 obtain ⟨c0,c1,c2,c3,c4,c5,c6,c7,c8⟩:=nine' hQ1
 obtain ⟨h91,hTM1⟩:=H9.out V1 HF1.out
 obtain ⟨d0,d1,d2,d3,d4,d5,d6,d7,d8⟩:=h91
 simp only [Nat.zero_mul,Nat.add_zero] at d0 d1 d2 d3 d4 d5 d6 d7 d8
 have HS:=hIH M V1 m _ HM1.out hm hbV1 hTM1 (by have:=HLEN.out;have:=HND.out;simp;omega)
 clear hTM1 hQ1
 go_upto_region 16 with (first | (go_at_call 58;(with_reducible refine HS.mono ?_);rintro e V2 ⟨rfl,⟨l2,hM2,hL2⟩,hf2⟩;have HM2:=hid hM2;have HL2:=hid hL2;have HF2:=hid (HF1.out.trans hf2);clear hM2 hf2 hL2 HS))
 clear c0 c1 c2 c3 c4 c5 c6 c7 c8 d0 d1 d2 d3 d4 d5 d6 d7 d8
 obtain ⟨hQ2,_,hbV2,_⟩:=HQ.out V2 HF2.out
 obtain ⟨c0,c1,c2,c3,c4,c5,c6,c7,c8⟩:=nine' hQ2
 have hl2:l2.length≤2000000:=by have h1:=HL2.out.2.1;have h2:=HLEN.out;have h3:=HND.out;simp only [List.length_append,List.length_cons,List.length_nil] at h1;omega
 have HP2:=put57 3 (2 * a7 + 1) HM2.out hm hl2 hbV2
 clear hQ2
 go_wp2_with (first | (go_at_call 57;(with_reducible refine HP2.mono ?_);rintro e V3 ⟨rfl,hM1,hf1⟩;have HM3:=hid hM1;have HF3:=hid hf1;clear hM1 hf1 HP2))
 all_goals first | go_end0 | (refine bodyPost_ret (results_none rfl _ _ _) rfl ?_)
 all_goals refine ⟨rfl,⟨_,HM3.out,?_⟩,HF.out.trans (HF2.out.trans HF3.out)⟩
 all_goals obtain ⟨x1,x2,x3⟩:=HL2.out
 all_goals have:=HND.out
 all_goals have hln:(Tn.mk 7 R a2 [y] a4 a5 a6 a7 a8).len=y.len + 2:=by simp [Tn.len,lenL]
 all_goals simp only [List.length_append,List.length_cons,List.length_nil] at x1 x2 x3
 all_goals refine ⟨by simp;omega,by rw [List.length_append];simp only [List.length_cons,List.length_nil];omega,fun h=>?_⟩
 all_goals rw [HEL.out]
 all_goals simp only [List.length_append,List.length_cons,List.length_nil] at h
 all_goals rw [x3 (by omega)]
 all_goals simp [lay_len,List.append_assoc]
 all_goals omega
set_option maxRecDepth 100000 in
set_option maxHeartbeats 8000000 in
theorem dlay_cat {base:Nat} {a2 a4 a5 a7:Int} {a6:Bool} {a8:ByteArray} {r1 s1:Option Addr} {r2 r3 s2 s3:Nat} {R:List (Int × Int)} {ts:List Tn} (hIH:∀ i (hi:i < ts.length) N,LD 58 base N ts[i]):LDn 58 base ⟨4,r1,r2,r3,a2,s1,s2,s3,a4,a5,a6,a7,a8⟩ (.mk 4 R a2 ts a4 a5 a6 a7 a8):=by
 intro w m l hM hm hb hT hlen hroom
 obtain ⟨U,hU⟩:∃ U,U=w.alloc (.cells #[.int .i64 4,.slice r1 r2 r3,.int .i64 a2,.slice s1 s2 s3,.int .i64 a4,.int .i64 a5,.bool a6,.int .i64 a7,.string a8] 25):=⟨_,rfl⟩
 have hbU:Below w.heap.size w U:=by rw [hU];exact Joins.below_alloc1 w _
 have hQ:BNo U w.heap.size ⟨4,r1,r2,r3,a2,s1,s2,s3,a4,a5,a6,a7,a8⟩:=by rw [hU];exact heap_alloc_new w _
 have hMU:=hM.below hbU
 have hbU2:base≤U.heap.size:=Nat.le_trans hb hbU.size
 have hTU:TI U base ⟨4,r1,r2,r3,a2,s1,s2,s3,a4,a5,a6,a7,a8⟩ (.mk 4 R a2 ts a4 a5 a6 a7 a8):=hT.kept (fun b hb'=>hbU.block b (by omega))
 have HF:=hid (FrD.of_below hbU hb)
 have hpU:w.heap.size < U.heap.size:=(Array.getElem?_eq_some_iff.1 hQ).1
 obtain ⟨c0,c1,c2,c3,c4,c5,c6,c7,c8⟩:=nine' hQ
 obtain ⟨p,hp⟩:∃ p,p=w.heap.size:=⟨_,rfl⟩
 have HMU:=hid hMU
 have HTU:=hid hTU
 rw [← hp] at c0 c1 c2 c3 c4 c5 c6 c7 c8 hpU hQ
 have HQ:Hid (∀ W,FrD base U W→BNo W p ⟨4,r1,r2,r3,a2,s1,s2,s3,a4,a5,a6,a7,a8⟩∧TI W base ⟨4,r1,r2,r3,a2,s1,s2,s3,a4,a5,a6,a7,a8⟩ (.mk 4 R a2 ts a4 a5 a6 a7 a8)∧base≤W.heap.size∧FrD base w W):=fun W hW=>⟨hW.blk _ _ _ _ hQ (by decide) (by decide),hTU.kept hW.low,Nat.le_trans hbU2 hW.size,HF.out.trans hW⟩
 have HFU:=full59 hMU
 rw [decide_eq_false (show ¬ 20000 < l.length by omega)] at HFU
 clear hM hMU hbU hQ hT hTU
 obtain ⟨ND,hs2,hS⟩:∃ ND:Nat→Nv,s2=ts.length∧(0 < ts.length→∃ b o,s1=some ⟨b,o,none⟩∧b < base∧∀ i (hi:i < ts.length),N9 U b o i (ND i)∧TI U base (ND i) ts[i]):=by
  cases HTU.out with
  | @mk _ _ _ ND ok hr hR hRk hs hS hk =>
   exact ⟨ND,hs,fun hp=>by obtain ⟨b,o,h1,h2,h3⟩:=hS hp;exact ⟨b,o,h1,h2,fun i hi=>⟨h3 i hi,hk i hi⟩⟩⟩
 have hnd:(Tn.mk 4 R a2 ts a4 a5 a6 a7 a8).nodes=1 + nodesL ts:=by simp [Tn.nodes]
 have hel:(Tn.mk 4 R a2 ts a4 a5 a6 a7 a8).lay l.length=layL ts l.length:=by simp [Tn.lay]
 have HND:=hid hnd
 have HEL:=hid hel
 have HS2:=hid hs2
 have HSS:=hid hS
 have hsz:ts.length≤nodesL ts:=nodes_ge ts
 have HLEN:=hid hlen
 have hs2b:s2≤1000000:=by omega
 clear hnd hel hs2 hS hsz hlen
 go_enter Tryz.func58,Tryz.ntmps58
 go_upto_region 1 with fail
 rw [← hU,← hp]
 clear hU hp
 go_upto_region 3 with (first | (go_at_call 59;(with_reducible refine HFU.mono ?_);rintro e w2 ⟨rfl,hw⟩;have hw':=hw.symm;clear hw;subst hw';clear HFU))
 go_upto_region 19 with fail
 clear c0 c1 c2 c3 c4 c5 c6 c7 c8
 go_loopw [8] (fun y wq=>∃ i:Nat,y=.int .i64 (i:Int)∧i≤s2∧Hid (∃ l',RD wq m base l'∧l.length≤l'.length∧(l'.length≤l.length + 5 * nodesL (ts.take i)∧l'.length≤l.length + lenL (ts.take i))∧(l'.length≤20000→l'=l ++ layL (ts.take i) l.length))∧Hid (FrD base U wq)) (fun y _=>s2 - (intOf y).toNat)
 case atStart=>exact ⟨0,rfl,Nat.zero_le _,⟨l,HMU.out,Nat.le_refl _,by simp,fun _=>by simp [layL]⟩,FrD.refl _ _⟩
 case round =>
  obtain ⟨i,rfl,hi,HL,HFQ⟩:=hrel
  obtain ⟨hQ1,_,hbV1,hFw⟩:=HQ.out wr HFQ.out
  obtain ⟨c0,c1,c2,c3,c4,c5,c6,c7,c8⟩:=nine' hQ1
  by_cases his:i < s2
  case neg =>
   have b1:decide ((i:Int) < (s2:Int))=false:=by simp;omega
   have HFW:=hid hFw
   clear hQ1 hFw
   go_wp2
   all_goals first | go_end0 | (refine bodyPost_ret (results_none rfl _ _ _) rfl ?_)
   all_goals obtain ⟨l',x0,x1,x2,x3⟩:=HL.out
   all_goals have hie:i=ts.length:=by have:=HS2.out;omega
   all_goals rw [hie,List.take_length] at x2 x3
   all_goals have hln:(Tn.mk 4 R a2 ts a4 a5 a6 a7 a8).len=lenL ts:=by simp [Tn.len]
   all_goals refine ⟨rfl,⟨l',x0,x1,by have:=HND.out;omega,fun h=>by rw [HEL.out];exact x3 h⟩,HFW.out⟩
  have b1:decide ((i:Int) < (s2:Int))=true:=by simp;omega
  have b2:(i:Int) < (s2:Int):=by omega
  have a1:IntKind.i64.wrap ((i:Int) + 1)=(i:Int) + 1:=by rw [wrap_ok _ (by omega) (by omega)]
  have hit:i < ts.length:=by have:=HS2.out;omega
  obtain ⟨b,o,hs1,hbl,hch⟩:=HSS.out (by omega)
  subst hs1
  obtain ⟨h9,hTM⟩:=hch i hit
  obtain ⟨d0,d1,d2,d3,d4,d5,d6,d7,d8⟩:=h9.kept (HFQ.out.low b hbl)
  obtain ⟨l',x0,x1,x2,x3⟩:=HL.out
  have htk:nodesL (ts.take (i + 1))=nodesL (ts.take i) + ts[i].nodes:=by
   rw [List.take_succ_eq_append_getElem hit]
   have:∀ (a b:List Tn),nodesL (a ++ b)=nodesL a + nodesL b:=fun a b=>by
    induction a with
    | nil=>simp [nodesL]
    | cons t a ih=>simp only [List.cons_append,nodesL,ih];omega
   rw [this];simp [nodesL]
  have hle:nodesL (ts.take (i + 1))≤nodesL ts:=by
   have e:ts=ts.take (i + 1) ++ ts.drop (i + 1):=(List.take_append_drop _ _).symm
   have:∀ (a b:List Tn),nodesL (a ++ b)=nodesL a + nodesL b:=fun a b=>by
    induction a with
    | nil=>simp [nodesL]
    | cons t a ih=>simp only [List.cons_append,nodesL,ih];omega
   have h2:=this (ts.take (i + 1)) (ts.drop (i + 1))
   rw [← e] at h2
   omega
  have HS:=hIH i hit (ND i) wr m l' x0 hm hbV1 (hTM.kept HFQ.out.low) (by have:=HLEN.out;have:=HND.out;omega)
  have hly:layL (ts.take (i + 1)) l.length=layL (ts.take i) l.length ++ ts[i].lay (l.length + lenL (ts.take i)):=by
   rw [List.take_succ_eq_append_getElem hit,layL_append];simp [layL]
  have HLY:=hid hly
  have HTK:=hid htk
  have HX:=hid (show l.length≤l'.length∧(l'.length≤l.length + 5 * nodesL (ts.take i)∧l'.length≤l.length + lenL (ts.take i))∧(l'.length≤20000→l'=l ++ layL (ts.take i) l.length) from ⟨x1,x2,x3⟩)
  have HTL:=hid (show lenL (ts.take (i + 1))=lenL (ts.take i) + ts[i].len by rw [List.take_succ_eq_append_getElem hit,lenL_append];simp [lenL])
  clear hQ1 hFw h9 hTM hch htk hle hly x0 x1 x2 x3 HL
  go_wp2_with (first | (go_at_call 58;(with_reducible refine HS.mono ?_);rintro e V2 ⟨rfl,⟨l2,hM2,hL2⟩,hf2⟩;have HM2:=hid hM2;have HL2:=hid hL2;have HF2:=hid (HFQ.out.trans hf2);clear hM2 hf2 hL2 HS))
  refine ⟨⟨i + 1,by push_cast;rfl,by omega,⟨l2,HM2.out,?_⟩,HF2.out⟩,by simp [intOf];omega⟩
  obtain ⟨x1,x2,x3⟩:=HX.out
  obtain ⟨y1,y2,y3⟩:=HL2.out
  refine ⟨by omega,by rw [HTK.out,HTL.out];omega,fun h=>?_⟩
  rw [y3 h,x3 (by omega),HLY.out,List.append_assoc]
  simp [layL_len]
end Go.Proofs.YtacaanhnlfpbhaaGreat
