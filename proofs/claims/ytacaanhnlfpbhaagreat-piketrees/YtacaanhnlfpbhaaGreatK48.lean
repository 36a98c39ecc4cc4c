/- HELPERS: texts of ours put together. -/
import Derived.Test.YtacaanhnlfpbhaaGreatK47
import Derived.Deep.RegionHeld2
import Derived.Test.YtacaanhnlfpbhaaGreatK28
namespace Go.Proofs.YtacaanhnlfpbhaaGreat
open Go.RowKit Go.Lk
set_option linter.unusedVariables false
set_option linter.unusedSimpArgs false
def Mv.turn (M:Mv) (st:Nat):Mv:={ M with fs:=st,z1:=M.z2,n1:=M.n2,c1:=M.c2,k1:=M.k2,z2:=M.z1,n2:=M.n1,c2:=M.c1,k2:=M.k1 }
theorem EI.swap {w w':World} {N b K:Nat} {l:List In} {tx:List Int} {M:Mv} {T:List Th} {s:Vst} {E1 E2:List En} {sF fb:List Nat} (h:EI w N b K l tx M T s E1 E2 sF fb) (st:Nat) (hm:MB w' b (M.turn st)) (hc:Chg w w' [b] [b]):GI w' N b K l tx (M.turn st) s.next s.found E2 E1 sF fb:=by
 have hv:=h.vi
 have hbel:Below N w w':=hc.below hv.nw (fun k hk=>by simp at hk;subst hk;exact hv.nb)
 have hne:∀ k,k < w.heap.size→k≠b→w'.heap[k]?=w.heap[k]?:=fun k hk hn=>hc.block k hk (by simpa using hn)
 have hr1:RW w N K M.z1 M.n1 M.c1 E1:=by have:=h.ni.row;rw [h.hK] at this;exact this
 have hr2:RW w N K M.z2 M.n2 M.c2 E2:=by have:=hv.row;rw [h.hK] at this;exact this
 have hf:=hv.fd
 rw [h.hK] at hf
 have hub:=(h.un.lt M.ub rfl).2
 have hnub:M.ub≠b:=fun e=>h.ux (by rw [e];simp [VF])
 refine ⟨hm,hv.nb,Nat.le_trans hv.nw hbel.size,hv.pi.kept hbel (Nat.le_refl _),hv.tt.below hbel,hv.hj,h.hK,⟨_,hv.set.kept (fun k hk=>hne k (hv.set.low k hk).2 (hv.d1 k hk).1)⟩,hr2.kept (fun k hk=>hne k (hr2.low k hk).2 (rw_ne hr2 hv.mb k hk)),hv.k2,hv.kl,hv.el,hv.nx,hr1.kept (fun k hk=>hne k (hr1.low k hk).2 (rw_ne hr1 hv.mb k hk)),h.ni.el,?_,row_kept h.un (fun k hk=>by simp [Value.ownBlock] at hk;subst hk;exact hne _ hub hnub),fun k hk=>⟨(hv.d1 k hk).1,fun hm'=>h.ni.d k hm' (by simp [VF,hk]),(hv.d1 k hk).2.2,(hv.d1 k hk).2.1,fun e=>h.ux (by rw [← show k=M.ub from e];simp [VF,hk])⟩,fun k hk=>⟨(hv.d2 k hk).1,fun hm'=>h.ni.d k hm' (by simp [VF,hk]),(hv.d2 k hk).2,fun e=>h.ux (by rw [← show k=M.ub from e];simp [VF,hk])⟩,fun k hk=>⟨fun hm'=>h.ni.d k hm' (by simp only [VF,List.mem_cons,List.mem_append];exact .inr (.inr (.inl hk))),fun e=>h.ux (by rw [← show k=M.ub from e];simp only [VF,List.mem_cons,List.mem_append];exact .inr (.inr (.inl hk)))⟩,h.u1⟩
 have:=hf.kept (w':=w') (fun k hk=>hne k (hf.low k hk).2 (hv.d2 k hk).1)
 cases hfd:s.found with
 | none=>rw [hfd] at this;exact this
 | some y=>rw [hfd] at this;exact this
theorem GI.go {w w':World} {N b K:Nat} {l:List In} {tx:List Int} {M:Mv} {T:List Th} {fd:Fd} {E1 E2:List En} {sF fb:List Nat} (h:GI w N b K l tx M T fd E1 E2 sF fb) (hm:MB w' b { M with j:=M.j + 1 }) (hc:Chg w w' [b] [b]) (hj:M.j + 1≤M.tn):GI w' N b K l tx { M with j:=M.j + 1 } T fd E1 E2 sF fb:=by
 have hbel:Below N w w':=hc.below h.nw (fun k hk=>by simp at hk;subst hk;exact h.nb)
 have hne:∀ k,k < w.heap.size→k≠b→w'.heap[k]?=w.heap[k]?:=fun k hk hn=>hc.block k hk (by simpa using hn)
 obtain ⟨m,hset⟩:=h.set
 have hub:=(h.un.lt M.ub rfl).2
 have hnub:M.ub≠b:=fun e=>own_ne h.un h.mb (by decide) (by rw [e];rfl)
 refine ⟨hm,h.nb,Nat.le_trans h.nw hbel.size,h.pi.kept hbel (Nat.le_refl _),h.tt.below hbel,hj,h.hK,⟨m,hset.kept (fun k hk=>hne k (hset.low k hk).2 (h.x1 k hk).1)⟩,h.now.kept (fun k hk=>hne k (h.now.low k hk).2 (rw_ne h.now h.mb k hk)),h.k1,h.kl,h.el,h.th,h.nxt.kept (fun k hk=>hne k (h.nxt.low k hk).2 (rw_ne h.nxt h.mb k hk)),h.e2,?_,row_kept h.un (fun k hk=>by simp [Value.ownBlock] at hk;subst hk;exact hne _ hub hnub),h.x1,h.x2,h.x3,h.x4⟩
 have:=h.fd.kept (w':=w') (fun k hk=>hne k (h.fd.low k hk).2 (h.x2 k hk).1)
 cases fd with
 | none=>exact this
 | some y=>exact this
theorem lock_succ (P:Pr) (a:Nat) (anch:Bool) (m j:Nat) (T:List Th) (fd:Fd) (st:Nat):lock P a anch (m + 1) j T fd st=if (decide (m=0) || ((place P a anch j T fd).next.isEmpty && ((place P a anch j T fd).found.isSome || anch)))=true then ((place P a anch j T fd).found,st + (place P a anch j T fd).met.length) else lock P a anch m (j + 1) (place P a anch j T fd).next (place P a anch j T fd).found (st + (place P a anch j T fd).met.length):=rfl
def RunP (w0:World) (N b K:Nat) (r:Fd × Nat) (e:Ending) (w':World):Prop:=e=.returned (.tuple #[])∧∃ M' fb',MB w' b M'∧FD w' N K M' fb' r.1∧M'.fs=r.2∧Below N w0 w'
set_option maxRecDepth 100000 in
set_option maxHeartbeats 8000000 in
theorem run23 {w:World} {N b K S a:Nat} {anch:Bool} {l:List In} {tx:List Int} {M:Mv} {sF:List Nat} (hmay:mayB l (S:Int) (K:Int)=true) (h:GI w N b K l tx M [] none [] [] sF []) (hS:M.S=S) (ha:a≤tx.length) (hlen:tx.length≤4194304) (hfs:M.fs=0) :
  Calls Tryz.prog 66 #[.pointer (some ⟨b,0,none⟩),.int .i64 (a:Int),.bool anch] w (RunP w N b K (lockRun (prOf l tx S K) tx.length a anch)):=by
 have hm:=may_ok hmay
 have hPok:=pr_ok (tx:=tx) hmay
 have htn:M.tn=tx.length:=h.tt.1
 have c4:=h.mb.c 4
 have u4:=h.mb.u 4
 simp at c4
 have HB0:=hid (h.nw)
 have hm1:=h.mb.upd 4 (.int .i64 (a:Int)) { M with j:=a } rfl
 have h1:GI (w.setCell ⟨b,4,none⟩ (.int .i64 (a:Int))) N b K l tx { M with j:=a } [] none [] [] sF []:=by
  have hc:Chg w (w.setCell ⟨b,4,none⟩ (.int .i64 (a:Int))) [b] [b]:=(Chg.refl _ _).set (a:=⟨b,4,none⟩) _ (by simp)
  have hbel:Below N w (w.setCell ⟨b,4,none⟩ (.int .i64 (a:Int))):=hc.below h.nw (fun k hk=>by simp at hk;subst hk;exact h.nb)
  have hne:∀ k,k < w.heap.size→k≠b→(w.setCell ⟨b,4,none⟩ (.int .i64 (a:Int))).heap[k]?=w.heap[k]?:=fun k hk hn=>hc.block k hk (by simpa using hn)
  obtain ⟨m,hset⟩:=h.set
  have hub:=(h.un.lt M.ub rfl).2
  have hnub:M.ub≠b:=fun e=>own_ne h.un h.mb (by decide) (by rw [e];rfl)
  exact ⟨hm1,h.nb,Nat.le_trans h.nw hbel.size,h.pi.kept hbel (Nat.le_refl _),h.tt.below hbel,by show a≤M.tn;omega,h.hK,⟨m,hset.kept (fun k hk=>hne k (hset.low k hk).2 (h.x1 k hk).1)⟩,h.now.kept (fun k hk=>hne k (h.now.low k hk).2 (rw_ne h.now h.mb k hk)),h.k1,h.kl,h.el,h.th,h.nxt.kept (fun k hk=>hne k (h.nxt.low k hk).2 (rw_ne h.nxt h.mb k hk)),h.e2,h.fd,row_kept h.un (fun k hk=>by simp [Value.ownBlock] at hk;subst hk;exact hne _ hub hnub),h.x1,h.x2,h.x3,h.x4⟩
 have HG1:=hid h1
 have HBW:Hid (Below N w (w.setCell ⟨b,4,none⟩ (.int .i64 (a:Int)))):=(Below.refl N w).setCell (p:=⟨b,4,none⟩) h.nb _
 have HMAY:=hid hmay
 have HM:=hid hm
 have HPOK:=hid hPok
 have HTN:=hid htn
 have HS:=hid hS
 have HLEN:=hid hlen
 have HFS:=hid hfs
 have HNB:=hid h.nb
 clear h h1 hm1 hm hPok htn hmay hS hfs
 generalize hr:lockRun (prOf l tx S K) tx.length a anch=r
 have HR:=hid hr
 clear hr
 go_enter Tryz.func66,Tryz.ntmps66
 go_wp2_with fail
 go_loopw [] (fun wq=>∃ (Mq:Mv) (Tq:List Th) (fq:Fd) (E1 E2:List En) (sFq fbq:List Nat),Hid (GI wq N b K l tx Mq Tq fq E1 E2 sFq fbq)∧Hid (Below N w wq)∧Hid (Mq.S=S∧(∀ t ∈ Tq,t.1 < l.length∧t.2.length=K)∧(∀ y,fq=some y→y.2.length=K)∧a≤Mq.j∧Mq.tn=tx.length∧Mq.fs≤l.length * (Mq.j - a)∧lock (prOf l tx S K) a anch (tx.length - Mq.j + 1) Mq.j Tq fq Mq.fs=r)) (fun wq=>tx.length - (intOf ((wq.cell? ⟨b,4,none⟩).getD undef)).toNat)
 case atStart =>
  refine ⟨{ M with j:=a },[],none,[],[],sF,[],HG1.out,HBW.out,?_⟩
  refine ⟨HS.out,by simp,by simp,Nat.le_refl _,HTN.out,by show M.fs≤_;rw [HFS.out];omega,?_⟩
  show lock _ a anch (tx.length - a + 1) a [] none M.fs=r
  rw [HFS.out]
  exact HR.out
 case round =>
  obtain ⟨Mq,Tq,fq,E1,E2,sFq,fbq,HG,HB,HL⟩:=hrel
  have HE:=enter32 HG.out
  obtain ⟨hS,hTq,hfq,haj,htn,hfs,hlk⟩:=HL.out
  clear HG1 HBW HFS c4 u4
  go_upto_region 4 with (go_at_call 105;(with_reducible refine HE.mono ?_);rintro e w2 ⟨rfl,hei,hb2⟩;have HEI:=hid hei;have HB2:=hid hb2;clear hei hb2 HE)
  generalize hMe:({ Mq with bits:=0,k2:=0 }:Mv)=Me at HEI
  have hMj:Me.j=Mq.j:=by rw [← hMe]
  have hMS:Me.S=S:=by rw [← hMe];exact hS
  have HMF:Hid (Me.fs=Mq.fs):=by show Me.fs=_;rw [← hMe]
  have HME:=hid hMe
  have hinv0:Inv l.length K (newV fq):=new_inv _ _ _ hfq
  have HEA:=each33 HMAY.out HEI.out.vi HEI.out.hK rfl hinv0 HEI.out.ni hTq
  have hinv1:Inv l.length K (vall (act l tx Mq.j) Mq.j (l.length + 1) Tq (newV fq)):=vall_inv (fun k hk=>act_ok HMAY.out Mq.j k hk) _ _ hTq hinv0
  have hgr1:Grow (newV fq) (vall (act l tx Mq.j) Mq.j (l.length + 1) Tq (newV fq)):=vall_grow _ _
  have hpl:place (prOf l tx S K) a anch Mq.j Tq fq=if bgB a anch Mq.j fq=true then vis (act l tx Mq.j) Mq.j (l.length + 1) S (List.replicate K (-1)) (vall (act l tx Mq.j) Mq.j (l.length + 1) Tq (newV fq)) else vall (act l tx Mq.j) Mq.j (l.length + 1) Tq (newV fq):=rfl
  have hip:Inv l.length K (place (prOf l tx S K) a anch Mq.j Tq fq):=place_inv (P:=prOf l tx S K) HPOK.out hTq hfq
  rw [hMj] at HEA
  generalize hs1:vall (act l tx Mq.j) Mq.j (l.length + 1) Tq (newV fq)=s1 at HEA hinv1 hgr1 hpl
  generalize hs2:place (prOf l tx S K) a anch Mq.j Tq fq=s2 at hpl hip
  have HPL:=hid hpl
  have HIP:=hid hip
  have HIV1:=hid hinv1
  have HGR1:=hid hgr1
  have HS2:=hid hs2
  have hSl:S < l.length:=by have:=HM.out;omega
  have hKs:2≤K∧K≤1002:=by have:=HM.out;omega
  clear hs1 hs2 hpl hip hinv1 hgr1 hinv0 hMe hS hfs hlk
  have HMJ:=hid hMj
  have HMS:=hid hMS
  clear hMj hMS
  go_cut [32] from 22 to 33 (fun v32 wx=>∃ (bb:Bool) (M3:Mv) (E3:List En) (sF3 fb3:List Nat),v32=.bool bb∧Hid (EI wx N b K l tx M3 Tq s1 E1 E3 sF3 fb3)∧Hid (M3.core=Me.core)∧Hid (Below N w wx)∧Hid (if bb=true then s1.over=false∧s2=vis (act l tx Mq.j) Mq.j (l.length + 1) S (List.replicate K (-1)) s1 else s2=s1))
  case first =>
   cases ho1:s1.over
   ·have HO1:=hid ho1
    have HFQ:Hid (s1.found=fq):=(HGR1.out.found ho1).1
    clear ho1
    generalize hbg:bgB a anch Mq.j fq=bb
    have HBG:=hid hbg
    clear hbg
    go_wp2_with (first | (go_at_call 106;(with_reducible refine HEA.mono ?_);rintro e w3 ⟨he,M3,E3,sF3,fb3,hv3,hM3,hc3⟩;rw [HO1.out] at he;subst he;have HEI3:=hid (HEI.out.next hv3 hM3 hc3);have HM3:=hid hM3;have HC3:=hid hc3;have HBG3:=begins34 (a:=a) (anch:=anch) hv3.mb;rw [core_j hM3,HMJ.out,hv3.fd.ok,HFQ.out,show (decide (Mq.j=a) || (!anch && !fq.isSome))=bgB a anch Mq.j fq from by unfold bgB;cases fq <;> rfl,HBG.out] at HBG3;clear hv3 hM3 hc3 HEA) | (go_at_call 107;(with_reducible refine HBG3.mono ?_);rintro e w4 ⟨rfl,hw4⟩;have hw4':=hw4.symm;clear hw4 HBG3;subst hw4'))
    all_goals go_meet
    all_goals refine ⟨bb,M3,E3,sF3,fb3,rfl,HEI3.out,HM3.out,HB.out.trans (HB2.out.trans (HC3.out.below HEI.out.vi.nw (fun k hk=>(HEI.out.vi.low k hk).1))),?_⟩
    all_goals show if bb=true then _ else _
    all_goals rw [HPL.out,HBG.out]
    all_goals cases bb
    all_goals simp [HO1.out]
   ·have HO1:=hid ho1
    have HS21:Hid (s2=s1):=by
     show s2=s1
     rw [HPL.out,vis_over ho1]
     split <;> rfl
    clear ho1
    go_wp2_with (go_at_call 106;(with_reducible refine HEA.mono ?_);rintro e w3 ⟨he,M3,E3,sF3,fb3,hv3,hM3,hc3⟩;rw [HO1.out] at he;subst he;have HEI3:=hid (HEI.out.next hv3 hM3 hc3);have HM3:=hid hM3;have HC3:=hid hc3;clear hv3 hM3 hc3 HEA)
    go_meet
    exact ⟨false,M3,E3,sF3,fb3,rfl,HEI3.out,HM3.out,HB.out.trans (HB2.out.trans (HC3.out.below HEI.out.vi.nw (fun k hk=>(HEI.out.vi.low k hk).1))),HS21.out⟩
  case rest =>
   obtain ⟨bb,M3,E3,sF3,fb3,rfl,HEI3,HM3,HBX,HBB⟩:=hcut
   clear HEA HEI HB2
   go_upto_if 32 with fail
   go_cut [] from 33 to 44 (fun wx=>∃ (M2:Mv) (E2':List En) (sF2 fb2:List Nat),Hid (EI wx N b K l tx M2 Tq s2 E1 E2' sF2 fb2)∧Hid (M2.core=Me.core)∧Hid (Below N w wx))
   case first =>
    cases bb
    ·have HS21:Hid (s2=s1):=hid (by have:=HBB.out;simpa using this)
     go_wp2_with fail
     go_meet
     refine ⟨M3,E3,sF3,fb3,?_,HM3.out,HBX.out⟩
     show EI _ _ _ _ _ _ _ _ _ _ _ _ _
     rw [HS21.out]
     exact HEI3.out
    ·have HS21:Hid (s1.over=false∧s2=vis (act l tx Mq.j) Mq.j (l.length + 1) S (List.replicate K (-1)) s1):=hid (by have:=HBB.out;simpa using this)
     have hVC:VC K N b l tx wc M3 s1 E3 sF3 fb3 S (List.replicate K (-1)) M3.ub M3.uc:=⟨HEI3.out.vi,HEI3.out.hK,HS21.out.1,HIV1.out,hSl,HEI3.out.un,HEI3.out.ux⟩
     have HI:Hid (∀ W,Eqw wc W→Calls Tryz.prog 104 #[.pointer (some ⟨b,0,none⟩),.int .i64 (S:Int),.slice (some ⟨M3.ub,0,none⟩) K M3.uc] W (VP N b l tx wc M3 E3 sF3 fb3 s2)):=by
      intro W e
      have hVW:VC K N b l tx W M3 s1 E3 sF3 fb3 S (List.replicate K (-1)) M3.ub M3.uc:=⟨hVC.vi.kept (e.below N) (fun k _=>e.blk k),hVC.hK,hVC.ov,hVC.inv,hVC.lt,e.row hVC.cap,hVC.cn⟩
      have h3:=visit31 HMAY.out (l.length + 1) S (List.replicate K (-1)) s1 W M3 E3 sF3 fb3 M3.ub M3.uc hVW (by omega)
      rw [core_j HM3.out,HMJ.out,← HS21.out.2] at h3
      refine h3.mono ?_
      rintro e2 w' ⟨h4,M4,E4,sF4,fb4,h5,h6,h7⟩
      exact ⟨h4,M4,E4,sF4,fb4,h5,h6,e.chg h7⟩
     have d1:=HEI3.out.vi.mb.c 1
     have d12:=HEI3.out.vi.mb.c 12
     simp at d1 d12
     have hS3:M3.S=S:=by have:=congrArg Mv.S HM3.out;exact this.trans HMS.out
     rw [hS3] at d1
     rw [HEI3.out.hK] at d12
     clear hVC hS3
     go_upto_region 5 with fail
     go_region_with (go_at_call 104;(with_reducible refine (HI.out _ (by exact ⟨rfl,rfl,rfl,rfl⟩)).mono ?_);rintro e w5 ⟨he,M5,E5,sF5,fb5,hv5,hM5,hc5⟩;subst he;have HV5:=hid hv5;have HM5:=hid hM5;have HC5:=hid hc5;clear hv5 hM5 hc5)
     all_goals go_wp2_with fail
     all_goals go_meet
     all_goals exact ⟨M5,E5,sF5,fb5,HEI3.out.next HV5.out HM5.out HC5.out,HM5.out.trans HM3.out,HBX.out.trans (HC5.out.below HEI3.out.vi.nw (fun k hk=>(HEI3.out.vi.low k hk).1))⟩
   case rest =>
    clear HEI3 HM3 HBX HBB
    obtain ⟨M2,E2',sF2,fb2,HEI,HM2,HBX⟩:=hcut
    have hfs2:M2.fs=Mq.fs:=by have:=congrArg Mv.fs HM2.out;exact this.trans HMF.out
    have hj2:M2.j=Mq.j:=(core_j HM2.out).trans HMJ.out
    have hS2:M2.S=S:=by have:=congrArg Mv.S HM2.out;exact this.trans HMS.out
    have htn2:M2.tn=tx.length:=HEI.out.vi.tt.1
    have hsm:=HIP.out.small
    have hfsl:Mq.fs≤20000 * 4194304:=by
     have h1:=HL.out.2.2.2.2.2.1
     have h2:l.length≤20000:=HM.out.1
     have h3:Mq.j - a≤4194304:=by have:=HG.out.hj;omega
     exact Nat.le_trans h1 (Nat.mul_le_mul h2 h3)
    have hl20:l.length≤20000:=HM.out.1
    have a6:IntKind.i64.wrap ((M2.fs:Int) + (s2.met.length:Int))=((M2.fs + s2.met.length:Nat):Int):=by rw [wrap_ok _ (by omega) (by omega)];omega
    have HLN:Hid (∀ W,Eqw wc W→Calls Tryz.prog 108 #[.pointer (some ⟨M2.sb,0,none⟩)] W fun e w'=>e=.returned (.int .i64 (s2.met.length:Int))∧w'=W):=fun W e=>by
     have h1:=len14 N M2.sb sF2 l.length (ints s2.met) W (HEI.out.vi.set.kept (fun k _=>e.blk k))
     rw [ints_len] at h1
     exact h1
    have d5:=HEI.out.vi.mb.c 5
    have d16:=HEI.out.vi.mb.c 16
    have u16:=HEI.out.vi.mb.u 16
    simp at d5 d16
    have hm6:=HEI.out.vi.mb.upd 16 (.int .i64 ((M2.fs + s2.met.length:Nat):Int)) { M2 with fs:=M2.fs + s2.met.length } rfl
    have HM6:=hid hm6
    clear hm6
    obtain ⟨wp,hwp⟩:∃ wp,wp=wc:=⟨_,rfl⟩
    have HWP:=hid hwp
    clear hwp
    have HFS2:=hid hfs2
    have HJ2:=hid hj2
    have HSS2:=hid hS2
    have HTN2:=hid htn2
    clear hfs2 hj2 hS2 htn2
    go_upto_region 6 with fail
    go_cut [] from 44 to 58 (fun wx=>Hid (MB wx b { M2 with fs:=M2.fs + s2.met.length })∧Hid (Chg wc wx [b] [b]))
    case first =>
     go_region_with (go_at_call 108;(with_reducible refine (HLN.out _ (by exact ⟨rfl,rfl,rfl,rfl⟩)).mono ?_);rintro e w5 ⟨rfl,hw5⟩;subst hw5)
     all_goals go_wp2_with fail
     all_goals go_meet
     all_goals exact ⟨HM6.out,((Chg.refl wc [b]).set (a:=⟨b,16,none⟩) _ (by simp)).drew⟩
    case rest =>
     obtain ⟨HM6',HC6⟩:=hcut
     have HG7:Hid (∀ W (st:Nat),MB W b (M2.turn st)→Chg wp W [b] [b]→GI W N b K l tx (M2.turn st) s2.next s2.found E2' E1 sF2 fb2):=fun W st h1 h2=>HEI.out.swap st h1 (by rw [← HWP.out];exact h2)
     have HC6':Hid (Chg wp wc [b] [b]):=by rw [HWP.out];exact HC6.out
     have HBP:Hid (Below N w wp):=by rw [HWP.out];exact HBX.out
     have HNP:Hid (N≤wp.heap.size):=by rw [HWP.out];exact HEI.out.vi.nw
     have hk2:M2.k2=s2.next.length:=HEI.out.vi.k2
     have hfok:M2.fok=s2.found.isSome:=HEI.out.vi.fd.ok
     clear HM6 d5 d16 u16 a6 HLN HWP HC6 HEI HBX
     have e7:=HM6'.out.c 7
     have e8:=HM6'.out.c 8
     have e9:=HM6'.out.c 9
     have e10:=HM6'.out.c 10
     have v7:=HM6'.out.u 7
     have v8:=HM6'.out.u 8
     have v9:=HM6'.out.u 9
     have v10:=HM6'.out.u 10
     simp at e7 e8 e9 e10
     have hm7:=(((HM6'.out.upd 7 (.slice M2.z2 M2.n2 M2.c2) { M2 with fs:=M2.fs + s2.met.length,z1:=M2.z2,n1:=M2.n2,c1:=M2.c2 } rfl).upd 8 (.int .i64 (M2.k2:Int)) { M2 with fs:=M2.fs + s2.met.length,z1:=M2.z2,n1:=M2.n2,c1:=M2.c2,k1:=M2.k2 } rfl).upd 9 (.slice M2.z1 M2.n1 M2.c1) { M2 with fs:=M2.fs + s2.met.length,z1:=M2.z2,n1:=M2.n2,c1:=M2.c2,k1:=M2.k2,z2:=M2.z1,n2:=M2.n1,c2:=M2.c1 } rfl).upd 10 (.int .i64 (M2.k1:Int)) (M2.turn (M2.fs + s2.met.length)) rfl
     have HM7:=hid hm7
     have HK2:=hid hk2
     have HFOK:=hid hfok
     clear hm7 hk2 hfok
     go_upto_region 7 with fail
     go_cut [] from 58 to 72 (fun wx=>Hid (MB wx b (M2.turn (M2.fs + s2.met.length)))∧Hid (Chg wp wx [b] [b]))
     case first =>
      go_region
      all_goals go_wp2_with fail
      all_goals go_meet
      all_goals exact ⟨HM7.out,((((HC6'.out.set (a:=⟨b,7,none⟩) _ (by simp)).set (a:=⟨b,8,none⟩) _ (by simp)).set (a:=⟨b,9,none⟩) _ (by simp)).set (a:=⟨b,10,none⟩) _ (by simp)).drew⟩
     case rest =>
      clear HM7 HM6' e7 e8 e9 e10 v7 v8 v9 v10 HC6'
      obtain ⟨HM7,HC7⟩:=hcut
      have HG7':=hid (HG7.out wc (M2.fs + s2.met.length) HM7.out HC7.out)
      have HBw:Hid (Below N w wc):=HBP.out.trans (HC7.out.below HNP.out (fun k hk=>by simp at hk;subst hk;exact HNB.out))
      have HIO:=isOver36 (anch:=anch) HM7.out
      have hcond:(decide ((M2.turn (M2.fs + s2.met.length)).j=(M2.turn (M2.fs + s2.met.length)).tn) || (decide ((M2.turn (M2.fs + s2.met.length)).k1=0) && ((M2.turn (M2.fs + s2.met.length)).fok || anch)))=(decide (tx.length - Mq.j=0) || (s2.next.isEmpty && (s2.found.isSome || anch))):=by
       show (decide (M2.j=M2.tn) || (decide (M2.k2=0) && (M2.fok || anch)))=_
       rw [HJ2.out,HTN2.out,HK2.out,HFOK.out]
       have hjl:=HG.out.hj
       rw [htn] at hjl
       congr 1
       ·rw [Bool.eq_iff_iff];simp;omega
       ·congr 1
        cases s2.next <;> simp
      rw [hcond] at HIO
      have hlock:lock (prOf l tx S K) a anch (tx.length - Mq.j + 1) Mq.j Tq fq Mq.fs=if (decide (tx.length - Mq.j=0) || (s2.next.isEmpty && (s2.found.isSome || anch)))=true then (s2.found,Mq.fs + s2.met.length) else lock (prOf l tx S K) a anch (tx.length - Mq.j) (Mq.j + 1) s2.next s2.found (Mq.fs + s2.met.length):=by
       rw [lock_succ,HS2.out]
      rw [HL.out.2.2.2.2.2.2] at hlock
      have HLK:=hid hlock
      clear hlock hcond
      cases hov:(decide (tx.length - Mq.j=0) || (s2.next.isEmpty && (s2.found.isSome || anch)))
      ·have HOV:=hid hov
       rw [hov] at HIO
       clear hov
       have hnz:tx.length - Mq.j≠0:=fun e=>by have:=HOV.out;simp [e] at this
       have hjlt:Mq.j + 1≤tx.length:=by omega
       go_upto_region 2 with (go_at_call 109;(with_reducible refine HIO.mono ?_);rintro e w8 ⟨rfl,hb8⟩;have hm8:=HM7.out.kept (hb8.block b HM7.out.lt);have d4:=hm8.c 4;have u4:=hm8.u 4;simp at d4;have hm9:=hm8.upd 4 (.int .i64 ((M2.j + 1:Nat):Int)) { (M2.turn (M2.fs + s2.met.length)) with j:=M2.j + 1 } rfl;have HM9:=hid hm9;have HB8:=hid hb8;clear hm8 hm9 hb8 HIO)
       have d4':w8.cell? ⟨b,4,none⟩=some (.int .i64 (M2.j:Int)):=d4
       clear d4
       have a4:IntKind.i64.wrap ((M2.j:Int) + 1)=((M2.j + 1:Nat):Int):=by have:=HJ2.out;rw [wrap_ok _ (by omega) (by omega)];omega
       go_wp2
       have hg8:GI w8 N b K l tx (M2.turn (M2.fs + s2.met.length)) s2.next s2.found E2' E1 sF2 fb2:=by
        have:=HG7.out w8 (M2.fs + s2.met.length) (HM7.out.kept (HB8.out.block b HM7.out.lt)) (HC7.out.trans (Chg.of_below HB8.out))
        exact this
       have hg9:=hg8.go HM9.out ((Chg.refl w8 [b]).set (a:=⟨b,4,none⟩) _ (by simp)) (by show M2.j + 1≤M2.tn;rw [HJ2.out,HTN2.out];exact hjlt)
       have hb9:Below N w (w8.setCell ⟨b,4,none⟩ (.int .i64 ((M2.j + 1:Nat):Int))):=(HBw.out.trans (HB8.out.mono HG7'.out.nw)).setCell (p:=⟨b,4,none⟩) HNB.out _
       have hc9:=HM9.out.c 4
       simp at hc9
       refine ⟨⟨_,s2.next,s2.found,E2',E1,sF2,fb2,hg9,hb9,?_⟩,?_⟩
       ·refine ⟨HSS2.out,HIP.out.nx,HIP.out.fd,by show a≤M2.j + 1;rw [HJ2.out];omega,HTN2.out,?_,?_⟩
        ·show M2.fs + s2.met.length≤l.length * (M2.j + 1 - a)
         rw [HFS2.out,HJ2.out]
         have h1:=HL.out.2.2.2.2.2.1
         have h2:l.length * (Mq.j + 1 - a)=l.length * (Mq.j - a) + l.length:=by rw [show Mq.j + 1 - a=(Mq.j - a) + 1 by omega,Nat.mul_succ]
         omega
        ·show lock _ a anch (tx.length - (M2.j + 1) + 1) (M2.j + 1) s2.next s2.found (M2.fs + s2.met.length)=r
         rw [HFS2.out,HJ2.out,HLK.out,HOV.out,show tx.length - (Mq.j + 1) + 1=tx.length - Mq.j by omega]
         rfl
       ·have hcq:=HG.out.mb.c 4
        simp at hcq
        rw [hcq,hc9]
        simp [intOf,HJ2.out]
        omega
      ·have HOV:=hid hov
       rw [hov] at HIO
       clear hov
       go_wp2_with (go_at_call 109;(with_reducible refine HIO.mono ?_);rintro e w8 ⟨rfl,hb8⟩;have HB8:=hid hb8;clear hb8 HIO)
       go_end0
       have hr:r=(s2.found,Mq.fs + s2.met.length):=by rw [HLK.out,HOV.out];rfl
       subst hr
       have hg8:GI w8 N b K l tx (M2.turn (M2.fs + s2.met.length)) s2.next s2.found E2' E1 sF2 fb2:=HG7.out w8 (M2.fs + s2.met.length) (HM7.out.kept (HB8.out.block b HM7.out.lt)) (HC7.out.trans (Chg.of_below HB8.out))
       exact ⟨rfl,_,fb2,hg8.mb,hg8.fd,by show M2.fs + s2.met.length=_;rw [HFS2.out],HBw.out.trans (HB8.out.mono HG7'.out.nw)⟩
theorem SetS.mono {N N':Nat} {w:World} {g:Nat} {F:List Nat} {n:Nat} {l:List Int} (h:SetS N w g F n l) (hN:N'≤N):SetS N' w g F n l:=by
 obtain ⟨b,c,ov,M,h1,h2,hn,h3,h4,h5,h6,rfl⟩:=h
 exact ⟨b,c,ov,M,h1,by omega,hn,h3.mono hN,h4.mono hN,h5,h6,rfl⟩
abbrev cs0 (ad:Option Addr) (n c S K:Nat) (tad:Option Addr) (tn tc sb ub:Nat) (f:Value):Array Value:=#[.slice ad n c,.int .i64 (S:Int),.int .i64 (K:Int),.slice tad tn tc,.int .i64 0,.pointer (some ⟨sb,0,none⟩),.int .i64 0,.slice none 0 0,.int .i64 0,.slice none 0 0,.int .i64 0,f,.slice (some ⟨ub,0,none⟩) K K,.bool false,.slice none 0 0,.int .i64 0,.int .i64 0]
def M0 (ad:Option Addr) (n c S K:Nat) (tad:Option Addr) (tn tc sb ub:Nat):Mv:=⟨ad,n,c,S,K,tad,tn,tc,0,sb,0,none,0,0,0,none,0,0,0,ub,K,false,none,0,0,0,0⟩
def Asm (B n K:Nat) (U wx:World) (b sb ub:Nat) (sF:List Nat):Prop:=B≤b∧SetS B wx sb sF n []∧wx.ownsRow B 3 1 (.slice (some ⟨ub,0,none⟩) K K) K (I64 (List.replicate K (-1)))∧Below B U wx∧(∀ k ∈ sF,k≠b∧k≠ub)
theorem asm1 {B n K g:Nat} {F:List Nat} {U W1 w2 W2 w3:World} {o:Obj} (hB:B≤U.heap.size) (hK:K≤10000) (k1:KW U W1) (hs:SetS W1.heap.size w2 g F n []) (hb2:Below W1.heap.size W1 w2) (h12:Below w2.heap.size w2 W2) (hri:RI W2.heap.size K K w3) (hb3:Below W2.heap.size W2 w3):Asm B n K U (w3.alloc o) w3.heap.size g W2.heap.size F:=by
 have s1:=k1.size
 have s2:=hb2.size
 have s3:=h12.size
 have s4:=hb3.size
 have h13:Below w2.heap.size w2 (w3.alloc o):=h12.trans (Joins.below_le (hb3.trans (Joins.below_le (Joins.below_alloc1 w3 o) s4)) s3)
 refine ⟨by omega,(hs.kept (fun k hk=>h13.block k (hs.low k hk).2)).mono (by omega),?_,?_,fun k hk=>?_⟩
 ·have:=ri_row (N:=B) hri (by omega) hK
  exact this.alloc _
 ·exact Joins.below_le (kw_next (kw_next k1 hb2) h13) hB
 ·have:=(hs.low k hk).2
  exact ⟨by omega,by omega⟩
set_option maxRecDepth 100000 in
set_option maxHeartbeats 8000000 in
theorem newMachine22 {w:World} {ad tad:Option Addr} {n c S K tn tc:Nat} {l:List In} {tx:List Int} (hP:PI w w.heap.size ad n l) (hmay:mayB l (S:Int) (K:Int)=true) (hT:TextAt w.heap.size w tad tn tx) :
  Calls Tryz.prog 65 #[pv ad n c (S:Int) (K:Int),.slice tad tn tc] w fun e w'=>∃ b M sF,e=.returned (.pointer (some ⟨b,0,none⟩))∧GI w' w.heap.size b K l tx M [] none [] [] sF []∧M.S=S∧M.fs=0∧Below w.heap.size w w':=by
 have hm:=may_ok hmay
 have hln:=hP.len
 obtain ⟨B,hB⟩:∃ B,B=w.heap.size:=⟨_,rfl⟩
 obtain ⟨U,hU⟩:∃ U,U=w.alloc (.cells #[.slice ad n c,.int .i64 (S:Int),.int .i64 (K:Int)] 46):=⟨_,rfl⟩
 have hbU:Below w.heap.size w U:=by rw [hU];exact Joins.below_alloc1 w _
 have hX:U.heap[w.heap.size]?=some (.cells #[.slice ad n c,.int .i64 (S:Int),.int .i64 (K:Int)] 46 (0,0)):=by rw [hU];exact heap_alloc_new w _
 have hUs:w.heap.size < U.heap.size:=(Array.getElem?_eq_some_iff.1 hX).1
 rw [← hB] at hbU hX hUs ⊢
 obtain ⟨c0,c1,c2⟩:=three_cells hX
 have HBU:=hid hbU
 have HX:=hid hX
 have HP:=hid hP
 have HT:=hid hT
 have HM:=hid hm
 have HLN:=hid hln
 have HBE:=hid hB
 have hlim:lim (n:Int)=n:=by unfold lim;omega
 have HLIM:=hid hlim
 have HNEW:Hid (∀ W,Calls Tryz.prog 102 #[.int .i64 (n:Int)] W fun e w'=>∃ g F,e=.returned (.pointer (some ⟨g,0,none⟩))∧SetS W.heap.size w' g F n []∧Below W.heap.size W w'):=fun W=>by
  have h1:=new8 (n:Int) W
  rw [hlim] at h1
  exact h1
 have hK1:1≤K∧K≤1002:=by omega
 have HREP:Hid (∀ (xb:Nat) (W:World),W.cell? ⟨xb,0,none⟩=some (.int .i64 (-1))→xb < W.heap.size→Calls Tryz.prog 75 #[.slice (some ⟨xb,0,none⟩) 1 1,.int .i64 (K:Int)] W fun e w'=>e=.returned (.slice (some ⟨W.heap.size,0,none⟩) K K)∧Below W.heap.size W w'∧RI W.heap.size K K w'):=fun xb W h1 h2=>repeat51g xb 1 K hK1.1 (by omega) W h1 h2
 clear hbU hX hP hT hm hln hlim hmay
 go_enter Tryz.func65,Tryz.ntmps65
 go_upto_region 1 with fail
 rw [← hU,← hB]
 clear hU hB
 have HKEEP:Hid (∀ W,KW U W→W.cell? ⟨B,0,none⟩=some (.slice ad n c)∧W.cell? ⟨B,1,none⟩=some (.int .i64 (S:Int))∧W.cell? ⟨B,2,none⟩=some (.int .i64 (K:Int))):=fun W h=>⟨(cell_eq (h.block B hUs) 0).trans c0,(cell_eq (h.block B hUs) 1).trans c1,(cell_eq (h.block B hUs) 2).trans c2⟩
 go_cut [5] from 6 to 18 (fun v5 wx=>∃ (b sb ub:Nat) (sF:List Nat) (f:Value),v5=.pointer (some ⟨b,0,none⟩)∧Hid (wx.heap[b]?=some (.cells (cs0 ad n c S K tad tn tc sb ub f) 114 (0,0)))∧Hid (Asm B n K U wx b sb ub sF))
 case first =>
  go_region_held2 (fun w'=>w'.cell? ⟨B,0,none⟩=some (.slice ad n c)∧w'.cell? ⟨B,1,none⟩=some (.int .i64 (S:Int))∧w'.cell? ⟨B,2,none⟩=some (.int .i64 (K:Int)))
   (first | (refine HKEEP.out _ ?_;repeat (first | with_reducible exact kw0 U | with_reducible refine kw_drew ?_ | with_reducible refine kw_alloc ?_ | with_reducible refine kw_next ?_ HB2.out | with_reducible refine kw_next ?_ HB3.out)))
   (first | (go_at_call 102;(with_reducible refine (HNEW.out _).mono ?_);rintro e w2 ⟨g,F,rfl,hs,hb2⟩;have HSS:=hid hs;have HB2:=hid hb2;clear hs hb2) | (go_at_call 75;(with_reducible refine (HREP.out _ _ (by first | (simp;done) | exact (HB2.out.cell (p:=⟨_,0,none⟩) (by simp)).trans (by simp)) (by first | (simp;done) | (have:=HB2.out.size;simp at this;omega))).mono ?_);rintro e w3 ⟨rfl,hb3,hri⟩;have HB3:=hid hb3;have HRI:=hid hri;clear hb3 hri))
  all_goals go_wp2_with fail
  all_goals go_meet
  ·refine ⟨w3.heap.size,g,w2.heap.size + 1,F,.nilFunc,rfl,heap_alloc_new w3 _,?_⟩
   have h1:=asm1 (B:=B) (o:=.cells (cs0 ad n c S K tad tn tc g (w2.heap.size + 1) .nilFunc) 114) (by omega) (by omega) (kw_drew (kw0 U)) HSS.out HB2.out (Joins.below_alloc1 w2 _) HRI.out HB3.out
   rw [show (w2.alloc (.cells #[.int .i64 (-1)] 3)).heap.size=w2.heap.size + 1 by simp] at h1
   exact h1
  ·refine ⟨w3.heap.size,g,w2.heap.size,F,.nilFunc,rfl,heap_alloc_new w3 _,?_⟩
   exact asm1 (B:=B) (o:=.cells (cs0 ad n c S K tad tn tc g w2.heap.size .nilFunc) 114) (by omega) (by omega) (kw_drew (kw_alloc (kw0 U))) HSS.out HB2.out (Below.refl _ _) HRI.out HB3.out
 case rest =>
  obtain ⟨b,sb,ub,sF,f,rfl,HBK,HAS⟩:=hcut
  have d11:=Joins.cell_of_block HBK.out 11
  have u11:=Joins.unfrozen_of_block HBK.out 11
  simp at d11
  clear c0 c1 c2 HKEEP HNEW HREP
  go_wp2
  go_ret
  obtain ⟨a1,a2,a3,a4,a5⟩:=HAS.out
  have hmb:MB (wc.setCell ⟨b,11,none⟩ (.func (.func 103) #[.pointer (some ⟨b,9,none⟩)] #[])) b (M0 ad n c S K tad tn tc sb ub):=Joins.block_setCell (i:=11) HBK.out _
  have hch:Chg wc (wc.setCell ⟨b,11,none⟩ (.func (.func 103) #[.pointer (some ⟨b,9,none⟩)] #[])) [b] [b]:=(Chg.refl wc [b]).set (a:=⟨b,11,none⟩) _ (by simp)
  have hne:∀ k,k≠b→(wc.setCell ⟨b,11,none⟩ (.func (.func 103) #[.pointer (some ⟨b,9,none⟩)] #[])).heap[k]?=wc.heap[k]?:=fun k hk=>Below.heap_setCell _ _ _ _ hk
  have hbl:Below B wc (wc.setCell ⟨b,11,none⟩ (.func (.func 103) #[.pointer (some ⟨b,9,none⟩)] #[])):=(Below.refl B wc).setCell (p:=⟨b,11,none⟩) a1 _
  have hbw:Below B w (wc.setCell ⟨b,11,none⟩ (.func (.func 103) #[.pointer (some ⟨b,9,none⟩)] #[])):=HBU.out.trans (a4.trans hbl)
  have hub:ub≠b:=fun e=>own_ne a3 HBK.out (by decide) (by rw [e];rfl)
  have hPB:=HP.out
  have hTB:=HT.out
  rw [← HBE.out] at hPB hTB
  refine ⟨b,M0 ad n c S K tad tn tc sb ub,sF,rfl,⟨hmb,a1,?_,hPB.kept hbw (Nat.le_refl _),hTB.below hbw,Nat.zero_le _,rfl,⟨[],?_⟩,⟨rfl,World.ownsRow_nil _ _ _ _,by simp,by simp⟩,rfl,Nat.zero_le _,Nat.zero_le _,rfl,⟨rfl,World.ownsRow_nil _ _ _ _,by simp,by simp⟩,Nat.zero_le _,⟨rfl,rfl,rfl,rfl,rfl,rfl⟩,own_setCell a3 (by simp [Value.ownBlock];exact hub),fun k hk=>⟨(a5 k hk).1,by simp [RWF,zF,M0,Value.ownBlock],by simp,by simp [RWF,zF,M0,Value.ownBlock],(a5 k hk).2⟩,by simp,by simp [RWF,zF,M0,Value.ownBlock],by simp [RWF,zF,M0,Value.ownBlock]⟩,rfl,rfl,hbw⟩
  ·have:=hbw.size;rw [HBE.out];exact this
  ·rw [← HLN.out]
   exact a2.kept (fun k hk=>hne k (a5 k hk).1)
set_option maxRecDepth 100000 in
set_option maxHeartbeats 8000000 in
theorem run10_ok {w:World} {ad tad:Option Addr} {n c S K tn tc a:Nat} {anch:Bool} {l:List In} {tx:List Int} (hP:PI w w.heap.size ad n l) (hmay:mayB l (S:Int) (K:Int)=true) (hT:TextAt w.heap.size w tad tn tx) (hl:tn≤4194304) (ha:a≤tn) :
  Calls Tryz.prog 34 #[pv ad n c (S:Int) (K:Int),.slice tad tn tc,.int .i64 (a:Int),.bool anch] w (FR K (lockRun (prOf l tx S K) tx.length a anch) w):=by
 obtain ⟨U,hU⟩:∃ U,U=(w.alloc (.cells #[.slice ad n c,.int .i64 (S:Int),.int .i64 (K:Int)] 46)).alloc (.cells #[.bool false,.slice none 0 0,.int .i64 0,.int .i64 0] 54):=⟨_,rfl⟩
 have hb:Below w.heap.size w U:=by rw [hU];exact below_two' w _ _
 have hX:U.heap[w.heap.size]?=some (.cells #[.slice ad n c,.int .i64 (S:Int),.int .i64 (K:Int)] 46 (0,0)):=by rw [hU];exact (heap_alloc_old _ _ (by simp)).trans (heap_alloc_new w _)
 have hY:U.heap[w.heap.size + 1]?=some (.cells #[.bool false,.slice none 0 0,.int .i64 0,.int .i64 0] 54 (0,0)):=by rw [hU];exact two_new w _ _ _
 obtain ⟨x,hx⟩:∃ x,x=w.heap.size:=⟨_,rfl⟩
 obtain ⟨y,hy⟩:∃ y,y=w.heap.size + 1:=⟨_,rfl⟩
 have hyU:w.heap.size + 1 < U.heap.size:=(Array.getElem?_eq_some_iff.1 hY).1
 have hPU:=hP.kept hb hb.size
 have hTU:TextAt U.heap.size U tad tn tx:=(hT.below hb).mono hb.size
 have HCK:=check10 (c:=c) (s:=(S:Int)) (k:=(K:Int)) hPU
 rw [hmay] at HCK
 have htl:tn=tx.length:=hT.1
 rw [← hx] at hX hb
 rw [← hy] at hY hyU
 obtain ⟨c0,c1,c2⟩:=three_cells hX
 have HB:=hid hb
 have HX:=hid hX
 have HY:=hid hY
 have HXE:=hid hx
 have hxy:x < y:=by omega
 have HNM:Hid (∀ W,Below U.heap.size U W→Calls Tryz.prog 65 #[pv ad n c (S:Int) (K:Int),.slice tad tn tc] W fun e w'=>∃ b M sF,e=.returned (.pointer (some ⟨b,0,none⟩))∧GI w' W.heap.size b K l tx M [] none [] [] sF []∧M.S=S∧M.fs=0∧Below W.heap.size W w'):=fun W h=>newMachine22 (hPU.kept h h.size) hmay ((hTU.below h).mono h.size)
 have HMAY:=hid hmay
 have HTL:=hid htl
 have b1:decide ((4194304:Int) < (tn:Int))=false:=by simp;omega
 have b1':decide ((tn:Int) > (4194304:Int))=false:=by simp;omega
 have b2:decide ((a:Int) < 0)=false:=by simp
 have b3:decide ((a:Int) > (tn:Int))=false:=by simp;omega
 have b3':decide ((tn:Int) < (a:Int))=false:=by simp;omega
 clear hP hT hPU hTU hb hX hY hmay htl
 generalize hr:lockRun (prOf l tx S K) tx.length a anch=r
 have HR:=hid hr
 clear hr
 go_enter Tryz.func34,Tryz.ntmps34
 go_upto_region 1 with fail
 rw [← hU,← hy,← hx]
 clear hU hx hy
 go_upto_region 10 with (first | (go_at_call 50;(with_reducible refine HCK.mono ?_);rintro e w2 ⟨rfl,hb2⟩;have HB2:=hid hb2;have hx2:=(hb2.block x (by omega)).trans HX.out;obtain ⟨e0,e1,e2⟩:=three_cells hx2;have HNM2:=HNM.out w2 hb2;clear hb2 hx2 HCK c0 c1 c2) | (go_at_call 65;(with_reducible refine HNM2.mono ?_);rintro e w3 ⟨b,M,sF,rfl,hg,hS,hfs,hb3⟩;have HG:=hid hg;have HB3:=hid hb3;have HRUN:=run23 (a:=a) (anch:=anch) HMAY.out hg hS (by have:=HTL.out;omega) (by have:=HTL.out;omega) hfs;rw [HR.out] at HRUN;clear hg hS hfs hb3 HNM2) | (go_at_call 66;(with_reducible refine HRUN.mono ?_);rintro e w4 ⟨rfl,M',fb',hm4,hf4,hfs4,hb4⟩;have HM4:=hid hm4;have HF4:=hid hf4;have HFS4:=hid hfs4;have HB4:=hid hb4;clear hm4 hf4 hfs4 hb4 HRUN))
 have hY2:=(HB2.out.block y hyU).trans HY.out
 have hU2:U.heap.size≤w2.heap.size:=HB2.out.size
 have hY3:=(HB3.out.block y (by omega)).trans hY2
 have hY4:=(HB4.out.block y (by omega)).trans hY3
 have s0:=Joins.unfrozen_of_block hY4 0
 have s1:=Joins.unfrozen_of_block hY4 1
 have s2:=Joins.unfrozen_of_block hY4 2
 have s3:=Joins.unfrozen_of_block hY4 3
 have y0:=Joins.cell_of_block hY4 0
 have y1:=Joins.cell_of_block hY4 1
 have y2:=Joins.cell_of_block hY4 2
 have y3:=Joins.cell_of_block hY4 3
 have k13:=HM4.out.c 13
 have k14:=HM4.out.c 14
 have k15:=HM4.out.c 15
 have k16:=HM4.out.c 16
 simp at k13 k14 k15 k16
 rw [HFS4.out] at k16
 have HY4:=hid hY4
 clear hY2 hY3 hY4 e0 e1 e2
 have hbw:Below x w w4:=HB.out.trans (Joins.below_le (HB2.out.trans (Joins.below_le (HB3.out.trans HB4.out) hU2)) (by omega))
 have HBW:=hid hbw
 clear hbw
 cases hr1:r.1 with
 | none =>
  have hf:=HF4.out
  rw [hr1] at hf
  obtain ⟨g1,g2,g3,g4,g5,g6⟩:=hf
  rw [g1] at k13
  rw [g2,g3,g4] at k14
  rw [g5] at k15
  clear g1 g2 g3 g4 g5 g6
  have HR1:=hid hr1
  clear hr1
  go_wp2
  refine bodyPost_ret (results_cell_tmp rfl _ _ y 54 _ (0,0) _ rfl (Joins.block_setCell (i:=3) (Joins.block_setCell (i:=2) (Joins.block_setCell (i:=1) (Joins.block_setCell (i:=0) HY4.out _) _) _) _) Tryz.underlying54 rfl (by kernel_rfl)) rfl ?_
  refine ⟨?_,?_⟩
  ·rw [← HXE.out]
   exact (((HBW.out.setCell (p:=⟨y,0,none⟩) (by show x≤y;omega) _).setCell (p:=⟨y,1,none⟩) (by show x≤y;omega) _).setCell (p:=⟨y,2,none⟩) (by show x≤y;omega) _).setCell (p:=⟨y,3,none⟩) (by show x≤y;omega) _
  ·rw [HR1.out];rfl
 | some v =>
  have hf:=HF4.out
  rw [hr1] at hf
  obtain ⟨g,g1,g2,g3,g4,g5,g6,g7⟩:=hf
  rw [g1] at k13
  rw [g2,g3,g4] at k14
  rw [g5] at k15
  have HROW:=hid g7
  clear g1 g2 g3 g4 g5 g6 g7
  have HR1:=hid hr1
  clear hr1
  go_wp2
  refine bodyPost_ret (results_cell_tmp rfl _ _ y 54 _ (0,0) _ rfl (Joins.block_setCell (i:=3) (Joins.block_setCell (i:=2) (Joins.block_setCell (i:=1) (Joins.block_setCell (i:=0) HY4.out _) _) _) _) Tryz.underlying54 rfl (by kernel_rfl)) rfl ?_
  refine ⟨?_,?_⟩
  ·rw [← HXE.out]
   exact (((HBW.out.setCell (p:=⟨y,0,none⟩) (by show x≤y;omega) _).setCell (p:=⟨y,1,none⟩) (by show x≤y;omega) _).setCell (p:=⟨y,2,none⟩) (by show x≤y;omega) _).setCell (p:=⟨y,3,none⟩) (by show x≤y;omega) _
  ·rw [HR1.out]
   have hgy:(Value.slice (some ⟨g,0,none⟩) K K).ownBlock≠some y:=own_ne HROW.out HY4.out (by decide)
   refine ⟨g,rfl,?_⟩
   have t:=own_setCell (a:=⟨y,3,none⟩) (u:=.int .i64 (r.2:Int)) (own_setCell (a:=⟨y,2,none⟩) (u:=.int .i64 v.1) (own_setCell (a:=⟨y,1,none⟩) (u:=.slice (some ⟨g,0,none⟩) K K) (own_setCell (a:=⟨y,0,none⟩) (u:=.bool true) HROW.out hgy) hgy) hgy) hgy
   exact t.mono (by have:=HXE.out;have:=HB2.out.size;omega)
end Go.Proofs.YtacaanhnlfpbhaaGreat
