/- HELPERS: texts of ours put together. -/
import Derived.Test.YtacaanhnlfpbhaaGreatK27
namespace Go.Proofs.YtacaanhnlfpbhaaGreat
open Go.RowKit
set_option linter.unusedVariables false
set_option linter.unusedSimpArgs false
theorem en46:∀ (args:Array Value) (w:World),(callFunc 46 args).run Tryz.prog w=.ok (.enter 46 args) w:=enter_of Tryz.func46 (by kernel_rfl) rfl
theorem en81:∀ (args:Array Value) (w:World),(callFunc 81 args).run Tryz.prog w=.ok (.enter 81 args) w:=enter_of Tryz.func81 (by kernel_rfl) rfl
theorem BPost.base {tb N0:Nat} {W U w':World} {T:Tn} {n0:Nat} {Q:List E8} {v:Value} {e:Ending} (hb:Below W.heap.size W U) (h:BPost tb N0 U.heap.size T n0 Q U v e w'):BPost tb N0 W.heap.size T n0 Q W v e w':=by
 obtain ⟨v5,Q5,e5,um5,fr5,hl5,ho5,hr5⟩:=h
 have hs:=hb.size
 exact ⟨v5,Q5,e5,um5,(UFr.below hb).trans fr5,hl5,ho5,hr5.on (fun wx hk=>⟨hk.1,fun b cur h1 h2=>hk.2 b cur (by omega) h2⟩) (fun _ _=>rfl)⟩
theorem BPost.fr {tb N0 lo:Nat} {W w':World} {T:Tn} {n0:Nat} {Q:List E8} {v:Value} {e:Ending} (h:BPost tb N0 lo T n0 Q W v e w'):∃ v',UFr tb W w' v v':=by
 obtain ⟨v5,Q5,e5,um5,fr5,hl5,ho5,hr5⟩:=h
 exact ⟨_,fr5⟩
theorem BPost.ret {tb N0 lo:Nat} {W w':World} {T:Tn} {n0:Nat} {Q:List E8} {v:Value} {e:Ending} (h:BPost tb N0 lo T n0 Q W v e w'):∃ z,e=.returned (.int .i64 z):=by
 obtain ⟨v5,Q5,e5,um5,fr5,hl5,ho5,hr5⟩:=h
 exact ⟨_,e5⟩
theorem rowN_le:∀ (ts:List Tn),nodesL ts≤(rowN ts).nodes
 | []=>by simp [nodesL]
 | [x]=>by simp [nodesL,rowN]
 | x :: y :: ts=>by simp [rowN,Tn.nodes]
theorem nodesL_repl (x:Tn) {i n:Nat} (h:i < n):nodesL (List.replicate i x) + x.nodes≤nodesL (List.replicate n x):=by
 have:List.replicate n x=(List.replicate i x ++ [x]) ++ List.replicate (n - (i + 1)) x:=by
  rw [← List.replicate_succ',List.replicate_append_replicate];congr 1;omega
 rw [this,nodesL_app,nodesL_snoc]
 omega
theorem spr_plus {x:Tn} {mn:Int} {lz:Bool} (h:1≤mn):sprN x mn (-1) lz=rowN (List.replicate (mn - 1).toNat x ++ [loopN x 1 (-1) lz]):=by
 by_cases h2:mn < 2
 ·obtain rfl:mn=1:=by omega
  simp [sprN,rowN]
 ·simp [sprN,h2]
set_option maxRecDepth 100000 in
set_option maxHeartbeats 16000000 in
theorem repeat80 {tb N0:Nat} {W0:World} {N M:Nv} {x:Tn} {b o:Nat} (hs1:N.s1=some ⟨b,o,none⟩) (hs2:0 < N.s2) (hb:b < N0) (hc:N9 W0 b o 0 M) (hU:UnfC tb N0 W0 M x) (hmn:0≤N.a4∧N.a4≤1000) (hmx:N.a5=-1∨(N.a4≤N.a5∧N.a5≤1000)) (W:World) (v:Value) (Q:List E8) (h:UM tb N0 W v Q) (hN:N0≤W.heap.size) (hlow:∀ b,b < N0→W.heap[b]?=W0.heap[b]?) (hnod:Q.length + (sprN x N.a4 N.a5 N.a6).nodes≤100000) :
  Calls Tryz.prog 80 #[.pointer (some ⟨tb,0,none⟩),N.v] W (BPost tb N0 W.heap.size (sprN x N.a4 N.a5 N.a6) Q.length Q W v):=by
 obtain ⟨k,r1,r2,r3,a2,s1,s2,s3,mn,mx,lz,a7,a8⟩:=N
 dsimp only at hs1 hs2 hmn hmx hnod ⊢
 subst hs1
 obtain ⟨U1,hU1⟩:∃ U,U=W.alloc (.cells #[.int .i64 k,.slice r1 r2 r3,.int .i64 a2,.slice (some ⟨b,o,none⟩) s2 s3,.int .i64 mn,.int .i64 mx,.bool lz,.int .i64 a7,.string a8] 25):=⟨_,rfl⟩
 have hb1:Below W.heap.size W U1:=by rw [hU1];exact Joins.below_alloc1 W _
 obtain ⟨xb,hxb⟩:∃ xb,xb=W.heap.size:=⟨_,rfl⟩
 have hUB:U1.heap[xb]?=some (.cells #[.int .i64 k,.slice r1 r2 r3,.int .i64 a2,.slice (some ⟨b,o,none⟩) s2 s3,.int .i64 mn,.int .i64 mx,.bool lz,.int .i64 a7,.string a8] 25 (0,0)):=by rw [hU1,hxb];exact heap_alloc_new W _
 obtain ⟨x0,x1,x2,x3,x4,x5,x6,x7,x8⟩:=nine' hUB
 obtain ⟨n0,n1,n2,n3,n4,n5,n6,n7,n8⟩:=hc.kept ((hb1.block b (by omega)).trans (hlow b hb))
 simp only [Nat.zero_mul,Nat.mul_zero,Nat.add_zero,Nat.zero_add] at n0 n1 n2 n3 n4 n5 n6 n7 n8
 have HU1:=hid hU1
 have HXB:=hid hxb
 obtain ⟨P,hP⟩:∃ P,P=BPost tb N0 W.heap.size (sprN x mn mx lz) Q.length Q W v:=⟨_,rfl⟩
 rw [← hP]
 have HP:=hid hP
 clear hU1 hxb hP
 go_enter Tryz.func80,Tryz.ntmps80
 go_upto_region 1 with fail
 rw [← HU1.out,← HXB.out]
 go_upto_region 2 with fail
 obtain ⟨U,hU2⟩:∃ U,U=U1.alloc (.cells #[.int .i64 M.k,.slice M.r1 M.r2 M.r3,.int .i64 M.a2,.slice M.s1 M.s2 M.s3,.int .i64 M.a4,.int .i64 M.a5,.bool M.a6,.int .i64 M.a7,.string M.a8] 25):=⟨_,rfl⟩
 obtain ⟨sb,hsb⟩:∃ sb,sb=U1.heap.size:=⟨_,rfl⟩
 rw [← hU2,← hsb]
 have hbU1:Below U1.heap.size U1 U:=by rw [hU2];exact Joins.below_alloc1 U1 _
 have hs1:=hb1.size
 have hbU:Below W.heap.size W U:=hb1.trans (Joins.below_le hbU1 hs1)
 have hsU:U.heap.size=U1.heap.size + 1:=by rw [hU2];simp
 have hxl:xb < U1.heap.size:=(Array.getElem?_eq_some_iff.1 hUB).1
 have hXU:U.heap[xb]?=some (.cells #[.int .i64 k,.slice r1 r2 r3,.int .i64 a2,.slice (some ⟨b,o,none⟩) s2 s3,.int .i64 mn,.int .i64 mx,.bool lz,.int .i64 a7,.string a8] 25 (0,0)):=(hbU1.block xb hxl).trans hUB
 have hSU:U.heap[sb]?=some (.cells #[.int .i64 M.k,.slice M.r1 M.r2 M.r3,.int .i64 M.a2,.slice M.s1 M.s2 M.s3,.int .i64 M.a4,.int .i64 M.a5,.bool M.a6,.int .i64 M.a7,.string M.a8] 25 (0,0)):=by rw [hU2,hsb];exact heap_alloc_new U1 _
 have hum:=h.below hbU
 have htb:=(Array.getElem?_eq_some_iff.1 h.box).1
 have HSB:Hid (∀ V v',UFr tb U V v v'→V.cell? ⟨xb,4,none⟩=some (.int .i64 mn)∧V.cell? ⟨xb,5,none⟩=some (.int .i64 mx)∧V.cell? ⟨xb,6,none⟩=some (.bool lz)∧V.cell? ⟨sb,0,none⟩=some (.int .i64 M.k)∧V.cell? ⟨sb,1,none⟩=some (.slice M.r1 M.r2 M.r3)∧V.cell? ⟨sb,2,none⟩=some (.int .i64 M.a2)∧V.cell? ⟨sb,3,none⟩=some (.slice M.s1 M.s2 M.s3)∧V.cell? ⟨sb,4,none⟩=some (.int .i64 M.a4)∧V.cell? ⟨sb,5,none⟩=some (.int .i64 M.a5)∧V.cell? ⟨sb,6,none⟩=some (.bool M.a6)∧V.cell? ⟨sb,7,none⟩=some (.int .i64 M.a7)∧V.cell? ⟨sb,8,none⟩=some (.string M.a8)):=fun V v' f=>by
  have e1:=HXB.out
  have hx:=(f.old xb (by omega) (by omega) (fun e=>by have:=(h.row.lt xb e).2;omega)).trans hXU
  have hs:=(f.old sb (by omega) (by omega) (fun e=>by have:=(h.row.lt sb e).2;omega)).trans hSU
  exact ⟨(nine' hx).2.2.2.2.1,(nine' hx).2.2.2.2.2.1,(nine' hx).2.2.2.2.2.2.1,nine' hs⟩
 have HLO:Hid (∀ V v',UFr tb U V v v'→∀ b,b < N0→V.heap[b]?=W0.heap[b]?):=fun V v' f b hb=>((f.ki hum (by omega)).1 b hb).trans ((hbU.block b (by omega)).trans (hlow b hb))
 have HUM:=hid hum
 have HBU:=hid hbU
 have HNU:Hid (N0≤U.heap.size):=hid (by omega)
 have HNOD:=hid hnod
 have HDR:Hid (∀ V:World,Below V.heap.size V V.drew):=fun V=>⟨rfl,rfl,rfl,Nat.le_refl _,fun _ _=>rfl⟩
 have HUC:Hid (∀ V v' Q',UFr tb U V v v'→UM tb N0 V v' Q'→Q'.length + x.nodes≤100000→Calls Tryz.prog 46 #[.pointer (some ⟨tb,0,none⟩),.agg #[.int .i64 M.k,.slice M.r1 M.r2 M.r3,.int .i64 M.a2,.slice M.s1 M.s2 M.s3,.int .i64 M.a4,.int .i64 M.a5,.bool M.a6,.int .i64 M.a7,.string M.a8]] V (BPost tb N0 V.heap.size x Q'.length Q' V v')):=fun V v' Q' f u hl=>hU V v' Q' u (Nat.le_trans HNU.out f.size) (HLO.out V v' f) hl
 obtain ⟨x4,x5,x6,y0,y1,y2,y3,y4,y5,y6,y7,y8⟩:=HSB.out U v (UFr.refl _ _ _)
 clear hU2 hsb hbU1 hs1 hbU hsU hxl hXU hSU hum htb hUB hb1 x0 x1 x2 x3 x7 x8 n0 n1 n2 n3 n4 n5 n6 n7 n8 hc h hN hlow hnod hb hs2
 by_cases hst:mx < 0∧mn=0
 ·obtain ⟨h1,rfl⟩:=hst
  obtain rfl:mx=-1:=by omega
  have hsp:sprN x 0 (-1) lz=loopN x 0 (-1) lz:=by simp [sprN]
  rw [hsp] at HP HNOD
  rw [loopN_nodes] at HNOD
  go_upto_region 3 with fail
  refine wp_region_lexK [0,1,2,5,6] [3,4,7,8,9] 9 (fun V=>V.cell? ⟨xb,6,none⟩=some (.bool lz)∧V.cell? ⟨sb,0,none⟩=some (.int .i64 M.k)∧V.cell? ⟨sb,1,none⟩=some (.slice M.r1 M.r2 M.r3)∧V.cell? ⟨sb,2,none⟩=some (.int .i64 M.a2)∧V.cell? ⟨sb,3,none⟩=some (.slice M.s1 M.s2 M.s3)∧V.cell? ⟨sb,4,none⟩=some (.int .i64 M.a4)∧V.cell? ⟨sb,5,none⟩=some (.int .i64 M.a5)∧V.cell? ⟨sb,6,none⟩=some (.bool M.a6)∧V.cell? ⟨sb,7,none⟩=some (.int .i64 M.a7)∧V.cell? ⟨sb,8,none⟩=some (.string M.a8)) (by kernel_rfl) (by kernel_rfl) rfl (by kernel_rfl) (by kernel_rfl) ⟨x6,y0,y1,y2,y3,y4,y5,y6,y7,y8⟩ ?_
  simp only [opsAt,opsNo,List.getElem?_toArray,List.getElem?_cons_zero,List.getElem?_cons_succ]
  iterate 5
   refine lex_cons ?_ rfl (fun V hV=>?_) (fun _ _ _ h=>h) ?_
   rotate_left
   ·obtain ⟨s6,t0,t1,t2,t3,t4,t5,t6,t7,t8⟩:=hV
    go_simp <;> with_reducible rfl
   simp only [Act.put,List.setIfInBounds_toArray,List.set_cons_zero,List.set_cons_succ]
  refine lex_nil (tailK_cons fun K hK=>?_)
  have hdr:UFr tb U U.drew v v:=UFr.below (HDR.out U)
  refine step_call2 rfl 46 (.tmp 22) (.tmp 23) 74 25 rfl en46 ?_
  refine (HUC.out U.drew v Q hdr (HUM.out.below (HDR.out U)) (by have:=HNOD.out;omega)).mono ?_
  intro e w1 hp
  obtain ⟨z1,rfl⟩:=hp.ret
  obtain ⟨v1,hf1⟩:=hp.fr
  have HF1:=hid (hdr.trans hf1)
  have HF2:=hid ((hdr.trans hf1).trans (UFr.below (Joins.below_alloc1 w1 (.cells #[.int .i64 z1] 3))))
  have HL5:=wrap_built (W0:=U.drew) (T:=x) (n0:=Q.length) (mn:=0) (mx:=-1) (lz:=lz) (k:=101) HNU.out hp rfl (by have:=HNOD.out;omega)
  clear hp hf1
  refine ⟨_,rfl,hK.out _ _ (fun _=>(HSB.out _ _ HF1.out).2.2) (tailK_cons fun K hK=>?_)⟩
  simp only [Act.put,List.setIfInBounds_toArray,List.set_cons_zero,List.set_cons_succ]
  go_simp
  refine hK.out _ _ (fun _=>(HSB.out _ _ HF2.out).2.2) (tailK_cons fun K hK=>?_)
  simp only [Act.put,List.setIfInBounds_toArray,List.set_cons_zero,List.set_cons_succ]
  go_simp
  refine hK.out _ _ (fun _=>(HSB.out _ _ HF2.out).2.2) (tailK_cons fun K hK=>?_)
  refine step_call2 rfl 81 (.tmp 21) (.tmp 28) 74 141 rfl en81 ?_
  refine HL5.mono ?_
  intro e w5 hq
  obtain ⟨z5,rfl⟩:=hq.ret
  obtain ⟨v5,hf5⟩:=hq.fr
  have HF5:=hid (hdr.trans hf5)
  have HQ5:Hid (P (.returned (.int .i64 z5)) w5):=by rw [HP.out];exact BPost.base HBU.out (BPost.base (HDR.out U) hq)
  clear hq hf5 HL5
  refine ⟨_,rfl,hK.out _ _ (fun _=>(HSB.out _ _ HF5.out).2.2) (tailK_cons fun K hK=>?_)⟩
  simp only [Act.put,List.setIfInBounds_toArray,List.set_cons_zero,List.set_cons_succ]
  go_simp
  refine hK.out _ _ (fun h=>absurd rfl h) (tailK_nil ?_)
  clear x4 x5 x6 y0 y1 y2 y3 y4 y5 y6 y7 y8
  go_wp2
  all_goals first | exact HQ5.out | (go_ret;exact HQ5.out)
 obtain ⟨n,hn⟩:∃ n:Nat,n=(if mx < 0 then mn - 1 else mn).toNat:=⟨_,rfl⟩
 by_cases hneg:mx < 0
 ·obtain rfl:mx=-1:=by omega
  rw [if_pos hneg] at hn
  have hn':mn - 1=(n:Int):=by omega
  have hn1:1≤mn:=by omega
  have ad0:IntKind.i64.wrap (mn - 1)=mn - 1:=by simp [IntKind.wrap,IntKind.bits,IntKind.signed];omega
  have b0:(mn == 0)=false:=by simp;omega
  have b0':¬ mn=0:=by omega
  rw [spr_plus hn1,← hn] at HP HNOD
  clear hn hneg
  have HNX:Hid (Q.length + nodesL (List.replicate n x) + 1 + x.nodes≤100000):=by
   have h1:=HNOD.out
   have h2:=rowN_le (List.replicate n x ++ [loopN x 1 (-1) lz])
   rw [nodesL_app] at h2
   simp only [nodesL,loopN_nodes] at h2
   exact hid (by omega)
  go_wp2_with fail
  go_loopw [6,8] (fun u y wq=>∃ i:Nat,y=.int .i64 (i:Int)∧i≤n∧∃ l,l=u∧∃ vq Qq,Hid (Grw tb N0 Q.length Q U v (List.replicate i x) wq vq Qq l)) (fun _ y _=>n - (intOf y).toNat)
  case atStart=>exact ⟨0,rfl,by omega,_,rfl,v,Q,Grw.nil HUM.out HNU.out⟩
  case round =>
   clear x4 x5 x6 y0 y1 y2 y3 y4 y5 y6 y7 y8
   obtain ⟨i,rfl,hi,u,rfl,vq,Qq,HG⟩:=hrel
   have hll:=HG.out.len
   have hnn:=HNX.out
   obtain ⟨x4,x5,x6,y0,y1,y2,y3,y4,y5,y6,y7,y8⟩:=HSB.out wr vq HG.out.fr
   by_cases hil:i < n
   ·have hnr:=nodesL_repl x hil
    have b1:decide ((i:Int) < (n:Int))=true:=by simp;omega
    have b2:(i:Int) < (n:Int):=by omega
    have HC2:=HUC.out wr vq Qq HG.out.fr HG.out.um (by omega)
    obtain ⟨P2,hP2⟩:∃ P2,P2=BPost tb N0 wr.heap.size x Qq.length Qq wr vq:=⟨_,rfl⟩
    rw [← hP2] at HC2
    have HPR2:Hid (∀ e w',P2 e w'→∃ z,e=.returned (.int .i64 z)):=fun e w' hp=>by rw [hP2] at hp;exact hp.ret
    obtain ⟨L3,hL3⟩:∃ L3:List Int,L3=(rts (List.replicate i x) Q.length).map fun (x:Nat)=>(x:Int):=⟨_,rfl⟩
    have HAP:Hid (∀ z w5,P2 (.returned (.int .i64 z)) w5→(w5.alloc (.cells #[.int .i64 z] 3)).ownsRow U.heap.size 3 1 u i (I64 L3)∧U.heap.size≤(w5.alloc (.cells #[.int .i64 z] 3)).heap.size∧∀ l' w6,w6.ownsRow U.heap.size 3 1 l' (i + 1) (I64 L3 ++ [.int .i64 z])→Moved (w5.alloc (.cells #[.int .i64 z] 3)) w6 u l'→∃ v' Q',Grw tb N0 Q.length Q U v (List.replicate i x ++ [x]) w6 v' Q' l'):=fun z w5 hp=>by
     rw [hP2] at hp
     have h1:=HG.out.own (Nat.le_refl _) (Below.refl _ _) rfl hp (Joins.below_alloc1 w5 (.cells #[.int .i64 z] 3))
     have hlr:(List.replicate i x).length=i:=by simp
     rw [hlr] at h1
     rw [hL3]
     exact ⟨h1.1,h1.2,fun l' w6 ho hm=>by obtain ⟨v',Q',g,_⟩:=HG.out.snoc (Nat.le_refl _) (Below.refl _ _) rfl hp (Joins.below_alloc1 w5 _) hm (by rw [hlr];exact ho);exact ⟨v',Q',g⟩⟩
    obtain ⟨i0,hi0,hz0,hz1,hz2⟩:=info_parts info3
    have ad1:IntKind.i64.wrap ((i:Int) + 1)=(i:Int) + 1:=by simp [IntKind.wrap,IntKind.bits,IntKind.signed];omega
    clear hP2 hL3 HG hll hnn hnr x4 x5 x6
    go_wp2_with (first | (go_at_call 46;(with_reducible refine HC2.mono ?_);rintro e w5 hp;obtain ⟨z2,rfl⟩:=HPR2.out _ _ hp;have HB2:=hid hp;clear hp HC2) | (at_builtin;refine wpList_append_move rfl (.tmp 42) (.tmp 46) 26 rfl U.heap.size 3 i0 (.int .i64 0) 8 Tryz.underlying26 hi0 hz0 hz1 hz2 rfl u i (I64 L3) rfl (HAP.out _ _ HB2.out).1 ⟨w5.heap.size,0,none⟩ 1 1 [.int .i64 z2] rfl rfl (by decide) (one_new w5 _ 3) (by intro u hu;simp at hu;subst hu;rfl) (by unfold maxLen;omega) (by omega) (HAP.out _ _ HB2.out).2.1 ?_;intro v6 w6 ho6 hm6;obtain ⟨v7,Q7,g7⟩:=(HAP.out _ _ HB2.out).2.2 v6 w6 ho6.out hm6.out;have HG2:=hid g7; clear g7 ho6 hm6 y0 y1 y2 y3 y4 y5 y6 y7 y8))
    refine ⟨⟨i + 1,by push_cast;rfl,by omega,_,rfl,v7,Q7,by rw [List.replicate_succ'];exact HG2.out⟩,?_⟩
    simp [intOf]
    omega
   ·obtain rfl:i=n:=by omega
    have b1:decide ((i:Int) < (i:Int))=false:=by simp
    go_upto_region 13 with fail
    refine wp_region_lexK [0,1,2,3,6,7] [4,5,8,9,10,11,12] 12 (fun V=>V.cell? ⟨xb,6,none⟩=some (.bool lz)∧V.cell? ⟨sb,0,none⟩=some (.int .i64 M.k)∧V.cell? ⟨sb,1,none⟩=some (.slice M.r1 M.r2 M.r3)∧V.cell? ⟨sb,2,none⟩=some (.int .i64 M.a2)∧V.cell? ⟨sb,3,none⟩=some (.slice M.s1 M.s2 M.s3)∧V.cell? ⟨sb,4,none⟩=some (.int .i64 M.a4)∧V.cell? ⟨sb,5,none⟩=some (.int .i64 M.a5)∧V.cell? ⟨sb,6,none⟩=some (.bool M.a6)∧V.cell? ⟨sb,7,none⟩=some (.int .i64 M.a7)∧V.cell? ⟨sb,8,none⟩=some (.string M.a8)) (by kernel_rfl) (by kernel_rfl) rfl (by kernel_rfl) (by kernel_rfl) ⟨x6,y0,y1,y2,y3,y4,y5,y6,y7,y8⟩ ?_
    simp only [opsAt,opsNo,List.getElem?_toArray,List.getElem?_cons_zero,List.getElem?_cons_succ]
    iterate 6
     refine lex_cons ?_ rfl (fun V hV=>?_) (fun _ _ _ h=>h) ?_
     rotate_left
     ·obtain ⟨s6,t0,t1,t2,t3,t4,t5,t6,t7,t8⟩:=hV
      go_simp <;> with_reducible rfl
     simp only [Act.put,List.setIfInBounds_toArray,List.set_cons_zero,List.set_cons_succ]
    refine lex_nil (tailK_cons fun K hK=>?_)
    clear x4 x5 x6 y0 y1 y2 y3 y4 y5 y6 y7 y8
    have gd:=HG.out.below (HDR.out wr)
    have HGD:=hid gd
    have hfd:=gd.fr
    have hlow:N0≤wr.drew.heap.size:=Nat.le_trans HNU.out hfd.size
    refine step_call2 rfl 46 (.tmp 53) (.tmp 54) 74 25 rfl en46 ?_
    refine (HUC.out wr.drew vq Qq hfd gd.um (by omega)).mono ?_
    intro e w1 hp
    obtain ⟨z1,rfl⟩:=hp.ret
    obtain ⟨v1,hf1⟩:=hp.fr
    have HF1:=hid (hfd.trans hf1)
    have HF2:=hid ((hfd.trans hf1).trans (UFr.below (Joins.below_alloc1 w1 (.cells #[.int .i64 z1] 3))))
    have HL5:=wrap_built (W0:=wr.drew) (T:=x) (n0:=Qq.length) (mn:=1) (mx:=-1) (lz:=lz) (k:=102) hlow hp rfl (by omega)
    clear hp hf1 gd
    refine ⟨_,rfl,hK.out _ _ (fun _=>(HSB.out _ _ HF1.out).2.2) (tailK_cons fun K hK=>?_)⟩
    simp only [Act.put,List.setIfInBounds_toArray,List.set_cons_zero,List.set_cons_succ]
    go_simp
    refine hK.out _ _ (fun _=>(HSB.out _ _ HF2.out).2.2) (tailK_cons fun K hK=>?_)
    simp only [Act.put,List.setIfInBounds_toArray,List.set_cons_zero,List.set_cons_succ]
    go_simp
    refine hK.out _ _ (fun _=>(HSB.out _ _ HF2.out).2.2) (tailK_cons fun K hK=>?_)
    refine step_call2 rfl 81 (.tmp 52) (.tmp 59) 74 141 rfl en81 ?_
    refine HL5.mono ?_
    intro e w5 hq
    obtain ⟨z2,rfl⟩:=hq.ret
    obtain ⟨v5,hf5⟩:=hq.fr
    have HF5:=hid (hfd.trans hf5)
    have HF6:=hid ((hfd.trans hf5).trans (UFr.below (Joins.below_alloc1 w5 (.cells #[.int .i64 z2] 3))))
    obtain ⟨P2,hP2⟩:∃ P2,P2=BPost tb N0 wr.drew.heap.size (loopN x 1 (-1) lz) Qq.length Qq wr.drew vq:=⟨_,rfl⟩
    rw [← hP2] at hq
    have HB2:=hid hq
    have HGs:=HG
    clear HG
    have HG:=HGD
    obtain ⟨L3,hL3⟩:∃ L3:List Int,L3=(rts (List.replicate i x) Q.length).map fun (x:Nat)=>(x:Int):=⟨_,rfl⟩
    have HAP:Hid (∀ z w5,P2 (.returned (.int .i64 z)) w5→(w5.alloc (.cells #[.int .i64 z] 3)).ownsRow U.heap.size 3 1 u i (I64 L3)∧U.heap.size≤(w5.alloc (.cells #[.int .i64 z] 3)).heap.size∧∀ l' w6,w6.ownsRow U.heap.size 3 1 l' (i + 1) (I64 L3 ++ [.int .i64 z])→Moved (w5.alloc (.cells #[.int .i64 z] 3)) w6 u l'→∃ v' Q',Grw tb N0 Q.length Q U v (List.replicate i x ++ [loopN x 1 (-1) lz]) w6 v' Q' l'):=fun z w5 hp=>by
     rw [hP2] at hp
     have h1:=HG.out.own (Nat.le_refl _) (Below.refl _ _) rfl hp (Joins.below_alloc1 w5 (.cells #[.int .i64 z] 3))
     have hlr:(List.replicate i x).length=i:=by simp
     rw [hlr] at h1
     rw [hL3]
     exact ⟨h1.1,h1.2,fun l' w6 ho hm=>by obtain ⟨v',Q',g,_⟩:=HG.out.snoc (Nat.le_refl _) (Below.refl _ _) rfl hp (Joins.below_alloc1 w5 _) hm (by rw [hlr];exact ho);exact ⟨v',Q',g⟩⟩
    obtain ⟨i0,hi0,hz0,hz1,hz2⟩:=info_parts info3
    clear hq hf5 HL5 hP2 hL3 HGs HG HGD
    refine ⟨_,rfl,hK.out _ _ (fun _=>(HSB.out _ _ HF5.out).2.2) (tailK_cons fun K hK=>?_)⟩
    simp only [Act.put,List.setIfInBounds_toArray,List.set_cons_zero,List.set_cons_succ]
    go_simp
    refine hK.out _ _ (fun _=>(HSB.out _ _ HF6.out).2.2) (tailK_cons fun K hK=>?_)
    refine step_append rfl (.tmp 51) (.tmp 61) 26 rfl U.heap.size 3 i0 (.int .i64 0) 1 8 Tryz.underlying26 hi0 hz0 hz1 hz2 rfl (by decide) u i (I64 L3) rfl (HAP.out _ _ HB2.out).1 ⟨w5.heap.size,0,none⟩ 1 1 [.int .i64 z2] rfl rfl (by decide) (one_new w5 _ 3) (by intro u hu;simp at hu;subst hu;rfl) (by unfold maxLen;omega) (by omega) (HAP.out _ _ HB2.out).2.1 ?_
    intro v6 w6 ho6 hm6
    obtain ⟨v7,Q7,g7⟩:=(HAP.out _ _ HB2.out).2.2 v6 w6 ho6.out hm6.out
    have HG2:=hid g7
    obtain ⟨vb,vc,rfl⟩:=Joins.ownsRow_form ho6.out (by omega)
    clear g7 ho6 hm6
    refine hK.out _ _ (fun _=>(HSB.out _ _ HG2.out.fr).2.2) (tailK_cons fun K hK=>?_)
    simp only [Act.put,List.setIfInBounds_toArray,List.set_cons_zero,List.set_cons_succ]
    go_simp
    refine hK.out _ _ (fun h=>absurd rfl h) (tailK_nil ?_)
    have HRW:Calls Tryz.prog 123 #[.pointer (some ⟨tb,0,none⟩),.slice (some ⟨vb,0,none⟩) (i + 1) vc] w6 P:=by
     rw [HP.out]
     skip
     exact (HG2.out.rowcall (by simp) (by rw [nodesL_snoc,loopN_nodes];have:=HNX.out;omega)).mono fun e w' hq=>BPost.base HBU.out hq
    have HPE:Hid (∀ e w',P e w'→∃ z,e=.returned (.int .i64 z)):=fun e w' hp=>by rw [HP.out] at hp;exact hp.ret
    go_wp2_with (first | (go_at_call 123;(with_reducible refine HRW.mono ?_);rintro e w8 hq;have HQ5:=hid hq;obtain ⟨_,rfl⟩:=HPE.out _ _ hq;clear HRW hq))
    all_goals first | exact HQ5.out | (go_ret;exact HQ5.out)
 ·rw [if_neg hneg] at hn
  have hn':mn=(n:Int):=by omega
  clear hn
  subst hn'
  have hmx0:(n:Int)≤mx∧mx≤1000:=by omega
  have b0:decide (mx < 0)=false:=by simp;omega
  have b0':¬ mx < 0:=by omega
  have hsp:sprN x (n:Int) mx lz=rowN (List.replicate n x ++ if (n:Int) < mx then [optN x lz (mx - n - 1).toNat] else []):=by
   simp only [sprN,b0',if_false,Int.toNat_natCast]
  rw [hsp] at HP HNOD
  have HNX:Hid (Q.length + nodesL (List.replicate n x)≤100000):=by
   have h1:=HNOD.out
   have h2:=rowN_le (List.replicate n x ++ if (n:Int) < mx then [optN x lz (mx - n - 1).toNat] else [])
   rw [nodesL_app] at h2
   exact hid (by omega)
  have HNO:Hid ((n:Int) < mx→Q.length + nodesL (List.replicate n x) + (optN x lz (mx - n - 1).toNat).nodes≤100000):=fun hlt=>by
   have h1:=HNOD.out
   have h2:=rowN_le (List.replicate n x ++ if (n:Int) < mx then [optN x lz (mx - n - 1).toNat] else [])
   rw [if_pos hlt] at h1 h2
   rw [nodesL_app] at h2
   simp only [nodesL] at h2
   omega
  clear hst hmn hmx hneg hsp
  go_wp2_with fail
  go_loopw [6,8] (fun u y wq=>∃ i:Nat,y=.int .i64 (i:Int)∧i≤n∧∃ l,l=u∧∃ vq Qq,Hid (Grw tb N0 Q.length Q U v (List.replicate i x) wq vq Qq l)) (fun _ y _=>n - (intOf y).toNat)
  case atStart=>exact ⟨0,rfl,by omega,_,rfl,v,Q,Grw.nil HUM.out HNU.out⟩
  case round =>
   clear x4 x5 x6 y0 y1 y2 y3 y4 y5 y6 y7 y8
   obtain ⟨i,rfl,hi,u,rfl,vq,Qq,HG⟩:=hrel
   have hll:=HG.out.len
   have hnn:=HNX.out
   obtain ⟨x4,x5,x6,y0,y1,y2,y3,y4,y5,y6,y7,y8⟩:=HSB.out wr vq HG.out.fr
   by_cases hil:i < n
   ·have hnr:=nodesL_repl x hil
    have b1:decide ((i:Int) < (n:Int))=true:=by simp;omega
    have b2:(i:Int) < (n:Int):=by omega
    have HC2:=HUC.out wr vq Qq HG.out.fr HG.out.um (by omega)
    obtain ⟨P2,hP2⟩:∃ P2,P2=BPost tb N0 wr.heap.size x Qq.length Qq wr vq:=⟨_,rfl⟩
    rw [← hP2] at HC2
    have HPR2:Hid (∀ e w',P2 e w'→∃ z,e=.returned (.int .i64 z)):=fun e w' hp=>by rw [hP2] at hp;exact hp.ret
    obtain ⟨L3,hL3⟩:∃ L3:List Int,L3=(rts (List.replicate i x) Q.length).map fun (x:Nat)=>(x:Int):=⟨_,rfl⟩
    have HAP:Hid (∀ z w5,P2 (.returned (.int .i64 z)) w5→(w5.alloc (.cells #[.int .i64 z] 3)).ownsRow U.heap.size 3 1 u i (I64 L3)∧U.heap.size≤(w5.alloc (.cells #[.int .i64 z] 3)).heap.size∧∀ l' w6,w6.ownsRow U.heap.size 3 1 l' (i + 1) (I64 L3 ++ [.int .i64 z])→Moved (w5.alloc (.cells #[.int .i64 z] 3)) w6 u l'→∃ v' Q',Grw tb N0 Q.length Q U v (List.replicate i x ++ [x]) w6 v' Q' l'):=fun z w5 hp=>by
     rw [hP2] at hp
     have h1:=HG.out.own (Nat.le_refl _) (Below.refl _ _) rfl hp (Joins.below_alloc1 w5 (.cells #[.int .i64 z] 3))
     have hlr:(List.replicate i x).length=i:=by simp
     rw [hlr] at h1
     rw [hL3]
     exact ⟨h1.1,h1.2,fun l' w6 ho hm=>by obtain ⟨v',Q',g,_⟩:=HG.out.snoc (Nat.le_refl _) (Below.refl _ _) rfl hp (Joins.below_alloc1 w5 _) hm (by rw [hlr];exact ho);exact ⟨v',Q',g⟩⟩
    obtain ⟨i0,hi0,hz0,hz1,hz2⟩:=info_parts info3
    have ad1:IntKind.i64.wrap ((i:Int) + 1)=(i:Int) + 1:=by simp [IntKind.wrap,IntKind.bits,IntKind.signed];omega
    clear hP2 hL3 HG hll hnn hnr x4 x5 x6
    go_wp2_with (first | (go_at_call 46;(with_reducible refine HC2.mono ?_);rintro e w5 hp;obtain ⟨z2,rfl⟩:=HPR2.out _ _ hp;have HB2:=hid hp;clear hp HC2) | (at_builtin;refine wpList_append_move rfl (.tmp 42) (.tmp 46) 26 rfl U.heap.size 3 i0 (.int .i64 0) 8 Tryz.underlying26 hi0 hz0 hz1 hz2 rfl u i (I64 L3) rfl (HAP.out _ _ HB2.out).1 ⟨w5.heap.size,0,none⟩ 1 1 [.int .i64 z2] rfl rfl (by decide) (one_new w5 _ 3) (by intro u hu;simp at hu;subst hu;rfl) (by unfold maxLen;omega) (by omega) (HAP.out _ _ HB2.out).2.1 ?_;intro v6 w6 ho6 hm6;obtain ⟨v7,Q7,g7⟩:=(HAP.out _ _ HB2.out).2.2 v6 w6 ho6.out hm6.out;have HG2:=hid g7; clear g7 ho6 hm6 y0 y1 y2 y3 y4 y5 y6 y7 y8))
    refine ⟨⟨i + 1,by push_cast;rfl,by omega,_,rfl,v7,Q7,by rw [List.replicate_succ'];exact HG2.out⟩,?_⟩
    simp [intOf]
    omega
   ·obtain rfl:i=n:=by omega
    have b1:decide ((i:Int) < (i:Int))=false:=by simp
    by_cases hlt:(i:Int) < mx
    ·have c1:decide ((i:Int) < mx)=true:=by simp;exact hlt
     have c2:decide (mx > (i:Int))=true:=by simp;exact hlt
     obtain ⟨kk,hkk⟩:∃ kk,kk=(mx - (i:Int) - 1).toNat:=⟨_,rfl⟩
     have hk1:mx - (i:Int)=(kk:Int) + 1:=by omega
     have hno:=HNO.out hlt
     rw [if_pos hlt,← hkk] at HP
     rw [← hkk] at hno
     have adM:IntKind.i64.wrap (mx - (i:Int))=mx - (i:Int):=by simp [IntKind.wrap,IntKind.bits,IntKind.signed];omega
     have HC2:=opt122 hU lz kk (mx - (i:Int)) wr vq Qq hk1 (by omega) HG.out.um (Nat.le_trans HNU.out HG.out.fr.size) (HLO.out wr vq HG.out.fr) (by omega)
     obtain ⟨P2,hP2⟩:∃ P2,P2=BPost tb N0 wr.heap.size (optN x lz kk) Qq.length Qq wr vq:=⟨_,rfl⟩
     rw [← hP2] at HC2
     have HPR2:Hid (∀ e w',P2 e w'→∃ z,e=.returned (.int .i64 z)):=fun e w' hp=>by rw [hP2] at hp;exact hp.ret
     obtain ⟨L3,hL3⟩:∃ L3:List Int,L3=(rts (List.replicate i x) Q.length).map fun (x:Nat)=>(x:Int):=⟨_,rfl⟩
     have HAP:Hid (∀ z w5,P2 (.returned (.int .i64 z)) w5→(w5.alloc (.cells #[.int .i64 z] 3)).ownsRow U.heap.size 3 1 u i (I64 L3)∧U.heap.size≤(w5.alloc (.cells #[.int .i64 z] 3)).heap.size∧∀ l' w6,w6.ownsRow U.heap.size 3 1 l' (i + 1) (I64 L3 ++ [.int .i64 z])→Moved (w5.alloc (.cells #[.int .i64 z] 3)) w6 u l'→∃ v' Q',Grw tb N0 Q.length Q U v (List.replicate i x ++ [optN x lz kk]) w6 v' Q' l'):=fun z w5 hp=>by
      rw [hP2] at hp
      have h1:=HG.out.own (Nat.le_refl _) (Below.refl _ _) rfl hp (Joins.below_alloc1 w5 (.cells #[.int .i64 z] 3))
      have hlr:(List.replicate i x).length=i:=by simp
      rw [hlr] at h1
      rw [hL3]
      exact ⟨h1.1,h1.2,fun l' w6 ho hm=>by obtain ⟨v',Q',g,_⟩:=HG.out.snoc (Nat.le_refl _) (Below.refl _ _) rfl hp (Joins.below_alloc1 w5 _) hm (by rw [hlr];exact ho);exact ⟨v',Q',g⟩⟩
     obtain ⟨i0,hi0,hz0,hz1,hz2⟩:=info_parts info3
     have HNO2:=hid hno
     clear hP2 hL3 HG hll hnn hno hkk hk1 HNO
     go_upto_region 16 with (first | (go_at_call 122;(with_reducible refine HC2.mono ?_);rintro e w5 hp;obtain ⟨z2,rfl⟩:=HPR2.out _ _ hp;have HB2:=hid hp;clear hp HC2) | (at_builtin;refine wpList_append_move rfl (.tmp 68) (.tmp 79) 26 rfl U.heap.size 3 i0 (.int .i64 0) 8 Tryz.underlying26 hi0 hz0 hz1 hz2 rfl u i (I64 L3) rfl (HAP.out _ _ HB2.out).1 ⟨w5.heap.size,0,none⟩ 1 1 [.int .i64 z2] rfl rfl (by decide) (one_new w5 _ 3) (by intro u hu;simp at hu;subst hu;rfl) (by unfold maxLen;omega) (by omega) (HAP.out _ _ HB2.out).2.1 ?_;intro v6 w6 ho6 hm6;obtain ⟨v7,Q7,g7⟩:=(HAP.out _ _ HB2.out).2.2 v6 w6 ho6.out hm6.out;have HG2:=hid g7; clear g7 ho6 hm6 y0 y1 y2 y3 y4 y5 y6 y7 y8))
     obtain ⟨vb,vc,rfl⟩:=Joins.ownsRow_form HG2.out.row (by simp)
     simp only [List.length_append,List.length_replicate,List.length_cons,List.length_nil] at HG2 ⊢
     have HRW:Calls Tryz.prog 123 #[.pointer (some ⟨tb,0,none⟩),.slice (some ⟨vb,0,none⟩) (i + 1) vc] w6 P:=by
      rw [HP.out]
      skip
      exact (HG2.out.rowcall (by simp) (by rw [nodesL_snoc];have:=HNO2.out;omega)).mono fun e w' hq=>BPost.base HBU.out hq
     have HPE:Hid (∀ e w',P e w'→∃ z,e=.returned (.int .i64 z)):=fun e w' hp=>by rw [HP.out] at hp;exact hp.ret
     go_wp2_with (first | (go_at_call 123;(with_reducible refine HRW.mono ?_);rintro e w8 hq;have HQ5:=hid hq;obtain ⟨_,rfl⟩:=HPE.out _ _ hq;clear HRW hq))
     all_goals first | exact HQ5.out | (go_ret;exact HQ5.out)
    ·have c1:decide ((i:Int) < mx)=false:=by simp;omega
     have c2:decide (mx > (i:Int))=false:=by simp;omega
     rw [if_neg hlt,List.append_nil] at HP
     obtain ⟨la,lc,rfl⟩:∃ la lc,u=.slice la i lc:=by
      rcases Joins.ownsRow_forms HG.out.row with ⟨e,h0⟩ | ⟨g,cap,e⟩
      ·simp at h0;exact ⟨none,0,by rw [e,h0]⟩
      ·simp at e;exact ⟨_,_,e⟩
     have HG2:=HG
     clear y0 y1 y2 y3 y4 y5 y6 y7 y8 HNO
     have HRW:Calls Tryz.prog 123 #[.pointer (some ⟨tb,0,none⟩),.slice la i lc] wr P:=by
      rw [HP.out]
      skip
      exact (HG2.out.rowcall (by simp) (HNX.out)).mono fun e w' hq=>BPost.base HBU.out hq
     have HPE:Hid (∀ e w',P e w'→∃ z,e=.returned (.int .i64 z)):=fun e w' hp=>by rw [HP.out] at hp;exact hp.ret
     go_wp2_with (first | (go_at_call 123;(with_reducible refine HRW.mono ?_);rintro e w8 hq;have HQ5:=hid hq;obtain ⟨_,rfl⟩:=HPE.out _ _ hq;clear HRW hq))
     all_goals first | exact HQ5.out | (go_ret;exact HQ5.out)
end Go.Proofs.YtacaanhnlfpbhaaGreat
