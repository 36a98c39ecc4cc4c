/- HELPERS: texts of ours put together. -/
import Derived.Test.YtacaanhnlfpbhaaGreatK11
import Derived.Test.YtacaanhnlfpbhaaGreatK06
import Derived.Test.YtacaanhnlfpbhaaGreatK02
import Derived.Test.YtacaanhnlfpbhaaGreatK03
import Derived.WalkKit
import Derived.Laws.BitsLemmas
namespace Go.Proofs.YtacaanhnlfpbhaaGreat
open Go.RowKit Go.Shelf
set_option linter.unusedVariables false
set_option linter.unusedSimpArgs false
attribute [local go_sem] Oper.semAt_some
structure CI {m:Nat} (g K:Nat) (A:Six) (JP:List (Fin m)→Jd) (FS:List Nat) (z:Nat) (sv:Value) (w:World) (n:Int) (v:Value) (W':Way) (F FE:List Nat) (pre:List (Fin m)) (W:World):Prop where
 box:Bx W (z + 1 + 1) 133 v
 mj:Mj g K (JP pre) w W A n v W' FS F FE
 out:∀ k ∈ F,k ∈ FS∨z + 1 + 1 + 1 + 1≤k
 outE:∀ k ∈ FE,k ∈ FS∨z + 1 + 1 + 1 + 1≤k
 me:Bx W z 71 (pt g)
 sl:Bx W (z + 1 + 1 + 1) 23 sv
theorem CI.own {m:Nat} {g K:Nat} {A:Six} {JP:List (Fin m)→Jd} {FS:List Nat} {z:Nat} {sv:Value} {w:World} (hz:z=w.heap.size) (hg:g < z) (hisc:∀ pre n W FE w,(JP pre).p n W FE w→∀ k ∈ FE,IsC w k) :
  OwnFrom (z + 1 + 1 + 1 + 1) (fun (pre:List (Fin m)) W=>∃ n v W' F FE,CI g K A JP FS z sv w n v W' F FE pre W):=by
 rintro pre W W' row ⟨n,v,Wy,F,FE,h⟩ hgr hr
 have keep:∀ k,k < W.heap.size→(k < z + 4∨IsC W k)→W'.heap[k]?=W.heap[k]?:=fun k hk h2=>hgr.block k hk (fun e=>by
  obtain ⟨h3,o,ho,hc⟩:=hr k e.symm
  rcases h2 with h2 | ⟨c,t,x,h2⟩
  ·omega
  ·rw [h2] at ho;cases ho;cases hc)
 have bk:∀ {b:Nat} {t:TypeId} {u:Value},Bx W b t u→Bx W' b t u:=fun hb=>(keep _ (bx_lt hb) (.inr ⟨_,_,_,hb⟩)).trans hb
 have hM:=h.mj.m
 refine ⟨n,v,Wy,F,FE,bk h.box,⟨⟨hM.rep.kept fun k hk=>keep k (hM.rep.low k hk) (.inr (hM.rep.isc k hk)),(keep g (Array.getElem?_eq_some_iff.1 hM.ob).1 (.inl (by omega))).trans hM.ob,?_,hM.new⟩,(JP pre).stab h.mj.j hgr.size fun k hk=>keep k ((JP pre).low h.mj.j k hk) (.inr (hisc _ _ _ _ _ h.mj.j k hk)),h.mj.newE⟩,h.out,h.outE,bk h.me,bk h.sl⟩
 exact ⟨hgr.os.trans hM.chg.os,hgr.tape.trans hM.chg.tape,hgr.output.trans hM.chg.output,Nat.le_trans hM.chg.size hgr.size,fun k hk hn=>(keep k (Nat.lt_of_lt_of_le hk hM.chg.size) (.inl (by omega))).trans (hM.chg.block k hk hn),hM.chg.new⟩
set_option maxRecDepth 100000 in
set_option maxHeartbeats 4000000 in
theorem catJ (g K m sb o s3:Nat) (A:Six) (n:Int) (JP:List (Fin m)→Jd) (FX F0 FE0:List Nat) (ND:Nat→Nd) (KD:Nat→Int) (N:Nd) (vb:Value) (B:Way) (w:World) (hO:O7 w g A n) (hR:Rep g K AL w vb B F0) (hj0:(JP []).p n B FE0 w) (hisc:∀ pre n W FE w,(JP pre).p n W FE w→∀ k ∈ FE,IsC w k) (hgF:g ∉ F0) (hgX:g ∉ FX) (hgE:g ∉ FE0)
  (hFX:∀ k ∈ FX,k < w.heap.size) (hsb:sb < w.heap.size) (hsg:sb≠g) (hm:m≤1000000) (hcap:m≤s3) (hcells:∀ i,i < m→C9 w sb o i (ND i) (KD i)) (hN:N.s1=some ⟨sb,o,none⟩∧N.s2=m∧N.s3=s3)
  (HB:∀ (pre:List (Fin m)) (x:Fin m),pre.length < m→StepJ g K A (ND x.val) (KD x.val) FX (FX ++ (F0 ++ FE0)) w (JP pre) (JP (pre ++ [x]))) :
  Calls Tryz.prog 77 #[pt g,N.v 4,vb] w fun e w'=>∃ v F FE n' W',∃ ys:List (Fin m),(ys.length=m∧Dn m ys)∧e=.returned v∧Mj g K (JP ys) w w' A n' v W' (FX ++ (F0 ++ FE0)) F FE:=by
 obtain ⟨f,fi,ca,rfl⟩:=hR.form
 have hgl:=(Array.getElem?_eq_some_iff.1 hO).1
 obtain ⟨r1,r2,r3,a2,s1,s2,t3,a4,a5,a6,a7,a8⟩:=N
 obtain ⟨e1,e2,e3⟩:=hN
 dsimp only at e1 e2 e3
 have e2':=e2.symm
 have e3':=e3.symm
 subst e1 e2' e3'
 clear e2 e3
 obtain ⟨N,hNN⟩:∃ N:Nd,N=⟨r1,r2,r3,a2,some ⟨sb,o,none⟩,m,s3,a4,a5,a6,a7,a8⟩:=⟨_,rfl⟩
 obtain ⟨h1,h2,h3,h4⟩:=three_new w (.cells #[pt g] 71) (Nd.o ⟨r1,r2,r3,a2,some ⟨sb,o,none⟩,m,s3,a4,a5,a6,a7,a8⟩ 4) (.cells #[.func (.func f) fi ca] 133)
 have hch:Chg w (((w.alloc (.cells #[pt g] 71)).alloc (Nd.o ⟨r1,r2,r3,a2,some ⟨sb,o,none⟩,m,s3,a4,a5,a6,a7,a8⟩ 4)).alloc (.cells #[.func (.func f) fi ca] 133)) [g] [g]:=(((Chg.refl w [g]).alloc _).alloc _).alloc _
 obtain ⟨W,hW⟩:∃ W,W=(((w.alloc (.cells #[pt g] 71)).alloc (Nd.o ⟨r1,r2,r3,a2,some ⟨sb,o,none⟩,m,s3,a4,a5,a6,a7,a8⟩ 4)).alloc (.cells #[.func (.func f) fi ca] 133)):=⟨_,rfl⟩
 rw [← hW] at h1 h2 h3 h4 hch
 have hsW:W.heap.size=w.heap.size + 1 + 1 + 1:=by rw [hW];simp
 obtain ⟨z,hz⟩:∃ z,z=w.heap.size:=⟨_,rfl⟩
 refine (callsIn_wide (n:=5)).1 ?_
 refine callsIn_of_wp_marks Tryz.func77 rfl trivial ?_ rfl
 simp only [Tryz.ntmps77,List.size_toArray,List.length_cons,List.length_nil,Nat.reduceAdd,Nat.reduceSub,Array.replicate_succ,Array.replicate_zero,List.push_toArray,List.append_toArray,List.nil_append,List.cons_append]
 gi_wp2_with (refine ⟨trivial,?_⟩;gi_at_call 116;refine (back66 _ _ _ _ _).mono ?_;rintro e w' ⟨rfl,rfl⟩)
 rw [← hW]
 rw [← hz]
 have hsW1:(W.alloc (.cells #[.slice (some ⟨sb,o,none⟩) m s3] 23)).heap.size=z + 1 + 1 + 1 + 1:=by simp;omega
 have hWW:∀ k,k < W.heap.size→(W.alloc (.cells #[.slice (some ⟨sb,o,none⟩) m s3] 23)).heap[k]?=W.heap[k]?:=fun k hk=>heap_alloc_old W _ hk
 have hsl:Bx (W.alloc (.cells #[.slice (some ⟨sb,o,none⟩) m s3] 23)) (z + 1 + 1 + 1) 23 (.slice (some ⟨sb,o,none⟩) m s3):=by
  have:=heap_alloc_new W (.cells #[.slice (some ⟨sb,o,none⟩) m s3] 23)
  rw [show W.heap.size=z + 1 + 1 + 1 by omega] at this
  exact this
 have hch1:Chg w (W.alloc (.cells #[.slice (some ⟨sb,o,none⟩) m s3] 23)) [g] [g]:=hch.alloc _
 obtain ⟨W1,hW1⟩:∃ W1,W1=W.alloc (.cells #[.slice (some ⟨sb,o,none⟩) m s3] 23):=⟨_,rfl⟩
 rw [← hW1] at hsW1 hWW hsl hch1 ⊢
 have hgA:g ∉ FX ++ (F0 ++ FE0):=by simp;exact ⟨hgX,hgF,hgE⟩
 have hold:∀ k ∈ FX ++ (F0 ++ FE0),k < z:=fun k hk=>by
  rcases List.mem_append.1 hk with h | h
  ·have:=hFX k h;omega
  ·rcases List.mem_append.1 h with h | h
   ·have:=hR.low k h;omega
   ·have:=(JP []).low hj0 k h;omega
 have HOLD:=hid hold
 clear hold
 have hCI0:CI g K A JP (FX ++ (F0 ++ FE0)) z (.slice (some ⟨sb,o,none⟩) m s3) w n (.func (.func f) fi ca) B F0 FE0 [] W1:=
  ⟨(hWW _ (by omega)).trans (by rw [hz];exact h3),⟨⟨hR.kept fun k hk=>(hWW k (by have:=hR.low k hk;omega)).trans (h4 k (hR.low k hk)),(hWW g (by omega)).trans ((h4 g hgl).trans hO),hch1,fun k hk=>.inl (by simp [hk])⟩,(JP []).stab hj0 hch1.size fun k hk=>(hWW k (by have:=(JP []).low hj0 k hk;omega)).trans (h4 k ((JP []).low hj0 k hk)),fun k hk=>.inl (by simp [hk])⟩,fun k hk=>.inl (by simp [hk]),fun k hk=>.inl (by simp [hk]),(hWW _ (by omega)).trans (by rw [hz];exact h1),hsl⟩
 refine wpIn_rangeFunc_ownH rfl (by decide) (gf:=185) (lb:=#[pt (z + 1 + 1 + 1)]) rfl trivial (enter_of Tryz.func185 (by kernel_rfl) rfl)
  (back_stops 4 (by decide) (z + 1 + 1 + 1) sb o m s3 hm hcap ND KD W1 hsl (by omega) (fun i hi=>(hcells i hi).kept ((hWW sb (by omega)).trans (h4 sb hsb)))) (fun h1 h2 k hk=>(h2 k hk).trans (h1 k hk)) ?hKb (Below.refl _ _) (fun _=>rfl)
  (fun pre W=>∃ n v W' F FE,CI g K A JP (FX ++ (F0 ++ FE0)) z (.slice (some ⟨sb,o,none⟩) m s3) w n v W' F FE pre W)
  (fun _ _ _=>False) (by rw [hsW1];exact CI.own hz (by omega) hisc) (fun _ _ _ _ _ hs _ _=>hs) ⟨n,_,B,F0,FE0,hCI0⟩
  (fun x a' W=>∃ Bn,z + 1 + 1 + 1 + 1≤Bn∧W.heap[Bn]?=some (.cells #[.int .i64 (KD x.val),.slice (ND x.val).r1 (ND x.val).r2 (ND x.val).r3,.int .i64 (ND x.val).a2,.slice (ND x.val).s1 (ND x.val).s2 (ND x.val).s3,.int .i64 (ND x.val).a4,.int .i64 (ND x.val).a5,.bool (ND x.val).a6,.int .i64 (ND x.val).a7,.string (ND x.val).a8] 25 (0,0))∧a'={ tmps:=#[pt g,Nd.v ⟨r1,r2,r3,a2,some ⟨sb,o,none⟩,m,s3,a4,a5,a6,a7,a8⟩ 4,.func (.func f) fi ca,pt z,pt (z + 1),pt (z + 1 + 1),.nilFunc,undef,pt Bn,undef,pt (z + 1),.int .i64 4,.bool false,.bool false,undef,undef,undef,undef,undef,undef,undef,.bool false,.bool false,undef,undef,undef,undef,undef,undef,undef,.bool true,.bool true,.pointer (some ⟨z + 1,3,none⟩),.slice (some ⟨sb,o,none⟩) m s3,.func (.func 185) #[] #[pt (z + 1 + 1 + 1)],.int .i64 (x.val:Int),(ND x.val).v (KD x.val),undef,undef,undef,undef,undef,undef,undef,undef,undef,undef,undef,undef,undef,undef,undef,undef,undef,undef,undef,undef,undef,undef,undef,undef,undef,undef,undef,undef,undef,undef,undef,undef,undef,undef,undef,undef,undef,undef,undef,undef,undef,undef,undef,undef,undef,undef],defers:=[] })
  ?hAx ?assign ?body ?done ?stop
 case hKb =>
  intro W l o o' hl ho hc1 hc2 k hk
  refine World.putObj_heap_other ?_
  rw [hsW1] at hl
  omega
 case hAx =>
  rintro x a' _ X Y row ⟨Bn,e1,e2,e3⟩ hg hr
  exact ⟨Bn,e1,(hg.block Bn (Array.getElem?_eq_some_iff.1 e2).1 (fun e=>by obtain ⟨_,o,ho,hc⟩:=hr Bn e.symm;rw [e2] at ho;cases ho;cases hc)).trans e2,e3⟩
 case assign =>
  rintro l pre x X Kk ⟨n1,v1,W1',F1,FE1,hC⟩ hK
  have hown:=(CI.own (g:=g) (K:=K) (A:=A) (JP:=JP) (FS:=FX ++ (F0 ++ FE0)) (sv:=.slice (some ⟨sb,o,none⟩) m s3) hz (by omega) hisc).alloc (s:=pre) (W:=X) ((ND x.val).o (KD x.val)) ⟨n1,v1,W1',F1,FE1,hC⟩
  have hXs:z + 1 + 1 + 1 + 1≤X.heap.size:=by have:=bx_lt hC.sl;omega
  have hk2:Kp2 (z + 1 + 1 + 1) sb X (X.alloc ((ND x.val).o (KD x.val))):=fun k hk=>heap_alloc_old X _ (by rcases hk with rfl | rfl <;> omega)
  have hbn:(X.alloc ((ND x.val).o (KD x.val))).heap[X.heap.size]?=some (.cells #[.int .i64 (KD x.val),.slice (ND x.val).r1 (ND x.val).r2 (ND x.val).r3,.int .i64 (ND x.val).a2,.slice (ND x.val).s1 (ND x.val).s2 (ND x.val).s3,.int .i64 (ND x.val).a4,.int .i64 (ND x.val).a5,.bool (ND x.val).a6,.int .i64 (ND x.val).a7,.string (ND x.val).a8] 25 (0,0)):=heap_alloc_new X _
  have HOWN:=hid hown
  have HK2:=hid hk2
  have HBN:=hid hbn
  clear hz hown hk2 hbn hW hW1 hC
  gi_wp2
  exact hK _ _ ((KeepsOthers.alloc _ _).from _) HK2.out HOWN.out ⟨X.heap.size,hXs,HBN.out,rfl⟩
 case body =>
  rintro l pre x a' X hl ⟨r,hr⟩ ⟨n1,v1,Wy,F1,FE1,hC⟩ ⟨Bn,hBn,bN,rfl⟩ hlt
  have hM:=hC.mj.m
  obtain ⟨f1,fi1,ca1,rfl⟩:=hM.rep.form
  have hgW:g < w.heap.size:=hgl
  have HC:=HB pre x hlt X _ n1 Wy F1 FE1 hM.chg hM.ob hM.rep (hM.away hgA hgW) (hC.mj.awayE hgA hgW) hM.new hC.mj.newE hC.mj.j
  have hXs:z + 1 + 1 + 1 < X.heap.size:=bx_lt hC.sl
  obtain ⟨y0,y1,y2,y3,y4,y5,y6,y7,y8⟩:=nine' bN
  have c3:=bx0 hC.me
  have c5:=bx0 hC.box
  have hC':=hid hC
  have hgz:g < z:=by omega
  have HZ:=hid hz
  have HHB:=hid (Nat.le_refl 0)
  clear hz hC hM hW hW1 hCI0 h1 h2 h3 h4 hch hch1 hsl hWW hR hO hj0 HB hcells bN
  gi_wp2_with (refine ⟨trivial,?_⟩;gi_at_call 77;refine (CallsIn.inRound l (callsIn_wide.2 HC)).mono ?_;rintro e w2 ⟨u,F2,FE2,n2,W2,rfl,M2,j2,hE2⟩;obtain ⟨f2,fi2,ca2,rfl⟩:=M2.rep.form;have hb2:Bx w2 (z + 1 + 1) 133 (.func (.func f1) fi1 ca1):=(M2.chg.block (z + 1 + 1) (by omega) (by simp;omega)).trans hC'.out.box;have zc:=bx0 hb2;have zf:=Joins.unfrozen_of_block hb2 0;have HB2:=hid hb2;have HM2:=hid M2;have HJ2:=hid j2;have HE2:=hid hE2;clear M2 HC hb2 j2 hE2)
  have hzz:=HZ.out
  have sX:=HM2.out.chg.size
  have sw:w.heap.size≤X.heap.size:=hC'.out.mj.m.chg.size
  obtain ⟨X2,hX2⟩:∃ X2,X2=w2.setCell ⟨z + 1 + 1,0,none⟩ (.func (.func f2) fi2 ca2):=⟨_,rfl⟩
  rw [← hX2]
  have hXb:Bx X2 (z + 1 + 1) 133 (.func (.func f2) fi2 ca2):=by rw [hX2];exact Joins.block_setCell (i:=0) HB2.out _
  have hXo:∀ k,k≠z + 1 + 1→X2.heap[k]?=w2.heap[k]?:=fun k hk=>by rw [hX2];exact Below.heap_setCell _ _ _ _ hk
  have hXs2:X2.heap.size=w2.heap.size:=by rw [hX2];simp [World.setCell]
  have hgA1:g ∉ FX ++ F1:=by simp;exact ⟨hgX,hC'.out.mj.m.away hgA hgW⟩
  have hold:=HOLD.out
  have fX:∀ k ∈ FX ++ F1,k ∈ FX ++ (F0 ++ FE0)∨z + 1 + 1 + 1 + 1≤k:=fun k hk=>by
   rcases List.mem_append.1 hk with h | h
   ·left;simp [h]
   ·exact hC'.out.out k h
  have f2o:∀ k ∈ F2,k ∈ FX ++ (F0 ++ FE0)∨z + 1 + 1 + 1 + 1≤k:=fun k hk=>by
   rcases HM2.out.new k hk with h | h
   ·exact fX k h
   ·right;omega
  have e2o:∀ k ∈ FE2,k ∈ FX ++ (F0 ++ FE0)∨z + 1 + 1 + 1 + 1≤k:=fun k hk=>by
   rcases HE2.out k hk with h | h | h
   ·exact hC'.out.outE k h
   ·exact fX k h
   ·right;omega
  have ne2:∀ k,(k ∈ FX ++ (F0 ++ FE0)∨z + 1 + 1 + 1 + 1≤k)→k≠z + 1 + 1:=fun k h=>by
   rcases h with h | h
   ·have:=hold k h;omega
   ·omega
  have hcX:Chg X w2 [g] [g]:=HM2.out.chg
  refine ⟨⟨by omega,fun k o hk h1 h2=>?_⟩,fun k hk=>?_,n2,_,W2,F2,FE2,hXb,⟨⟨HM2.out.rep.kept fun k hk=>hXo k (ne2 k (f2o k hk)),(hXo g (by omega)).trans HM2.out.ob,?_,fun k hk=>(f2o k hk).imp_right (fun h=>by omega)⟩,(JP (pre ++ [x])).stab HJ2.out (by omega) (fun k hk=>hXo k (ne2 k (e2o k hk))),fun k hk=>(e2o k hk).imp_right (fun h=>by omega)⟩,f2o,e2o,?_,?_⟩
  ·rw [hsW1] at hk
   exact (hXo k (by omega)).trans ((hcX.block k (Array.getElem?_eq_some_iff.1 h1).1 (by simp;omega)).trans h1)
  ·have hkl:k < X.heap.size:=by rcases hk with rfl | rfl <;> omega
   exact (hXo k (by rcases hk with rfl | rfl <;> omega)).trans (hcX.block k hkl (by rcases hk with rfl | rfl <;> simp <;> omega))
  ·rw [hX2];exact (hC'.out.mj.m.chg.trans hcX).setNew (a:=⟨z + 1 + 1,0,none⟩) _ (by show w.heap.size≤z + 1 + 1;omega)
  ·exact (hXo z (by omega)).trans ((hcX.block z (by omega) (by simp;omega)).trans hC'.out.me)
  ·exact (hXo _ (by omega)).trans ((hcX.block _ hXs (by simp;omega)).trans hC'.out.sl)
 case done =>
  rintro D xs X hD ⟨hlen,hDn⟩ ⟨n1,v1,Wy,F1,FE1,hC⟩ hDD
  obtain ⟨f1,fi1,ca1,rfl⟩:=hC.mj.m.rep.form
  have hown:=(CI.own (g:=g) (K:=K) (A:=A) (JP:=JP) (FS:=FX ++ (F0 ++ FE0)) (sv:=.slice (some ⟨sb,o,none⟩) m s3) hz (by omega) hisc).putObj (s:=xs) (W:=X) (l:=D) (o:=.deferred (some [])) (.deferred none) ⟨n1,_,Wy,F1,FE1,hC⟩ (by rw [hsW1] at hD;exact hD) hDD rfl
  have c5:=bx0 hC.box
  have HOWN:=hid hown
  have hC':=hid hC
  have HZ:=hid hz
  clear hz hown hC hW hW1 hCI0 h1 h2 h3 h4 hch hch1 hsl hWW hR hO hj0 HB hcells
  gi_wp2
  refine ⟨by simp,.inl ⟨_,_,rfl,run_takeDeferred hDD,?_⟩⟩
  obtain ⟨n9,v9,W9,F9,FE9,h9⟩:=HOWN.out
  have hDz:z + 1 + 1≠D:=by rw [hsW1] at hD;omega
  have e9:(X.putObj D (.deferred none)).heap[z + 1 + 1]?=X.heap[z + 1 + 1]?:=World.putObj_heap_other hDz
  have hb9:=h9.box
  rw [Bx,e9,hC'.out.box] at hb9
  simp at hb9
  subst hb9
  refine ⟨_,results_tmp rfl _ _ _,.func (.func f1) fi1 ca1,F9,FE9,n9,W9,xs,⟨hlen,hDn⟩,?_,h9.mj⟩
  rfl
 case stop =>
  intro D c pre X _ _ hf _
  exact hf.elim
end Go.Proofs.YtacaanhnlfpbhaaGreat
namespace Go.Proofs.YtacaanhnlfpbhaaGreat
open Go.RowKit
set_option linter.unusedVariables false
set_option linter.unusedSimpArgs false
mutual
def Way.ua:Way→List Nat
 | .through=>[]
 | .once _ d=>[]
 | .noted _ d=>d.ua
 | .runeOf _ d=>d.ua
 | .ifHolds _ d=>d.ua
 | .inOrder l=>uaL l
 | .again b=>[b]
def uaL:List Way→List Nat
 | []=>[]
 | d :: l=>d.ua ++ uaL l
end
mutual
def Way.tg (top:Nat):Way→Prop
 | .through=>False
 | .once n d=>(0≤n∧n≤(top:Int))∧(n=1∧d=.through∨d.tg top)
 | .noted _ d=>d.tg top
 | .runeOf _ d=>d.tg top
 | .ifHolds _ d=>d.tg top
 | .inOrder l=>tgL top l
 | .again b=>True
def tgL (top:Nat):List Way→Prop
 | []=>True
 | d :: l=>d.tg top∧tgL top l
end
structure Gw (W:Way):Prop where
 tg:W.tg 1000000000
 few:W.few true
theorem Gw.once {n:Int} {d:Way} (h:Gw d) (h0:0≤n) (h1:n≤1000000000):Gw (.once n d):=⟨by simp only [Way.tg];exact ⟨⟨h0,by omega⟩,.inr h.tg⟩,by simp only [Way.few];exact h.few⟩
theorem Gw.noted {c:Nat} {d:Way} (h:Gw d):Gw (.noted c d):=⟨by simp only [Way.tg];exact h.tg,by simp only [Way.few];exact h.few⟩
theorem Gw.runeOf {R:Rng} {d:Way} (h:Gw d) (hR:R.length≤1000000):Gw (.runeOf R d):=⟨by simp only [Way.tg];exact h.tg,by simp only [Way.few];exact ⟨hR,h.few⟩⟩
theorem Gw.ifHolds {a:Int} {d:Way} (h:Gw d):Gw (.ifHolds a d):=⟨by simp only [Way.tg];exact h.tg,by simp only [Way.few];exact ⟨by trivial,h.few⟩⟩
structure GwL (l:List Way):Prop where
 tg:tgL 1000000000 l
 few:Ways.few true l
theorem GwL.nil:GwL []:=⟨trivial,trivial⟩
theorem GwL.cons {d:Way} {l:List Way} (h:Gw d) (hl:GwL l):GwL (d :: l):=⟨⟨h.tg,hl.tg⟩,⟨h.few,hl.few⟩⟩
theorem GwL.snoc {d:Way}:∀ {l:List Way},GwL l→Gw d→GwL (l ++ [d])
 | [],_,h=>.cons h .nil
 | e :: l,hl,h=>.cons ⟨hl.tg.1,hl.few.1⟩ (GwL.snoc ⟨hl.tg.2,hl.few.2⟩ h)
theorem Gw.inOrder {l:List Way} (h:GwL l):Gw (.inOrder l):=⟨by simp only [Way.tg];exact h.tg,by simp only [Way.few];exact h.few⟩
theorem Gw.again (b:Nat):Gw (.again b):=⟨by simp only [Way.tg],by simp only [Way.few]⟩
theorem Gw.pair {lz:Bool} {B W:Way} (h1:Gw B) (h2:Gw W):Gw (.inOrder (if lz=true then [B,W] else [W,B])):=by
 cases lz
 ·exact .inOrder (.cons h2 (.cons h1 .nil))
 ·exact .inOrder (.cons h1 (.cons h2 .nil))
mutual
def Tn.gi:Tn→Int
 | .mk _ _ _ s _ _ _ ix _=>giL s ix
def giL:List Tn→Int→Int
 | [],m=>m
 | t :: ts,m=>giL ts (max m t.gi)
end
theorem giL_drop (ts:List Tn) (i:Nat) (hi:i < ts.length) (m:Int):giL (ts.drop i) m=giL (ts.drop (i + 1)) (max m ts[i].gi):=by
 rw [List.drop_eq_getElem_cons hi]
 simp only [giL]
def repN (mn mx:Int) (n:Nat):Nat:=if mx=-1 then max mn.toNat 1 * n + 1 else max 1 (mn.toNat * n + (mx - mn).toNat * (1 + n))
mutual
def Tn.sz:Tn→Nat
 | .mk k _ _ s mn mx _ _ _=>if k=6 then repN mn mx (szL s) else 1 + szL s
def szL:List Tn→Nat
 | []=>0
 | t :: ts=>t.sz + szL ts
end
theorem szL_take (ts:List Tn):∀ (i:Nat) (hi:i < ts.length),szL (ts.take (i + 1))=szL (ts.take i) + ts[i].sz:=by
 induction ts with
 | nil=>intro i hi;simp at hi
 | cons t ts ih =>
  intro i hi
  cases i with
  | zero=>simp [szL]
  | succ i =>
   have h:=ih i (by simpa using hi)
   simp only [List.take_succ_cons,szL,List.getElem_cons_succ] at h ⊢
   omega
theorem repN_cap (C:Nat) (mn mx:Int) (n:Nat):min C (repN mn mx (min C n))=min C (repN mn mx n):=by
 by_cases hn:n≤C
 ·rw [Nat.min_eq_right hn]
 ·have hc:min C n=C:=by omega
  rw [hc]
  unfold repN
  by_cases hx:mx=-1
  ·simp only [hx,if_true]
   have h1:C≤max mn.toNat 1 * C:=Nat.le_mul_of_pos_left _ (by omega)
   have h2:n≤max mn.toNat 1 * n:=Nat.le_mul_of_pos_left _ (by omega)
   omega
  ·simp only [hx,if_false]
   generalize mn.toNat=a
   generalize (mx - mn).toNat=b
   by_cases ha:a=0
   ·subst ha
    by_cases hb:b=0
    ·subst hb;simp
    ·have h1:1 + C≤b * (1 + C):=Nat.le_mul_of_pos_left _ (by omega)
     have h2:1 + n≤b * (1 + n):=Nat.le_mul_of_pos_left _ (by omega)
     omega
   ·have h1:C≤a * C:=Nat.le_mul_of_pos_left _ (by omega)
    have h2:n≤a * n:=Nat.le_mul_of_pos_left _ (by omega)
    omega
structure FineNZ (k:Int) (R:List (Int × Int)) (a:Int) (n:Nat) (mn mx:Int) (lz:Bool) (ix:Int) (nm:ByteArray):Prop where
 kind:k=1∨k=2∨k=3∨k=4∨k=5∨k=6∨k=7
 leaf:k=1∨k=2∨k=3→n=0
 rep:k=6→n=1∧0≤mn∧mn≤1000∧(mx=-1∨mn≤mx∧mx≤1000)
 grp:k=7→n=1∧1≤ix∧ix≤500
 idx:k≠7→ix=0
 two:k=4∨k=5→2≤n
 cls:k=2→rightB R=true
 ast:k=3→assertB a=true
theorem fine_nodeZ {k:Int} {R:List (Int × Int)} {a:Int} {n:Nat} {mn mx:Int} {lz:Bool} {ix:Int} {nm:ByteArray} (h:nodeB k R a n mn mx lz ix nm=true):FineNZ k R a n mn mx lz ix nm:=by
 have hk:k=1∨k=2∨k=3∨k=4∨k=5∨k=6∨k=7:=by
  by_cases h':k≠1∧k≠2∧k≠3∧k≠4∧k≠5∧k≠6∧k≠7
  ·rw [nodeB_ne h'] at h;cases h
  ·omega
 rcases hk with rfl | rfl | rfl | rfl | rfl | rfl | rfl <;> simp [nodeB,bareB] at h <;> refine ⟨by omega,by omega,by omega,by omega,by omega,by omega,?_,?_⟩ <;> first | (intro h';omega) | (intro _;exact h.1)
mutual
def Way.ags:Way→List Nat
 | .through=>[]
 | .once _ d=>d.ags
 | .noted _ d=>d.ags
 | .runeOf _ d=>d.ags
 | .ifHolds _ d=>d.ags
 | .inOrder l=>agsL l
 | .again b=>[b]
def agsL:List Way→List Nat
 | []=>[]
 | d :: l=>d.ags ++ agsL l
end
theorem agsL_snoc (l:List Way) (d:Way):agsL (l ++ [d])=agsL l ++ d.ags:=by
 induction l with
 | nil=>simp [agsL]
 | cons e l ih=>simp [agsL,ih]
mutual
inductive Beg (E:Nat→Way):Tn→Int→Way→Int→Way→Prop
 | empty {R:List (Int × Int)} {a:Int} {s:List Tn} {mn mx:Int} {lz:Bool} {ix:Int} {nm:ByteArray} {n:Int} {B:Way}:Beg E (.mk 1 R a s mn mx lz ix nm) n B (n + 1) (.once (n + 1) B)
 | cls {R:List (Int × Int)} {a:Int} {s:List Tn} {mn mx:Int} {lz:Bool} {ix:Int} {nm:ByteArray} {n:Int} {B:Way}:Beg E (.mk 2 R a s mn mx lz ix nm) n B (n + 1) (.once (n + 1) (.runeOf R B))
 | ast {R:List (Int × Int)} {a:Int} {s:List Tn} {mn mx:Int} {lz:Bool} {ix:Int} {nm:ByteArray} {n:Int} {B:Way}:Beg E (.mk 3 R a s mn mx lz ix nm) n B (n + 1) (.once (n + 1) (.ifHolds a B))
 | cat {R:List (Int × Int)} {a:Int} {s:List Tn} {mn mx:Int} {lz:Bool} {ix:Int} {nm:ByteArray} {n n':Int} {B W:Way} (h:BegC E s n B n' W):Beg E (.mk 4 R a s mn mx lz ix nm) n B n' W
 | alt {R:List (Int × Int)} {a:Int} {s:List Tn} {mn mx:Int} {lz:Bool} {ix:Int} {nm:ByteArray} {n n':Int} {B:Way} {Ws:List Way} (h:BegA E s n B n' Ws):Beg E (.mk 5 R a s mn mx lz ix nm) n B (n' + 1) (.once (n' + 1) (.inOrder Ws))
 | grp {R:List (Int × Int)} {a:Int} {t:Tn} {mn mx:Int} {lz:Bool} {i:Nat} {nm:ByteArray} {n n':Int} {B W:Way} (h:Beg E t n (.noted (2 * i + 1) B) n' W):Beg E (.mk 7 R a [t] mn mx lz (i:Int) nm) n B (n' + 1) (.once (n' + 1) (.noted (2 * i) W))
 | any0 {R:List (Int × Int)} {a:Int} {t:Tn} {lz:Bool} {ix:Int} {nm:ByteArray} {n n2:Int} {b:Nat} {B:Way} (h:Beg E t (n + 1) (Dcd lz n b B) n2 (E b)):Beg E (.mk 6 R a [t] 0 (-1) lz ix nm) n B n2 (Dcd lz n b B)
 | any {R:List (Int × Int)} {a:Int} {t:Tn} {c:Nat} {lz:Bool} {ix:Int} {nm:ByteArray} {n n2 n3:Int} {b:Nat} {B W3:Way} (h:Beg E t (n + 1) (Dcd lz n b B) n2 (E b)) (hT:BegT E t c n2 (E b) n3 W3):Beg E (.mk 6 R a [t] ((c:Int) + 1) (-1) lz ix nm) n B n3 W3
 | bnd {R:List (Int × Int)} {a:Int} {t:Tn} {c m:Nat} {lz:Bool} {ix:Int} {nm:ByteArray} {n n1 n2:Int} {B W1 W2:Way} (hO:BegO E t lz B m n n1 W1) (hT:BegT E t c n1 W1 n2 W2):Beg E (.mk 6 R a [t] (c:Int) ((c:Int) + (m:Int)) lz ix nm) n B n2 W2
inductive BegC (E:Nat→Way):List Tn→Int→Way→Int→Way→Prop
 | nil {n:Int} {B:Way}:BegC E [] n B n B
 | cons {t:Tn} {ts:List Tn} {n n1 n2:Int} {B W1 W2:Way} (h:BegC E ts n B n1 W1) (h2:Beg E t n1 W1 n2 W2):BegC E (t :: ts) n B n2 W2
inductive BegA (E:Nat→Way):List Tn→Int→Way→Int→List Way→Prop
 | nil {n:Int} {B:Way}:BegA E [] n B n []
 | snoc {t:Tn} {ts:List Tn} {n n1 n2:Int} {B W2:Way} {Ws:List Way} (h:BegA E ts n B n1 Ws) (h2:Beg E t n1 B n2 W2):BegA E (ts ++ [t]) n B n2 (Ws ++ [W2])
inductive BegT (E:Nat→Way):Tn→Nat→Int→Way→Int→Way→Prop
 | zero {t:Tn} {n:Int} {W:Way}:BegT E t 0 n W n W
 | succ {t:Tn} {c:Nat} {n n1 n2:Int} {W W1 W2:Way} (h:BegT E t c n W n1 W1) (h2:Beg E t n1 W1 n2 W2):BegT E t (c + 1) n W n2 W2
inductive BegO (E:Nat→Way):Tn→Bool→Way→Nat→Int→Int→Way→Prop
 | zero {t:Tn} {lz:Bool} {B:Way} {n:Int}:BegO E t lz B 0 n n B
 | succ {t:Tn} {lz:Bool} {B:Way} {c:Nat} {n n1 n2:Int} {W1 W2:Way} (h:BegO E t lz B c n n1 W1) (h2:Beg E t n1 W1 n2 W2):BegO E t lz B (c + 1) n (n2 + 1) (.once (n2 + 1) (.inOrder (if lz=true then [B,W2] else [W2,B])))
end
structure BgR (g K lo:Nat) (AG:List Nat) (R:(Nat→Way)→Prop) (AW:List Nat) (LE:List (Nat × Way)) (FE:List Nat) (w:World):Prop where
 env:∀ p ∈ LE,p.1 ∈ FE∧∃ v F,Bx w p.1 133 v∧Rep g K AL w v p.2 F∧∀ k ∈ F,k ∈ FE
 low:∀ k ∈ FE,k < w.heap.size
 isc:∀ k ∈ FE,IsC w k
 fresh:∀ p ∈ LE,lo≤p.1
 nd:(LE.map Prod.fst).Nodup
 rel:∀ E:Nat→Way,(∀ p ∈ LE,E p.1=p.2)→R E
 agw:∀ b ∈ AW,b ∈ AG∨b ∈ LE.map Prod.fst
 agl:∀ p ∈ LE,∀ b ∈ p.2.ags,b ∈ AG∨b ∈ LE.map Prod.fst
 wf:∀ p ∈ LE,Gw p.2∧p.2.ua=[]
theorem BgR.stab {g K lo:Nat} {AG:List Nat} {R:(Nat→Way)→Prop} {AW:List Nat} {LE:List (Nat × Way)} {FE:List Nat} {w w':World} (h:BgR g K lo AG R AW LE FE w) (hs:w.heap.size≤w'.heap.size) (hk:∀ k ∈ FE,w'.heap[k]?=w.heap[k]?):BgR g K lo AG R AW LE FE w':=by
 refine ⟨fun p hp=>?_,fun k hkk=>Nat.lt_of_lt_of_le (h.low k hkk) hs,fun k hkk=>?_,h.fresh,h.nd,h.rel,h.agw,h.agl,h.wf⟩
 ·obtain ⟨h1,v,F,h2,h3,h4⟩:=h.env p hp
  exact ⟨h1,v,F,(hk _ h1).trans h2,h3.kept fun k hkk=>hk k (h4 k hkk),h4⟩
 ·obtain ⟨c,t,x,e⟩:=h.isc k hkk
  exact ⟨c,t,x,(hk k hkk).trans e⟩
theorem BgR.seq {g K lo lo':Nat} {AG A1 A2:List Nat} {R1 R2 R:(Nat→Way)→Prop} {LE1 LE2:List (Nat × Way)} {FE1 FE2:List Nat} {w:World} (h1:BgR g K lo AG R1 A1 LE1 FE1 w) (h2:BgR g K lo' A1 R2 A2 LE2 FE2 w) (hlo:lo≤lo') (hb:∀ p ∈ LE1,p.1 < lo')
  (hR:∀ E,R1 E→R2 E→R E):BgR g K lo AG R A2 (LE1 ++ LE2) (FE1 ++ FE2) w:=by
 refine ⟨fun p hp=>?_,fun k hk=>?_,fun k hk=>?_,fun p hp=>?_,?_,fun E hE=>hR E (h1.rel E fun p hp=>hE p (by simp [hp])) (h2.rel E fun p hp=>hE p (by simp [hp])),fun b hb2=>?_,fun p hp b hb2=>?_,fun p hp=>by rcases List.mem_append.1 hp with hp | hp;exact h1.wf p hp;exact h2.wf p hp⟩
 ·rcases List.mem_append.1 hp with hp | hp
  ·obtain ⟨a1,v,F,a2,a3,a4⟩:=h1.env p hp
   exact ⟨by simp [a1],v,F,a2,a3,fun k hk=>by simp [a4 k hk]⟩
  ·obtain ⟨a1,v,F,a2,a3,a4⟩:=h2.env p hp
   exact ⟨by simp [a1],v,F,a2,a3,fun k hk=>by simp [a4 k hk]⟩
 ·rcases List.mem_append.1 hk with hk | hk
  ·exact h1.low k hk
  ·exact h2.low k hk
 ·rcases List.mem_append.1 hk with hk | hk
  ·exact h1.isc k hk
  ·exact h2.isc k hk
 ·rcases List.mem_append.1 hp with hp | hp
  ·exact h1.fresh p hp
  ·exact Nat.le_trans hlo (h2.fresh p hp)
 ·rw [List.map_append,List.nodup_append]
  refine ⟨h1.nd,h2.nd,fun a ha b hb2 e=>?_⟩
  simp only [List.mem_map] at ha hb2
  obtain ⟨p,hp,rfl⟩:=ha
  obtain ⟨q,hq,rfl⟩:=hb2
  have:=hb p hp
  have:=h2.fresh q hq
  omega
 ·rw [List.map_append]
  rcases h2.agw b hb2 with h | h
  ·rcases h1.agw b h with h | h
   ·exact .inl h
   ·right;simp only [List.mem_append];exact .inl h
  ·right;simp only [List.mem_append];exact .inr h
 ·rw [List.map_append]
  rcases List.mem_append.1 hp with hp | hp
  ·rcases h1.agl p hp b hb2 with h | h
   ·exact .inl h
   ·right;simp only [List.mem_append];exact .inl h
  ·rcases h2.agl p hp b hb2 with h | h
   ·rcases h1.agw b h with h | h
    ·exact .inl h
    ·right;simp only [List.mem_append];exact .inl h
   ·right;simp only [List.mem_append];exact .inr h
theorem BgR.ofLow {g K lo:Nat} {AG:List Nat} {R:(Nat→Way)→Prop} {AW:List Nat} {LE:List (Nat × Way)} {FE:List Nat} {w:World} (h:BgR g K lo AG R AW LE FE w):∀ p ∈ LE,p.1 < w.heap.size:=fun p hp=>h.low _ (h.env p hp).1
theorem BgR.nil (g K lo:Nat) (AG AW:List Nat) (R:(Nat→Way)→Prop) (w:World) (hR:∀ E,R E) (hA:∀ b ∈ AW,b ∈ AG):BgR g K lo AG R AW [] [] w:=
 ⟨fun p hp=>(by cases hp),fun k hk=>(by cases hk),fun k hk=>(by cases hk),fun p hp=>(by cases hp),by simp,fun E _=>hR E,fun b hb=>.inl (hA b hb),fun p hp=>(by cases hp),fun p hp=>(by cases hp)⟩
theorem BgR.imp {g K lo:Nat} {AG:List Nat} {R R':(Nat→Way)→Prop} {AW AW':List Nat} {LE:List (Nat × Way)} {FE:List Nat} {w:World} (h:BgR g K lo AG R AW LE FE w) (hR:∀ E,R E→R' E) (hA:∀ b ∈ AW',b ∈ AG∨b ∈ AW):BgR g K lo AG R' AW' LE FE w:=
 ⟨h.env,h.low,h.isc,h.fresh,h.nd,fun E hE=>hR E (h.rel E hE),fun b hb=>by rcases hA b hb with h1 | h1;exact .inl h1;exact h.agw b h1,h.agl,h.wf⟩
def JB (g K lo:Nat) (AG ub:List Nat) (bd:Int→Prop) (R:Int→Way→(Nat→Way)→Prop):Jd where
 p n W FE w:=bd n∧(Gw W∧∀ b ∈ W.ua,b ∈ ub)∧∃ LE,BgR g K lo AG (R n W) W.ags LE FE w
 stab:=fun ⟨h,hg,LE,h2⟩ hs hk=>⟨h,hg,LE,h2.stab hs hk⟩
 low:=fun ⟨h,hg,LE,h2⟩=>h2.low
def JBl (g K lo:Nat) (AG:List Nat) (bd:Int→Prop) (R:Int→List Way→(Nat→Way)→Prop):Jl where
 p n l FE w:=bd n∧GwL l∧∃ LE,BgR g K lo AG (R n l) (agsL l) LE FE w
 stab:=fun ⟨h,hg,LE,h2⟩ hs hk=>⟨h,hg,LE,h2.stab hs hk⟩
 low:=fun ⟨h,hg,LE,h2⟩=>h2.low
theorem quad {a b:Nat} {n n':Int} (ha:1≤a) (hab:a≤b) (h:n' + a≤n + b):n' + 3 * ((a * a:Nat):Int)≤n + 3 * ((b * b:Nat):Int):=by
 obtain ⟨d,rfl⟩:∃ d,b=a + d:=⟨b - a,by omega⟩
 have e:(a + d) * (a + d)=a * a + a * d + (d * a + d * d):=by rw [Nat.add_mul,Nat.mul_add,Nat.mul_add]
 have h1:d≤a * d:=Nat.le_mul_of_pos_left _ ha
 have h2:a * a≤a * a + a * d + (d * a + d * d):=by omega
 rw [e]
 generalize a * a=x at *
 generalize a * d=y at *
 generalize d * a + d * d=u at *
 push_cast
 omega
end Go.Proofs.YtacaanhnlfpbhaaGreat
