/- HELPERS: texts of ours put together. -/
import Derived.Test.YtacaanhnlfpbhaaGreatK10
import Derived.RangeFuncNested
import Derived.RangeFuncBound
import Derived.RangeFuncCalls
import Derived.RangeFuncLeaves
import Derived.Shelf.Abstract
import Derived.Shelf.RegionOpen
import Derived.WalkKit
import Derived.OwnWalkIn
import Derived.TacticsInMore
import Derived.LoopNIn
import Derived.LoopIn
namespace Go.Proofs.YtacaanhnlfpbhaaGreat
open Go.RowKit
set_option linter.unusedVariables false
set_option linter.unusedSimpArgs false
abbrev Dcd (lz:Bool) (n:Int) (b:Nat) (B:Way):Way:=.once (n + 1) (.inOrder (if lz=true then [B,.again b] else [.again b,B]))
set_option maxRecDepth 100000 in
set_option maxHeartbeats 4000000 in
theorem atLeastJ96 (g K sb o s3 mn:Nat) (lz:Bool) (A:Six) (n:Int) (N M:Nd) (km:Int) (B:Way) (JD J1 JR:Nat→Jd) (TJ:Nat→Nat→Jd) (JF:Jd) (FX F0 FE:List Nat) (vb:Value) (w:World) (hO:O7 w g A n) (hR:Rep g K AL w vb B F0) (hj0:∀ b,w.heap.size≤b→(JD b).p (n + 1) (Dcd lz n b B) FE w) (hgF:g ∉ F0) (hgX:g ∉ FX) (hgE:g ∉ FE) (hX:∀ k ∈ FX,k < w.heap.size) (hn:0≤n∧n < 1000000000)
  (hN:N.s1=some ⟨sb,o,none⟩∧N.s2=1∧N.s3=s3∧N.a6=lz∧N.a4=(mn:Int)) (hmn:mn≤1000) (hs3:1≤s3) (hsb:sb < w.heap.size) (hsg:sb≠g) (hc:C9 w sb o 0 M km)
  (HB:∀ b,w.heap.size≤b→StepJ g K A M km FX (F0 ++ FE) w (JD b) (J1 b))
  (hset:∀ (b:Nat) (n2:Int) (W1:Way) (v3:Value) (F3 FE3:List Nat) (w3 X:World),w.heap.size≤b→(J1 b).p n2 W1 FE3 w3→b ∉ FE3→X.heap.size=w3.heap.size→(∀ k,k≠b→X.heap[k]?=w3.heap[k]?)→Bx X b 133 v3→Rep g K AL X v3 W1 F3→b ∉ F3→(JR b).p n2 W1 (b :: (F3 ++ FE3)) X)
  (hz:mn=0→∀ b n2 W1 FE w',w.heap.size≤b→(JR b).p n2 W1 FE w'→JF.p n2 (Dcd lz n b B) FE w')
  (hT0:0 < mn→∀ b n2 W1 FE w',w.heap.size≤b→(JR b).p n2 W1 FE w'→(TJ b 0).p n2 W1 FE w') (hT:∀ b i,w.heap.size≤b→i < mn - 1→StepJ g K A M km FX (FX ++ (F0 ++ FE)) w (TJ b i) (TJ b (i + 1))) (hTf:0 < mn→∀ b n2 W1 FE w',w.heap.size≤b→(TJ b (mn - 1)).p n2 W1 FE w'→JF.p n2 W1 FE w') :
  Calls Tryz.prog 188 #[pt g,N.v 6,vb] w fun e w'=>∃ v F FE' n' W',e=.returned v∧Mj g K JF w w' A n' v W' (FX ++ (F0 ++ FE)) F FE':=by
 obtain ⟨f,fi,ca,rfl⟩:=hR.form
 have hm:=hmf
 have hgl:=(Array.getElem?_eq_some_iff.1 hO).1
 obtain ⟨W,hW⟩:∃ W,W=(w.alloc (N.o 6)).alloc (.cells #[.nilFunc] 133):=⟨_,rfl⟩
 obtain ⟨b,hb⟩:∃ b,b=w.heap.size + 1:=⟨_,rfl⟩
 have sw1:(w.alloc (N.o 6)).heap.size=w.heap.size + 1:=by simp
 have hsW:W.heap.size=w.heap.size + 1 + 1:=by rw [hW];simp
 have hWz:W.heap[w.heap.size]?=some (.cells #[.int .i64 6,.slice N.r1 N.r2 N.r3,.int .i64 N.a2,.slice N.s1 N.s2 N.s3,.int .i64 N.a4,.int .i64 N.a5,.bool N.a6,.int .i64 N.a7,.string N.a8] 25 (0,0)):=by
  rw [hW];exact (heap_alloc_old _ _ (by omega)).trans (heap_alloc_new w _)
 have hWb:W.heap[b]?=some (.cells #[.nilFunc] 133 (0,0)):=by rw [hW,hb,← sw1];exact heap_alloc_new _ _
 have hWo:∀ k,k < w.heap.size→W.heap[k]?=w.heap[k]?:=fun k hk=>by rw [hW];exact (heap_alloc_old _ _ (by omega)).trans (heap_alloc_old w _ hk)
 have hch:Chg w W [g] [g]:=by rw [hW];exact ((Chg.refl w [g]).alloc _).alloc _
 have hRW:Rep g K AL W (.func (.func f) fi ca) B F0:=hR.kept fun k hk=>hWo k (hR.low k hk)
 have hlow:∀ k ∈ F0,k < w.heap.size:=hR.low
 have HC:=choice_any g K AL lz (.func (.func 230) #[] #[pt b]) (.func (.func f) fi ca) (.again b) B [] F0 W (.again trivial) hRW
 have x6:W.cell? ⟨w.heap.size,6,none⟩=some (.bool lz):=by have h:=Joins.cell_of_block hWz 6;simpa [hN.2.2.2.1] using h
 have hS:∀ w1,Chg W w1 [g] [g]→w1.cell? ⟨w.heap.size,3,none⟩=some (.slice (some ⟨sb,o,none⟩) 1 s3)∧w1.cell? ⟨w.heap.size,4,none⟩=some (.int .i64 (mn:Int))∧C9 w1 sb o 0 M km∧w1.heap[b]?=some (.cells #[.nilFunc] 133 (0,0)):=fun w1 hc1=>by
  have e:∀ k,k < W.heap.size→k≠g→w1.heap[k]?=W.heap[k]?:=fun k h1 h2=>hc1.block k h1 (by simpa using h2)
  refine ⟨?_,?_,?_,(e b (by omega) (by omega)).trans hWb⟩
  ·have h:=Joins.cell_of_block ((e w.heap.size (by omega) (by omega)).trans hWz) 3
   simpa [hN.1,hN.2.1,hN.2.2.1] using h
  ·have h:=Joins.cell_of_block ((e w.heap.size (by omega) (by omega)).trans hWz) 4
   simpa [hN.2.2.2.2] using h
  ·exact hc.kept ((e sb (by omega) hsg).trans (hWo sb hsb))
 have HS0:=hid hS
 have HSZ:=hid hsW
 have HCH:=hid hch
 have HHG:=hid hgF
 have HHX:=hid hgX
 have HXL:=hid hX
 have HLO:=hid hlow
 have HOW:=hid ((hWo g hgl).trans hO)
 have HBB:=hid (HB b (by omega))
 have HJ0:=hid (hj0 b (by omega))
 have HHE:=hid hgE
 have hEl:∀ k ∈ FE,k < w.heap.size:=(JD b).low (hj0 b (by omega))
 have HEL:=hid hEl
 have HSET:=hid hset
 have HHZ:=hid hz
 have HT0:=hid hT0
 have HTT:=hid hT
 have HTF:=hid hTf
 clear hO hR hgF hgX hgE hX hlow hN hc HB hWz hWb hWo hch hRW hS hsW hj0 hEl hset hz hT0 hT hTf
 go_enter Tryz.func188,Tryz.ntmps188
 go_upto_region 3 with fail
 obtain ⟨z,hz⟩:∃ z,z=w.heap.size:=⟨_,rfl⟩
 rw [← hW]
 rw [← hz] at HS0 x6 hb HSZ ⊢
 rw [← hb]
 have HW:=hid hW
 have HZ:=hid hz
 have HB0:=hid hb
 clear hW hz hb sw1
 have hbz:b≠g:=by have:=HB0.out;have:=HZ.out;omega
 go_upto_region 4 with (first | (go_at_call 189;(with_reducible refine HC.mono ?_);rintro e w1 ⟨v1,F1,rfl,hr1,hb1,hn1⟩;obtain ⟨f1,fi1,ca1,rfl⟩:=hr1.form;have hg1:g ∉ F1:=(fun hm=>by rcases hn1 g hm with h | h;exact HHG.out (by simpa using h);have:=HSZ.out;have:=HZ.out;omega);have HC2:=once54 g K AL A n _ _ F1 w1 ((hb1.block g (by have:=HSZ.out;have:=HZ.out;omega)).trans HOW.out) hr1 hg1 hn;have HBL:=hid hb1;have HN1:=hid hn1;have HG1:=hid hg1;clear hr1 hb1 hn1 hg1 HC) | (go_at_call 78;(with_reducible refine HC2.mono ?_);rintro e w2 ⟨v2,F2,rfl,M2⟩;obtain ⟨f2,fi2,ca2,rfl⟩:=M2.rep.form;have HM2:=hid M2;clear M2 HC2))
 have hc2:Chg W w2 [g] [g]:=(Chg.of_below HBL.out).trans HM2.out.chg
 obtain ⟨y3,y4,y9,yb⟩:=HS0.out w2 hc2
 obtain ⟨q0,q1,q2,q3,q4,q5,q6,q7,q8⟩:=y9
 simp only [Nat.zero_mul,Nat.add_zero] at q0 q1 q2 q3 q4 q5 q6 q7 q8
 have hs1:=HBL.out.size
 have hs2:=HM2.out.chg.size
 have hnew2:∀ k ∈ F2,k ∈ F0∨W.heap.size≤k:=fun k hk=>by
  rcases HM2.out.new k hk with h | h
  ·rcases HN1.out k h with h | h
   ·exact .inl (by simpa using h)
   ·exact .inr h
  ·right;omega
 have hg2:g ∉ F2:=fun hm=>by
  rcases hnew2 g hm with h | h
  ·exact HHG.out h
  ·have:=HSZ.out;have:=HZ.out;omega
 have HC3:=HBB.out w2 _ (n + 1) _ F2 FE (HCH.out.trans hc2) HM2.out.ob HM2.out.rep hg2 HHE.out (fun k hk=>by rcases hnew2 k hk with h | h;(left;simp [h]);(right;have:=HSZ.out;have:=HZ.out;omega)) (fun k hk=>.inl (by simp [hk])) ((JD b).chg HJ0.out (HCH.out.trans hc2) HHE.out)
 have HC2':=hid hc2
 have HN2:=hid hnew2
 have HG2:=hid hg2
 clear hc2 hnew2 hg2 yb
 have i0:(0:Int) < 1:=by decide
 go_upto_region 5 with (go_at_call 77;(with_reducible refine HC3.mono ?_);rintro e w3 ⟨v3,F3,FE3,n2,W1,rfl,M3,j3,hE3⟩;obtain ⟨f3,fi3,ca3,rfl⟩:=M3.rep.form;have HJ3:=hid j3;have HE3:=hid hE3;clear j3 hE3;have hb3:=(HS0.out w3 (HC2'.out.trans M3.chg)).2.2.2;have z0:w3.cell? ⟨b,0,none⟩=some .nilFunc:=bx0 hb3;have zf:=Joins.unfrozen_of_block hb3 0;have HB3:=hid hb3;have HM3:=hid M3;clear M3 HC3 hb3)
 obtain ⟨X,hX⟩:∃ X,X=w3.setCell ⟨b,0,none⟩ (.func (.func f3) fi3 ca3):=⟨_,rfl⟩
 rw [← hX]
 have hc3:Chg W w3 [g] [g]:=HC2'.out.trans HM3.out.chg
 have hXb:Bx X b 133 (.func (.func f3) fi3 ca3):=by rw [hX];exact Joins.block_setCell (i:=0) HB3.out _
 have hXo:∀ k,k≠b→X.heap[k]?=w3.heap[k]?:=fun k hk=>by rw [hX];exact Below.heap_setCell _ _ _ _ hk
 have hXs:X.heap.size=w3.heap.size:=by rw [hX];simp [World.setCell]
 have hcX:Chg w X [g] [g]:=by rw [hX];exact (HCH.out.trans hc3).setNew (a:=⟨b,0,none⟩) _ (by show w.heap.size≤b;have:=HB0.out;have:=HZ.out;omega)
 have sb_ne:sb≠b:=by have:=HB0.out;have:=HZ.out;omega
 have hz_ne:z≠b:=by have:=HB0.out;omega
 have hz_g:z≠g:=by have:=HZ.out;omega
 have hSX:∀ w4:World,(∀ k,k < X.heap.size→k≠g→w4.heap[k]?=X.heap[k]?)→w4.cell? ⟨z,3,none⟩=some (.slice (some ⟨sb,o,none⟩) 1 s3)∧w4.cell? ⟨z,4,none⟩=some (.int .i64 (mn:Int))∧w4.cell? ⟨b,0,none⟩=some (.func (.func f3) fi3 ca3) ∧
   w4.cell? ⟨sb,o,none⟩=some (.int .i64 km)∧w4.cell? ⟨sb,o + 1,none⟩=some (.slice M.r1 M.r2 M.r3)∧w4.cell? ⟨sb,o + 2,none⟩=some (.int .i64 M.a2)∧w4.cell? ⟨sb,o + 3,none⟩=some (.slice M.s1 M.s2 M.s3)∧w4.cell? ⟨sb,o + 4,none⟩=some (.int .i64 M.a4)∧w4.cell? ⟨sb,o + 5,none⟩=some (.int .i64 M.a5)∧w4.cell? ⟨sb,o + 6,none⟩=some (.bool M.a6)∧w4.cell? ⟨sb,o + 7,none⟩=some (.int .i64 M.a7)∧w4.cell? ⟨sb,o + 8,none⟩=some (.string M.a8):=fun w4 h4=>by
  obtain ⟨t3,t4,t9,_⟩:=HS0.out w3 hc3
  obtain ⟨p0,p1,p2,p3,p4,p5,p6,p7,p8⟩:=t9
  simp only [Nat.zero_mul,Nat.add_zero] at p0 p1 p2 p3 p4 p5 p6 p7 p8
  have hszb:b < X.heap.size:=bx_lt hXb
  have hzb:z < X.heap.size:=by have:=HB0.out;omega
  have hsbx:sb < X.heap.size:=by have:=HZ.out;omega
  have e:∀ k o,k < X.heap.size→k≠b→k≠g→w4.cell? ⟨k,o,none⟩=w3.cell? ⟨k,o,none⟩:=fun k o h1 h2 h3=>cell_heap ((h4 k h1 h3).trans (hXo k h2)) o
  exact ⟨(e _ _ hzb hz_ne hz_g).trans t3,(e _ _ hzb hz_ne hz_g).trans t4,bx0 (t:=133) ((h4 b hszb hbz).trans hXb),(e _ _ hsbx sb_ne hsg).trans p0,(e _ _ hsbx sb_ne hsg).trans p1,(e _ _ hsbx sb_ne hsg).trans p2,(e _ _ hsbx sb_ne hsg).trans p3,(e _ _ hsbx sb_ne hsg).trans p4,(e _ _ hsbx sb_ne hsg).trans p5,(e _ _ hsbx sb_ne hsg).trans p6,(e _ _ hsbx sb_ne hsg).trans p7,(e _ _ hsbx sb_ne hsg).trans p8⟩
 have hzz:=HZ.out
 have hbb:=HB0.out
 have hss:=HSZ.out
 have hs3':=HM3.out.chg.size
 have hF3:∀ k ∈ F3,k ∈ FX ++ (F0 ++ FE)∨W.heap.size≤k:=fun k hk=>by
  rcases HM3.out.new k hk with h | h
  ·rcases List.mem_append.1 h with h | h
   ·left;simp [h]
   ·rcases HN2.out k h with h | h
    ·left;simp [h]
    ·exact .inr h
  ·right;omega
 have hEE3:∀ k ∈ FE3,k ∈ FX ++ (F0 ++ FE)∨W.heap.size≤k:=fun k hk=>by
  rcases HE3.out k hk with h | h | h
  ·left;simp [h]
  ·rcases List.mem_append.1 h with h | h
   ·left;simp [h]
   ·rcases HN2.out k h with h | h
    ·left;simp [h]
    ·exact .inr h
  ·right;omega
 have hold:∀ k ∈ FX ++ (F0 ++ FE),k < w.heap.size:=fun k hk=>by
  rcases List.mem_append.1 hk with h | h
  ·exact HXL.out k h
  ·rcases List.mem_append.1 h with h | h
   ·exact HLO.out k h
   ·exact HEL.out k h
 have hbF:b ∉ F3:=fun hm=>by
  rcases hF3 b hm with h | h
  ·have:=hold b h;omega
  ·omega
 have hbE:b ∉ FE3:=fun hm=>by
  rcases hEE3 b hm with h | h
  ·have:=hold b h;omega
  ·omega
 have hgA:g ∉ FX ++ (F0 ++ FE):=by simp;exact ⟨HHX.out,HHG.out,HHE.out⟩
 have hgF3:g ∉ F3:=fun hm=>by
  rcases hF3 g hm with h | h
  ·exact hgA h
  ·omega
 have hgE3:g ∉ FE3:=fun hm=>by
  rcases hEE3 g hm with h | h
  ·exact hgA h
  ·omega
 have hwb:w.heap.size≤b:=by omega
 have hRX:Rep g K AL X (.func (.func f3) fi3 ca3) W1 F3:=HM3.out.rep.kept fun k hk=>hXo k (fun e=>hbF (e ▸ hk))
 have hJR:(JR b).p n2 W1 (b :: (F3 ++ FE3)) X:=HSET.out b n2 W1 _ F3 FE3 w3 X hwb HJ3.out hbE hXs hXo hXb hRX hbF
 have hOX:O7 X g A n2:=(hXo g (fun e=>hbz e.symm)).trans HM3.out.ob
 have hbs:b < X.heap.size:=bx_lt hXb
 have hnewR:∀ k ∈ b :: (F3 ++ FE3),k ∈ FX ++ (F0 ++ FE)∨w.heap.size≤k:=fun k hk=>by
  simp only [List.mem_cons,List.mem_append] at hk
  rcases hk with rfl | hk | hk
  ·right;omega
  ·exact (hF3 k hk).imp_right (fun h=>by omega)
  ·exact (hEE3 k hk).imp_right (fun h=>by omega)
 have hgR:g ∉ b :: (F3 ++ FE3):=by simp;exact ⟨fun e=>hbz e.symm,hgF3,hgE3⟩
 have hF2X:Rep g K AL X (.func (.func f2) fi2 ca2) (Dcd lz n b B) F2:=HM2.out.rep.kept fun k hk=>(hXo k (fun e=>by
  rcases HN2.out k hk with h | h
  ·have:=HLO.out k h;omega
  ·omega)).trans (HM3.out.chg.block k (HM2.out.rep.low k hk) (by simp;intro e;exact HG2.out (e ▸ hk)))
 have hF2n:∀ k ∈ F2,k ∈ FX ++ (F0 ++ FE)∨w.heap.size≤k:=fun k hk=>by
  rcases HN2.out k hk with h | h
  ·left;simp [h]
  ·right;omega
 have w4:=(hSX X (fun _ _ _=>rfl)).2.1
 have HJR:=hid hJR
 have HF2X:=hid hF2X
 have HF2N:=hid hF2n
 have HNR:=hid hnewR
 have HXB:=hid hXb
 have HXO:=hid hXo
 have HCX:=hid hcX
 have HSX:=hid hSX
 have HX:=hid hX
 have HOX:=hid hOX
 have HRX:=hid hRX
 have HGR:=hid hgR
 have HGF3:=hid hgF3
 have HF3:=hid hF3
 clear hXb hXo hcX hSX hX y3 y4 q0 q1 q2 q3 q4 q5 q6 q7 q8 z0 zf hc3 hJR hF2X hF2n hnewR hOX hRX hgR hgF3 hgE3 hF3 hEE3 hold hgA hzz hbb hss
 by_cases hm0:mn=0
 ·have m0:((mn:Int) == 0)=true:=by simp;omega
  go_wp2
  go_ret
  have hfin:Mj g K JF w X A n2 (.func (.func f2) fi2 ca2) (Dcd lz n b B) (FX ++ (F0 ++ FE)) F2 (b :: (F3 ++ FE3)):=⟨⟨HF2X.out,HOX.out,HCX.out,HF2N.out⟩,HHZ.out hm0 b n2 W1 _ X hwb HJR.out,HNR.out⟩
  first
   | exact ⟨_,_,_,_,_,rfl,hfin⟩
   | exact ⟨_,rfl,_,_,_,_,hfin⟩
 ·have m0:((mn:Int) == 0)=false:=by simp;omega
  have ad9:IntKind.i64.wrap ((mn:Int) - 1)=((mn - 1:Nat):Int):=by simp [IntKind.wrap,IntKind.bits,IntKind.signed];omega
  have HT:Calls Tryz.prog 190 #[pt g,.int .i64 (IntKind.i64.wrap ((mn:Int) - 1)),M.v km,.func (.func f3) fi3 ca3] X.drew fun e w'=>∃ v F FE' n' W',e=.returned v∧Mj g K (TJ b (mn - 1)) X.drew w' A n' v W' (FX ++ (F3 ++ (b :: (F3 ++ FE3)))) F FE':=by
   rw [ad9]
   refine timesJ98 g K (mn - 1) A M km n2 W1 (TJ b) FX F3 (b :: (F3 ++ FE3)) _ X.drew HOX.out (HRX.out.kept fun _ _=>rfl) ((TJ b 0).drew (HT0.out (by omega) b n2 W1 _ X hwb HJR.out)) HGF3.out HHX.out HGR.out (by omega) (fun i hi=>(HTT.out b i hwb hi).widen (HCX.out.trans (Chg.refl X [g]).drew) (fun k hk=>?_))
   rcases List.mem_append.1 hk with h | h
   ·left;simp [h]
   ·rcases List.mem_append.1 h with h | h
    ·exact (HF3.out k h).imp_right (fun h=>by have:=HSZ.out;have:=HZ.out;omega)
    ·exact HNR.out k h
  clear ad9
  go_wp2_with fail
  go_region_held2 (fun w4=>w4.cell? ⟨z,3,none⟩=some (.slice (some ⟨sb,o,none⟩) 1 s3)∧w4.cell? ⟨z,4,none⟩=some (.int .i64 (mn:Int))∧w4.cell? ⟨b,0,none⟩=some (.func (.func f3) fi3 ca3) ∧
    w4.cell? ⟨sb,o,none⟩=some (.int .i64 km)∧w4.cell? ⟨sb,o + 1,none⟩=some (.slice M.r1 M.r2 M.r3)∧w4.cell? ⟨sb,o + 2,none⟩=some (.int .i64 M.a2)∧w4.cell? ⟨sb,o + 3,none⟩=some (.slice M.s1 M.s2 M.s3)∧w4.cell? ⟨sb,o + 4,none⟩=some (.int .i64 M.a4)∧w4.cell? ⟨sb,o + 5,none⟩=some (.int .i64 M.a5)∧w4.cell? ⟨sb,o + 6,none⟩=some (.bool M.a6)∧w4.cell? ⟨sb,o + 7,none⟩=some (.int .i64 M.a7)∧w4.cell? ⟨sb,o + 8,none⟩=some (.string M.a8))
   (first | exact HSX.out _ (fun _ _ _=>rfl) | exact HSX.out _ (fun k hk hkg=>HM5.out.m.chg.block k hk (by simpa using hkg)))
   (first | (go_at_call 190;(with_reducible refine HT.mono ?_);rintro e w5 ⟨v5,F5,FE5,n5,W5,rfl,M5⟩;obtain ⟨f5,fi5,ca5,rfl⟩:=M5.m.rep.form;have HM5:=hid M5;clear M5 HT))
  all_goals
   go_wp2
   go_ret
   have hzz:=HZ.out
   have hss:=HSZ.out
   have sX:w.heap.size≤X.heap.size:=HCX.out.size
   have fX:∀ k ∈ FX ++ (F3 ++ (b :: (F3 ++ FE3))),k ∈ FX ++ (F0 ++ FE)∨w.heap.size≤k:=fun k hk=>by
    rcases List.mem_append.1 hk with h | h
    ·left;simp [h]
    ·rcases List.mem_append.1 h with h | h
     ·exact (HF3.out k h).imp_right (fun h=>by omega)
     ·exact HNR.out k h
   have hfin:Mj g K JF w w5 A n5 (.func (.func f5) fi5 ca5) W5 (FX ++ (F0 ++ FE)) F5 FE5:=by
    refine ⟨⟨HM5.out.m.rep,HM5.out.m.ob,HCX.out.trans ((Chg.refl X [g]).drew.trans HM5.out.m.chg),fun k hk=>?_⟩,HTF.out (by omega) b n5 W5 _ w5 hwb HM5.out.j,fun k hk=>?_⟩
    ·rcases HM5.out.m.new k hk with h | h
     ·exact fX k h
     ·right;have h:X.heap.size≤k:=h;omega
    ·rcases HM5.out.newE k hk with h | h
     ·exact fX k h
     ·right;have h:X.heap.size≤k:=h;omega
   first
    | exact ⟨_,_,_,_,_,rfl,hfin⟩
    | exact ⟨_,rfl,_,_,_,_,hfin⟩
theorem Mj.from {g K:Nat} {J:Jd} {w w1 w':World} {A:Six} {n:Int} {v:Value} {W:Way} {F0 F FE:List Nat} (hc:Chg w w1 [g] [g]) (h:Mj g K J w1 w' A n v W F0 F FE):Mj g K J w w' A n v W F0 F FE:=
 ⟨h.m.from hc,h.j,fun k hk=>(h.newE k hk).imp_right fun h=>Nat.le_trans hc.size h⟩
set_option maxRecDepth 100000 in
set_option maxHeartbeats 4000000 in
theorem repeatA69 (g K:Nat) (A:Six) (N:Nd) (J:Jd) (FS:List Nat) (f:FuncId) (fi ca:Array Value) (w:World) (h5:N.a5=-1)
  (HC:Calls Tryz.prog 188 #[pt g,N.v 6,.func (.func f) fi ca] (w.alloc (N.o 6)) fun e w'=>∃ v F FE' n' W',e=.returned v∧Mj g K J (w.alloc (N.o 6)) w' A n' v W' FS F FE') :
  Calls Tryz.prog 119 #[pt g,N.v 6,.func (.func f) fi ca] w fun e w'=>∃ v F FE' n' W',e=.returned v∧Mj g K J w w' A n' v W' FS F FE':=by
 have hch:Chg w (w.alloc (N.o 6)) [g] [g]:=(Chg.refl w [g]).alloc _
 have HCH:=hid hch
 have m1:(N.a5 == -1)=true:=by simp [h5]
 have m2:decide (N.a5=-1)=true:=by simp [h5]
 clear h5 hch
 go_enter Tryz.func119,Tryz.ntmps119
 go_wp2_with (go_at_call 188;(with_reducible refine HC.mono ?_);rintro e w1 ⟨v,F,FE',n',W',rfl,hM⟩;obtain ⟨f1,fi1,ca1,rfl⟩:=hM.m.rep.form;have HM:=hid hM;clear hM HC)
 go_ret
 first
  | exact ⟨_,_,_,_,_,rfl,HM.out.from HCH.out⟩
  | exact ⟨_,rfl,_,_,_,_,HM.out.from HCH.out⟩
set_option maxRecDepth 100000 in
set_option maxHeartbeats 4000000 in
theorem beginR53 (g K:Nat) (A:Six) (N:Nd) (J:Jd) (FS:List Nat) (f:FuncId) (fi ca:Array Value) (w:World)
  (HC:Calls Tryz.prog 119 #[pt g,N.v 6,.func (.func f) fi ca] (((w.alloc (.cells #[pt g] 71)).alloc (N.o 6)).alloc (.cells #[.func (.func f) fi ca] 133)) fun e w'=>∃ v F FE' n' W',e=.returned v∧Mj g K J (((w.alloc (.cells #[pt g] 71)).alloc (N.o 6)).alloc (.cells #[.func (.func f) fi ca] 133)) w' A n' v W' FS F FE') :
  Calls Tryz.prog 77 #[pt g,N.v 6,.func (.func f) fi ca] w fun e w'=>∃ v F FE' n' W',e=.returned v∧Mj g K J w w' A n' v W' FS F FE':=by
 have hch:Chg w (((w.alloc (.cells #[pt g] 71)).alloc (N.o 6)).alloc (.cells #[.func (.func f) fi ca] 133)) [g] [g]:=(((Chg.refl w [g]).alloc _).alloc _).alloc _
 have HCH:=hid hch
 clear hch
 go_enter Tryz.func77,Tryz.ntmps77
 go_wp2_with (go_at_call 119;(with_reducible refine HC.mono ?_);rintro e w1 ⟨v,F,FE',n',W',rfl,hM⟩;obtain ⟨f1,fi1,ca1,rfl⟩:=hM.m.rep.form;have HM:=hid hM;clear hM HC)
 go_ret
 first
  | exact ⟨_,_,_,_,_,rfl,HM.out.from HCH.out⟩
  | exact ⟨_,rfl,_,_,_,_,HM.out.from HCH.out⟩
end Go.Proofs.YtacaanhnlfpbhaaGreat
namespace Go.Proofs.YtacaanhnlfpbhaaGreat
open Go.RowKit Go.Shelf
set_option linter.unusedVariables false
set_option linter.unusedSimpArgs false
attribute [local go_sem] Oper.semAt_some
def Dn (m:Nat) (pre:List (Fin m)):Prop:=pre.map (·.val)=(List.range pre.length).map (fun j=>m - 1 - j)
theorem Dn.snoc {m:Nat} {pre:List (Fin m)} (h:Dn m pre) (x:Fin m) (hx:x.val=m - 1 - pre.length):Dn m (pre ++ [x]):=by
 unfold Dn at *
 rw [List.map_append,List.length_append,h]
 simp [List.range_succ,hx]
def Kp2 (Bs sb:Nat) (W W':World):Prop:=∀ k,k=Bs∨k=sb→W'.heap[k]?=W.heap[k]?
set_option maxRecDepth 100000 in
set_option maxHeartbeats 2000000 in
theorem back93 (n:Nat) (hn:1≤n) (l Bs sb o m cap:Nat) (hm:m≤1000000) (hcap:m≤cap) (ND:Nat→Nd) (KD:Nat→Int) (J Jx:List (Fin m)→World→Prop)
  (hY:Hid (∀ pre x W,J pre W→pre.length < m→YieldAt Fence.wide (n - 1) Tryz.prog l #[.int .i64 (x.val:Int),(ND x.val).v (KD x.val)] W fun e W' =>
   (e=.returned (.bool true)∧J (pre ++ [x]) W'∧Kp2 Bs sb W W')∨(e=.returned (.bool false)∧Jx (pre ++ [x]) W')))
  (W:World) (hBs:Bx W Bs 23 (.slice (some ⟨sb,o,none⟩) m cap)) (hc:Hid (∀ i,i < m→C9 W sb o i (ND i) (KD i))) (h0:J [] W) :
  CallsIn Fence.wide n Tryz.prog 185 #[.func (.yield l) #[] #[],pt Bs] W fun e W'=>(∃ v,e=.returned v) ∧
   ((∃ ys,(ys.length=m∧Dn m ys)∧J ys W')∨(∃ pre,True∧Jx pre W')):=by
 have cB:=bx0 hBs
 have HBs:=hid hBs
 have sb1:IntKind.i64.wrap ((m:Int) - 1)=(m:Int) - 1:=by simp [IntKind.wrap,IntKind.bits,IntKind.signed];omega
 clear hBs
 refine callsIn_of_wp Tryz.func185 rfl trivial ?_ rfl
 simp only [Tryz.ntmps185,List.size_toArray,List.length_cons,List.length_nil,Nat.reduceAdd,Nat.reduceSub,Array.replicate_succ,Array.replicate_zero,List.push_toArray,List.append_toArray,List.nil_append,List.cons_append]
 gi_wp2
 gi_loopw [3] (fun i wr=>∃ (c:Nat) (pre:List (Fin m)),i=.int .i64 ((c:Int) - 1)∧c + pre.length=m∧Dn m pre∧J pre wr∧Hid (Kp2 Bs sb W wr))
  (fun i _=>(intOf i + 1).toNat)
 case atStart=>exact ⟨m,[],rfl,by simp,rfl,h0,fun k _=>rfl⟩
 case round =>
  obtain ⟨c,pre,rfl,hcm,hD,hJ,hK⟩:=hrel
  have cB2:wr.cell? ⟨Bs,0,none⟩=some (.slice (some ⟨sb,o,none⟩) m cap):=bx0 (t:=23) ((hK.out Bs (.inl rfl)).trans HBs.out)
  cases c with
  | zero =>
   simp only [Int.ofNat_eq_natCast,Int.natCast_zero,Int.zero_sub]
   gi_wp2
   go_end0
   exact ⟨⟨_,rfl⟩,.inl ⟨pre,⟨by omega,hD⟩,hJ⟩⟩
  | succ j =>
   have hj:j < m:=by omega
   obtain ⟨fn,tmps,assign,body,hy,hR⟩:=hY.out pre ⟨j,hj⟩ wr hJ (by omega)
   dsimp only at hy
   obtain ⟨n0,n1,n2,n3,n4,n5,n6,n7,n8⟩:=(hc.out j hj).kept (hK.out sb (.inr rfl))
   rw [show ((j + 1:Nat):Int) - 1=(j:Int) by omega]
   have b1:decide ((j:Int) ≥ 0)=true:=by simp
   have b2:(j:Int) < (m:Int):=by omega
   have b3:decide ((j:Int) < (m:Int))=true:=by simp;omega
   have sj:IntKind.i64.wrap ((j:Int) - 1)=(j:Int) - 1:=by simp [IntKind.wrap,IntKind.bits,IntKind.signed];omega
   gi_wp2
   refine hR.mono ?_
   rintro e W3 (⟨rfl,hJ3,hk3⟩ | ⟨rfl,hJx3⟩)
   ·gi_wp2
    go_roundw
    case rel=>exact ⟨j,pre ++ [⟨j,hj⟩],rfl,by simp;omega,hD.snoc _ (by show j=_;omega),hJ3,fun k hk=>(hk3 k hk).trans (hK.out k hk)⟩
    case measure=>simp [intOf]
   ·gi_wp2
    refine bodyPost_ret (results_none rfl _ _ _) rfl ?_
    exact ⟨⟨_,rfl⟩,.inr ⟨_,trivial,hJx3⟩⟩
theorem back_stops (n:Nat) (hn:1≤n) (Bs sb o m cap:Nat) (hm:m≤1000000) (hcap:m≤cap) (ND:Nat→Nd) (KD:Nat→Int) (w:World) (hBs:Bx w Bs 23 (.slice (some ⟨sb,o,none⟩) m cap)) (hsb:sb < w.heap.size) (hc:∀ i,i < m→C9 w sb o i (ND i) (KD i)) :
  SeqStopsK Fence.wide n Tryz.prog 185 #[pt Bs] (fun x:Fin m=>#[.int .i64 (x.val:Int),(ND x.val).v (KD x.val)]) (Kp2 Bs sb) (fun ys=>ys.length=m∧Dn m ys) (fun _=>True) m w:=fun l J Jx W hW _ _ hY h0 =>
 back93 n hn l Bs sb o m cap hm hcap ND KD J Jx hY W ((hW.block Bs (bx_lt hBs)).trans hBs) (fun i hi=>(hc i hi).kept (hW.block sb hsb)) h0
set_option maxRecDepth 100000 in
set_option maxHeartbeats 1000000 in
theorem back66 (n:Nat) (a:Option Addr) (len cap:Nat) (w:World) :
  CallsIn Fence.wide n Tryz.prog 116 #[.slice a len cap] w fun e w'=>e=.returned (.func (.func 185) #[] #[pt w.heap.size])∧w'=w.alloc (.cells #[.slice a len cap] 23):=by
 refine callsIn_of_wp Tryz.func116 rfl trivial ?_ rfl
 simp only [Tryz.ntmps116,List.size_toArray,List.length_cons,List.length_nil,Nat.reduceAdd,Nat.reduceSub,Array.replicate_succ,Array.replicate_zero,List.push_toArray,List.append_toArray,List.nil_append,List.cons_append]
 gi_wp2
 go_ret
 exact ⟨rfl,rfl⟩
def IsC (w:World) (k:Nat):Prop:=∃ c t x,w.heap[k]?=some (.cells c t x)
theorem row_isc {w:World} {base e size n:Nat} {v:Value} {xs:List Value} (h:w.ownsRow base e size v n xs) {b:Nat} (hb:v.ownBlock=some b):IsC w b:=by
 rcases h.2 with ⟨rfl,_⟩ | ⟨g,cap,cur,rfl,_,hgg,_⟩
 ·cases hb
 ·cases hb;exact ⟨_,_,_,hgg⟩
theorem cell_isc {w:World} {b o:Nat} {v:Value} (h:w.cell? ⟨b,o,none⟩=some v):IsC w b:=by
 have hl:b < w.heap.size:=World.block_lt_of_cell? _ _ h
 cases hb:w.heap[b]? with
 | none=>simp [World.cell?,hb] at h
 | some ob =>
  cases ob with
  | cells c t x=>exact ⟨c,t,x,hb⟩
  | _=>simp [World.cell?,hb] at h
theorem RowIn.isc {w:World} {v:Value} {R:Rng} {G:List Nat} (h:RowIn w v R G):∀ k ∈ G,IsC w k:=by
 rcases h with ⟨_,_,_,_,rfl⟩ | ⟨b,off,cap,h1,h2,rfl,h3,h4⟩
 ·intro k hk;cases hk
 ·intro k hk
  simp at hk
  subst hk
  exact cell_isc (h3 0 h2)
mutual
theorem Rep.isc {g K:Nat} {L:Nat→Prop} {w:World} {v:Value} {d:Way} {F:List Nat} (h:Rep g K L w v d F):∀ k ∈ F,IsC w k:=by
 cases h with
 | through=>intro k hk;cases hk
 | once h5 h2 h3 hn hd =>
  intro k hk
  simp only [List.mem_cons] at hk
  rcases hk with rfl | rfl | rfl | hk
  ·exact ⟨_,_,_,h5⟩
  ·exact ⟨_,_,_,h2⟩
  ·exact ⟨_,_,_,h3⟩
  ·exact hd.isc k hk
 | noted h3 h4 h5 hc hd =>
  intro k hk
  simp only [List.mem_cons] at hk
  rcases hk with rfl | rfl | rfl | hk
  ·exact ⟨_,_,_,h3⟩
  ·exact ⟨_,_,_,h4⟩
  ·exact ⟨_,_,_,h5⟩
  ·exact hd.isc k hk
 | runeOf h3 h4 h5 hr hd =>
  intro k hk
  simp only [List.mem_cons,List.mem_append] at hk
  rcases hk with rfl | rfl | rfl | hk | hk
  ·exact ⟨_,_,_,h3⟩
  ·exact ⟨_,_,_,h4⟩
  ·exact ⟨_,_,_,h5⟩
  ·exact hr.isc k hk
  ·exact hd.isc k hk
 | ifHolds h4 h3 h5 hd =>
  intro k hk
  simp only [List.mem_cons] at hk
  rcases hk with rfl | rfl | rfl | hk
  ·exact ⟨_,_,_,h4⟩
  ·exact ⟨_,_,_,h3⟩
  ·exact ⟨_,_,_,h5⟩
  ·exact hd.isc k hk
 | inOrder h1 hs hl =>
  intro k hk
  simp only [List.mem_cons,List.mem_append,Option.mem_toList] at hk
  rcases hk with rfl | hk | hk
  ·exact ⟨_,_,_,h1⟩
  ·exact row_isc hs hk
  ·exact hl.isc k hk
 | again hb=>intro k hk;cases hk
theorem Reps.isc {g K:Nat} {L:Nat→Prop} {w:World} {v:List Value} {d:List Way} {F:List Nat} (h:Reps g K L w v d F):∀ k ∈ F,IsC w k:=by
 cases h with
 | nil=>intro k hk;cases hk
 | cons h hs =>
  intro k hk
  rcases List.mem_append.1 hk with hk | hk
  ·exact h.isc k hk
  ·exact hs.isc k hk
end
end Go.Proofs.YtacaanhnlfpbhaaGreat
