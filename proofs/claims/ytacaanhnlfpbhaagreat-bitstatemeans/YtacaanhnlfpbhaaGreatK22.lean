/- HELPERS: texts of ours put together. -/
import Derived.Test.YtacaanhnlfpbhaaGreatK21
namespace Go.Proofs.YtacaanhnlfpbhaaGreat
open Go.RowKit
set_option linter.unusedVariables false
set_option linter.unusedSimpArgs false
def S69 (w:World) (z sb o s3:Nat) (lz:Bool) (mn:Int) (M:Nd) (km:Int):Prop:=w.cell? ⟨z,3,none⟩ = some (.slice (some ⟨sb,o,none⟩) 1 s3) ∧ w.cell? ⟨z,4,none⟩ = some (.int .i64 mn) ∧ w.cell? ⟨z,6,none⟩ = some (.bool lz) ∧ w.cell? ⟨sb,o,none⟩ = some (.int .i64 km) ∧ w.cell? ⟨sb,o + 1,none⟩ = some (.slice M.r1 M.r2 M.r3) ∧ w.cell? ⟨sb,o + 2,none⟩ = some (.int .i64 M.a2) ∧ w.cell? ⟨sb,o + 3,none⟩ = some (.slice M.s1 M.s2 M.s3) ∧ w.cell? ⟨sb,o + 4,none⟩ = some (.int .i64 M.a4) ∧ w.cell? ⟨sb,o + 5,none⟩ = some (.int .i64 M.a5) ∧ w.cell? ⟨sb,o + 6,none⟩ = some (.bool M.a6) ∧ w.cell? ⟨sb,o + 7,none⟩ = some (.int .i64 M.a7) ∧ w.cell? ⟨sb,o + 8,none⟩ = some (.string M.a8)
set_option maxRecDepth 100000 in
set_option maxHeartbeats 4000000 in
theorem repeatBJ69 (g K sb o s3 mn m:Nat) (lz:Bool) (A:Six) (N M:Nd) (km n0:Int) (B:Way) (J J' TJ:Nat → Jd) (FX F0 FE:List Nat) (vb:Value) (w:World) (hO:O7 w g A n0) (hR:Rep g K AL w vb B F0) (hj0:(J 0).p n0 B FE w) (hgF:g ∉ F0) (hgX:g ∉ FX) (hgE:g ∉ FE)
  (hN:N.s1 = some ⟨sb,o,none⟩ ∧ N.s2 = 1 ∧ N.s3 = s3 ∧ N.a6 = lz ∧ N.a4 = (mn:Int) ∧ N.a5 = (mn:Int) + (m:Int)) (hmn:mn ≤ 1000 ∧ m ≤ 1000) (hs3:1 ≤ s3) (hsb:sb < w.heap.size) (hsg:sb ≠ g) (hc:C9 w sb o 0 M km)
  (hns:∀ i n W FE w,i < m → (J' i).p n W FE w → 0 ≤ n ∧ n < 1000000000) (hOs:∀ i n W FE w,i < m → (J' i).p n W FE w → (J (i + 1)).p (n + 1) (.once (n + 1) (.inOrder (if lz = true then [B,W] else [W,B]))) FE w)
  (hB:∀ i,i < m → StepJ g K A M km FX (FX ++ (F0 ++ FE)) w (J i) (J' i)) (ht:∀ n W FE w,(J m).p n W FE w → (TJ 0).p n W FE w) (hT:∀ i,i < mn → StepJ g K A M km FX (FX ++ (F0 ++ FE)) w (TJ i) (TJ (i + 1))) :
  Calls Tryz.prog 119 #[pt g,N.v 6,vb] w fun e w' => ∃ v F FE' n' W,e = .returned v ∧ Mj g K (TJ mn) w w' A n' v W (FX ++ (F0 ++ FE)) F FE':=by
 obtain ⟨f,fi,ca,rfl⟩:=hR.form
 have hgl:=(Array.getElem?_eq_some_iff.1 hO).1
 obtain ⟨W,hW⟩:∃ W,W = w.alloc (N.o 6):=⟨_,rfl⟩
 have hWs:W.heap.size = w.heap.size + 1:=by rw [hW];simp
 have hWz:W.heap[w.heap.size]? = some (.cells #[.int .i64 6,.slice N.r1 N.r2 N.r3,.int .i64 N.a2,.slice N.s1 N.s2 N.s3,.int .i64 N.a4,.int .i64 N.a5,.bool N.a6,.int .i64 N.a7,.string N.a8] 25 (0,0)):=by rw [hW];exact heap_alloc_new w _
 have hWo:∀ k,k < w.heap.size → W.heap[k]? = w.heap[k]?:=fun k hk => by rw [hW];exact heap_alloc_old w _ hk
 have hch:Chg w W [g] [g]:=by rw [hW];exact (Chg.refl w [g]).alloc _
 have hS:∀ w1,Chg W w1 [g] [g] → S69 w1 w.heap.size sb o s3 lz (mn:Int) M km:=fun w1 hc1 => by
  have e:∀ k,k < W.heap.size → k ≠ g → w1.heap[k]? = W.heap[k]?:=fun k h1 h2 => hc1.block k h1 (by simpa using h2)
  have hz:=(e w.heap.size (by omega) (by omega)).trans hWz
  obtain ⟨q0,q1,q2,q3,q4,q5,q6,q7,q8⟩:=hc.kept ((e sb (by omega) hsg).trans (hWo sb hsb))
  simp only [Nat.zero_mul,Nat.add_zero] at q0 q1 q2 q3 q4 q5 q6 q7 q8
  refine ⟨?_,?_,?_,q0,q1,q2,q3,q4,q5,q6,q7,q8⟩
  ·have h:=Joins.cell_of_block hz 3
   simpa [hN.1,hN.2.1,hN.2.2.1] using h
  ·have h:=Joins.cell_of_block hz 4
   simpa [hN.2.2.2.2.1] using h
  ·have h:=Joins.cell_of_block hz 6
   simpa [hN.2.2.2.1] using h
 have x5:W.cell? ⟨w.heap.size,5,none⟩ = some (.int .i64 ((mn:Int) + (m:Int))):=by have h:=Joins.cell_of_block hWz 5;simpa [hN.2.2.2.2.2] using h
 have hRk:∀ w1,Chg W w1 [g] [g] → Rep g K AL w1 (.func (.func f) fi ca) B F0:=fun w1 hc1 => hR.kept fun k hk => (hch.trans hc1).block k (hR.low k hk) (by simp;intro e;exact hgF (e ▸ hk))
 have hM0:Mj g K (J 0) W W A n0 (.func (.func f) fi ca) B (FX ++ (F0 ++ FE)) F0 FE:=⟨⟨hRk W (Chg.refl W [g]),(hWo g hgl).trans hO,Chg.refl W [g],fun k hk => .inl (by simp [hk])⟩,(J 0).stab hj0 hch.size (fun k hk => hWo k ((J 0).low hj0 k hk)),fun k hk => .inl (by simp [hk])⟩
 have hBW:∀ i,i < m → StepJ g K A M km FX (FX ++ (F0 ++ FE)) W (J i) (J' i):=fun i hi => (hB i hi).next hch
 have hTW:∀ i,i < mn → StepJ g K A M km FX (FX ++ (F0 ++ FE)) W (TJ i) (TJ (i + 1)):=fun i hi => (hT i hi).next hch
 have hgA:g ∉ FX ++ (F0 ++ FE):=by simp;exact ⟨hgX,hgF,hgE⟩
 have HGA:=hid hgA
 have y4:=(hS W (Chg.refl W [g])).2.1
 have b5:((mn:Int) + (m:Int) == -1) = false:=by simp;omega
 have b5':decide ((mn:Int) + (m:Int) = -1) = false:=by simp;omega
 have sb1:IntKind.i64.wrap ((mn:Int) + (m:Int) - (mn:Int)) = (m:Int):=by simp [IntKind.wrap,IntKind.bits,IntKind.signed];omega
 have m5:(N.a5 == -1) = false:=by rw [hN.2.2.2.2.2];simp;omega
 have m5':decide (N.a5 = -1) = false:=by rw [hN.2.2.2.2.2];simp;omega
 have HS:=hid hS
 have HRK:=hid hRk
 have HM0:=hid hM0
 have HBW:=hid hBW
 have HTW:=hid hTW
 have HCH:=hid hch
 have HNS:=hid hns
 have HOS:=hid hOs
 have HTT:=hid ht
 have HGF:=hid hgF
 have HGX:=hid hgX
 have HWS:=hid hWs
 have hgW:g < W.heap.size:=by omega
 clear hO hR hgF hgX hgE hgA hj0 hN hc hns hOs hB ht hT hWs hWz hWo hch hS hRk hM0 hBW hTW
 go_enter Tryz.func119,Tryz.ntmps119
 go_upto_region 4 with fail
 rw [← hW]
 obtain ⟨z,hz⟩:∃ z,z = w.heap.size:=⟨_,rfl⟩
 rw [← hz] at HS x5 y4 HWS ⊢
 have HW:=hid hW
 have HZ:=hid hz
 clear hW hz
 go_wp2_with fail
 go_loopw [7,21] (fun u x wq => ∃ (i:Nat) (f':FuncId) (fi' ca':Array Value),u = .func (.func f') fi' ca' ∧ x = .int .i64 (i:Int) ∧ i ≤ m ∧ Hid (∃ F FE' n' W',Mj g K (J i) W wq A n' (.func (.func f') fi' ca') W' (FX ++ (F0 ++ FE)) F FE')) (fun _ x _ => m - (intOf x).toNat)
 case atStart => exact ⟨0,f,fi,ca,rfl,rfl,by omega,by exact ⟨F0,FE,n0,B,HM0.out⟩⟩
 case round =>
  obtain ⟨i,f',fi',ca',rfl,rfl,hi,HI⟩:=hrel
  by_cases hil:i < m
  ·have b1:decide ((i:Int) < (m:Int)) = true:=by simp;omega
   have b2:(i:Int) < (m:Int):=by omega
   obtain ⟨F,FE1,n1,W1,M1J⟩:=HI.out
   have M1:=M1J.m
   have hgM:g ∉ F:=M1.away HGA.out hgW
   have hgM2:g ∉ FE1:=M1J.awayE HGA.out hgW
   have hd:Chg wr wr.drew [g] [g]:=(Chg.refl wr [g]).drew
   have HC:=HBW.out i hil wr.drew _ n1 W1 F FE1 (M1.chg.trans hd) M1.ob (M1.rep.kept fun _ _ => rfl) hgM hgM2 M1.new M1J.newE ((J i).drew M1J.j)
   have HM1J:=hid M1J
   have ad1:IntKind.i64.wrap ((i:Int) + 1) = (i:Int) + 1:=by simp [IntKind.wrap,IntKind.bits,IntKind.signed];omega
   have HM1:=hid M1
   have HD:=hid hd
   clear M1 M1J HI hgM hgM2 hd
   go_wp2_with fail
   go_region_held2 (fun w1 => w1.cell? ⟨z,3,none⟩ = some (.slice (some ⟨sb,o,none⟩) 1 s3) ∧ w1.cell? ⟨z,4,none⟩ = some (.int .i64 (mn:Int)) ∧ w1.cell? ⟨z,6,none⟩ = some (.bool lz) ∧ w1.cell? ⟨sb,o,none⟩ = some (.int .i64 km) ∧ w1.cell? ⟨sb,o + 1,none⟩ = some (.slice M.r1 M.r2 M.r3) ∧ w1.cell? ⟨sb,o + 2,none⟩ = some (.int .i64 M.a2) ∧ w1.cell? ⟨sb,o + 3,none⟩ = some (.slice M.s1 M.s2 M.s3) ∧ w1.cell? ⟨sb,o + 4,none⟩ = some (.int .i64 M.a4) ∧ w1.cell? ⟨sb,o + 5,none⟩ = some (.int .i64 M.a5) ∧ w1.cell? ⟨sb,o + 6,none⟩ = some (.bool M.a6) ∧ w1.cell? ⟨sb,o + 7,none⟩ = some (.int .i64 M.a7) ∧ w1.cell? ⟨sb,o + 8,none⟩ = some (.string M.a8))
    (first | exact HS.out _ (HM1.out.chg.trans HD.out) | exact HS.out _ (HM1.out.chg.trans (HD.out.trans HM2.out.chg)) | exact HS.out _ (HM1.out.chg.trans (HD.out.trans (HM2.out.chg.trans (Chg.of_below HB3.out)))) | exact HS.out _ (HM1.out.chg.trans (HD.out.trans (HM2.out.chg.trans ((Chg.of_below HB3.out).trans HM4.out.chg)))))
    (first | (go_at_call 77;(with_reducible refine HC.mono ?_);rintro e w2 ⟨v2,F2,FE2,n2,W2,rfl,M2,j2,hE2⟩;obtain ⟨f2,fi2,ca2,rfl⟩:=M2.rep.form;have HJ2:=hid j2;have HE2:=hid hE2;clear j2 hE2;have HC2:=choice_any g K AL lz _ _ _ _ F2 F0 w2 M2.rep (HRK.out w2 (HM1.out.chg.trans (HD.out.trans M2.chg)));have HM2:=hid M2;clear M2 HC) | (go_at_call 189;(with_reducible refine HC2.mono ?_);rintro e w3 ⟨v3,F3,rfl,hr3,hb3,hn3⟩;obtain ⟨f3,fi3,ca3,rfl⟩:=hr3.form;have hg3:g ∉ F3:=(fun hm => by rcases hn3 g hm with h | h;(rcases List.mem_append.1 h with h | h;(exact HM2.out.away (by simp;exact ⟨HGX.out,HM1.out.away HGA.out hgW⟩) (by have:=HM1.out.chg.size;show g < wr.heap.size;omega) h);exact HGF.out h);(have:=HM1.out.chg.size;have h2:wr.heap.size ≤ w2.heap.size:=HM2.out.chg.size;omega));have HC3:=once54 g K AL A n2 _ _ F3 w3 ((hb3.block g (by have:=HM1.out.chg.size;have h2:wr.heap.size ≤ w2.heap.size:=HM2.out.chg.size;omega)).trans HM2.out.ob) hr3 hg3 (HNS.out i _ _ _ _ hil HJ2.out);have HB3:=hid hb3;have HN3:=hid hn3;clear hr3 hb3 hn3 hg3 HC2) | (go_at_call 78;(with_reducible refine HC3.mono ?_);rintro e w4 ⟨v4,F4,rfl,M4⟩;obtain ⟨f4,fi4,ca4,rfl⟩:=M4.rep.form;have HM4:=hid M4;clear M4 HC3))
   all_goals
    go_wp2
    refine ⟨⟨i + 1,f4,fi4,ca4,rfl,by push_cast;rfl,by omega,?_⟩,by simp [intOf];omega⟩
    have s1:=HM1.out.chg.size
    have s2:wr.heap.size ≤ w2.heap.size:=HM2.out.chg.size
    have s3':=HB3.out.size
    have hgE2:g ∉ FE2:=fun hm => by
     rcases HE2.out g hm with h | h | h
     ·exact HM1J.out.awayE HGA.out hgW h
     ·rcases List.mem_append.1 h with h | h
      ·exact HGX.out h
      ·exact HM1.out.away HGA.out hgW h
     ·have h:wr.heap.size ≤ g:=h;omega
    have fX:∀ k ∈ FX ++ F,k ∈ FX ++ (F0 ++ FE) ∨ W.heap.size ≤ k:=fun k hk => by
     rcases List.mem_append.1 hk with h | h
     ·left;simp [h]
     ·exact HM1.out.new k h
    refine ⟨F4,FE2,n2 + 1,_,⟨HM4.out.rep,HM4.out.ob,HM1.out.chg.trans (HD.out.trans (HM2.out.chg.trans ((Chg.of_below HB3.out).trans HM4.out.chg))),fun k hk => ?_⟩,HOS.out i _ _ _ _ hil ((J' i).chg ((J' i).below HJ2.out HB3.out) HM4.out.chg hgE2),fun k hk => ?_⟩
    ·rcases HM4.out.new k hk with h | h
     ·rcases HN3.out k h with h | h
      ·rcases List.mem_append.1 h with h | h
       ·rcases HM2.out.new k h with h | h
        ·exact fX k h
        ·right;have h:wr.heap.size ≤ k:=h;omega
       ·left;simp [h]
      ·right;omega
     ·right;omega
    ·rcases HE2.out k hk with h | h | h
     ·exact HM1J.out.newE k h
     ·exact fX k h
     ·right;have h:wr.heap.size ≤ k:=h;omega
  ·have b1:decide ((i:Int) < (m:Int)) = false:=by simp;omega
   obtain rfl:i = m:=by omega
   obtain ⟨F,FE1,n1,W1,M1J⟩:=HI.out
   have M1:=M1J.m
   have hgM:g ∉ F:=M1.away HGA.out hgW
   have hgM2:g ∉ FE1:=M1J.awayE HGA.out hgW
   have hd:Chg wr wr.drew [g] [g]:=(Chg.refl wr [g]).drew
   have HC:=timesJ98 g K mn A M km n1 W1 TJ FX F FE1 _ wr.drew M1.ob (M1.rep.kept fun _ _ => rfl) ((TJ 0).drew (HTT.out _ _ _ _ M1J.j)) hgM HGX.out hgM2 (by omega) (fun j hj => (HTW.out j hj).widen (M1.chg.trans hd) (fun k hk => by
    rcases List.mem_append.1 hk with h | h
    ·left;simp [h]
    ·rcases List.mem_append.1 h with h | h
     ·exact M1.new k h
     ·exact M1J.newE k h))
   have HM1J:=hid M1J
   have HM1:=hid M1
   have HD:=hid hd
   clear M1 M1J HI hgM hgM2 hd
   go_wp2_with fail
   go_region_held2 (fun w1 => w1.cell? ⟨z,3,none⟩ = some (.slice (some ⟨sb,o,none⟩) 1 s3) ∧ w1.cell? ⟨z,4,none⟩ = some (.int .i64 (mn:Int)) ∧ w1.cell? ⟨z,6,none⟩ = some (.bool lz) ∧ w1.cell? ⟨sb,o,none⟩ = some (.int .i64 km) ∧ w1.cell? ⟨sb,o + 1,none⟩ = some (.slice M.r1 M.r2 M.r3) ∧ w1.cell? ⟨sb,o + 2,none⟩ = some (.int .i64 M.a2) ∧ w1.cell? ⟨sb,o + 3,none⟩ = some (.slice M.s1 M.s2 M.s3) ∧ w1.cell? ⟨sb,o + 4,none⟩ = some (.int .i64 M.a4) ∧ w1.cell? ⟨sb,o + 5,none⟩ = some (.int .i64 M.a5) ∧ w1.cell? ⟨sb,o + 6,none⟩ = some (.bool M.a6) ∧ w1.cell? ⟨sb,o + 7,none⟩ = some (.int .i64 M.a7) ∧ w1.cell? ⟨sb,o + 8,none⟩ = some (.string M.a8))
    (first | exact HS.out _ (HM1.out.chg.trans HD.out) | exact HS.out _ (HM1.out.chg.trans (HD.out.trans HM2.out.chg)))
    (first | (go_at_call 190;(with_reducible refine HC.mono ?_);rintro e w2 ⟨v2,F2,FE2,n2,W2,rfl,M2J⟩;obtain ⟨f2,fi2,ca2,rfl⟩:=M2J.m.rep.form;have HM2:=hid M2J.m;have HM2J:=hid M2J;clear M2J HC))
   all_goals
    go_wp2
    go_ret
    have s1:=HM1.out.chg.size
    have s0:=HCH.out.size
    have fX:∀ k ∈ FX ++ (F ++ FE1),k ∈ FX ++ (F0 ++ FE) ∨ w.heap.size ≤ k:=fun k hk => by
     rcases List.mem_append.1 hk with h | h
     ·left;simp [h]
     ·rcases List.mem_append.1 h with h | h
      ·exact (HM1.out.new k h).imp_right (fun h => by omega)
      ·exact (HM1J.out.newE k h).imp_right (fun h => by omega)
    refine ⟨_,F2,FE2,n2,W2,rfl,⟨HM2.out.rep,HM2.out.ob,HCH.out.trans (HM1.out.chg.trans (HD.out.trans HM2.out.chg)),fun k hk => ?_⟩,HM2J.out.j,fun k hk => ?_⟩
    ·rcases HM2.out.new k hk with h | h
     ·exact fX k h
     ·right;have h:wr.heap.size ≤ k:=h;omega
    ·rcases HM2J.out.newE k hk with h | h
     ·exact fX k h
     ·right;have h:wr.heap.size ≤ k:=h;omega
abbrev Dcd (lz:Bool) (n:Int) (b:Nat) (B:Way):Way:=.once (n + 1) (.inOrder (if lz = true then [B,.again b] else [.again b,B]))
set_option maxRecDepth 100000 in
set_option maxHeartbeats 4000000 in
theorem atLeastJ96 (g K sb o s3 mn:Nat) (lz:Bool) (A:Six) (n:Int) (N M:Nd) (km:Int) (B:Way) (JD J1 JR:Nat → Jd) (TJ:Nat → Nat → Jd) (JF:Jd) (FX F0 FE:List Nat) (vb:Value) (w:World) (hO:O7 w g A n) (hR:Rep g K AL w vb B F0) (hj0:∀ b,w.heap.size ≤ b → (JD b).p (n + 1) (Dcd lz n b B) FE w) (hgF:g ∉ F0) (hgX:g ∉ FX) (hgE:g ∉ FE) (hX:∀ k ∈ FX,k < w.heap.size) (hn:0 ≤ n ∧ n < 1000000000)
  (hN:N.s1 = some ⟨sb,o,none⟩ ∧ N.s2 = 1 ∧ N.s3 = s3 ∧ N.a6 = lz ∧ N.a4 = (mn:Int)) (hmn:mn ≤ 1000) (hs3:1 ≤ s3) (hsb:sb < w.heap.size) (hsg:sb ≠ g) (hc:C9 w sb o 0 M km)
  (HB:∀ b,w.heap.size ≤ b → StepJ g K A M km FX (F0 ++ FE) w (JD b) (J1 b))
  (hset:∀ (b:Nat) (n2:Int) (W1:Way) (v3:Value) (F3 FE3:List Nat) (w3 X:World),w.heap.size ≤ b → (J1 b).p n2 W1 FE3 w3 → b ∉ FE3 → X.heap.size = w3.heap.size → (∀ k,k ≠ b → X.heap[k]? = w3.heap[k]?) → Bx X b 133 v3 → Rep g K AL X v3 W1 F3 → b ∉ F3 → (JR b).p n2 W1 (b :: (F3 ++ FE3)) X)
  (hz:mn = 0 → ∀ b n2 W1 FE w',w.heap.size ≤ b → (JR b).p n2 W1 FE w' → JF.p n2 (Dcd lz n b B) FE w')
  (hT0:0 < mn → ∀ b n2 W1 FE w',w.heap.size ≤ b → (JR b).p n2 W1 FE w' → (TJ b 0).p n2 W1 FE w') (hT:∀ b i,w.heap.size ≤ b → i < mn - 1 → StepJ g K A M km FX (FX ++ (F0 ++ FE)) w (TJ b i) (TJ b (i + 1))) (hTf:0 < mn → ∀ b n2 W1 FE w',w.heap.size ≤ b → (TJ b (mn - 1)).p n2 W1 FE w' → JF.p n2 W1 FE w') :
  Calls Tryz.prog 188 #[pt g,N.v 6,vb] w fun e w' => ∃ v F FE' n' W',e = .returned v ∧ Mj g K JF w w' A n' v W' (FX ++ (F0 ++ FE)) F FE':=by
 obtain ⟨f,fi,ca,rfl⟩:=hR.form
 have hm:=hmf
 have hgl:=(Array.getElem?_eq_some_iff.1 hO).1
 obtain ⟨W,hW⟩:∃ W,W = (w.alloc (N.o 6)).alloc (.cells #[.nilFunc] 133):=⟨_,rfl⟩
 obtain ⟨b,hb⟩:∃ b,b = w.heap.size + 1:=⟨_,rfl⟩
 have sw1:(w.alloc (N.o 6)).heap.size = w.heap.size + 1:=by simp
 have hsW:W.heap.size = w.heap.size + 1 + 1:=by rw [hW];simp
 have hWz:W.heap[w.heap.size]? = some (.cells #[.int .i64 6,.slice N.r1 N.r2 N.r3,.int .i64 N.a2,.slice N.s1 N.s2 N.s3,.int .i64 N.a4,.int .i64 N.a5,.bool N.a6,.int .i64 N.a7,.string N.a8] 25 (0,0)):=by
  rw [hW];exact (heap_alloc_old _ _ (by omega)).trans (heap_alloc_new w _)
 have hWb:W.heap[b]? = some (.cells #[.nilFunc] 133 (0,0)):=by rw [hW,hb,← sw1];exact heap_alloc_new _ _
 have hWo:∀ k,k < w.heap.size → W.heap[k]? = w.heap[k]?:=fun k hk => by rw [hW];exact (heap_alloc_old _ _ (by omega)).trans (heap_alloc_old w _ hk)
 have hch:Chg w W [g] [g]:=by rw [hW];exact ((Chg.refl w [g]).alloc _).alloc _
 have hRW:Rep g K AL W (.func (.func f) fi ca) B F0:=hR.kept fun k hk => hWo k (hR.low k hk)
 have hlow:∀ k ∈ F0,k < w.heap.size:=hR.low
 have HC:=choice_any g K AL lz (.func (.func 230) #[] #[pt b]) (.func (.func f) fi ca) (.again b) B [] F0 W (.again trivial) hRW
 have x6:W.cell? ⟨w.heap.size,6,none⟩ = some (.bool lz):=by have h:=Joins.cell_of_block hWz 6;simpa [hN.2.2.2.1] using h
 have hS:∀ w1,Chg W w1 [g] [g] → w1.cell? ⟨w.heap.size,3,none⟩ = some (.slice (some ⟨sb,o,none⟩) 1 s3) ∧ w1.cell? ⟨w.heap.size,4,none⟩ = some (.int .i64 (mn:Int)) ∧ C9 w1 sb o 0 M km ∧ w1.heap[b]? = some (.cells #[.nilFunc] 133 (0,0)):=fun w1 hc1 => by
  have e:∀ k,k < W.heap.size → k ≠ g → w1.heap[k]? = W.heap[k]?:=fun k h1 h2 => hc1.block k h1 (by simpa using h2)
  refine ⟨?_,?_,?_,(e b (by omega) (by omega)).trans hWb⟩
  ·have h:=Joins.cell_of_block ((e w.heap.size (by omega) (by omega)).trans hWz) 3
   simpa [hN.1,hN.2.1,hN.2.2.1] using h
  ·have h:=Joins.cell_of_block ((e w.heap.size (by omega) (by omega)).trans hWz) 4
   simpa [hN.2.2.2.2] using h
  ·exact hc.kept ((e sb (by omega) hsg).trans (hWo sb hsb))
 have HS0:=hid hS
 have HSZ:=hid hsW
 have HCH:=hid hch
 have HHG:=hid hgF
 have HHX:=hid hgX
 have HXL:=hid hX
 have HLO:=hid hlow
 have HOW:=hid ((hWo g hgl).trans hO)
 have HBB:=hid (HB b (by omega))
 have HJ0:=hid (hj0 b (by omega))
 have HHE:=hid hgE
 have hEl:∀ k ∈ FE,k < w.heap.size:=(JD b).low (hj0 b (by omega))
 have HEL:=hid hEl
 have HSET:=hid hset
 have HHZ:=hid hz
 have HT0:=hid hT0
 have HTT:=hid hT
 have HTF:=hid hTf
 clear hO hR hgF hgX hgE hX hlow hN hc HB hWz hWb hWo hch hRW hS hsW hj0 hEl hset hz hT0 hT hTf
 go_enter Tryz.func188,Tryz.ntmps188
 go_upto_region 3 with fail
 obtain ⟨z,hz⟩:∃ z,z = w.heap.size:=⟨_,rfl⟩
 rw [← hW]
 rw [← hz] at HS0 x6 hb HSZ ⊢
 rw [← hb]
 have HW:=hid hW
 have HZ:=hid hz
 have HB0:=hid hb
 clear hW hz hb sw1
 have hbz:b ≠ g:=by have:=HB0.out;have:=HZ.out;omega
 go_upto_region 4 with (first | (go_at_call 189;(with_reducible refine HC.mono ?_);rintro e w1 ⟨v1,F1,rfl,hr1,hb1,hn1⟩;obtain ⟨f1,fi1,ca1,rfl⟩:=hr1.form;have hg1:g ∉ F1:=(fun hm => by rcases hn1 g hm with h | h;exact HHG.out (by simpa using h);have:=HSZ.out;have:=HZ.out;omega);have HC2:=once54 g K AL A n _ _ F1 w1 ((hb1.block g (by have:=HSZ.out;have:=HZ.out;omega)).trans HOW.out) hr1 hg1 hn;have HBL:=hid hb1;have HN1:=hid hn1;have HG1:=hid hg1;clear hr1 hb1 hn1 hg1 HC) | (go_at_call 78;(with_reducible refine HC2.mono ?_);rintro e w2 ⟨v2,F2,rfl,M2⟩;obtain ⟨f2,fi2,ca2,rfl⟩:=M2.rep.form;have HM2:=hid M2;clear M2 HC2))
 have hc2:Chg W w2 [g] [g]:=(Chg.of_below HBL.out).trans HM2.out.chg
 obtain ⟨y3,y4,y9,yb⟩:=HS0.out w2 hc2
 obtain ⟨q0,q1,q2,q3,q4,q5,q6,q7,q8⟩:=y9
 simp only [Nat.zero_mul,Nat.add_zero] at q0 q1 q2 q3 q4 q5 q6 q7 q8
 have hs1:=HBL.out.size
 have hs2:=HM2.out.chg.size
 have hnew2:∀ k ∈ F2,k ∈ F0 ∨ W.heap.size ≤ k:=fun k hk => by
  rcases HM2.out.new k hk with h | h
  ·rcases HN1.out k h with h | h
   ·exact .inl (by simpa using h)
   ·exact .inr h
  ·right;omega
 have hg2:g ∉ F2:=fun hm => by
  rcases hnew2 g hm with h | h
  ·exact HHG.out h
  ·have:=HSZ.out;have:=HZ.out;omega
 have HC3:=HBB.out w2 _ (n + 1) _ F2 FE (HCH.out.trans hc2) HM2.out.ob HM2.out.rep hg2 HHE.out (fun k hk => by rcases hnew2 k hk with h | h;(left;simp [h]);(right;have:=HSZ.out;have:=HZ.out;omega)) (fun k hk => .inl (by simp [hk])) ((JD b).chg HJ0.out (HCH.out.trans hc2) HHE.out)
 have HC2':=hid hc2
 have HN2:=hid hnew2
 have HG2:=hid hg2
 clear hc2 hnew2 hg2 yb
 have i0:(0:Int) < 1:=by decide
 go_upto_region 5 with (go_at_call 77;(with_reducible refine HC3.mono ?_);rintro e w3 ⟨v3,F3,FE3,n2,W1,rfl,M3,j3,hE3⟩;obtain ⟨f3,fi3,ca3,rfl⟩:=M3.rep.form;have HJ3:=hid j3;have HE3:=hid hE3;clear j3 hE3;have hb3:=(HS0.out w3 (HC2'.out.trans M3.chg)).2.2.2;have z0:w3.cell? ⟨b,0,none⟩ = some .nilFunc:=bx0 hb3;have zf:=Joins.unfrozen_of_block hb3 0;have HB3:=hid hb3;have HM3:=hid M3;clear M3 HC3 hb3)
 obtain ⟨X,hX⟩:∃ X,X = w3.setCell ⟨b,0,none⟩ (.func (.func f3) fi3 ca3):=⟨_,rfl⟩
 rw [← hX]
 have hc3:Chg W w3 [g] [g]:=HC2'.out.trans HM3.out.chg
 have hXb:Bx X b 133 (.func (.func f3) fi3 ca3):=by rw [hX];exact Joins.block_setCell (i:=0) HB3.out _
 have hXo:∀ k,k ≠ b → X.heap[k]? = w3.heap[k]?:=fun k hk => by rw [hX];exact Below.heap_setCell _ _ _ _ hk
 have hXs:X.heap.size = w3.heap.size:=by rw [hX];simp [World.setCell]
 have hcX:Chg w X [g] [g]:=by rw [hX];exact (HCH.out.trans hc3).setNew (a:=⟨b,0,none⟩) _ (by show w.heap.size ≤ b;have:=HB0.out;have:=HZ.out;omega)
 have sb_ne:sb ≠ b:=by have:=HB0.out;have:=HZ.out;omega
 have hz_ne:z ≠ b:=by have:=HB0.out;omega
 have hz_g:z ≠ g:=by have:=HZ.out;omega
 have hSX:∀ w4:World,(∀ k,k < X.heap.size → k ≠ g → w4.heap[k]? = X.heap[k]?) → w4.cell? ⟨z,3,none⟩ = some (.slice (some ⟨sb,o,none⟩) 1 s3) ∧ w4.cell? ⟨z,4,none⟩ = some (.int .i64 (mn:Int)) ∧ w4.cell? ⟨b,0,none⟩ = some (.func (.func f3) fi3 ca3) ∧
   w4.cell? ⟨sb,o,none⟩ = some (.int .i64 km) ∧ w4.cell? ⟨sb,o + 1,none⟩ = some (.slice M.r1 M.r2 M.r3) ∧ w4.cell? ⟨sb,o + 2,none⟩ = some (.int .i64 M.a2) ∧ w4.cell? ⟨sb,o + 3,none⟩ = some (.slice M.s1 M.s2 M.s3) ∧ w4.cell? ⟨sb,o + 4,none⟩ = some (.int .i64 M.a4) ∧ w4.cell? ⟨sb,o + 5,none⟩ = some (.int .i64 M.a5) ∧ w4.cell? ⟨sb,o + 6,none⟩ = some (.bool M.a6) ∧ w4.cell? ⟨sb,o + 7,none⟩ = some (.int .i64 M.a7) ∧ w4.cell? ⟨sb,o + 8,none⟩ = some (.string M.a8):=fun w4 h4 => by
  obtain ⟨t3,t4,t9,_⟩:=HS0.out w3 hc3
  obtain ⟨p0,p1,p2,p3,p4,p5,p6,p7,p8⟩:=t9
  simp only [Nat.zero_mul,Nat.add_zero] at p0 p1 p2 p3 p4 p5 p6 p7 p8
  have hszb:b < X.heap.size:=bx_lt hXb
  have hzb:z < X.heap.size:=by have:=HB0.out;omega
  have hsbx:sb < X.heap.size:=by have:=HZ.out;omega
  have e:∀ k o,k < X.heap.size → k ≠ b → k ≠ g → w4.cell? ⟨k,o,none⟩ = w3.cell? ⟨k,o,none⟩:=fun k o h1 h2 h3 => cell_heap ((h4 k h1 h3).trans (hXo k h2)) o
  exact ⟨(e _ _ hzb hz_ne hz_g).trans t3,(e _ _ hzb hz_ne hz_g).trans t4,bx0 (t:=133) ((h4 b hszb hbz).trans hXb),(e _ _ hsbx sb_ne hsg).trans p0,(e _ _ hsbx sb_ne hsg).trans p1,(e _ _ hsbx sb_ne hsg).trans p2,(e _ _ hsbx sb_ne hsg).trans p3,(e _ _ hsbx sb_ne hsg).trans p4,(e _ _ hsbx sb_ne hsg).trans p5,(e _ _ hsbx sb_ne hsg).trans p6,(e _ _ hsbx sb_ne hsg).trans p7,(e _ _ hsbx sb_ne hsg).trans p8⟩
 have hzz:=HZ.out
 have hbb:=HB0.out
 have hss:=HSZ.out
 have hs3':=HM3.out.chg.size
 have hF3:∀ k ∈ F3,k ∈ FX ++ (F0 ++ FE) ∨ W.heap.size ≤ k:=fun k hk => by
  rcases HM3.out.new k hk with h | h
  ·rcases List.mem_append.1 h with h | h
   ·left;simp [h]
   ·rcases HN2.out k h with h | h
    ·left;simp [h]
    ·exact .inr h
  ·right;omega
 have hEE3:∀ k ∈ FE3,k ∈ FX ++ (F0 ++ FE) ∨ W.heap.size ≤ k:=fun k hk => by
  rcases HE3.out k hk with h | h | h
  ·left;simp [h]
  ·rcases List.mem_append.1 h with h | h
   ·left;simp [h]
   ·rcases HN2.out k h with h | h
    ·left;simp [h]
    ·exact .inr h
  ·right;omega
 have hold:∀ k ∈ FX ++ (F0 ++ FE),k < w.heap.size:=fun k hk => by
  rcases List.mem_append.1 hk with h | h
  ·exact HXL.out k h
  ·rcases List.mem_append.1 h with h | h
   ·exact HLO.out k h
   ·exact HEL.out k h
 have hbF:b ∉ F3:=fun hm => by
  rcases hF3 b hm with h | h
  ·have:=hold b h;omega
  ·omega
 have hbE:b ∉ FE3:=fun hm => by
  rcases hEE3 b hm with h | h
  ·have:=hold b h;omega
  ·omega
 have hgA:g ∉ FX ++ (F0 ++ FE):=by simp;exact ⟨HHX.out,HHG.out,HHE.out⟩
 have hgF3:g ∉ F3:=fun hm => by
  rcases hF3 g hm with h | h
  ·exact hgA h
  ·omega
 have hgE3:g ∉ FE3:=fun hm => by
  rcases hEE3 g hm with h | h
  ·exact hgA h
  ·omega
 have hwb:w.heap.size ≤ b:=by omega
 have hRX:Rep g K AL X (.func (.func f3) fi3 ca3) W1 F3:=HM3.out.rep.kept fun k hk => hXo k (fun e => hbF (e ▸ hk))
 have hJR:(JR b).p n2 W1 (b :: (F3 ++ FE3)) X:=HSET.out b n2 W1 _ F3 FE3 w3 X hwb HJ3.out hbE hXs hXo hXb hRX hbF
 have hOX:O7 X g A n2:=(hXo g (fun e => hbz e.symm)).trans HM3.out.ob
 have hbs:b < X.heap.size:=bx_lt hXb
 have hnewR:∀ k ∈ b :: (F3 ++ FE3),k ∈ FX ++ (F0 ++ FE) ∨ w.heap.size ≤ k:=fun k hk => by
  simp only [List.mem_cons,List.mem_append] at hk
  rcases hk with rfl | hk | hk
  ·right;omega
  ·exact (hF3 k hk).imp_right (fun h => by omega)
  ·exact (hEE3 k hk).imp_right (fun h => by omega)
 have hgR:g ∉ b :: (F3 ++ FE3):=by simp;exact ⟨fun e => hbz e.symm,hgF3,hgE3⟩
 have hF2X:Rep g K AL X (.func (.func f2) fi2 ca2) (Dcd lz n b B) F2:=HM2.out.rep.kept fun k hk => (hXo k (fun e => by
  rcases HN2.out k hk with h | h
  ·have:=HLO.out k h;omega
  ·omega)).trans (HM3.out.chg.block k (HM2.out.rep.low k hk) (by simp;intro e;exact HG2.out (e ▸ hk)))
 have hF2n:∀ k ∈ F2,k ∈ FX ++ (F0 ++ FE) ∨ w.heap.size ≤ k:=fun k hk => by
  rcases HN2.out k hk with h | h
  ·left;simp [h]
  ·right;omega
 have w4:=(hSX X (fun _ _ _ => rfl)).2.1
 have HJR:=hid hJR
 have HF2X:=hid hF2X
 have HF2N:=hid hF2n
 have HNR:=hid hnewR
 have HXB:=hid hXb
 have HXO:=hid hXo
 have HCX:=hid hcX
 have HSX:=hid hSX
 have HX:=hid hX
 have HOX:=hid hOX
 have HRX:=hid hRX
 have HGR:=hid hgR
 have HGF3:=hid hgF3
 have HF3:=hid hF3
 clear hXb hXo hcX hSX hX y3 y4 q0 q1 q2 q3 q4 q5 q6 q7 q8 z0 zf hc3 hJR hF2X hF2n hnewR hOX hRX hgR hgF3 hgE3 hF3 hEE3 hold hgA hzz hbb hss
 by_cases hm0:mn = 0
 ·have m0:((mn:Int) == 0) = true:=by simp;omega
  go_wp2
  go_ret
  have hfin:Mj g K JF w X A n2 (.func (.func f2) fi2 ca2) (Dcd lz n b B) (FX ++ (F0 ++ FE)) F2 (b :: (F3 ++ FE3)):=⟨⟨HF2X.out,HOX.out,HCX.out,HF2N.out⟩,HHZ.out hm0 b n2 W1 _ X hwb HJR.out,HNR.out⟩
  first
   | exact ⟨_,_,_,_,_,rfl,hfin⟩
   | exact ⟨_,rfl,_,_,_,_,hfin⟩
 ·have m0:((mn:Int) == 0) = false:=by simp;omega
  have ad9:IntKind.i64.wrap ((mn:Int) - 1) = ((mn - 1:Nat):Int):=by simp [IntKind.wrap,IntKind.bits,IntKind.signed];omega
  have HT:Calls Tryz.prog 190 #[pt g,.int .i64 (IntKind.i64.wrap ((mn:Int) - 1)),M.v km,.func (.func f3) fi3 ca3] X.drew fun e w' => ∃ v F FE' n' W',e = .returned v ∧ Mj g K (TJ b (mn - 1)) X.drew w' A n' v W' (FX ++ (F3 ++ (b :: (F3 ++ FE3)))) F FE':=by
   rw [ad9]
   refine timesJ98 g K (mn - 1) A M km n2 W1 (TJ b) FX F3 (b :: (F3 ++ FE3)) _ X.drew HOX.out (HRX.out.kept fun _ _ => rfl) ((TJ b 0).drew (HT0.out (by omega) b n2 W1 _ X hwb HJR.out)) HGF3.out HHX.out HGR.out (by omega) (fun i hi => (HTT.out b i hwb hi).widen (HCX.out.trans (Chg.refl X [g]).drew) (fun k hk => ?_))
   rcases List.mem_append.1 hk with h | h
   ·left;simp [h]
   ·rcases List.mem_append.1 h with h | h
    ·exact (HF3.out k h).imp_right (fun h => by have:=HSZ.out;have:=HZ.out;omega)
    ·exact HNR.out k h
  clear ad9
  go_wp2_with fail
  go_region_held2 (fun w4 => w4.cell? ⟨z,3,none⟩ = some (.slice (some ⟨sb,o,none⟩) 1 s3) ∧ w4.cell? ⟨z,4,none⟩ = some (.int .i64 (mn:Int)) ∧ w4.cell? ⟨b,0,none⟩ = some (.func (.func f3) fi3 ca3) ∧
    w4.cell? ⟨sb,o,none⟩ = some (.int .i64 km) ∧ w4.cell? ⟨sb,o + 1,none⟩ = some (.slice M.r1 M.r2 M.r3) ∧ w4.cell? ⟨sb,o + 2,none⟩ = some (.int .i64 M.a2) ∧ w4.cell? ⟨sb,o + 3,none⟩ = some (.slice M.s1 M.s2 M.s3) ∧ w4.cell? ⟨sb,o + 4,none⟩ = some (.int .i64 M.a4) ∧ w4.cell? ⟨sb,o + 5,none⟩ = some (.int .i64 M.a5) ∧ w4.cell? ⟨sb,o + 6,none⟩ = some (.bool M.a6) ∧ w4.cell? ⟨sb,o + 7,none⟩ = some (.int .i64 M.a7) ∧ w4.cell? ⟨sb,o + 8,none⟩ = some (.string M.a8))
   (first | exact HSX.out _ (fun _ _ _ => rfl) | exact HSX.out _ (fun k hk hkg => HM5.out.m.chg.block k hk (by simpa using hkg)))
   (first | (go_at_call 190;(with_reducible refine HT.mono ?_);rintro e w5 ⟨v5,F5,FE5,n5,W5,rfl,M5⟩;obtain ⟨f5,fi5,ca5,rfl⟩:=M5.m.rep.form;have HM5:=hid M5;clear M5 HT))
  all_goals
   go_wp2
   go_ret
   have hzz:=HZ.out
   have hss:=HSZ.out
   have sX:w.heap.size ≤ X.heap.size:=HCX.out.size
   have fX:∀ k ∈ FX ++ (F3 ++ (b :: (F3 ++ FE3))),k ∈ FX ++ (F0 ++ FE) ∨ w.heap.size ≤ k:=fun k hk => by
    rcases List.mem_append.1 hk with h | h
    ·left;simp [h]
    ·rcases List.mem_append.1 h with h | h
     ·exact (HF3.out k h).imp_right (fun h => by omega)
     ·exact HNR.out k h
   have hfin:Mj g K JF w w5 A n5 (.func (.func f5) fi5 ca5) W5 (FX ++ (F0 ++ FE)) F5 FE5:=by
    refine ⟨⟨HM5.out.m.rep,HM5.out.m.ob,HCX.out.trans ((Chg.refl X [g]).drew.trans HM5.out.m.chg),fun k hk => ?_⟩,HTF.out (by omega) b n5 W5 _ w5 hwb HM5.out.j,fun k hk => ?_⟩
    ·rcases HM5.out.m.new k hk with h | h
     ·exact fX k h
     ·right;have h:X.heap.size ≤ k:=h;omega
    ·rcases HM5.out.newE k hk with h | h
     ·exact fX k h
     ·right;have h:X.heap.size ≤ k:=h;omega
   first
    | exact ⟨_,_,_,_,_,rfl,hfin⟩
    | exact ⟨_,rfl,_,_,_,_,hfin⟩
theorem Mj.from {g K:Nat} {J:Jd} {w w1 w':World} {A:Six} {n:Int} {v:Value} {W:Way} {F0 F FE:List Nat} (hc:Chg w w1 [g] [g]) (h:Mj g K J w1 w' A n v W F0 F FE):Mj g K J w w' A n v W F0 F FE:=
 ⟨h.m.from hc,h.j,fun k hk => (h.newE k hk).imp_right fun h => Nat.le_trans hc.size h⟩
set_option maxRecDepth 100000 in
set_option maxHeartbeats 4000000 in
theorem repeatA69 (g K:Nat) (A:Six) (N:Nd) (J:Jd) (FS:List Nat) (f:FuncId) (fi ca:Array Value) (w:World) (h5:N.a5 = -1)
  (HC:Calls Tryz.prog 188 #[pt g,N.v 6,.func (.func f) fi ca] (w.alloc (N.o 6)) fun e w' => ∃ v F FE' n' W',e = .returned v ∧ Mj g K J (w.alloc (N.o 6)) w' A n' v W' FS F FE') :
  Calls Tryz.prog 119 #[pt g,N.v 6,.func (.func f) fi ca] w fun e w' => ∃ v F FE' n' W',e = .returned v ∧ Mj g K J w w' A n' v W' FS F FE':=by
 have hch:Chg w (w.alloc (N.o 6)) [g] [g]:=(Chg.refl w [g]).alloc _
 have HCH:=hid hch
 have m1:(N.a5 == -1) = true:=by simp [h5]
 have m2:decide (N.a5 = -1) = true:=by simp [h5]
 clear h5 hch
 go_enter Tryz.func119,Tryz.ntmps119
 go_wp2_with (go_at_call 188;(with_reducible refine HC.mono ?_);rintro e w1 ⟨v,F,FE',n',W',rfl,hM⟩;obtain ⟨f1,fi1,ca1,rfl⟩:=hM.m.rep.form;have HM:=hid hM;clear hM HC)
 go_ret
 first
  | exact ⟨_,_,_,_,_,rfl,HM.out.from HCH.out⟩
  | exact ⟨_,rfl,_,_,_,_,HM.out.from HCH.out⟩
set_option maxRecDepth 100000 in
set_option maxHeartbeats 4000000 in
theorem beginR53 (g K:Nat) (A:Six) (N:Nd) (J:Jd) (FS:List Nat) (f:FuncId) (fi ca:Array Value) (w:World)
  (HC:Calls Tryz.prog 119 #[pt g,N.v 6,.func (.func f) fi ca] (((w.alloc (.cells #[pt g] 71)).alloc (N.o 6)).alloc (.cells #[.func (.func f) fi ca] 133)) fun e w' => ∃ v F FE' n' W',e = .returned v ∧ Mj g K J (((w.alloc (.cells #[pt g] 71)).alloc (N.o 6)).alloc (.cells #[.func (.func f) fi ca] 133)) w' A n' v W' FS F FE') :
  Calls Tryz.prog 77 #[pt g,N.v 6,.func (.func f) fi ca] w fun e w' => ∃ v F FE' n' W',e = .returned v ∧ Mj g K J w w' A n' v W' FS F FE':=by
 have hch:Chg w (((w.alloc (.cells #[pt g] 71)).alloc (N.o 6)).alloc (.cells #[.func (.func f) fi ca] 133)) [g] [g]:=(((Chg.refl w [g]).alloc _).alloc _).alloc _
 have HCH:=hid hch
 clear hch
 go_enter Tryz.func77,Tryz.ntmps77
 go_wp2_with (go_at_call 119;(with_reducible refine HC.mono ?_);rintro e w1 ⟨v,F,FE',n',W',rfl,hM⟩;obtain ⟨f1,fi1,ca1,rfl⟩:=hM.m.rep.form;have HM:=hid hM;clear hM HC)
 go_ret
 first
  | exact ⟨_,_,_,_,_,rfl,HM.out.from HCH.out⟩
  | exact ⟨_,rfl,_,_,_,_,HM.out.from HCH.out⟩
end Go.Proofs.YtacaanhnlfpbhaaGreat
