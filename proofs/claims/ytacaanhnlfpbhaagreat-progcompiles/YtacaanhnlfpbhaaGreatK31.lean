/- HELPERS: texts of ours put together. -/
import Derived.Test.YtacaanhnlfpbhaaGreatK28
import Derived.Test.YtacaanhnlfpbhaaGreatK30
namespace Go.Proofs.YtacaanhnlfpbhaaGreat
open Go.RowKit
set_option linter.unusedVariables false
set_option linter.unusedSimpArgs false
abbrev FPost (B:Nat) (w:World) (s:Tn):Ending→World→Prop:=fun e w'=>∃ M,e=.returned (Nv.v M)∧TP w' (New (fun b=>b < B) w w') M s∧Below w.heap.size w w'
theorem SL_get {ts:List Tn} {i:Nat} (hi:i < (SL ts).length):(SL ts)[i]=(ts[i]'(by simpa [SL_map] using hi)).S:=by simp [SL_map]
set_option maxRecDepth 100000 in
set_option maxHeartbeats 16000000 in
theorem form51_leaf {w0 w:World} {B:Nat} {k a2 a4 a5 a7:Int} {a6:Bool} {a8:ByteArray} {r1 s1:Option Addr} {r2 r3 s2 s3:Nat} {R:List (Int × Int)} {ts:List Tn} {ND:Nat→Nv} (hB:B≤w.heap.size) (hw:∀ b,b < B→w.heap[b]?=w0.heap[b]?) (ok:Nv.ok ⟨k,r1,r2,r3,a2,s1,s2,s3,a4,a5,a6,a7,a8⟩) (hn:nodeB k R a2 ts.length a4 a5 a6 a7 a8=true) (hfL:fineL ts=true) (hs:s2=ts.length) (hr:r2=R.length) (hR:R2 w0 B r1 R) (hRk:∀ x ∈ R,I64ok x.1∧I64ok x.2)
  (hS:0 < ts.length→∃ b o,s1=some ⟨b,o,none⟩∧b < B∧∀ i,i < ts.length→N9 w0 b o i (ND i)) (hk:∀ i (hi:i < ts.length),TI w0 B (ND i) ts[i])
  (IH:∀ i (hi:i < ts.length),ts[i].S.nodes≤200000→∀ w1:World,B≤w1.heap.size→(∀ b,b < B→w1.heap[b]?=w0.heap[b]?)→Calls Tryz.prog 97 #[(ND i).v] w1 (FPost B w1 ts[i].S)) (hbig:(Tn.mk k R a2 ts a4 a5 a6 a7 a8).S.nodes≤200000) (hlen:ts.length≤200000) (k4:k≠4) (k5:k≠5) (k6:k≠6) (k7:k≠7) :
  Calls Tryz.prog 97 #[Nv.v ⟨k,r1,r2,r3,a2,s1,s2,s3,a4,a5,a6,a7,a8⟩] w (FPost B w (Tn.mk k R a2 ts a4 a5 a6 a7 a8).S):=by
 have hfk:=fine_kind hn
 have hNf:∀ i (hi:i < ts.length),Nf (ts[i]).S:=fun i hi=>nf_S _ (fineL_get hfL i hi)
 obtain ⟨W,hW⟩:∃ W,W=(w.alloc (.cells #[.int .i64 k,.slice r1 r2 r3,.int .i64 a2,.slice s1 s2 s3,.int .i64 a4,.int .i64 a5,.bool a6,.int .i64 a7,.string a8] 25)).alloc (.cells #[.int .i64 0,.slice none 0 0,.int .i64 0,.slice none 0 0,.int .i64 0,.int .i64 0,.bool false,.int .i64 0,.string ⟨#[]⟩] 25):=⟨_,rfl⟩
 have hBW:Below w.heap.size w W:=by rw [hW];exact below_two' w _ _
 have hSW:W.heap.size=w.heap.size + 1 + 1:=by rw [hW];simp
 have hBN:BN W w.heap.size ⟨k,r1,r2,r3,a2,s1,s2,s3,a4,a5,a6,a7,a8⟩:=by rw [hW];exact (heap_alloc_old _ _ (by simp)).trans (heap_alloc_new w _)
 have hZW:BN W (w.heap.size + 1) default:=by rw [hW];exact two_new w _ _ _
 obtain ⟨z,hz⟩:∃ z,z=w.heap.size:=⟨_,rfl⟩
 rw [← hz] at hBN hSW hZW hB
 have hwW:∀ b,b < B→W.heap[b]?=w0.heap[b]?:=fun b hb=>(hBW.block b (by omega)).trans (hw b hb)
 obtain ⟨q0,q1,q2,q3,q4,q5,q6,q7,q8⟩:=nine' hBN
 have HBN:=hid hBN
 have HBW:=hid hBW
 have HSW:=hid hSW
 have HZW:=hid hZW
 have HZ:=hid hz
 have HWW:=hid hwW
 have HNF:=hid hNf
 have HN:=hid hn
 have HL:=hid hs
 have HFK:=hid hfk
 have HOK:=hid ok
 have HRR:=hid hr
 have HR:=hid hR
 have HRK:=hid hRk
 have HS:=hid hS
 have HTK:=hid hk
 have HIH:=hid IH
 have HBIG:=hid hbig
 have HLEN:=hid hlen
 have HW0:=hid hw
 clear hw hBN hBW hSW hZW hwW hNf hn hs hfk ok hr hR hRk hS hk IH hbig hlen hfL
 have g4:(k == 4)=false:=by simp [k4]
 have g5:(k == 5)=false:=by simp [k5]
 have g6:(k == 6)=false:=by simp [k6]
 have g7:(k == 7)=false:=by simp [k7]
 have hts:ts=[]:=List.length_eq_zero_iff.1 (by have:=HFK.out;omega)
 have hSS:(Tn.mk k R a2 ts a4 a5 a6 a7 a8).S=.mk k R a2 [] a4 a5 a6 a7 a8:=by simp [Tn.S,k4,k5,k6,k7]
 rw [hSS]
 have bZ:=HZW.out
 obtain ⟨p0,p1,p2,p3,p4,p5,p6,p7,p8⟩:=nine' bZ
 have f0:=Joins.unfrozen_of_block bZ 0
 have f1:=Joins.unfrozen_of_block bZ 1
 have f2:=Joins.unfrozen_of_block bZ 2
 have f3:=Joins.unfrozen_of_block bZ 3
 have f4:=Joins.unfrozen_of_block bZ 4
 have f5:=Joins.unfrozen_of_block bZ 5
 have f6:=Joins.unfrozen_of_block bZ 6
 have f7:=Joins.unfrozen_of_block bZ 7
 have f8:=Joins.unfrozen_of_block bZ 8
 clear hSS bZ
 go_enter Tryz.func97,Tryz.ntmps97
 go_upto_region 1 with fail
 rw [← hz,← hW]
 clear hW hz
 go_wp2
 all_goals
  have hz:=HZ.out
  have hT:TP W (fun b=>b < B) ⟨k,r1,r2,r3,a2,s1,s2,s3,a4,a5,a6,a7,a8⟩ (.mk k R a2 [] a4 a5 a6 a7 a8):=TP.mk (N:=⟨k,r1,r2,r3,a2,s1,s2,s3,a4,a5,a6,a7,a8⟩) (ts:=[]) (ND:=fun _=>default) HOK.out HRR.out (HR.out.rp.kept (fun b hb=>HWW.out b hb) fun b hb=>hb) HRK.out (by have:=HL.out;rw [hts] at this;exact this) (fun h=>by simp at h) (fun i hi=>by simp at hi)
  obtain ⟨y1,y2,y3⟩:=box_end (A:=fun b=>b < B) (w:=w) (z:=z + 1) (by omega) (fun b hb=>by omega) HZW.out HBW.out hT (fun b h=>.inl h)
  exact bodyPost_ret (results_cell_row rfl _ _ (z + 1) 25 _ (0,0) _ rfl y1 Tryz.underlying25 rfl (by kernel_rfl)) rfl ⟨_,rfl,y2,y3⟩
set_option maxRecDepth 100000 in
set_option maxHeartbeats 16000000 in
theorem form51_grp {w0 w:World} {B:Nat} {a2 a4 a5 a7:Int} {a6:Bool} {a8:ByteArray} {r1 s1:Option Addr} {r2 r3 s2 s3:Nat} {R:List (Int × Int)} {ts:List Tn} {ND:Nat→Nv} (hB:B≤w.heap.size) (hw:∀ b,b < B→w.heap[b]?=w0.heap[b]?) (ok:Nv.ok ⟨7,r1,r2,r3,a2,s1,s2,s3,a4,a5,a6,a7,a8⟩) (hn:nodeB 7 R a2 ts.length a4 a5 a6 a7 a8=true) (hfL:fineL ts=true) (hs:s2=ts.length) (hr:r2=R.length) (hR:R2 w0 B r1 R) (hRk:∀ x ∈ R,I64ok x.1∧I64ok x.2)
  (hS:0 < ts.length→∃ b o,s1=some ⟨b,o,none⟩∧b < B∧∀ i,i < ts.length→N9 w0 b o i (ND i)) (hk:∀ i (hi:i < ts.length),TI w0 B (ND i) ts[i])
  (IH:∀ i (hi:i < ts.length),ts[i].S.nodes≤200000→∀ w1:World,B≤w1.heap.size→(∀ b,b < B→w1.heap[b]?=w0.heap[b]?)→Calls Tryz.prog 97 #[(ND i).v] w1 (FPost B w1 ts[i].S)) (hbig:(Tn.mk 7 R a2 ts a4 a5 a6 a7 a8).S.nodes≤200000) (hlen:ts.length≤200000) :
  Calls Tryz.prog 97 #[Nv.v ⟨7,r1,r2,r3,a2,s1,s2,s3,a4,a5,a6,a7,a8⟩] w (FPost B w (Tn.mk 7 R a2 ts a4 a5 a6 a7 a8).S):=by
 have hfk:=fine_kind hn
 have hNf:∀ i (hi:i < ts.length),Nf (ts[i]).S:=fun i hi=>nf_S _ (fineL_get hfL i hi)
 obtain ⟨W,hW⟩:∃ W,W=(w.alloc (.cells #[.int .i64 7,.slice r1 r2 r3,.int .i64 a2,.slice s1 s2 s3,.int .i64 a4,.int .i64 a5,.bool a6,.int .i64 a7,.string a8] 25)).alloc (.cells #[.int .i64 0,.slice none 0 0,.int .i64 0,.slice none 0 0,.int .i64 0,.int .i64 0,.bool false,.int .i64 0,.string ⟨#[]⟩] 25):=⟨_,rfl⟩
 have hBW:Below w.heap.size w W:=by rw [hW];exact below_two' w _ _
 have hSW:W.heap.size=w.heap.size + 1 + 1:=by rw [hW];simp
 have hBN:BN W w.heap.size ⟨7,r1,r2,r3,a2,s1,s2,s3,a4,a5,a6,a7,a8⟩:=by rw [hW];exact (heap_alloc_old _ _ (by simp)).trans (heap_alloc_new w _)
 have hZW:BN W (w.heap.size + 1) default:=by rw [hW];exact two_new w _ _ _
 obtain ⟨z,hz⟩:∃ z,z=w.heap.size:=⟨_,rfl⟩
 rw [← hz] at hBN hSW hZW hB
 have hwW:∀ b,b < B→W.heap[b]?=w0.heap[b]?:=fun b hb=>(hBW.block b (by omega)).trans (hw b hb)
 obtain ⟨q0,q1,q2,q3,q4,q5,q6,q7,q8⟩:=nine' hBN
 have HBN:=hid hBN
 have HBW:=hid hBW
 have HSW:=hid hSW
 have HZW:=hid hZW
 have HZ:=hid hz
 have HWW:=hid hwW
 have HNF:=hid hNf
 have HN:=hid hn
 have HL:=hid hs
 have HFK:=hid hfk
 have HOK:=hid ok
 have HRR:=hid hr
 have HR:=hid hR
 have HRK:=hid hRk
 have HS:=hid hS
 have HTK:=hid hk
 have HIH:=hid IH
 have HBIG:=hid hbig
 have HLEN:=hid hlen
 have HW0:=hid hw
 clear hw hBN hBW hSW hZW hwW hNf hn hs hfk ok hr hR hRk hS hk IH hbig hlen hfL
 have hlt:0 < ts.length:=by have:=HFK.out;omega
 have hl1:s2=1:=by have:=HFK.out;have:=HL.out;omega
 obtain ⟨b,o,hs1,hbl,h9⟩:=HS.out hlt
 subst hs1 hl1
 have hSS:(Tn.mk 7 R a2 ts a4 a5 a6 a7 a8).S=.mk 7 [] 0 [(ts[0]'hlt).S] 0 0 false a7 a8:=by simp only [Tn.S];rw [if_neg (by decide),if_neg (by decide),if_neg (by decide),if_pos trivial,SL_head hlt]
 have hb:=HBIG.out
 rw [hSS] at hb ⊢
 have hbs:(ts[0]'hlt).S.nodes≤200000:=by simp only [Tn.nodes,nodesL] at hb;omega
 have hbare:R=[]∧a2=0∧a4=0∧a5=0∧a6=false:=by
  have h:=HN.out
  simp [nodeB,bareB] at h
  exact ⟨h.2.1.1,h.2.1.2,h.2.2.1.1,h.2.2.1.2,h.2.2.2⟩
 obtain ⟨rfl,rfl,rfl,rfl,rfl⟩:=hbare
 have hM:=h9 0 hlt
 obtain ⟨M,hMe⟩:∃ M,M=ND 0:=⟨_,rfl⟩
 have HC:=HIH.out 0 hlt hbs W (by have:=HSW.out;omega) HWW.out
 rw [← hMe] at hM HC
 obtain ⟨n0,n1,n2,n3,n4,n5,n6,n7,n8⟩:=hM.kept (HWW.out b hbl)
 simp only [Nat.zero_mul,Nat.add_zero] at n0 n1 n2 n3 n4 n5 n6 n7 n8
 obtain ⟨S,hSe⟩:∃ S,S=(ts[0]'hlt).S:=⟨_,rfl⟩
 rw [← hSe] at HC ⊢
 clear hSS hb hbs h9 hMe hM hSe
 go_enter Tryz.func97,Tryz.ntmps97
 go_upto_region 1 with fail
 rw [← hz,← hW]
 clear hW hz
 go_upto_region 4 with (first | (go_at_call 97;(with_reducible refine HC.mono ?_);rintro e w1 ⟨Y,rfl,hY,hb1⟩;have HTY:=hid hY;have HB1:=hid hb1;clear hY hb1 HC))
 clear n0 n1 n2 n3 n4 n5 n6 n7 n8 q0 q1 q2 q3 q4 q5 q6 q7 q8
 have hs1:=HB1.out.size
 have hsw:=HSW.out
 obtain ⟨V,hV⟩:∃ V,V=(w1.alloc (.cells #[.int .i64 Y.k,.slice Y.r1 Y.r2 Y.r3,.int .i64 Y.a2,.slice Y.s1 Y.s2 Y.s3,.int .i64 Y.a4,.int .i64 Y.a5,.bool Y.a6,.int .i64 Y.a7,.string Y.a8] 25)).alloc (.cells #[.int .i64 Y.k,.slice Y.r1 Y.r2 Y.r3,.int .i64 Y.a2,.slice Y.s1 Y.s2 Y.s3,.int .i64 Y.a4,.int .i64 Y.a5,.bool Y.a6,.int .i64 Y.a7,.string Y.a8] 25):=⟨_,rfl⟩
 obtain ⟨V0,hV0⟩:∃ V0,V0=w1.alloc (.cells #[.int .i64 Y.k,.slice Y.r1 Y.r2 Y.r3,.int .i64 Y.a2,.slice Y.s1 Y.s2 Y.s3,.int .i64 Y.a4,.int .i64 Y.a5,.bool Y.a6,.int .i64 Y.a7,.string Y.a8] 25):=⟨_,rfl⟩
 rw [← hV0] at hV ⊢
 have hV0s:V0.heap.size=w1.heap.size + 1:=by rw [hV0];simp
 have hV0b:Below w1.heap.size w1 V0:=by rw [hV0];exact Joins.below_alloc1 w1 _
 have hV0Y:BN V0 w1.heap.size Y:=by rw [hV0];exact heap_alloc_new w1 _
 have hVb:Below V0.heap.size V0 V:=by rw [hV];exact Joins.below_alloc1 V0 _
 have hVs:V.heap.size=V0.heap.size + 1:=by rw [hV];simp
 have hVY:BN V V0.heap.size Y:=by rw [hV];exact heap_alloc_new V0 _
 have hWV0:Below W.heap.size W V0:=HB1.out.trans (Joins.below_le hV0b hs1)
 have h0N:=(hWV0.block z (by omega)).trans HBN.out
 have h0Z:=(hWV0.block (z + 1) (by omega)).trans HZW.out
 have hVN:=(hVb.block z (by omega)).trans h0N
 have hVZ:=(hVb.block (z + 1) (by omega)).trans h0Z
 obtain ⟨y0,y1,y2,y3,y4,y5,y6,y7,y8⟩:=nine' hV0Y
 obtain ⟨q0,q1,q2,q3,q4,q5,q6,q7,q8⟩:=nine' h0N
 have e3:=Joins.unfrozen_of_block hVN 3
 have e4:V.cell? ⟨z,3,none⟩=some (.slice (some ⟨b,o,none⟩) 1 s3):=Joins.cell_of_block hVN 3
 rw [hV] at e3 e4
 obtain ⟨zy,hzy⟩:∃ zy,zy=w1.heap.size:=⟨_,rfl⟩
 rw [← hzy] at y0 y1 y2 y3 y4 y5 y6 y7 y8 hV0s ⊢
 have HV0S:=hid hV0s
 have HVS:=hid hVs
 have HVY:=hid hVY
 have HVN:=hid hVN
 have HVZ:=hid hVZ
 have HZY:=hid hzy
 have HWV:=hid (hWV0.trans (Joins.below_le hVb hWV0.size))
 have HTV:Hid (TP V (New (fun b=>b < B) W w1) Y S):=HTY.out.kept (fun b hb=>by
  have:b < w1.heap.size:=by rcases hb with h | h <;> omega
  exact (hVb.block b (by omega)).trans (hV0b.block b this)) fun b hb=>hb
 have hzz:z + 1 < zy:=by omega
 clear hV0 hV0b hV0Y hVb hVs hVY hWV0 h0N h0Z hVN hVZ hzy HTY
 go_upto_region 5 with fail
 rw [← hV]
 clear hV q0 q1 q2 q3 q4 q5 q6 q7 q8 y0 y1 y2 y3 y4 y5 y6 y7 y8 e3 e4
 obtain ⟨X,hX⟩:∃ X,X=V.setCell ⟨z,3,none⟩ (.slice (some ⟨zy + 1,0,none⟩) 1 1):=⟨_,rfl⟩
 rw [← hX]
 have hXo:∀ j,j≠z→X.heap[j]?=V.heap[j]?:=fun j hj=>by rw [hX];exact Below.heap_setCell _ _ _ _ hj
 have hXs:X.heap.size=V.heap.size:=by rw [hX];simp [World.setCell]
 have hXN:BN X z ⟨7,r1,r2,r3,0,some ⟨zy + 1,0,none⟩,1,1,0,0,false,a7,a8⟩:=by rw [hX];exact Joins.block_setCell (i:=3) HVN.out _
 have hXb:Below w.heap.size w X:=by rw [hX];exact (HBW.out.trans (Joins.below_le HWV.out HBW.out.size)).setCell (by have:=HZ.out;show _≤z;omega) _
 have hXZ:=(hXo (z + 1) (by omega)).trans HVZ.out
 have hm1:(1:Nat)≤maxLen:=by unfold maxLen;omega
 have hXT:TP X (fun b=>b < B∨z + 1 < b∧b < X.heap.size) ⟨7,r1,r2,r3,0,some ⟨zy + 1,0,none⟩,1,1,0,0,false,a7,a8⟩ (.mk 7 [] 0 [S] 0 0 false a7 a8):=by
  have hvs:=HVS.out
  have hzy:=HZY.out
  refine TP.mk (N:=⟨7,r1,r2,r3,0,some ⟨zy + 1,0,none⟩,1,1,0,0,false,a7,a8⟩) (R:=[]) (ts:=[S]) (ND:=fun _=>Y) ⟨HOK.out.k,HOK.out.a2,HOK.out.a4,HOK.out.a5,HOK.out.a7,HOK.out.a8,HOK.out.r,⟨Nat.le_refl _,hm1⟩⟩ HRR.out (fun h=>absurd rfl h) (by simp) rfl (fun _=>⟨zy + 1,0,rfl,.inr ⟨by omega,by omega⟩,fun i hi=>?_⟩) (fun i hi=>?_)
  ·have e:i=0:=by simpa using hi
   subst e
   have hb:=HVY.out
   rw [HV0S.out] at hb
   obtain ⟨c0,c1,c2,c3,c4,c5,c6,c7,c8⟩:=nine' ((hXo (zy + 1) (by omega)).trans hb)
   exact ⟨c0,c1,c2,c3,c4,c5,c6,c7,c8⟩
  ·have e:i=0:=by simpa using hi
   subst e
   exact HTV.out.kept (fun b hb=>hXo b (by rcases hb with h | h <;> omega)) fun b hb=>by
    rcases hb with h | h
    ·exact .inl h
    ·exact .inr ⟨by omega,by omega⟩
 obtain ⟨q0,q1,q2,q3,q4,q5,q6,q7,q8⟩:=nine' hXN
 obtain ⟨p0,p1,p2,p3,p4,p5,p6,p7,p8⟩:=nine' hXZ
 have f0:=Joins.unfrozen_of_block hXZ 0
 have f1:=Joins.unfrozen_of_block hXZ 1
 have f2:=Joins.unfrozen_of_block hXZ 2
 have f3:=Joins.unfrozen_of_block hXZ 3
 have f4:=Joins.unfrozen_of_block hXZ 4
 have f5:=Joins.unfrozen_of_block hXZ 5
 have f6:=Joins.unfrozen_of_block hXZ 6
 have f7:=Joins.unfrozen_of_block hXZ 7
 have f8:=Joins.unfrozen_of_block hXZ 8
 have HXZ:=hid hXZ
 have HXB:=hid hXb
 have HXT:=hid hXT
 clear hX hXo hXs hXN hXb hXZ hXT
 go_wp2
 all_goals
  have hz:=HZ.out
  obtain ⟨y1,y2,y3⟩:=box_end (A:=fun b=>b < B) (w:=w) (z:=z + 1) (by omega) (fun b hb=>by omega) HXZ.out HXB.out HXT.out (fun b h=>by rcases h with h | h;exact .inl h;exact .inr ⟨by omega,by omega,h.2⟩)
  exact bodyPost_ret (results_cell_row rfl _ _ (z + 1) 25 _ (0,0) _ rfl y1 Tryz.underlying25 rfl (by kernel_rfl)) rfl ⟨_,rfl,y2,y3⟩
set_option maxRecDepth 100000 in
set_option maxHeartbeats 16000000 in
theorem form51_rep {w0 w:World} {B:Nat} {a2 a4 a5 a7:Int} {a6:Bool} {a8:ByteArray} {r1 s1:Option Addr} {r2 r3 s2 s3:Nat} {R:List (Int × Int)} {ts:List Tn} {ND:Nat→Nv} (hB:B≤w.heap.size) (hw:∀ b,b < B→w.heap[b]?=w0.heap[b]?) (ok:Nv.ok ⟨6,r1,r2,r3,a2,s1,s2,s3,a4,a5,a6,a7,a8⟩) (hn:nodeB 6 R a2 ts.length a4 a5 a6 a7 a8=true) (hfL:fineL ts=true) (hs:s2=ts.length) (hr:r2=R.length) (hR:R2 w0 B r1 R) (hRk:∀ x ∈ R,I64ok x.1∧I64ok x.2)
  (hS:0 < ts.length→∃ b o,s1=some ⟨b,o,none⟩∧b < B∧∀ i,i < ts.length→N9 w0 b o i (ND i)) (hk:∀ i (hi:i < ts.length),TI w0 B (ND i) ts[i])
  (IH:∀ i (hi:i < ts.length),ts[i].S.nodes≤200000→∀ w1:World,B≤w1.heap.size→(∀ b,b < B→w1.heap[b]?=w0.heap[b]?)→Calls Tryz.prog 97 #[(ND i).v] w1 (FPost B w1 ts[i].S)) (hbig:(Tn.mk 6 R a2 ts a4 a5 a6 a7 a8).S.nodes≤200000) (hlen:ts.length≤200000) :
  Calls Tryz.prog 97 #[Nv.v ⟨6,r1,r2,r3,a2,s1,s2,s3,a4,a5,a6,a7,a8⟩] w (FPost B w (Tn.mk 6 R a2 ts a4 a5 a6 a7 a8).S):=by
 have hfk:=fine_kind hn
 have hNf:∀ i (hi:i < ts.length),Nf (ts[i]).S:=fun i hi=>nf_S _ (fineL_get hfL i hi)
 obtain ⟨W,hW⟩:∃ W,W=(w.alloc (.cells #[.int .i64 6,.slice r1 r2 r3,.int .i64 a2,.slice s1 s2 s3,.int .i64 a4,.int .i64 a5,.bool a6,.int .i64 a7,.string a8] 25)).alloc (.cells #[.int .i64 0,.slice none 0 0,.int .i64 0,.slice none 0 0,.int .i64 0,.int .i64 0,.bool false,.int .i64 0,.string ⟨#[]⟩] 25):=⟨_,rfl⟩
 have hBW:Below w.heap.size w W:=by rw [hW];exact below_two' w _ _
 have hSW:W.heap.size=w.heap.size + 1 + 1:=by rw [hW];simp
 have hBN:BN W w.heap.size ⟨6,r1,r2,r3,a2,s1,s2,s3,a4,a5,a6,a7,a8⟩:=by rw [hW];exact (heap_alloc_old _ _ (by simp)).trans (heap_alloc_new w _)
 have hZW:BN W (w.heap.size + 1) default:=by rw [hW];exact two_new w _ _ _
 obtain ⟨z,hz⟩:∃ z,z=w.heap.size:=⟨_,rfl⟩
 rw [← hz] at hBN hSW hZW hB
 have hwW:∀ b,b < B→W.heap[b]?=w0.heap[b]?:=fun b hb=>(hBW.block b (by omega)).trans (hw b hb)
 obtain ⟨q0,q1,q2,q3,q4,q5,q6,q7,q8⟩:=nine' hBN
 have HBN:=hid hBN
 have HBW:=hid hBW
 have HSW:=hid hSW
 have HZW:=hid hZW
 have HZ:=hid hz
 have HWW:=hid hwW
 have HNF:=hid hNf
 have HN:=hid hn
 have HL:=hid hs
 have HFK:=hid hfk
 have HOK:=hid ok
 have HRR:=hid hr
 have HR:=hid hR
 have HRK:=hid hRk
 have HS:=hid hS
 have HTK:=hid hk
 have HIH:=hid IH
 have HBIG:=hid hbig
 have HLEN:=hid hlen
 have HW0:=hid hw
 clear hw hBN hBW hSW hZW hwW hNf hn hs hfk ok hr hR hRk hS hk IH hbig hlen hfL
 have hlt:0 < ts.length:=by have:=HFK.out;omega
 have hl1:s2=1:=by have:=HFK.out;have:=HL.out;omega
 obtain ⟨b,o,hs1,hbl,h9⟩:=HS.out hlt
 subst hs1 hl1
 have hSS:(Tn.mk 6 R a2 ts a4 a5 a6 a7 a8).S=repT (ts[0]'hlt).S a4 a5 a6:=by simp only [Tn.S];rw [if_neg (by decide),if_neg (by decide),if_pos trivial,SL_head hlt]
 have hb:=HBIG.out
 rw [hSS] at hb ⊢
 have hF6:0≤a4∧a4≤1000∧(a5=-1∨a4≤a5∧a5≤1000):=by have:=HFK.out;omega
 have hy:=HNF.out 0 hlt
 have hM:=(h9 0 hlt).kept (HWW.out b hbl)
 have hs3:1≤s3:=HOK.out.s.1
 have hsw:=HSW.out
 have HF:a5≠0→∀ w1,Below W.heap.size W w1→Calls Tryz.prog 97 #[(ND 0).v] w1 (FPost B w1 (ts[0]'hlt).S):=fun h0 w1 hb1=>HIH.out 0 hlt (Nat.le_trans (rep_mem hy a6 h0 hF6.1 (by omega)) hb) w1 (by have:=hb1.size;omega) (fun c hc=>(hb1.block c (by omega)).trans (HWW.out c hc))
 obtain ⟨y,hye⟩:∃ y,y=(ts[0]'hlt).S:=⟨_,rfl⟩
 rw [← hye] at HF hy hb ⊢
 have hA:∀ b,b < B→b < W.heap.size:=fun b hb=>by omega
 have HC:Calls Tryz.prog 145 #[Nv.v ⟨6,r1,r2,r3,a2,some ⟨b,o,none⟩,1,s3,a4,a5,a6,a7,a8⟩] W (FPost B W (repT y a4 a5 a6)):=by
  obtain ⟨p,rfl⟩:∃ p:Nat,a4=(p:Int):=⟨a4.toNat,by omega⟩
  by_cases h0:a5=0
  ·subst h0
   have hp:p=0:=by omega
   subst hp
   exact unfold75_zero (A:=fun b=>b < B) hA
  ·by_cases h1:a5=-1
   ·subst h1
    exact unfold75_inf (A:=fun b=>b < B) hA hbl hM hs3 hy (by omega) (HF h0) hb
   ·obtain ⟨q,hq⟩:∃ q:Nat,a5=((p + q:Nat):Int):=⟨(a5 - p).toNat,by omega⟩
    have hb':=hb
    rw [hq] at hb'
    have:=unfold75_fin (A:=fun b=>b < B) (k:=6) (r1:=r1) (r2:=r2) (r3:=r3) (a2:=a2) (a7:=a7) (a8:=a8) (lz:=a6) (p:=p) (q:=q) (mx:=a5) hA hbl hM hs3 hy (by omega) hq (by omega) (by omega) (HF h0) hb'
    rw [← hq] at this
    exact this
 clear hSS hb h9 hM hy HF hye hA hs3
 go_enter Tryz.func97,Tryz.ntmps97
 go_upto_region 1 with fail
 rw [← hz,← hW]
 clear hW hz
 go_wp2_with (first | (go_at_call 145;(with_reducible refine HC.mono ?_);rintro e w4 ⟨J,rfl,hJ,hb4⟩;have b4Z:=(hb4.block (z + 1) (by omega)).trans HZW.out;have HJ:=hid hJ;have HB4:=hid hb4;have HB4Z:=hid b4Z;obtain ⟨p0,p1,p2,p3,p4,p5,p6,p7,p8⟩:=nine' b4Z;have f0:=Joins.unfrozen_of_block b4Z 0;have f1:=Joins.unfrozen_of_block b4Z 1;have f2:=Joins.unfrozen_of_block b4Z 2;have f3:=Joins.unfrozen_of_block b4Z 3;have f4:=Joins.unfrozen_of_block b4Z 4;have f5:=Joins.unfrozen_of_block b4Z 5;have f6:=Joins.unfrozen_of_block b4Z 6;have f7:=Joins.unfrozen_of_block b4Z 7;have f8:=Joins.unfrozen_of_block b4Z 8;clear hJ hb4 b4Z HC))
 all_goals
  have hz':=HZ.out
  have hsw:=HSW.out
  obtain ⟨y1,y2,y3⟩:=box_end (A:=fun b=>b < B) (w:=w) (z:=z + 1) (by omega) (fun b hb=>by omega) HB4Z.out (HBW.out.trans (Joins.below_le HB4.out HBW.out.size)) HJ.out (fun b h=>by have:=HB4.out.size;rcases h with h1 | h1;exact .inl h1;exact .inr ⟨by omega,by omega,by omega⟩)
  exact bodyPost_ret (results_cell_row rfl _ _ (z + 1) 25 _ (0,0) _ rfl y1 Tryz.underlying25 rfl (by kernel_rfl)) rfl ⟨_,rfl,y2,y3⟩
set_option maxRecDepth 100000 in
set_option maxHeartbeats 16000000 in
theorem form51_cat {w0 w:World} {B:Nat} {a2 a4 a5 a7:Int} {a6:Bool} {a8:ByteArray} {r1 s1:Option Addr} {r2 r3 s2 s3:Nat} {R:List (Int × Int)} {ts:List Tn} {ND:Nat→Nv} (hB:B≤w.heap.size) (hw:∀ b,b < B→w.heap[b]?=w0.heap[b]?) (ok:Nv.ok ⟨4,r1,r2,r3,a2,s1,s2,s3,a4,a5,a6,a7,a8⟩) (hn:nodeB 4 R a2 ts.length a4 a5 a6 a7 a8=true) (hfL:fineL ts=true) (hs:s2=ts.length) (hr:r2=R.length) (hR:R2 w0 B r1 R) (hRk:∀ x ∈ R,I64ok x.1∧I64ok x.2)
  (hS:0 < ts.length→∃ b o,s1=some ⟨b,o,none⟩∧b < B∧∀ i,i < ts.length→N9 w0 b o i (ND i)) (hk:∀ i (hi:i < ts.length),TI w0 B (ND i) ts[i])
  (IH:∀ i (hi:i < ts.length),ts[i].S.nodes≤200000→∀ w1:World,B≤w1.heap.size→(∀ b,b < B→w1.heap[b]?=w0.heap[b]?)→Calls Tryz.prog 97 #[(ND i).v] w1 (FPost B w1 ts[i].S)) (hbig:(Tn.mk 4 R a2 ts a4 a5 a6 a7 a8).S.nodes≤200000) (hlen:ts.length≤200000) :
  Calls Tryz.prog 97 #[Nv.v ⟨4,r1,r2,r3,a2,s1,s2,s3,a4,a5,a6,a7,a8⟩] w (FPost B w (Tn.mk 4 R a2 ts a4 a5 a6 a7 a8).S):=by
 have hfk:=fine_kind hn
 have hNf:∀ i (hi:i < ts.length),Nf (ts[i]).S:=fun i hi=>nf_S _ (fineL_get hfL i hi)
 obtain ⟨W,hW⟩:∃ W,W=(w.alloc (.cells #[.int .i64 4,.slice r1 r2 r3,.int .i64 a2,.slice s1 s2 s3,.int .i64 a4,.int .i64 a5,.bool a6,.int .i64 a7,.string a8] 25)).alloc (.cells #[.int .i64 0,.slice none 0 0,.int .i64 0,.slice none 0 0,.int .i64 0,.int .i64 0,.bool false,.int .i64 0,.string ⟨#[]⟩] 25):=⟨_,rfl⟩
 have hBW:Below w.heap.size w W:=by rw [hW];exact below_two' w _ _
 have hSW:W.heap.size=w.heap.size + 1 + 1:=by rw [hW];simp
 have hBN:BN W w.heap.size ⟨4,r1,r2,r3,a2,s1,s2,s3,a4,a5,a6,a7,a8⟩:=by rw [hW];exact (heap_alloc_old _ _ (by simp)).trans (heap_alloc_new w _)
 have hZW:BN W (w.heap.size + 1) default:=by rw [hW];exact two_new w _ _ _
 obtain ⟨z,hz⟩:∃ z,z=w.heap.size:=⟨_,rfl⟩
 rw [← hz] at hBN hSW hZW hB
 have hwW:∀ b,b < B→W.heap[b]?=w0.heap[b]?:=fun b hb=>(hBW.block b (by omega)).trans (hw b hb)
 obtain ⟨q0,q1,q2,q3,q4,q5,q6,q7,q8⟩:=nine' hBN
 have HBN:=hid hBN
 have HBW:=hid hBW
 have HSW:=hid hSW
 have HZW:=hid hZW
 have HZ:=hid hz
 have HWW:=hid hwW
 have HNF:=hid hNf
 have HN:=hid hn
 have HL:=hid hs
 have HFK:=hid hfk
 have HOK:=hid ok
 have HRR:=hid hr
 have HR:=hid hR
 have HRK:=hid hRk
 have HS:=hid hS
 have HTK:=hid hk
 have HIH:=hid IH
 have HBIG:=hid hbig
 have HLEN:=hid hlen
 have HW0:=hid hw
 clear hw hBN hBW hSW hZW hwW hNf hn hs hfk ok hr hR hRk hS hk IH hbig hlen hfL
 have hSS:(Tn.mk 4 R a2 ts a4 a5 a6 a7 a8).S=joinT (ones (SL ts)):=by simp only [Tn.S];rw [if_pos trivial]
 have hb:=HBIG.out
 rw [hSS] at hb ⊢
 have hSLn:∀ x ∈ SL ts,Nf x:=fun x hx=>by
  rw [SL_map] at hx
  obtain ⟨u,hu,rfl⟩:=List.mem_map.1 hx
  obtain ⟨i,hi,rfl⟩:=List.getElem_of_mem hu
  exact HNF.out i hi
 have HSB:Hid (∀ i (hi:i < ts.length),ts[i].S.nodes≤200000):=fun i hi=>Nat.le_trans (join_mem hSLn (by rw [SL_map];exact List.mem_map.2 ⟨ts[i],List.getElem_mem hi,rfl⟩)) hb
 have HST:Hid (∀ i (hi:i < ts.length),(SL ts).take (i + 1)=(SL ts).take i ++ [ts[i].S]):=fun i hi=>by
  rw [List.take_succ_eq_append_getElem (by rw [SL_len];exact hi),SL_get]
 have HBD:Hid (∀ i,((SL ts).take i).length≤200000):=fun i=>by rw [List.length_take,SL_len];have:=HLEN.out;omega
 have HSN:=hid hSLn
 have HBJ:=hid hb
 obtain ⟨i0,hi0,hz0,hz1,hz2⟩:=info_parts info25
 have hm2:s2≤200000:=by have:=HL.out;have:=HLEN.out;omega
 clear hSS hb hSLn
 go_enter Tryz.func97,Tryz.ntmps97
 go_upto_region 1 with fail
 rw [← hz,← hW]
 clear hW hz
 go_wp2_with fail
 go_loopw [4,5] (fun u x wq=>∃ (i:Nat) (u1:Option Addr) (u3:Nat),u=.slice u1 i u3∧x=.int .i64 (i:Int)∧i≤s2∧Hid (RG (fun b=>b < B) W wq (.slice u1 i u3) ((SL ts).take i))) (fun _ x _=>s2 - (intOf x).toNat)
 case atStart=>exact ⟨0,none,0,rfl,rfl,by omega,by show RG _ _ _ _ _;simpa [rowS] using RG.start (fun b hb=>by have:=HSW.out;omega) (Below.refl _ _)⟩
 case round =>
  obtain ⟨i,u1,u3,rfl,rfl,hi,HR⟩:=hrel
  have hbel:Below W.heap.size W wr:=by obtain ⟨MS,A',h⟩:=HR.out;exact h.bel
  have hbs:=hbel.size
  have hsw:=HSW.out
  have bN:=(hbel.block z (by omega)).trans HBN.out
  have bZ:=(hbel.block (z + 1) (by omega)).trans HZW.out
  have HBZ:=hid bZ
  have hwk:∀ b,b < B→wr.heap[b]?=w0.heap[b]?:=fun b hb=>(hbel.block b (by omega)).trans (HWW.out b hb)
  have HWK:=hid hwk
  have HBEL:=hid hbel
  clear q0 q1 q2 q3 q4 q5 q6 q7 q8
  obtain ⟨q0,q1,q2,q3,q4,q5,q6,q7,q8⟩:=nine' bN
  clear hbel bN bZ hwk
  by_cases hil:i < s2
  ·have b1:decide ((i:Int) < (s2:Int))=true:=by simp;omega
   have b2:(i:Int) < (s2:Int):=by omega
   have ad1:IntKind.i64.wrap ((i:Int) + 1)=(i:Int) + 1:=by simp [IntKind.wrap,IntKind.bits,IntKind.signed];omega
   have hlt:i < ts.length:=by have:=HL.out;omega
   obtain ⟨b,o,hs1,hbl,h9⟩:=HS.out (by omega)
   subst hs1
   obtain ⟨n0,n1,n2,n3,n4,n5,n6,n7,n8⟩:=(h9 i hlt).kept (HWK.out b hbl)
   have HC:=HIH.out i hlt (HSB.out i hlt) wr (by omega) HWK.out
   obtain ⟨M,hMe⟩:∃ M,M=ND i:=⟨_,rfl⟩
   rw [← hMe] at HC n0 n1 n2 n3 n4 n5 n6 n7 n8
   have hnf:=HNF.out i hlt
   have hst:=HST.out i hlt
   have hbnd:=HBD.out (i + 1)
   rw [hst] at hbnd
   obtain ⟨S,hSe⟩:∃ S,S=(ts[i]'hlt).S:=⟨_,rfl⟩
   rw [← hSe] at HC hnf hst hbnd
   obtain ⟨MS,A',hR⟩:=HR.out
   obtain ⟨us,hus⟩:∃ us,us=(SL ts).take i:=⟨_,rfl⟩
   rw [← hus] at hR hst hbnd
   have hul:i=us.length:=row_len hR.row
   have HR1:=hid hR
   have HUL:=hid hul
   have HNX:=hid hnf
   have HSTi:=hid hst
   have HBI:=hid hbnd
   clear h9 hMe hnf hst hSe hR hus hul HR hbnd
   go_upto_region 12 with (first | (go_at_call 97;(with_reducible refine HC.mono ?_);rintro e w2 ⟨Y,rfl,hY,hb2⟩;have HTY:=hid hY;have HB2:=hid hb2;clear hY hb2 HC))
   obtain ⟨X,hX⟩:∃ X,X=w2.alloc (.cells #[.int .i64 Y.k,.slice Y.r1 Y.r2 Y.r3,.int .i64 Y.a2,.slice Y.s1 Y.s2 Y.s3,.int .i64 Y.a4,.int .i64 Y.a5,.bool Y.a6,.int .i64 Y.a7,.string Y.a8] 25):=⟨_,rfl⟩
   rw [← hX]
   have hs2:=HB2.out.size
   have hXb:Below w2.heap.size w2 X:=by rw [hX];exact Joins.below_alloc1 w2 _
   have hXs:X.heap.size=w2.heap.size + 1:=by rw [hX];simp
   have hXn:BN X w2.heap.size Y:=by rw [hX];exact heap_alloc_new w2 _
   obtain ⟨x0,x1,x2,x3,x4,x5,x6,x7,x8⟩:=nine' hXn
   have hrow2:=HR1.out.rowAt (HB2.out.trans (Joins.below_le hXb hs2))
   rw [← HUL.out] at hrow2
   have HROW:=hid hrow2
   have HXB:=hid hXb
   have hsX:W.heap.size≤X.heap.size:=by omega
   have HXS:=hid hXs
   clear hX hXb hXn hXs hrow2 n0 n1 n2 n3 n4 n5 n6 n7 n8 q0 q1 q2 q3 q4 q5 q6 q7 q8
   go_wp2_with (first | (at_builtin;refine wpList_append_moveN rfl (.tmp 38) (.tmp 40) 23 rfl W.heap.size 25 i0 Z9 9 112 Tryz.underlying23 hi0 hz0 hz1 hz2 rfl (by decide) (.slice u1 i u3) i (MS.flatMap Nv.cs) rfl (HROW.out.alloc _) ⟨X.heap.size,0,none⟩ 1 1 (Nv.cs Y) rfl rfl (by decide) (news9 X Y) (one9 _) (by unfold maxLen;omega) (by omega) (by simp;omega) ?_;intro v' w3 ho3 hm3;obtain ⟨vb,vc,rfl⟩:=Joins.ownsRow_form ho3.out (by omega)))
   refine ⟨⟨i + 1,some ⟨vb,0,none⟩,vc,rfl,by push_cast;rfl,by omega,?_⟩,by simp [intOf];omega⟩
   rw [HSTi.out]
   refine HR1.out.app (A2:=New (fun b=>b < B) wr w2) HB2.out (news:=[Y]) rfl (fun q hq hq'=>?_) (fun b hb=>hb) (HXB.out.trans (Joins.below_alloc1 X _ |> fun h=>Joins.below_le h HXB.out.size)) ?_ hm3.out
   ·have e:q=0:=by simpa using hq
    subst e
    exact HTY.out
   ·rw [← HUL.out];simpa using ho3.out
  ·have b1:decide ((i:Int) < (s2:Int))=false:=by simp;omega
   obtain rfl:i=s2:=by omega
   have hR:=HR.out
   have htk:(SL ts).take i=SL ts:=by rw [List.take_of_length_le];rw [SL_len];have:=HL.out;omega
   rw [htk] at hR
   obtain ⟨hLT,hln,hl1,hl2⟩:=hR.ltr
   have HC2:=join74 (c:=u3) (New.low (fun b hb=>by omega) hbs) hln (by rw [SL_len];exact HLEN.out) hLT HSN.out HBJ.out
   clear hR htk hLT hln hl1 hl2 HR
   go_wp2_with (first | (go_at_call 144;(with_reducible refine HC2.mono ?_);rintro e w4 ⟨J,rfl,hJ,hb4⟩;have b4Z:=(hb4.block (z + 1) (by omega)).trans HBZ.out;have HJ:=hid hJ;have HB4:=hid hb4;have HB4Z:=hid b4Z;obtain ⟨p0,p1,p2,p3,p4,p5,p6,p7,p8⟩:=nine' b4Z;have f0:=Joins.unfrozen_of_block b4Z 0;have f1:=Joins.unfrozen_of_block b4Z 1;have f2:=Joins.unfrozen_of_block b4Z 2;have f3:=Joins.unfrozen_of_block b4Z 3;have f4:=Joins.unfrozen_of_block b4Z 4;have f5:=Joins.unfrozen_of_block b4Z 5;have f6:=Joins.unfrozen_of_block b4Z 6;have f7:=Joins.unfrozen_of_block b4Z 7;have f8:=Joins.unfrozen_of_block b4Z 8;clear hJ hb4 b4Z HC2))
   all_goals
    have hz':=HZ.out
    have hsw:=HSW.out
    obtain ⟨y1,y2,y3⟩:=box_end (A:=fun b=>b < B) (w:=w) (z:=z + 1) (by omega) (fun b hb=>by omega) HB4Z.out ((HBW.out.trans (Joins.below_le HBEL.out HBW.out.size)).trans (Joins.below_le HB4.out (Nat.le_trans HBW.out.size hbs))) HJ.out (fun b h=>by have:=HB4.out.size;rcases h with (h1 | h1) | h1;exact .inl h1;exact .inr ⟨by omega,by omega,by omega⟩;exact .inr ⟨by omega,by omega,by omega⟩)
    exact bodyPost_ret (results_cell_row rfl _ _ (z + 1) 25 _ (0,0) _ rfl y1 Tryz.underlying25 rfl (by kernel_rfl)) rfl ⟨_,rfl,y2,y3⟩
end Go.Proofs.YtacaanhnlfpbhaaGreat
