/- HELPERS: texts of ours put together. -/
import Derived.Test.YtacaanhnlfpbhaaGreatK31
import Derived.Test.YtacaanhnlfpbhaaGreatK25
import Derived.Test.YtacaanhnlfpbhaaGreatK17
import Derived.Test.YtacaanhnlfpbhaaGreatK09
import Derived.Test.YtacaanhnlfpbhaaGreatK20
import Derived.Test.YtacaanhnlfpbhaaGreatK03
import Derived.Laws.EntriesVeiled
import Derived.WalkLawsBesides
import Derived.Lib.LazyBuf
import Derived.Deep.Cut
import Derived.Laws.Rows
import Derived.Deep.MidRow
import Derived.Deep.OwnRows
import Derived.Test.YtacaanhnlfpbhaaGreatK04
import Derived.Test.YtacaanhnlfpbhaaGreatK02
import Derived.WalkKit
import Derived.Laws.BitsLemmas
import Derived.Test.YtacaanhnlfpbhaaGreatK08
import Derived.Test.YtacaanhnlfpbhaaGreatK07
import Derived.Test.YtacaanhnlfpbhaaGreatK06
import Derived.Test.YtacaanhnlfpbhaaGreatK05
import Derived.Test.YtacaanhnlfpbhaaGreatK01
import Derived.Deep.SlicePairs
import Derived.RowKit
import Derived.Deep.RegionHeld2
import Derived.Lib.MinMax
import Derived.BigQuiet
import Derived.Test.YtacaanhnlfpbhaaGreatK26
import Derived.Test.YtacaanhnlfpbhaaGreatK11
import Derived.Test.YtacaanhnlfpbhaaGreatK10
import Derived.Test.YtacaanhnlfpbhaaGreatK18
import Derived.LoopN
import Derived.Laws.IdiomCopy
import Derived.Test.YtacaanhnlfpbhaaGreatK19
import Derived.Test.YtacaanhnlfpbhaaGreatProg
import Derived.ProofKit
import Derived.WalkSmall
import Derived.Deep.QuietTactic
import Derived.Deep.RegionWith
import Derived.Deep.WholeRow
import Derived.Test.YtacaanhnlfpbhaaGreatK24
namespace Go.Proofs.YtacaanhnlfpbhaaGreat
open Go.RowKit
set_option linter.unusedVariables false
set_option linter.unusedSimpArgs false
set_option maxRecDepth 100000 in
set_option maxHeartbeats 16000000 in
theorem form51_alt {w0 w:World} {B:Nat} {a2 a4 a5 a7:Int} {a6:Bool} {a8:ByteArray} {r1 s1:Option Addr} {r2 r3 s2 s3:Nat} {R:List (Int × Int)} {ts:List Tn} {ND:Nat→Nv} (hB:B≤w.heap.size) (hw:∀ b,b < B→w.heap[b]?=w0.heap[b]?) (ok:Nv.ok ⟨5,r1,r2,r3,a2,s1,s2,s3,a4,a5,a6,a7,a8⟩) (hn:nodeB 5 R a2 ts.length a4 a5 a6 a7 a8=true) (hfL:fineL ts=true) (hs:s2=ts.length) (hr:r2=R.length) (hR:R2 w0 B r1 R) (hRk:∀ x ∈ R,I64ok x.1∧I64ok x.2)
  (hS:0 < ts.length→∃ b o,s1=some ⟨b,o,none⟩∧b < B∧∀ i,i < ts.length→N9 w0 b o i (ND i)) (hk:∀ i (hi:i < ts.length),TI w0 B (ND i) ts[i])
  (IH:∀ i (hi:i < ts.length),ts[i].S.nodes≤200000→∀ w1:World,B≤w1.heap.size→(∀ b,b < B→w1.heap[b]?=w0.heap[b]?)→Calls Tryz.prog 97 #[(ND i).v] w1 (FPost B w1 ts[i].S)) (hbig:(Tn.mk 5 R a2 ts a4 a5 a6 a7 a8).S.nodes≤200000) (hlen:ts.length≤200000) :
  Calls Tryz.prog 97 #[Nv.v ⟨5,r1,r2,r3,a2,s1,s2,s3,a4,a5,a6,a7,a8⟩] w (FPost B w (Tn.mk 5 R a2 ts a4 a5 a6 a7 a8).S):=by
 have hfk:=fine_kind hn
 have hNf:∀ i (hi:i < ts.length),Nf (ts[i]).S:=fun i hi=>nf_S _ (fineL_get hfL i hi)
 obtain ⟨W,hW⟩:∃ W,W=(w.alloc (.cells #[.int .i64 5,.slice r1 r2 r3,.int .i64 a2,.slice s1 s2 s3,.int .i64 a4,.int .i64 a5,.bool a6,.int .i64 a7,.string a8] 25)).alloc (.cells #[.int .i64 0,.slice none 0 0,.int .i64 0,.slice none 0 0,.int .i64 0,.int .i64 0,.bool false,.int .i64 0,.string ⟨#[]⟩] 25):=⟨_,rfl⟩
 have hBW:Below w.heap.size w W:=by rw [hW];exact below_two' w _ _
 have hSW:W.heap.size=w.heap.size + 1 + 1:=by rw [hW];simp
 have hBN:BN W w.heap.size ⟨5,r1,r2,r3,a2,s1,s2,s3,a4,a5,a6,a7,a8⟩:=by rw [hW];exact (heap_alloc_old _ _ (by simp)).trans (heap_alloc_new w _)
 have hZW:BN W (w.heap.size + 1) default:=by rw [hW];exact two_new w _ _ _
 obtain ⟨z,hz⟩:∃ z,z=w.heap.size:=⟨_,rfl⟩
 rw [← hz] at hBN hSW hZW hB
 have hwW:∀ b,b < B→W.heap[b]?=w0.heap[b]?:=fun b hb=>(hBW.block b (by omega)).trans (hw b hb)
 obtain ⟨q0,q1,q2,q3,q4,q5,q6,q7,q8⟩:=nine' hBN
 have HBN:=hid hBN
 have HBW:=hid hBW
 have HSW:=hid hSW
 have HZW:=hid hZW
 have HZ:=hid hz
 have HWW:=hid hwW
 have HNF:=hid hNf
 have HN:=hid hn
 have HL:=hid hs
 have HFK:=hid hfk
 have HOK:=hid ok
 have HRR:=hid hr
 have HR:=hid hR
 have HRK:=hid hRk
 have HS:=hid hS
 have HTK:=hid hk
 have HIH:=hid IH
 have HBIG:=hid hbig
 have HLEN:=hid hlen
 have HW0:=hid hw
 clear hw hBN hBW hSW hZW hwW hNf hn hs hfk ok hr hR hRk hS hk IH hbig hlen hfL
 have hSS:(Tn.mk 5 R a2 ts a4 a5 a6 a7 a8).S=rowT 5 (ones (SL ts)):=by simp only [Tn.S];rw [if_neg (by decide),if_pos trivial]
 have hb:=HBIG.out
 rw [hSS] at hb ⊢
 have HSB:Hid (∀ i (hi:i < ts.length),ts[i].S.nodes≤200000):=fun i hi=>Nat.le_trans (row_mem (by rw [SL_map];exact List.mem_map.2 ⟨ts[i],List.getElem_mem hi,rfl⟩)) hb
 have HST:Hid (∀ i (hi:i < ts.length),rowS 5 (ones ((SL ts).take (i + 1)))=rowS 5 (ones ((SL ts).take i)) ++ within 5 ts[i].S):=fun i hi=>by
  rw [List.take_succ_eq_append_getElem (by rw [SL_len];exact hi),SL_get,ones,List.map_append,rowS_append]
  simp [rowS]
 have HBD:Hid (∀ i,(rowS 5 (ones ((SL ts).take i))).length≤200000):=fun i=>by
  have h1:rowS 5 (ones (SL ts))=rowS 5 (ones ((SL ts).take i)) ++ rowS 5 (ones ((SL ts).drop i)):=by rw [← rowS_append,← List.map_append,List.take_append_drop]
  have h2:=nodes_ge (rowS 5 (ones (SL ts)))
  rw [rowT_nodes] at hb
  rw [h1,List.length_append] at h2
  rw [h1] at hb
  omega
 obtain ⟨i0,hi0,hz0,hz1,hz2⟩:=info_parts info25
 have hm2:s2≤200000:=by have:=HL.out;have:=HLEN.out;omega
 clear hSS hb
 go_enter Tryz.func97,Tryz.ntmps97
 go_upto_region 1 with fail
 rw [← hz,← hW]
 clear hW hz
 go_wp2_with fail
 go_loopw [7,8] (fun u x wq=>∃ (i j:Nat) (u1:Option Addr) (u3:Nat),u=.slice u1 j u3∧x=.int .i64 (i:Int)∧i≤s2∧j≤200000∧Hid (RG (fun b=>b < B) W wq (.slice u1 j u3) (rowS 5 (ones ((SL ts).take i))))) (fun _ x _=>s2 - (intOf x).toNat)
 case atStart=>exact ⟨0,0,none,0,rfl,rfl,by omega,by omega,by show RG _ _ _ _ _;simpa [rowS] using RG.start (fun b hb=>by have:=HSW.out;omega) (Below.refl _ _)⟩
 case round =>
  obtain ⟨i,j,u1,u3,rfl,rfl,hi,hj,HR⟩:=hrel
  have hbel:Below W.heap.size W wr:=by obtain ⟨MS,A',h⟩:=HR.out;exact h.bel
  have hbs:=hbel.size
  have hsw:=HSW.out
  have bN:=(hbel.block z (by omega)).trans HBN.out
  have bZ:=(hbel.block (z + 1) (by omega)).trans HZW.out
  have HBZ:=hid bZ
  have hwk:∀ b,b < B→wr.heap[b]?=w0.heap[b]?:=fun b hb=>(hbel.block b (by omega)).trans (HWW.out b hb)
  have HWK:=hid hwk
  have HBEL:=hid hbel
  clear q0 q1 q2 q3 q4 q5 q6 q7 q8
  obtain ⟨q0,q1,q2,q3,q4,q5,q6,q7,q8⟩:=nine' bN
  clear hbel bN bZ hwk
  by_cases hil:i < s2
  ·have b1:decide ((i:Int) < (s2:Int))=true:=by simp;omega
   have b2:(i:Int) < (s2:Int):=by omega
   have ad1:IntKind.i64.wrap ((i:Int) + 1)=(i:Int) + 1:=by simp [IntKind.wrap,IntKind.bits,IntKind.signed];omega
   have hlt:i < ts.length:=by have:=HL.out;omega
   obtain ⟨b,o,hs1,hbl,h9⟩:=HS.out (by omega)
   subst hs1
   obtain ⟨n0,n1,n2,n3,n4,n5,n6,n7,n8⟩:=(h9 i hlt).kept (HWK.out b hbl)
   have HC:=HIH.out i hlt (HSB.out i hlt) wr (by omega) HWK.out
   obtain ⟨M,hMe⟩:∃ M,M=ND i:=⟨_,rfl⟩
   rw [← hMe] at HC n0 n1 n2 n3 n4 n5 n6 n7 n8
   have hnf:=HNF.out i hlt
   have hst:=HST.out i hlt
   have hbnd:=HBD.out (i + 1)
   rw [hst] at hbnd
   obtain ⟨S,hSe⟩:∃ S,S=(ts[i]'hlt).S:=⟨_,rfl⟩
   rw [← hSe] at HC hnf hst hbnd
   obtain ⟨MS,A',hR⟩:=HR.out
   obtain ⟨us,hus⟩:∃ us,us=rowS 5 (ones ((SL ts).take i)):=⟨_,rfl⟩
   rw [← hus] at hR hst hbnd
   have hul:j=us.length:=row_len hR.row
   have HR1:=hid hR
   have HUL:=hid hul
   have HNX:=hid hnf
   have HSTi:=hid hst
   have HBI:=hid hbnd
   clear h9 hMe hnf hst hSe hR hus hul HR hbnd
   go_upto_region 20 with (first | (go_at_call 97;(with_reducible refine HC.mono ?_);rintro e w2 ⟨Y,rfl,hY,hb2⟩;have HTY:=hid hY;have HB2:=hid hb2;clear hY hb2 HC))
   obtain ⟨X,hX⟩:∃ X,X=w2.alloc (.cells #[.int .i64 Y.k,.slice Y.r1 Y.r2 Y.r3,.int .i64 Y.a2,.slice Y.s1 Y.s2 Y.s3,.int .i64 Y.a4,.int .i64 Y.a5,.bool Y.a6,.int .i64 Y.a7,.string Y.a8] 25):=⟨_,rfl⟩
   rw [← hX]
   have hs2:=HB2.out.size
   have hXb:Below w2.heap.size w2 X:=by rw [hX];exact Joins.below_alloc1 w2 _
   have hXs:X.heap.size=w2.heap.size + 1:=by rw [hX];simp
   have hXn:BN X w2.heap.size Y:=by rw [hX];exact heap_alloc_new w2 _
   obtain ⟨x0,x1,x2,x3,x4,x5,x6,x7,x8⟩:=nine' hXn
   have hrow2:=HR1.out.rowAt (HB2.out.trans (Joins.below_le hXb hs2))
   rw [← HUL.out] at hrow2
   have HROW:=hid hrow2
   have HXB:=hid hXb
   have hsX:W.heap.size≤X.heap.size:=by omega
   have HXS:=hid hXs
   clear hX hXb hXn hXs hrow2 n0 n1 n2 n3 n4 n5 n6 n7 n8 q0 q1 q2 q3 q4 q5 q6 q7 q8
   have hkY:Y.k=S.kind:=(HTY.out.subs).2.2.2
   by_cases k5:Y.k=5
   ·have hw5:within 5 S=S.subs:=by unfold within;rw [if_pos (by omega)]
    have h2:=nf_subs HNX.out (.inr (by omega))
    obtain ⟨hLTs,hY2,hY3,_⟩:=HTY.out.subs
    obtain ⟨ND2,h1',h2'⟩:=hLTs
    obtain ⟨b2',o2,e2,hb2,h92⟩:=h1' (by omega)
    have hYl:b2' < w2.heap.size:=by rcases hb2 with h | h <;> omega
    have hnews:=tl_news (n:=Y.s2) (fun i hi=>(h92 i (by omega)).kept (HXB.out.block b2' hYl))
    have hnl:(((List.range Y.s2).map ND2).flatMap Nv.cs).length=Y.s2 * 9:=by rw [flat9_len];simp
    have htj:j + Y.s2≤200000:=by have h:=HBI.out;have:=HUL.out;rw [hw5,List.length_append] at h;omega
    obtain ⟨news,hnw⟩:∃ news,news=((List.range Y.s2).map ND2).flatMap Nv.cs:=⟨_,rfl⟩
    have h1c:∀ u ∈ news,u.oneCell'=true:=by rw [hnw];exact one9L _
    rw [← hnw] at hnews hnl
    have HNW:=hid hnw
    have HN2':=hid h2'
    have HNL:=hid hnl
    have HNEWS:=hid hnews
    have H1C:=hid h1c
    have hp2:2≤Y.s2:=by omega
    have HY2:=hid hY2
    have g5:(Y.k == 5)=true:=by simp [k5]
    rw [e2] at x3
    clear hnw h1' h2' h92 hnl hnews h1c h2 hb2 hY2 hY3 hkY
    obtain ⟨m2,hm2e⟩:∃ m2,m2=Y.s2:=⟨_,rfl⟩
    obtain ⟨m3,hm3e⟩:∃ m3,m3=Y.s3:=⟨_,rfl⟩
    rw [← hm2e] at hp2 HNL htj x3
    rw [← hm3e] at x3
    have HM2:=hid hm2e
    clear hm2e hm3e
    go_wp2_with (first | (at_builtin;refine wpList_append_moveN rfl (.tmp 62) (.tmp 64) 23 rfl W.heap.size 25 i0 Z9 9 112 Tryz.underlying23 hi0 hz0 hz1 hz2 rfl (by decide) (.slice u1 j u3) j (MS.flatMap Nv.cs) rfl HROW.out ⟨b2',o2,none⟩ m2 m3 news rfl HNL.out (by omega) HNEWS.out H1C.out (by unfold maxLen;omega) (by omega) hsX ?_;intro v' w3 ho3 hm3;obtain ⟨vb,vc,rfl⟩:=Joins.ownsRow_form ho3.out (by omega)))
    refine ⟨⟨i + 1,j + m2,some ⟨vb,0,none⟩,vc,rfl,by push_cast;rfl,by omega,htj,?_⟩,by simp [intOf];omega⟩
    rw [HSTi.out,hw5]
    have ho:=ho3.out
    rw [HNW.out] at ho
    have hhs:m2=S.subs.length:=HM2.out.trans HY2.out
    refine HR1.out.app (A2:=New (fun b=>b < B) wr w2) HB2.out (news:=(List.range Y.s2).map ND2) (by simp [← hhs,HM2.out]) (fun q hq hq'=>?_) (fun b hb=>hb) HXB.out ?_ hm3.out
    ·simp only [List.getElem_map,List.getElem_range];exact HN2'.out q hq
    ·rw [← HUL.out,← hhs];exact ho
   ·have g5:(Y.k == 5)=false:=by simp [k5]
    have hw5:within 5 S=[S]:=by unfold within;rw [if_neg (by omega)]
    have htj:j + 1≤200000:=by have h:=HBI.out;have:=HUL.out;rw [hw5,List.length_append] at h;simp at h;omega
    clear hkY
    go_wp2_with (first | (at_builtin;refine wpList_append_moveN rfl (.tmp 66) (.tmp 68) 23 rfl W.heap.size 25 i0 Z9 9 112 Tryz.underlying23 hi0 hz0 hz1 hz2 rfl (by decide) (.slice u1 j u3) j (MS.flatMap Nv.cs) rfl (HROW.out.alloc _) ⟨X.heap.size,0,none⟩ 1 1 (Nv.cs Y) rfl rfl (by decide) (news9 X Y) (one9 _) (by unfold maxLen;omega) (by omega) (by simp;omega) ?_;intro v' w3 ho3 hm3;obtain ⟨vb,vc,rfl⟩:=Joins.ownsRow_form ho3.out (by omega)))
    refine ⟨⟨i + 1,j + 1,some ⟨vb,0,none⟩,vc,rfl,by push_cast;rfl,by omega,htj,?_⟩,by simp [intOf];omega⟩
    rw [HSTi.out,hw5]
    refine HR1.out.app (A2:=New (fun b=>b < B) wr w2) HB2.out (news:=[Y]) rfl (fun q hq hq'=>?_) (fun b hb=>hb) (HXB.out.trans (Joins.below_alloc1 X _ |> fun h=>Joins.below_le h HXB.out.size)) ?_ hm3.out
    ·have e:q=0:=by simpa using hq
     subst e
     exact HTY.out
    ·rw [← HUL.out];simpa using ho3.out
  ·have b1:decide ((i:Int) < (s2:Int))=false:=by simp;omega
   obtain rfl:i=s2:=by omega
   have hR:=HR.out
   have htk:(SL ts).take i=SL ts:=by rw [List.take_of_length_le];rw [SL_len];have:=HL.out;omega
   rw [htk] at hR
   have hT:=hR.node 5 (by decide)
   have HT:=hid hT
   have bZ:=HBZ.out
   obtain ⟨p0,p1,p2,p3,p4,p5,p6,p7,p8⟩:=nine' bZ
   have f0:=Joins.unfrozen_of_block bZ 0
   have f1:=Joins.unfrozen_of_block bZ 1
   have f2:=Joins.unfrozen_of_block bZ 2
   have f3:=Joins.unfrozen_of_block bZ 3
   have f4:=Joins.unfrozen_of_block bZ 4
   have f5:=Joins.unfrozen_of_block bZ 5
   have f6:=Joins.unfrozen_of_block bZ 6
   have f7:=Joins.unfrozen_of_block bZ 7
   have f8:=Joins.unfrozen_of_block bZ 8
   clear hR htk HR hT bZ
   go_wp2
   all_goals
    have hz':=HZ.out
    have hsw:=HSW.out
    obtain ⟨y1,y2,y3⟩:=box_end (A:=fun b=>b < B) (w:=w) (z:=z + 1) (by omega) (fun b hb=>by omega) HBZ.out (HBW.out.trans (Joins.below_le HBEL.out HBW.out.size)) HT.out (fun b h=>by rcases h with h1 | h1;exact .inl h1;exact .inr ⟨by omega,by omega,by omega⟩)
    exact bodyPost_ret (results_cell_row rfl _ _ (z + 1) 25 _ (0,0) _ rfl y1 Tryz.underlying25 rfl (by kernel_rfl)) rfl ⟨_,rfl,y2,y3⟩
theorem form51 {w0:World} {B:Nat} {N:Nv} {t:Tn} (h:TI w0 B N t):t.fine=true→t.nodes≤200000→t.S.nodes≤200000→∀ (w:World),B≤w.heap.size→(∀ b,b < B→w.heap[b]?=w0.heap[b]?)→Calls Tryz.prog 97 #[N.v] w (FPost B w t.S):=by
 induction h with
 | @mk N R ts ND ok hr hR hRk hs hS hk ih =>
 intro hf hn hb w hB hw
 simp only [Tn.fine,Bool.and_eq_true] at hf
 simp only [Tn.nodes] at hn
 have hlen:ts.length≤200000:=by have:=nodes_ge ts;omega
 have IH:∀ i (hi:i < ts.length),ts[i].S.nodes≤200000→∀ w1:World,B≤w1.heap.size→(∀ b,b < B→w1.heap[b]?=w0.heap[b]?)→Calls Tryz.prog 97 #[(ND i).v] w1 (FPost B w1 ts[i].S):=fun i hi h1=>ih i hi (fineL_get hf.2 i hi) (by have:=nodes_get ts i hi;omega) h1
 obtain ⟨k,r1,r2,r3,a2,s1,s2,s3,a4,a5,a6,a7,a8⟩:=N
 by_cases k4:k=4
 ·subst k4;exact form51_cat hB hw ok hf.1 hf.2 hs hr hR hRk hS hk IH hb hlen
 by_cases k5:k=5
 ·subst k5;exact form51_alt hB hw ok hf.1 hf.2 hs hr hR hRk hS hk IH hb hlen
 by_cases k6:k=6
 ·subst k6;exact form51_rep hB hw ok hf.1 hf.2 hs hr hR hRk hS hk IH hb hlen
 by_cases k7:k=7
 ·subst k7;exact form51_grp hB hw ok hf.1 hf.2 hs hr hR hRk hS hk IH hb hlen
 exact form51_leaf hB hw ok hf.1 hf.2 hs hr hR hRk hS hk IH hb hlen k4 k5 k6 k7
theorem ti_zero (w:World):TI w w.heap.size Zn zeroT:=.mk (N:=Zn) (R:=[]) (ts:=[]) (ND:=fun _=>default) zn_ok rfl (fun h=>absurd rfl h) (by simp) rfl (fun h=>by simp at h) (fun i hi=>by simp at hi)
set_option maxRecDepth 100000 in
set_option maxHeartbeats 8000000 in
theorem rsimp33 {w:World} {N:Nv} {t:Tn} (h:TI w w.heap.size N t):Calls Tryz.prog 56 #[N.v] w fun e w'=>∃ M,e=.returned (.tuple #[Nv.v M,.int .i64 (errS t)])∧TI w' w'.heap.size M (simT t)∧Below w.heap.size w w':=by
 obtain ⟨W,hW⟩:∃ W,W=(w.alloc (.cells #[.int .i64 N.k,.slice N.r1 N.r2 N.r3,.int .i64 N.a2,.slice N.s1 N.s2 N.s3,.int .i64 N.a4,.int .i64 N.a5,.bool N.a6,.int .i64 N.a7,.string N.a8] 25)).alloc (.cells #[.int .i64 0,.slice none 0 0,.int .i64 0,.slice none 0 0,.int .i64 0,.int .i64 0,.bool false,.int .i64 0,.string ⟨#[]⟩] 25):=⟨_,rfl⟩
 have hbW:Below w.heap.size w W:=by rw [hW];exact below_two' w _ _
 have hsW:W.heap.size=w.heap.size + 2:=by rw [hW];simp
 have hX:BN W w.heap.size N:=by rw [hW];exact (heap_alloc_old _ _ (by simp)).trans (heap_alloc_new w _)
 have hY:BN W (w.heap.size + 1) Zn:=by rw [hW];exact two_new w _ _ _
 have hTI:TI W w.heap.size N t:=h.kept fun b hb=>hbW.block b hb
 have HC:=sound25 (hTI.le (by omega))
 obtain ⟨x,hx⟩:∃ x,x=w.heap.size:=⟨_,rfl⟩
 rw [← hx] at hX hY hsW
 obtain ⟨k,r1,r2,r3,a2,s1,s2,s3,a4,a5,a6,a7,a8⟩:=N
 obtain ⟨q0,q1,q2,q3,q4,q5,q6,q7,q8⟩:=nine' hX
 have HX:=hid hX
 have HY:=hid hY
 have HBW:=hid hbW
 have HSW:=hid hsW
 have HXE:=hid hx
 have HTI:=hid hTI
 dsimp only at HC hW q0 q1 q2 q3 q4 q5 q6 q7 q8
 by_cases hsd:t.sound=true
 ·rw [hsd] at HC
  simp only [if_true] at HC
  have HSO:=hid hsd
  simp only [Tn.sound,Bool.and_eq_true,decide_eq_true_eq] at hsd
  have HFO:=hid (reckon50 HTI.out hsd.1.1 (by omega))
  have HSD:=hid hsd
  clear hX hY hbW hsW hTI h hsd
  go_enter Tryz.func56,Tryz.ntmps56
  go_upto_region 1 with fail
  rw [← hx,← hW]
  clear hW hx
  obtain ⟨T,hT⟩:∃ T,T=sumOf 1099511627776 t.S:=⟨_,rfl⟩
  have HT:=hid hT
  clear hT
  go_upto_region 4 with (first | (go_at_call 32;(with_reducible refine HC.mono ?_);rintro e w2 ⟨rfl,hb2⟩;have hX2:=(hb2.block x (by have:=HSW.out;omega)).trans HX.out;clear q0 q1 q2 q3 q4 q5 q6 q7 q8;obtain ⟨q0,q1,q2,q3,q4,q5,q6,q7,q8⟩:=nine' hX2;have HC2:=HFO.out w2 (by have:=HXE.out;have:=HSW.out;have:=hb2.size;omega) (fun c hc=>hb2.block c (by have:=HXE.out;have:=HSW.out;omega));rw [← HT.out] at HC2;have HB2:=hid hb2;clear hb2 hX2 HC))
  go_upto_region 5 with (first | (go_at_call 96;(with_reducible refine HC2.mono ?_);rintro e w3 ⟨rfl,hb3⟩;have HB3:=hid hb3;clear hb3 HC2))
  obtain ⟨V,hV⟩:∃ V,V=w3.alloc (.cells T.c 156):=⟨_,rfl⟩
  rw [← hV]
  have hz2:W.heap.size≤w2.heap.size:=HB2.out.size
  have hz3:w2.heap.size≤w3.heap.size:=HB3.out.size
  have hVb:Below w3.heap.size w3 V:=by rw [hV];exact Joins.below_alloc1 w3 _
  have hVs:V.heap.size=w3.heap.size + 1:=by rw [hV];simp
  have hV4:V.heap[w3.heap.size]?=some (.cells T.c 156 (0,0)):=by rw [hV];exact heap_alloc_new w3 _
  have c1:V.cell? ⟨w3.heap.size,1,none⟩=some (.int .i64 (T.n:Int)):=Joins.cell_of_block hV4 1
  have c3:V.cell? ⟨w3.heap.size,3,none⟩=some (.int .i64 (T.d:Int)):=Joins.cell_of_block hV4 3
  have hWV:Below W.heap.size W V:=(HB2.out.trans (Joins.below_le HB3.out hz2)).trans (Joins.below_le hVb (by omega))
  have hVN:=(hWV.block x (by have:=HSW.out;omega)).trans HX.out
  have hVZ:=(hWV.block (x + 1) (by have:=HSW.out;omega)).trans HY.out
  have HVB:=hid (HBW.out.trans (Joins.below_le hWV HBW.out.size))
  have HVN:=hid hVN
  have HVZ:=hid hVZ
  have HVW:=hid (hWV.size)
  have HTV:Hid (TI V w.heap.size ⟨k,r1,r2,r3,a2,s1,s2,s3,a4,a5,a6,a7,a8⟩ t):=HTI.out.kept fun b hb=>hWV.block b (by have:=HXE.out;have:=HSW.out;omega)
  obtain ⟨z5,hz5⟩:∃ z5,z5=w3.heap.size:=⟨_,rfl⟩
  rw [← hz5] at c1 c3 ⊢
  clear q0 q1 q2 q3 q4 q5 q6 q7 q8 hV hVb hVs hV4 hWV hz5 HB3 HB2 HTI hz2 hz3
  obtain ⟨m,hm⟩:∃ m,m=T.n:=⟨_,rfl⟩
  obtain ⟨d,hd⟩:∃ d,d=T.d:=⟨_,rfl⟩
  rw [← hm] at c1
  rw [← hd] at c3
  have em:m=min t.S.nodes 1099511627776:=by rw [hm,HT.out];rfl
  have ed:d=t.S.depth:=by rw [hd,HT.out];rfl
  by_cases hbig:t.bigS=true
  ·have herr:errS t=3:=by unfold errS;rw [HSO.out,hbig];rfl
   have HSE:Hid (simT t=zeroT):=by unfold simT;rw [herr];rfl
   have HER:=hid herr
   obtain ⟨p0,p1,p2,p3,p4,p5,p6,p7,p8⟩:=nine' hVZ
   have f0:=Joins.unfrozen_of_block hVZ 0
   have f1:=Joins.unfrozen_of_block hVZ 1
   have f2:=Joins.unfrozen_of_block hVZ 2
   have f3:=Joins.unfrozen_of_block hVZ 3
   have f4:=Joins.unfrozen_of_block hVZ 4
   have f5:=Joins.unfrozen_of_block hVZ 5
   have f6:=Joins.unfrozen_of_block hVZ 6
   have f7:=Joins.unfrozen_of_block hVZ 7
   have f8:=Joins.unfrozen_of_block hVZ 8
   clear herr hVN hVZ
   simp only [Tn.bigS,Bool.or_eq_true,decide_eq_true_eq] at hbig
   by_cases hn:200000 < m
   ·have g1:decide ((200000:Int) < (m:Int))=true:=by simp;omega
    clear hbig hm hd hn em ed
    go_wp2
    all_goals
     obtain ⟨y1,y2,y3⟩:=tail_nineW Zn HVZ.out
     refine bodyPost_ret (results_cell_tmp rfl _ _ (x + 1) 25 _ (0,0) _ rfl y1 Tryz.underlying25 rfl (by kernel_rfl)) rfl ?_
     exact ⟨Zn,(by rw [HER.out];rfl),by rw [HSE.out];exact ti_zero _,y3 _ _ HVB.out (by have:=HXE.out;omega)⟩
   ·have g1:decide ((200000:Int) < (m:Int))=false:=by simp;omega
    have g2:decide ((10000:Int) < (d:Int))=true:=by
     simp
     have:¬ 200000 < t.S.nodes:=fun h=>hn (by omega)
     omega
    clear hbig hm hd hn em ed
    go_wp2
    all_goals
     obtain ⟨y1,y2,y3⟩:=tail_nineW Zn HVZ.out
     refine bodyPost_ret (results_cell_tmp rfl _ _ (x + 1) 25 _ (0,0) _ rfl y1 Tryz.underlying25 rfl (by kernel_rfl)) rfl ?_
     exact ⟨Zn,(by rw [HER.out];rfl),by rw [HSE.out];exact ti_zero _,y3 _ _ HVB.out (by have:=HXE.out;omega)⟩
  ·have hbig':t.bigS=false:=by simpa using hbig
   have herr:errS t=0:=by unfold errS;rw [HSO.out,hbig'];rfl
   have HSE:Hid (simT t=t.S):=by unfold simT;rw [herr];rfl
   have HER:=hid herr
   simp only [Tn.bigS,Bool.or_eq_false_iff,decide_eq_false_iff_not] at hbig'
   have g1:decide ((200000:Int) < (m:Int))=false:=by simp;omega
   have g2:decide ((10000:Int) < (d:Int))=false:=by simp;omega
   have hwV:w.heap.size≤V.heap.size:=HVB.out.size
   have HC3:=form51 HTV.out HSD.out.1.1 HSD.out.2 (by omega) V hwV (fun _ _=>rfl)
   have hxy:x + 1 < V.heap.size:=by have:=HSW.out;have:=HVW.out;omega
   obtain ⟨q0,q1,q2,q3,q4,q5,q6,q7,q8⟩:=nine' hVN
   clear herr hVN hVZ hbig hbig' hm hd em ed
   go_wp2_with (first | (go_at_call 97;(with_reducible refine HC3.mono ?_);rintro e w4 ⟨M,rfl,hM,hb4⟩;have hY4:=(hb4.block (x + 1) hxy).trans HVZ.out;obtain ⟨p0,p1,p2,p3,p4,p5,p6,p7,p8⟩:=nine' hY4;have f0:=Joins.unfrozen_of_block hY4 0;have f1:=Joins.unfrozen_of_block hY4 1;have f2:=Joins.unfrozen_of_block hY4 2;have f3:=Joins.unfrozen_of_block hY4 3;have f4:=Joins.unfrozen_of_block hY4 4;have f5:=Joins.unfrozen_of_block hY4 5;have f6:=Joins.unfrozen_of_block hY4 6;have f7:=Joins.unfrozen_of_block hY4 7;have f8:=Joins.unfrozen_of_block hY4 8;have HY4:=hid hY4;have HM:=hid hM;have HB4:=hid hb4;clear hM hb4 hY4 HC3))
   all_goals
    obtain ⟨y1,y2,y3⟩:=tail_nineW M HY4.out
    refine bodyPost_ret (results_cell_tmp rfl _ _ (x + 1) 25 _ (0,0) _ rfl y1 Tryz.underlying25 rfl (by kernel_rfl)) rfl ?_
    have hxe:=HXE.out
    have hs4:=HB4.out.size
    have hbb:=y3 _ _ (Below.refl 0 w4) (Nat.zero_le _)
    refine ⟨M,(by rw [HER.out];rfl),?_,y3 _ _ (HVB.out.trans (Joins.below_le HB4.out hwV)) (by omega)⟩
    rw [HSE.out]
    have hT:=HM.out.kept (A':=New (fun b=>b < w.heap.size) V w4) (fun c hc=>y2 c (by rcases hc with h | h <;> omega)) fun c hc=>hc
    exact hT.ti fun c hc=>Nat.lt_of_lt_of_le (by rcases hc with h | h <;> omega) hbb.size
 ·have hsd':t.sound=false:=by simpa using hsd
  rw [hsd'] at HC
  simp only [Bool.false_eq_true,if_false] at HC
  have herr:errS t=50:=by unfold errS;rw [hsd'];rfl
  have HSE:Hid (simT t=zeroT):=by unfold simT;rw [herr];rfl
  have HER:=hid herr
  clear hX hY hbW hsW hTI h hsd hsd' herr
  go_enter Tryz.func56,Tryz.ntmps56
  go_upto_region 1 with fail
  rw [← hx,← hW]
  clear hW hx
  go_wp2_with (first | (go_at_call 32;(with_reducible refine HC.mono ?_);rintro e w4 ⟨rfl,hb4⟩;have hY4:=(hb4.block (x + 1) (by have:=HSW.out;omega)).trans HY.out;clear q0 q1 q2 q3 q4 q5 q6 q7 q8;have f0:=Joins.unfrozen_of_block hY4 0;have f1:=Joins.unfrozen_of_block hY4 1;have f2:=Joins.unfrozen_of_block hY4 2;have f3:=Joins.unfrozen_of_block hY4 3;have f4:=Joins.unfrozen_of_block hY4 4;have f5:=Joins.unfrozen_of_block hY4 5;have f6:=Joins.unfrozen_of_block hY4 6;have f7:=Joins.unfrozen_of_block hY4 7;have f8:=Joins.unfrozen_of_block hY4 8;obtain ⟨q0,q1,q2,q3,q4,q5,q6,q7,q8⟩:=nine' hY4;have HY4:=hid hY4;have HB4:=hid hb4;clear hb4 hY4 HC))
  all_goals
   obtain ⟨y1,y2,y3⟩:=tail_nineW Zn HY4.out
   refine bodyPost_ret (results_cell_tmp rfl _ _ (x + 1) 25 _ (0,0) _ rfl y1 Tryz.underlying25 rfl (by kernel_rfl)) rfl ?_
   exact ⟨Zn,(by rw [HER.out];rfl),by rw [HSE.out];exact ti_zero _,y3 _ _ (HBW.out.trans (Joins.below_le HB4.out HBW.out.size)) (by have:=HXE.out;omega)⟩




end Go.Proofs.YtacaanhnlfpbhaaGreat
namespace Go.Proofs.YtacaanhnlfpbhaaGreat
open Go.RowKit Go.Lk
set_option linter.unusedVariables false
set_option linter.unusedSimpArgs false

abbrev L4:List In:=[⟨3,1,0,0,[]⟩,⟨1,2,0,0,[(97,97)]⟩,⟨3,3,0,1,[]⟩,⟨5,0,0,0,[]⟩]
abbrev N4 (q1:Option Addr) (q3:Nat):List Iv:=[⟨3,1,0,0,none,0,0⟩,⟨1,2,0,0,q1,1,q3⟩,⟨3,3,0,1,none,0,0⟩,⟨5,0,0,0,none,0,0⟩]
abbrev A4 (g:Nat):Array Value:=#[.int .i64 3,.int .i64 1,.int .i64 0,.int .i64 0,.slice none 0 0,.int .i64 1,.int .i64 2,.int .i64 0,.int .i64 0,.slice (some ⟨g,0,none⟩) 1 1,.int .i64 3,.int .i64 3,.int .i64 0,.int .i64 1,.slice none 0 0,.int .i64 5,.int .i64 0,.int .i64 0,.int .i64 0,.slice none 0 0]
mutual
theorem top_gi:∀ t:Tn,t.top=t.gi
 | .mk _ _ _ s _ _ _ ix _=>by simp only [Tn.top,Tn.gi];exact topL_gi s ix
theorem topL_gi:∀ (ts:List Tn) (a:Int),topL ts a=giL ts a
 | [],a=>rfl
 | t :: ts,a=>by simp only [topL,giL];rw [top_gi t];exact topL_gi ts _
end
end Go.Proofs.YtacaanhnlfpbhaaGreat
namespace Go.Proofs.YtacaanhnlfpbhaaGreat
open Go.RowKit
set_option linter.unusedVariables false
set_option linter.unusedSimpArgs false
set_option maxRecDepth 100000 in
set_option maxHeartbeats 8000000 in
theorem greatest60 {w0:World} {B:Nat} {N:Nv} {t:Tn} (h:TI w0 B N t):∀ (w:World),B≤w.heap.size→(∀ b,b < B→w.heap[b]?=w0.heap[b]?) →
  Calls Tryz.prog 60 #[N.v] w fun e w'=>e=.returned (.int .i64 t.gi)∧Below w.heap.size w w':=by
 induction h with
 | @mk N R ts ND ok hr hR hRk hs hS hk ih =>
 intro w hB hw
 have hmax:=ok.s
 obtain ⟨k,r1,r2,r3,a2,s1,s2,s3,a4,a5,a6,a7,a8⟩:=N
 simp only at hs hS hmax
 simp only [Tn.gi]
 obtain ⟨r,hrr⟩:∃ r,r=giL ts a7:=⟨_,rfl⟩
 rw [← hrr]
 have HR:=hid' hrr
 have HW:=hid' hw
 have HS:=hid' hS
 have IH:=hid' ih
 have hm2:s2≤9223372036854775807:=by have:maxLen=9223372036854775807:=rfl;omega
 have HL:=hid' hs
 clear ok hr hR hRk hk hS hw hrr ih hmax hs
 go_enter Tryz.func60,Tryz.ntmps60
 go_wp2_with fail
 go_loopw [3,4] (fun u y wq=>∃ i:Nat,y=.int .i64 (i:Int)∧i≤s2∧(∃ q,u=.int .i64 q∧Hid (giL (ts.drop i) q=r))∧Hid (Below w.heap.size w wq)∧Hid (wq.heap[w.heap.size]?=some (.cells #[.int .i64 k,.slice r1 r2 r3,.int .i64 a2,.slice s1 s2 s3,.int .i64 a4,.int .i64 a5,.bool a6,.int .i64 a7,.string a8] 25 (0,0)))) (fun _ y _=>s2 - (intOf y).toNat)
 case atStart=>exact ⟨0,rfl,by omega,⟨a7,rfl,HR.out.symm⟩,Joins.below_alloc1 w _,heap_alloc_new w _⟩
 case round =>
  obtain ⟨i,rfl,hi,⟨q,rfl,HQ⟩,BK,BX⟩:=hrel
  obtain ⟨o0,o1,o2,o3,o4,o5,o6,o7,o8⟩:=nine' BX.out
  by_cases hil:i < s2
  ·have b1:decide ((i:Int) < (s2:Int))=true:=by simp;omega
   have b2:(i:Int) < (s2:Int):=by omega
   have hlt:i < ts.length:=by rw [← HL.out];exact hil
   obtain ⟨b,o,hs1,hb,hc⟩:=HS.out (by omega)
   subst hs1
   have hwk:∀ b,b < B→wr.heap[b]?=w0.heap[b]?:=fun b hb=>(BK.out.block b (by omega)).trans (HW.out b hb)
   obtain ⟨n0,n1,n2,n3,n4,n5,n6,n7,n8⟩:=(hc i hlt).kept (hwk b hb)
   have HC:=IH.out i hlt wr (by have:=BK.out.size;omega) hwk
   rw [giL_drop ts i hlt q] at HQ
   obtain ⟨g,hg⟩:∃ g,g=ts[i].gi:=⟨_,rfl⟩
   rw [← hg] at HC HQ
   obtain ⟨M,hM⟩:∃ M,M=ND i:=⟨_,rfl⟩
   rw [← hM] at HC n0 n1 n2 n3 n4 n5 n6 n7 n8
   have ad1:IntKind.i64.wrap ((i:Int) + 1)=(i:Int) + 1:=by simp [IntKind.wrap,IntKind.bits,IntKind.signed];omega
   clear hM hg hwk hc hlt
   go_wp2_with (first | (go_at_call 60;(with_reducible refine HC.mono ?_);rintro e w2 ⟨rfl,hb2⟩;have HB2:=hid' hb2;clear hb2 HC))
   refine ⟨⟨i + 1,by push_cast;rfl,by omega,⟨_,rfl,HQ.out⟩,?_,?_⟩,?_⟩
   ·exact BK.out.trans (Joins.below_le HB2.out BK.out.size)
   ·exact (HB2.out.block _ (by have:=(Array.getElem?_eq_some_iff.1 BX.out).1;omega)).trans BX.out
   ·simp [intOf]
    omega
  ·have b1:decide ((i:Int) < (s2:Int))=false:=by simp;omega
   obtain rfl:i=s2:=by omega
   have e:=HQ.out
   rw [HL.out,List.drop_length] at e
   simp only [giL] at e
   go_wp2
   go_ret
   exact ⟨by first | rfl | exact ret_int e,BK.out⟩
set_option maxRecDepth 100000 in
set_option maxHeartbeats 8000000 in
theorem dlay_alt {base:Nat} {a2 a4 a5 a7:Int} {a6:Bool} {a8:ByteArray} {r1 s1:Option Addr} {r2 r3 s2 s3:Nat} {R:List (Int × Int)} {ts:List Tn} (hl:LD 98 base ⟨5,r1,r2,r3,a2,s1,s2,s3,a4,a5,a6,a7,a8⟩ (.mk 5 R a2 ts a4 a5 a6 a7 a8)):LDn 58 base ⟨5,r1,r2,r3,a2,s1,s2,s3,a4,a5,a6,a7,a8⟩ (.mk 5 R a2 ts a4 a5 a6 a7 a8):=by
 intro w m l hM hm hb hT hlen hroom
 obtain ⟨U,hU⟩:∃ U,U=w.alloc (.cells #[.int .i64 5,.slice r1 r2 r3,.int .i64 a2,.slice s1 s2 s3,.int .i64 a4,.int .i64 a5,.bool a6,.int .i64 a7,.string a8] 25):=⟨_,rfl⟩
 have hbU:Below w.heap.size w U:=by rw [hU];exact Joins.below_alloc1 w _
 have hQ:BNo U w.heap.size ⟨5,r1,r2,r3,a2,s1,s2,s3,a4,a5,a6,a7,a8⟩:=by rw [hU];exact heap_alloc_new w _
 have hMU:=hM.below hbU
 have hbU2:base≤U.heap.size:=Nat.le_trans hb hbU.size
 have hTU:TI U base ⟨5,r1,r2,r3,a2,s1,s2,s3,a4,a5,a6,a7,a8⟩ (.mk 5 R a2 ts a4 a5 a6 a7 a8):=hT.kept (fun b hb'=>hbU.block b (by omega))
 have HF:=hid (FrD.of_below hbU hb)
 have hpU:w.heap.size < U.heap.size:=(Array.getElem?_eq_some_iff.1 hQ).1
 obtain ⟨c0,c1,c2,c3,c4,c5,c6,c7,c8⟩:=nine' hQ
 obtain ⟨p,hp⟩:∃ p,p=w.heap.size:=⟨_,rfl⟩
 have HMU:=hid hMU
 have HTU:=hid hTU
 rw [← hp] at c0 c1 c2 c3 c4 c5 c6 c7 c8 hpU hQ
 have HQ:Hid (∀ W,FrD base U W→BNo W p ⟨5,r1,r2,r3,a2,s1,s2,s3,a4,a5,a6,a7,a8⟩∧TI W base ⟨5,r1,r2,r3,a2,s1,s2,s3,a4,a5,a6,a7,a8⟩ (.mk 5 R a2 ts a4 a5 a6 a7 a8)∧base≤W.heap.size∧FrD base w W):=fun W hW=>⟨hW.blk _ _ _ _ hQ (by decide) (by decide),hTU.kept hW.low,Nat.le_trans hbU2 hW.size,HF.out.trans hW⟩
 have HFU:=full59 hMU
 rw [decide_eq_false (show ¬ 20000 < l.length by omega)] at HFU
 clear hM hMU hbU hQ hT hTU
 have HS:=hl U m l HMU.out hm hbU2 HTU.out hlen
 go_enter Tryz.func58,Tryz.ntmps58
 go_upto_region 1 with fail
 rw [← hU,← hp]
 clear hU hp
 go_upto_region 3 with (first | (go_at_call 59;(with_reducible refine HFU.mono ?_);rintro e w2 ⟨rfl,hw⟩;have hw':=hw.symm;clear hw;subst hw';clear HFU))
 go_wp2_with (first | (go_at_call 98;(with_reducible refine HS.mono ?_);rintro e V2 ⟨rfl,hL2,hf2⟩;have HL2:=hid hL2;have HF2:=hid hf2;clear hL2 hf2 HS))
 all_goals first | go_end0 | (refine bodyPost_ret (results_none rfl _ _ _) rfl ?_)
 all_goals exact ⟨rfl,HL2.out,HF.out.trans HF2.out⟩
set_option maxRecDepth 100000 in
set_option maxHeartbeats 8000000 in
theorem dlay_rep {base:Nat} {a2 a4 a5 a7:Int} {a6:Bool} {a8:ByteArray} {r1 s1:Option Addr} {r2 r3 s2 s3:Nat} {R:List (Int × Int)} {ts:List Tn} (hl:LD 99 base ⟨6,r1,r2,r3,a2,s1,s2,s3,a4,a5,a6,a7,a8⟩ (.mk 6 R a2 ts a4 a5 a6 a7 a8)):LDn 58 base ⟨6,r1,r2,r3,a2,s1,s2,s3,a4,a5,a6,a7,a8⟩ (.mk 6 R a2 ts a4 a5 a6 a7 a8):=by
 intro w m l hM hm hb hT hlen hroom
 obtain ⟨U,hU⟩:∃ U,U=w.alloc (.cells #[.int .i64 6,.slice r1 r2 r3,.int .i64 a2,.slice s1 s2 s3,.int .i64 a4,.int .i64 a5,.bool a6,.int .i64 a7,.string a8] 25):=⟨_,rfl⟩
 have hbU:Below w.heap.size w U:=by rw [hU];exact Joins.below_alloc1 w _
 have hQ:BNo U w.heap.size ⟨6,r1,r2,r3,a2,s1,s2,s3,a4,a5,a6,a7,a8⟩:=by rw [hU];exact heap_alloc_new w _
 have hMU:=hM.below hbU
 have hbU2:base≤U.heap.size:=Nat.le_trans hb hbU.size
 have hTU:TI U base ⟨6,r1,r2,r3,a2,s1,s2,s3,a4,a5,a6,a7,a8⟩ (.mk 6 R a2 ts a4 a5 a6 a7 a8):=hT.kept (fun b hb'=>hbU.block b (by omega))
 have HF:=hid (FrD.of_below hbU hb)
 have hpU:w.heap.size < U.heap.size:=(Array.getElem?_eq_some_iff.1 hQ).1
 obtain ⟨c0,c1,c2,c3,c4,c5,c6,c7,c8⟩:=nine' hQ
 obtain ⟨p,hp⟩:∃ p,p=w.heap.size:=⟨_,rfl⟩
 have HMU:=hid hMU
 have HTU:=hid hTU
 rw [← hp] at c0 c1 c2 c3 c4 c5 c6 c7 c8 hpU hQ
 have HQ:Hid (∀ W,FrD base U W→BNo W p ⟨6,r1,r2,r3,a2,s1,s2,s3,a4,a5,a6,a7,a8⟩∧TI W base ⟨6,r1,r2,r3,a2,s1,s2,s3,a4,a5,a6,a7,a8⟩ (.mk 6 R a2 ts a4 a5 a6 a7 a8)∧base≤W.heap.size∧FrD base w W):=fun W hW=>⟨hW.blk _ _ _ _ hQ (by decide) (by decide),hTU.kept hW.low,Nat.le_trans hbU2 hW.size,HF.out.trans hW⟩
 have HFU:=full59 hMU
 rw [decide_eq_false (show ¬ 20000 < l.length by omega)] at HFU
 clear hM hMU hbU hQ hT hTU
 have HS:=hl U m l HMU.out hm hbU2 HTU.out hlen
 go_enter Tryz.func58,Tryz.ntmps58
 go_upto_region 1 with fail
 rw [← hU,← hp]
 clear hU hp
 go_upto_region 3 with (first | (go_at_call 59;(with_reducible refine HFU.mono ?_);rintro e w2 ⟨rfl,hw⟩;have hw':=hw.symm;clear hw;subst hw';clear HFU))
 go_wp2_with (first | (go_at_call 99;(with_reducible refine HS.mono ?_);rintro e V2 ⟨rfl,hL2,hf2⟩;have HL2:=hid hL2;have HF2:=hid hf2;clear hL2 hf2 HS))
 all_goals first | go_end0 | (refine bodyPost_ret (results_none rfl _ _ _) rfl ?_)
 all_goals exact ⟨rfl,HL2.out,HF.out.trans HF2.out⟩
theorem lay_allD {base:Nat} {t:Tn} (h:Nf t):∀ N,LD 58 base N t:=by
 have top:∀ {N:Nv} {k:Int} {R:List (Int × Int)} {a:Int} {s:List Tn} {mn mx:Int} {lz:Bool} {ix:Int} {nm:ByteArray} {w:World},TI w base N (.mk k R a s mn mx lz ix nm)→N.k=k∧N.a2=a∧N.a4=mn∧N.a5=mx∧N.a6=lz∧N.a7=ix∧N.a8=nm:=fun h=>by cases h;exact ⟨rfl,rfl,rfl,rfl,rfl,rfl,rfl⟩
 induction h with
 | @leaf k R a mn mx lz ix nm hk hn =>
  intro N w m l hM hm hb hT hlen
  obtain ⟨e0,e2,e4,e5,e6,e7,e8⟩:=top hT
  obtain ⟨k0,r1,r2,r3,a2,s1,s2,s3,a4,a5,a6,a7,a8⟩:=N
  dsimp only at e0 e2 e4 e5 e6 e7 e8
  subst e0 e2 e4 e5 e6 e7 e8
  have hfk:=fine_kind0 hn
  rcases hk with rfl | rfl | rfl
  ·exact lay58_full dlay_empty w m l hM hm hb hT hlen
  ·by_cases hR:R.length=0
   ·exact lay58_full (dlay_fail hR) w m l hM hm hb hT hlen
   ·exact lay58_full (dlay_class hR (by omega)) w m l hM hm hb hT hlen
  ·exact lay58_full dlay_assert w m l hM hm hb hT hlen
 | @cat s h2 h hs ih =>
  intro N w m l hM hm hb hT hlen
  obtain ⟨e0,e2,e4,e5,e6,e7,e8⟩:=top hT
  obtain ⟨k0,r1,r2,r3,a2,s1,s2,s3,a4,a5,a6,a7,a8⟩:=N
  dsimp only at e0 e2 e4 e5 e6 e7 e8
  subst e0 e2 e4 e5 e6 e7 e8
  exact lay58_full (dlay_cat fun i hi N=>ih _ (List.getElem_mem hi) N) w m l hM hm hb hT hlen
 | @alt s h2 h hs ih =>
  intro N w m l hM hm hb hT hlen
  obtain ⟨e0,e2,e4,e5,e6,e7,e8⟩:=top hT
  obtain ⟨k0,r1,r2,r3,a2,s1,s2,s3,a4,a5,a6,a7,a8⟩:=N
  dsimp only at e0 e2 e4 e5 e6 e7 e8
  subst e0 e2 e4 e5 e6 e7 e8
  exact lay58_full (dlay_alt (dalt h2 fun i hi N=>ih _ (List.getElem_mem hi) N)) w m l hM hm hb hT hlen
 | @loop mn mx lz y h hy ih =>
  intro N w m l hM hm hb hT hlen
  obtain ⟨e0,e2,e4,e5,e6,e7,e8⟩:=top hT
  obtain ⟨k0,r1,r2,r3,a2,s1,s2,s3,a4,a5,a6,a7,a8⟩:=N
  dsimp only at e0 e2 e4 e5 e6 e7 e8
  subst e0 e2 e4 e5 e6 e7 e8
  rcases h with ⟨rfl,rfl⟩ | ⟨rfl,rfl⟩ | ⟨rfl,rfl⟩
  ·exact lay58_full (dlay_rep (dloop_quest y ih)) w m l hM hm hb hT hlen
  ·exact lay58_full (dlay_rep (dloop_star y ih)) w m l hM hm hb hT hlen
  ·exact lay58_full (dlay_rep (dloop_plus y ih)) w m l hM hm hb hT hlen
 | @grp ix nm y hn hy ih =>
  intro N w m l hM hm hb hT hlen
  obtain ⟨e0,e2,e4,e5,e6,e7,e8⟩:=top hT
  obtain ⟨k0,r1,r2,r3,a2,s1,s2,s3,a4,a5,a6,a7,a8⟩:=N
  dsimp only at e0 e2 e4 e5 e6 e7 e8
  subst e0 e2 e4 e5 e6 e7 e8
  have hfk:=fine_kind0 hn
  exact lay58_full (dlay_group y rfl (by omega) ih) w m l hM hm hb hT hlen
theorem RDx.pi {w w':World} {m base lo c:Nat} {z1:Option Addr} {is:List Iv} {l:List In} (h:RDx w m base z1 c is l) (y:Nat) (hlb:lo≤base) (hyt:∀ arr t fr,w.heap[y]?=some (.cells arr t fr)→t≠86∧t≠70) (hk:∀ b,b≠y→w'.heap[b]?=w.heap[b]?) (hs:w'.heap.size=w.heap.size):∀ W',(∀ b,lo≤b→b < w'.heap.size→W'.heap[b]?=w'.heap[b]?)→w'.heap.size≤W'.heap.size→PI W' W'.heap.size z1 l.length l:=by
 have kept:∀ (W':World),(∀ b,lo≤b→b < w'.heap.size→W'.heap[b]?=w'.heap[b]?)→∀ {e size n:Nat} {v:Value} {xs:List Value},(e=86∨e=70)→w.ownsRow base e size v n xs→W'.ownsRow base e size v n xs:=fun W' hW e size n v xs he ho=>row_kept ho fun b hb=>by
  obtain ⟨cs,hc⟩:=own_atD ho hb
  have hl:=ho.lt b hb
  have hby:b≠y:=fun eq=>by
   subst eq
   have h2:=hyt _ _ _ hc
   rcases he with rfl | rfl
   ·exact h2.1 rfl
   ·exact h2.2 rfl
  exact (hW b (by omega) (by rw [hs];exact hl.2)).trans (hk b hby)
 intro W' hW hWs
 have hr:=kept W' hW (.inl rfl) h.row
 refine ⟨rfl,fun hp=>?_⟩
 obtain ⟨g,rfl⟩:=h.form hp
 have hgl:=hr.lt g rfl
 refine ⟨g,0,fun i=>is.getD i default,rfl,hgl.2,fun i hi=>?_⟩
 have hil:i < is.length:=by rw [h.len];exact hi
 have eg:is.getD i default=is[i]:=by rw [List.getD_eq_getElem?_getD,List.getElem?_eq_getElem hil];rfl
 show I5 W' g 0 i (is.getD i default)∧IM W' W'.heap.size (is.getD i default) l[i]
 rw [eg]
 refine ⟨?_,?_⟩
 ·have hc:∀ k,k < 5→W'.cell? ⟨g,0 + i * 5 + k,none⟩=(Iv.cs is[i])[k]?:=fun k hk5=>by
   rw [Nat.zero_add,hr.cellAt (i * 5 + k) (by omega),flat5 is i k hil hk5]
  exact ⟨hc 0 (by omega),hc 1 (by omega),hc 2 (by omega),hc 3 (by omega),hc 4 (by omega)⟩
 ·have hI:=h.im i hil hi
  exact ⟨hI.op,hI.x,hI.y,hI.a,hI.len,hI.sm,rowAt_own (kept W' hW (.inr rfl) hI.rr) hI.len⟩
theorem errC_big {t:Tn} (hs:t.sound=true) (h:errS t≠0):errC t=3:=by
 unfold errC
 rw [if_pos hs]
 split
 ·rfl
 ·unfold errS at h ⊢
  rw [if_pos hs] at h ⊢
  split
  ·rfl
  ·rename_i hb
   rw [if_neg hb] at h
   exact absurd rfl h
theorem errC_full {t:Tn} (hs:t.sound=true) (h:20000 < t.S.len + 3):errC t=3:=by
 unfold errC
 rw [if_pos hs,if_pos]
 have hf:=(sound_parts hs).1
 have:=ln_len t hf
 omega
theorem errC_ok {t:Tn} (hs:t.sound=true) (h0:errS t=0) (h:t.S.len + 3≤20000):errC t=0:=by
 unfold errC
 rw [if_pos hs,if_neg,h0]
 have hf:=(sound_parts hs).1
 have:=ln_len t hf
 omega
end Go.Proofs.YtacaanhnlfpbhaaGreat
