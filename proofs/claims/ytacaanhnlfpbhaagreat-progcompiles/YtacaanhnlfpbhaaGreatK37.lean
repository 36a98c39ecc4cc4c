/- HELPERS: texts of ours put together. -/
import Derived.Test.YtacaanhnlfpbhaaGreatK36
import Derived.Test.YtacaanhnlfpbhaaGreatK09
import Derived.Test.YtacaanhnlfpbhaaGreatK04
import Derived.Test.YtacaanhnlfpbhaaGreatK18
import Derived.Test.YtacaanhnlfpbhaaGreatProg
import Derived.WalkKit
import Derived.Laws.BitsLemmas
import Derived.ProofKit
import Derived.BigQuiet
import Derived.WalkSmall
import Derived.Deep.QuietTactic
import Derived.Deep.RegionWith
import Derived.Laws.EntriesVeiled
import Derived.Deep.WholeRow
import Derived.Test.YtacaanhnlfpbhaaGreatK01
import Derived.Lib.SmallJoins
import Derived.Lib.MinMax
import Derived.Maps.AppendAt
import Derived.Laws.AppendOwnNone
import Derived.Test.YtacaanhnlfpbhaaGreatK03
import Derived.Test.YtacaanhnlfpbhaaGreatK02
import Derived.Test.YtacaanhnlfpbhaaGreatK35
import Derived.Lib.Small
import Derived.Deep.Cut
import Derived.Deep.CutRange
import Derived.Laws.StructEq
import Derived.Deep.DrawnRows
namespace Go.Proofs.YtacaanhnlfpbhaaGreat
open Go.RowKit Go.Lk
set_option linter.unusedVariables false
set_option linter.unusedSimpArgs false
theorem TP.build {w:World} {A:Nat→Prop} {N:Nv} {R:List (Int × Int)} {ts:List Tn} {MS:List Nv} {b1 b2:Nat} (ok:N.ok) (hRk:∀ x ∈ R,I64ok x.1∧I64ok x.2) (rr:w.ownsRow b1 70 2 (.slice N.r1 N.r2 N.r3) R.length (O2 R)) (hA1:∀ b,N.rb=some b→A b)
  (sr:w.ownsRow b2 25 9 (.slice N.s1 N.s2 N.s3) ts.length (MS.flatMap Nv.cs)) (hl:MS.length=ts.length) (hA2:∀ b,N.sb=some b→A b) (hk:∀ i (hi:i < ts.length),TP w A (MS.getD i default) ts[i]):TP w A N (.mk N.k R N.a2 ts N.a4 N.a5 N.a6 N.a7 N.a8):=by
 refine .mk (ND:=fun i=>MS.getD i default) ok (row_len rr) (fun hn=>?_) hRk (row_len sr) (fun hp=>?_) hk
 ·rcases rr.2 with ⟨e,h0⟩ | ⟨b,cap,cur,e,_⟩
  ·exact absurd (List.length_eq_zero_iff.1 h0) hn
  ·have hrow:=rr
   rw [e] at hrow
   have e':=e
   simp only [Value.slice.injEq] at e
   refine ⟨b,0,e.1,hA1 b (by show (Value.slice N.r1 N.r2 N.r3).ownBlock=some b;rw [e'];rfl),fun i hi=>?_⟩
   have:=O2_at R i hi
   rw [Nat.zero_add,hrow.cellAt (i * 2) (by omega),hrow.cellAt (i * 2 + 1) (by omega)]
   exact this
 ·obtain ⟨b,e1,e2,h9⟩:=row_nine sr hl.symm hp
  refine ⟨b,0,e1,hA2 b e2,fun i hi=>?_⟩
  have:=h9 i (by omega)
  simp only [List.getD_eq_getElem?_getD,List.getElem?_eq_getElem (show i < MS.length by omega),Option.getD_some]
  exact this
theorem getD_snoc (MS:List Nv) (M:Nv) (j i:Nat) (hl:MS.length=i) (hj:j < i + 1):(MS ++ [M]).getD j default=if j=i then M else MS.getD j default:=by
 by_cases e:j=i
 ·subst e;subst hl;simp [List.getD_eq_getElem?_getD]
 ·rw [if_neg e,List.getD_eq_getElem?_getD,List.getElem?_append_left (by omega),List.getD_eq_getElem?_getD]
set_option maxRecDepth 100000 in
set_option maxHeartbeats 8000000 in
theorem copy16 {w0:World} {B:Nat} {N:Nv} {t:Tn} (h:TI w0 B N t):t.nodes≤200000→t.small=true→∀ (w:World),B≤w.heap.size→(∀ b,b < B→w.heap[b]?=w0.heap[b]?) →
  Calls Tryz.prog 20 #[N.v] w fun e w'=>∃ M,e=.returned (Nv.v M)∧TP w' (fun b=>w.heap.size≤b∧b < w'.heap.size) M t∧Below w.heap.size w w':=by
 induction h with
 | @mk N R ts ND ok hr hR hRk hs hS hk ih =>
 intro hno hsm w hB hw
 simp only [Tn.small,Bool.and_eq_true,decide_eq_true_eq] at hsm
 simp only [Tn.nodes] at hno
 have hR5:=hsm.1
 have IH:∀ i (hi:i < ts.length) (w:World),B≤w.heap.size→(∀ b,b < B→w.heap[b]?=w0.heap[b]?)→Calls Tryz.prog 20 #[(ND i).v] w fun e w'=>∃ M,e=.returned (Nv.v M)∧TP w' (fun b=>w.heap.size≤b∧b < w'.heap.size) M ts[i]∧Below w.heap.size w w':=fun i hi=>ih i hi (by have:=nodes_get ts i hi;omega) (smallL_get hsm.2 i hi)
 have hlen:ts.length≤200000:=by have:=nodes_ge ts;omega
 have HRL:Hid (N.r2=R.length):=hr
 have hr2:N.r2 * 16≤140737488351232:=by omega
 have HRW:Hid (∀ w1:World,(∀ b,b < B→w1.heap[b]?=w0.heap[b]?)→R2 w1 B N.r1 R):=fun w1 h1=>hR.kept h1
 have HOK:=hid ok
 obtain ⟨k,r1,r2,r3,a2,s1,s2,s3,a4,a5,a6,a7,a8⟩:=N
 dsimp only at hs hS HRL HRW hr2
 have hm2:s2≤200000:=by omega
 have HW:=hid hw
 have HS:=hid hS
 have HIH:=hid IH
 have HL:=hid hs
 obtain ⟨i5,hi5,hz50,hz51,hz52⟩:=info_parts info53
 obtain ⟨i2,hi2,hz20,hz21,hz22⟩:=info_parts info25
 clear ok hr hR hk hS hw ih hs IH hno hlen hR5 hsm
 have HSRC:Hid (∀ V:World,(∀ b,b < B→V.heap[b]?=w0.heap[b]?)→0 < r2→∃ b f,r1=some ⟨b,f,none⟩∧∀ j u,(O2 R)[j]?=some u→V.cell? ⟨b,f + j,none⟩=some u):=fun V hV hp=>(HRW.out V hV).src (by have:=HRL.out;omega)
 have HO2:Hid ((O2 R).length=r2 * 2):=(O2_len R).trans (by rw [HRL.out])
 go_enter Tryz.func20,Tryz.ntmps20
 go_upto_region 2 with fail
 obtain ⟨W,hW⟩:∃ W,W=(w.alloc (.cells #[.int .i64 k,.slice r1 r2 r3,.int .i64 a2,.slice s1 s2 s3,.int .i64 a4,.int .i64 a5,.bool a6,.int .i64 a7,.string a8] 25)).alloc (.cells #[.int .i64 0,.slice none 0 0,.int .i64 0,.slice none 0 0,.int .i64 0,.int .i64 0,.bool false,.int .i64 0,.string ⟨#[]⟩] 25):=⟨_,rfl⟩
 rw [← hW]
 have hX:BxN W w.heap.size ⟨k,r1,r2,r3,a2,s1,s2,s3,a4,a5,a6,a7,a8⟩:=by rw [hW];exact (heap_alloc_old _ _ (by simp)).trans (heap_alloc_new w _)
 have hY:BxZ W (w.heap.size + 1):=by rw [hW];exact two_new w _ _ _
 have hb:Below w.heap.size w W:=by rw [hW];exact below_two' w _ _
 have hsW:W.heap.size=w.heap.size + 2:=by rw [hW];simp
 obtain ⟨x,hx⟩:∃ x,x=w.heap.size:=⟨_,rfl⟩
 rw [← hx] at hX hY hb hsW ⊢
 have HX:=hid hX
 have HY:=hid hY
 have HB:=hid hb
 have HSW:=hid hsW
 have HXE:=hid hx
 have hxl:x < W.heap.size:=by omega
 have hwkW:∀ b,b < B→W.heap[b]?=w0.heap[b]?:=fun b hb'=>(hb.block b (by omega)).trans (HW.out b hb')
 have HWK:=hid hwkW
 have HSR:=hid (HSRC.out W hwkW)
 obtain ⟨q0,q1,q2,q3,q4,q5,q6,q7,q8⟩:=nine' hX
 clear hX hY hb hsW hx hW hwkW HSRC
 go_upto_region 3 with (at_builtin;refine wpList_append_nil rfl (.tmp 7) (.tmp 9) 22 rfl 70 i5 (.agg #[.int .i64 0,.int .i64 0]) 2 16 Tryz.underlying22 hi5 hz50 hz51 hz52 rfl (by decide) rfl r1 r2 r3 (O2 R) rfl HO2.out HSR.out (O2_one R) (by unfold maxLen;omega) (by omega) ?_;intro v4 wc ho4 hb4 hl4;obtain ⟨c1,c3,rfl,hc3⟩:=row_shape ho4.out;have HC3:=hid hc3;clear hc3)
 have HRR:Hid (wc.ownsRow W.heap.size 70 2 (.slice c1 r2 c3) r2 (O2 R)):=ho4.out
 have HBW:Hid (Below W.heap.size W wc):=hb4.out
 clear ho4 hb4 hl4 HSR HO2 q0 q1 q2 q3 q4 q5 q6 q7 q8
 have hwl:W.heap.size≤wc.heap.size:=HBW.out.size
 go_wp2_with fail
 go_loopw [4,5] (fun u y wq=>∃ (i:Nat) (z1:Option Addr) (z3:Nat),u=.slice z1 i z3∧y=.int .i64 (i:Int)∧i≤s2∧Hid (∃ MS:List Nv,MS.length=i∧wq.ownsRow W.heap.size 25 9 (.slice z1 i z3) i (MS.flatMap Nv.cs)∧∀ j,j < i→TP wq (fun b=>W.heap.size≤b∧b < wq.heap.size∧(Value.slice z1 i z3).ownBlock≠some b) (MS.getD j default) (ts.getD j default))∧Hid (∀ b,(Value.slice z1 i z3).ownBlock=some b→(Value.slice c1 r2 c3).ownBlock≠some b)∧Hid (wq.ownsRow W.heap.size 70 2 (.slice c1 r2 c3) r2 (O2 R))∧Hid (Below W.heap.size W wq)) (fun _ y _=>s2 - (intOf y).toNat)
 case atStart=>exact ⟨0,none,0,rfl,rfl,by omega,⟨[],rfl,World.ownsRow_nil _ _ _ _,fun j hj=>by omega⟩,(fun b hb=>by cases hb),HRR.out,HBW.out⟩
 case round =>
  obtain ⟨i,z1,z3,rfl,rfl,hi,HST,HUR,HRq,HBq⟩:=hrel
  have hXq:BxN wr x ⟨k,r1,r2,r3,a2,s1,s2,s3,a4,a5,a6,a7,a8⟩:=(HBq.out.block x hxl).trans HX.out
  obtain ⟨q0,q1,q2,q3,q4,q5,q6,q7,q8⟩:=nine' hXq
  have hwl':W.heap.size≤wr.heap.size:=by have:=HBq.out.size;omega
  have hxr:x < wr.heap.size:=by omega
  by_cases hil:i < s2
  ·have b1:decide ((i:Int) < (s2:Int))=true:=by simp;omega
   have b2:(i:Int) < (s2:Int):=by omega
   have ad1:IntKind.i64.wrap ((i:Int) + 1)=(i:Int) + 1:=by simp [IntKind.wrap,IntKind.bits,IntKind.signed];omega
   have hlt:i < ts.length:=by rw [← HL.out];exact hil
   obtain ⟨b,o,hs1,hb,hc⟩:=HS.out (by omega)
   subst hs1
   have hwk:∀ b,b < B→wr.heap[b]?=w0.heap[b]?:=fun b hb=>(HBq.out.block b (by have:=HSW.out;have:=HXE.out;omega)).trans (HWK.out b hb)
   obtain ⟨n0,n1,n2,n3,n4,n5,n6,n7,n8⟩:=(hc i hlt).kept (hwk b hb)
   have HC:=HIH.out i hlt wr (by have:=HSW.out;have:=HXE.out;omega) hwk
   obtain ⟨P,hP⟩:∃ P,P=ND i:=⟨_,rfl⟩
   rw [← hP] at HC n0 n1 n2 n3 n4 n5 n6 n7 n8
   obtain ⟨MS,hS0,hS1,hS2⟩:=HST.out
   have HS0:=hid hS0
   have HS1:=hid hS1
   have HS2:=hid hS2
   clear hc hP hwk hXq HST hS0 hS1 hS2
   go_wp2_with (first | (go_at_call 20;(with_reducible refine HC.mono ?_);rintro e w2 ⟨M,rfl,hM,hb2⟩;have HM:=hid hM;have HB2:=hid hb2;have hz2:wr.heap.size≤w2.heap.size:=hb2.size;have HO1:Hid (((w2.alloc (.cells #[.int .i64 M.k,.slice M.r1 M.r2 M.r3,.int .i64 M.a2,.slice M.s1 M.s2 M.s3,.int .i64 M.a4,.int .i64 M.a5,.bool M.a6,.int .i64 M.a7,.string M.a8] 25)).alloc (.cells #[.int .i64 M.k,.slice M.r1 M.r2 M.r3,.int .i64 M.a2,.slice M.s1 M.s2 M.s3,.int .i64 M.a4,.int .i64 M.a5,.bool M.a6,.int .i64 M.a7,.string M.a8] 25)).ownsRow W.heap.size 25 9 (.slice z1 i z3) i (MS.flatMap Nv.cs)):=((row_kept HS1.out (fun b hb=>hb2.block b (HS1.out.lt b hb).2)).alloc _).alloc _;have HLt:Hid (((w2.alloc (.cells #[.int .i64 M.k,.slice M.r1 M.r2 M.r3,.int .i64 M.a2,.slice M.s1 M.s2 M.s3,.int .i64 M.a4,.int .i64 M.a5,.bool M.a6,.int .i64 M.a7,.string M.a8] 25)).alloc (.cells #[.int .i64 M.k,.slice M.r1 M.r2 M.r3,.int .i64 M.a2,.slice M.s1 M.s2 M.s3,.int .i64 M.a4,.int .i64 M.a5,.bool M.a6,.int .i64 M.a7,.string M.a8] 25)).ownsRow 0 25 9 (.slice (some ⟨w2.heap.size + 1,0,none⟩) 1 1) 1 (Nv.cs M)):=(by have:=World.ownsRow_lit (base:=0) (e:=25) (size:=9) (w2.alloc (.cells #[.int .i64 M.k,.slice M.r1 M.r2 M.r3,.int .i64 M.a2,.slice M.s1 M.s2 M.s3,.int .i64 M.a4,.int .i64 M.a5,.bool M.a6,.int .i64 M.a7,.string M.a8] 25)) #[.int .i64 M.k,.slice M.r1 M.r2 M.r3,.int .i64 M.a2,.slice M.s1 M.s2 M.s3,.int .i64 M.a4,.int .i64 M.a5,.bool M.a6,.int .i64 M.a7,.string M.a8] 1 (by omega) (by unfold maxLen;omega) rfl;have e:(w2.alloc (.cells #[.int .i64 M.k,.slice M.r1 M.r2 M.r3,.int .i64 M.a2,.slice M.s1 M.s2 M.s3,.int .i64 M.a4,.int .i64 M.a5,.bool M.a6,.int .i64 M.a7,.string M.a8] 25)).heap.size=w2.heap.size + 1:=(by simp);rw [e] at this;exact this);clear hM hb2 HC) | (at_builtin;refine wpList_append_row rfl (.tmp 24) (.tmp 26) 23 rfl W.heap.size 25 i2 Z9 9 112 Tryz.underlying23 hi2 hz20 hz21 hz22 rfl (by decide) (.slice z1 i z3) i (MS.flatMap Nv.cs) rfl HO1.out (.slice (some ⟨w2.heap.size + 1,0,none⟩) 1 1) 1 0 (Nv.cs M) rfl HLt.out (by omega) (one9 M) (by unfold maxLen;omega) (by omega) (by (try simp) <;> omega) ?_;intro v3 w3 ho3 hf3 _;obtain ⟨y1,y3,rfl,_⟩:=row_shape ho3.out))
   have hz3:w2.heap.size + 2≤w3.heap.size:=by have:=hf3.out.size;simpa using this
   have hk3:∀ b,b < w2.heap.size→(Value.slice z1 i z3).ownBlock≠some b→w3.heap[b]?=w2.heap[b]?:=fun b hb hn=>(hf3.out.block b (by (try simp) <;> omega) hn).trans ((heap_alloc_old _ _ (by (try simp) <;> omega)).trans (heap_alloc_old _ _ hb))
   have hkr:∀ b,b < wr.heap.size→(Value.slice z1 i z3).ownBlock≠some b→w3.heap[b]?=wr.heap[b]?:=fun b hb hn=>(hk3 b (by omega) hn).trans (HB2.out.block b hb)
   have hown3:∀ b,(Value.slice y1 (i + 1) y3).ownBlock=some b→(Value.slice z1 i z3).ownBlock=some b∨w2.heap.size≤b:=fun b hb=>by
    rcases hf3.out.own b hb with h | h
    ·exact .inl h
    ·right;simp at h;omega
   refine ⟨⟨i + 1,y1,y3,rfl,by push_cast;rfl,by omega,⟨MS ++ [M],by simp [HS0.out],?_,fun j hj=>?_⟩,fun b hb h=>?_,row_kept HRq.out (fun b hb=>hkr b (HRq.out.lt b hb).2 (fun h=>HUR.out b h hb)),⟨hf3.out.os.trans (HB2.out.os.trans HBq.out.os),hf3.out.tape.trans (HB2.out.tape.trans HBq.out.tape),hf3.out.output.trans (HB2.out.output.trans HBq.out.output),by have:=HBq.out.size;omega,fun b hb=>(hkr b (by omega) (fun h=>by have:=(HS1.out.lt b h).1;omega)).trans (HBq.out.block b hb)⟩⟩,by simp [intOf];omega⟩
   ·rw [List.flatMap_append]
    simpa using ho3.out
   ·rw [getD_snoc MS M j i HS0.out hj]
    by_cases e:j=i
    ·subst e
     rw [if_pos rfl]
     rw [getD_lt hlt]
     refine HM.out.kept (fun b hb=>hk3 b hb.2 (fun h=>by have:=(HS1.out.lt b h).2;have:=hb.1;omega)) (fun b hb=>⟨by have:=hb.1;omega,by have:=hb.2;omega,fun h=>?_⟩)
     rcases hown3 b h with h3 | h3
     ·have:=(HS1.out.lt b h3).2;have:=hb.1;omega
     ·have:=hb.2;omega
    ·rw [if_neg e]
     refine (HS2.out j (by omega)).kept (fun b hb=>hkr b hb.2.1 hb.2.2) (fun b hb=>⟨hb.1,by have:=hb.2.1;omega,fun h=>?_⟩)
     rcases hown3 b h with h3 | h3
     ·exact hb.2.2 h3
     ·have:=hb.2.1;omega
   ·rcases hown3 b hb with h3 | h3
    ·exact HUR.out b h3 h
    ·have:=(HRq.out.lt b h).2;omega
  ·have b1:decide ((i:Int) < (s2:Int))=false:=by simp;omega
   obtain rfl:i=s2:=by omega
   obtain ⟨MS,hS0,hS1,hS2⟩:=HST.out
   have HS0:=hid hS0
   have HS1:=hid hS1
   have HS2:=hid hS2
   have hYq:BxZ wr (x + 1):=(HBq.out.block (x + 1) (by have:=HSW.out;omega)).trans HY.out
   have f1:=Joins.unfrozen_of_block hXq 1
   have f3:=Joins.unfrozen_of_block hXq 3
   obtain ⟨y0,yy1,y2,yy3,y4,y5,y6,y7,y8⟩:=nine' hYq
   have g0:=Joins.unfrozen_of_block hYq 0
   have g1:=Joins.unfrozen_of_block hYq 1
   have g2:=Joins.unfrozen_of_block hYq 2
   have g3:=Joins.unfrozen_of_block hYq 3
   have g4:=Joins.unfrozen_of_block hYq 4
   have g5:=Joins.unfrozen_of_block hYq 5
   have g6:=Joins.unfrozen_of_block hYq 6
   have g7:=Joins.unfrozen_of_block hYq 7
   have g8:=Joins.unfrozen_of_block hYq 8
   have HYq:=hid hYq
   clear hXq hYq HST hS0 hS1 hS2
   go_wp2
   obtain ⟨X,hX⟩:∃ X,X=(wr.setCell ⟨x,1,none⟩ (.slice c1 r2 c3)).setCell ⟨x,3,none⟩ (.slice z1 i z3):=⟨_,rfl⟩
   rw [← hX]
   have hXo:∀ b,b≠x→X.heap[b]?=wr.heap[b]?:=fun b hb=>by rw [hX];exact (Below.heap_setCell _ _ _ _ hb).trans (Below.heap_setCell _ _ _ _ hb)
   have hXb:Below x w X:=by rw [hX];exact ((HB.out.trans (Joins.below_le HBq.out (by omega))).setCell (by exact Nat.le_refl _) _).setCell (by exact Nat.le_refl _) _
   have hXs:X.heap.size=wr.heap.size:=by rw [hX];simp [World.setCell]
   obtain ⟨y1',y2',y3',y4'⟩:=nineSetR X (x + 1) (.int .i64 k) (.slice c1 r2 c3) (.int .i64 a2) (.slice z1 i z3) (.int .i64 a4) (.int .i64 a5) (.bool a6) (.int .i64 a7) (.string a8) ((hXo _ (by omega)).trans HYq.out)
   obtain ⟨Y,hY⟩:∃ Y,Y=(((((((((X.setCell ⟨x + 1,0,none⟩ (.int .i64 k)).setCell ⟨x + 1,1,none⟩ (.slice c1 r2 c3)).setCell ⟨x + 1,2,none⟩ (.int .i64 a2)).setCell ⟨x + 1,3,none⟩ (.slice z1 i z3)).setCell ⟨x + 1,4,none⟩ (.int .i64 a4)).setCell ⟨x + 1,5,none⟩ (.int .i64 a5)).setCell ⟨x + 1,6,none⟩ (.bool a6)).setCell ⟨x + 1,7,none⟩ (.int .i64 a7)).setCell ⟨x + 1,8,none⟩ (.string a8)):=⟨_,rfl⟩
   rw [← hY] at y1' y2' y3' y4'
   have y4'':=y4' hXb (by omega)
   rw [← hY]
   refine bodyPost_ret (results_cell_row rfl _ _ (x + 1) 25 _ (0,0) _ rfl y1' Tryz.underlying25 rfl (by kernel_rfl)) rfl ?_
   have hkeep:∀ b,W.heap.size≤b→Y.heap[b]?=wr.heap[b]?:=fun b hb=>(y2' b (by have:=HSW.out;omega)).trans (hXo b (by omega))
   have hYs:Y.heap.size=wr.heap.size:=y3'.trans hXs
   have hRlen:r2=R.length:=HRL.out
   rw [← HXE.out]
   obtain ⟨_,z3',ez,hz31,hz32⟩:=row_shape HS1.out
   simp only [Value.slice.injEq] at ez
   obtain ⟨rfl,_,rfl⟩:=ez
   refine ⟨⟨k,c1,r2,c3,a2,z1,i,z3,a4,a5,a6,a7,a8⟩,rfl,TP.build (N:=⟨k,c1,r2,c3,a2,z1,i,z3,a4,a5,a6,a7,a8⟩) (R:=R) (ts:=ts) (MS:=MS) (b1:=W.heap.size) (b2:=W.heap.size) ⟨HOK.out.k,HOK.out.a2,HOK.out.a4,HOK.out.a5,HOK.out.a7,HOK.out.a8,HC3.out,⟨hz31,hz32⟩⟩ hRk (by rw [← hRlen];exact row_kept HRq.out (fun b hb=>hkeep b (HRq.out.lt b hb).1)) (fun b hb=>⟨by have:=(HRq.out.lt b hb).1;omega,by rw [hYs];exact (HRq.out.lt b hb).2⟩) (by rw [← HL.out];exact row_kept HS1.out (fun b hb=>hkeep b (HS1.out.lt b hb).1)) (by rw [HS0.out];exact HL.out) (fun b hb=>⟨by have:=(HS1.out.lt b hb).1;omega,by rw [hYs];exact (HS1.out.lt b hb).2⟩) (fun j hj=>?_),y4''⟩
   rw [← getD_lt hj]
   exact (HS2.out j (by have:=HL.out;omega)).kept (fun b hb=>hkeep b hb.1) (fun b hb=>⟨by have:=hb.1;omega,by rw [hYs];exact hb.2.1⟩)
end Go.Proofs.YtacaanhnlfpbhaaGreat
namespace Go.Proofs.YtacaanhnlfpbhaaGreat
open Go.RowKit
set_option linter.unusedVariables false
set_option linter.unusedSimpArgs false
attribute [local go_sem ↓] Go.wp_at_zero Go.wp_at_succ
theorem fields53:Tryz.prog.underlying 70=some (.struct (Tryz.prog.fieldsOf 70)):=by kernel_rfl
theorem held53:Tryz.prog.stoodInHeld 70=false:=by kernel_rfl
theorem guard53:Tryz.prog.eqGuardType Tryz.prog.depth 70=false:=by kernel_rfl
set_option maxRecDepth 100000 in
theorem rng_neqR (lo hi:Int) (W:World):(binOp .neq 70 (.agg #[.int .i64 lo,.int .i64 hi]) (.agg #[.int .i64 lo,.int .i64 hi])).run Tryz.prog W=.ok (.bool false) W:=by
 have he:∀ (a b:Int),(Op.equalIn 9999 3 (.int .i64 a) (.int .i64 b)).run Tryz.prog W=.ok (a == b) W:=fun a b=>run_equalIn_int W 9998 3 .i64 .i64 a b Tryz.underlying3
 rw [run_neq_struct,show Op.equalIn 10000 70=Op.equalIn (9999 + 1) 70 from rfl,run_equalIn_agg W 9999 70 _ _ fields53 held53]
 have hp:∀ (xs:Array Value) (o:Nat) (v:Value),xs[o]?=some v→(part 3 xs o).run Tryz.prog W=.ok v W:=by
  intro xs o v h
  simp [part,Tryz.isAgg3,h,Result.andThen]
 simp [Program.fieldsOf,Tryz.underlying70,Op.eqFields,hp,he,Result.andThen]
theorem rng_guardR (x y:Operand) (lo hi lo' hi':Int) (W:World):(eqGuard .neq 70 x y (.agg #[.int .i64 lo,.int .i64 hi]) (.agg #[.int .i64 lo',.int .i64 hi'])).run Tryz.prog W=.ok () W:=run_eqGuard_agg W .neq 70 x y _ _ guard53
theorem TI.inv {w:World} {B:Nat} {N:Nv} {t:Tn} (h:TI w B N t):∃ (R:List (Int × Int)) (ts:List Tn) (ND:Nat→Nv),t=.mk N.k R N.a2 ts N.a4 N.a5 N.a6 N.a7 N.a8∧N.ok∧N.r2=R.length∧R2 w B N.r1 R∧(∀ x ∈ R,I64ok x.1∧I64ok x.2)∧N.s2=ts.length ∧
  (0 < ts.length→∃ b o,N.s1=some ⟨b,o,none⟩∧b < B∧∀ i,i < ts.length→N9 w b o i (ND i))∧∀ i (hi:i < ts.length),TI w B (ND i) ts[i]:=by
 cases h with
 | mk ok hr hR hRk hs hS hk=>exact ⟨_,_,_,rfl,ok,hr,hR,hRk,hs,hS,hk⟩
set_option maxRecDepth 100000 in
set_option maxHeartbeats 8000000 in
theorem same13g {w0:World} {B:Nat} {N:Nv} {t:Tn} (h:TI w0 B N t):∀ (N':Nv),TI w0 B N' t→∀ (w:World),B≤w.heap.size→(∀ b,b < B→w.heap[b]?=w0.heap[b]?) →
  Calls Tryz.prog 16 #[N.v,N'.v] w fun e w'=>e=.returned (.bool true)∧Below w.heap.size w w':=by
 induction h with
 | @mk N R ts ND ok hr hR hRk hs hS hk ih =>
 intro N' h' w hB hw
 obtain ⟨R',ts',ND',e,ok',hr',hR',hRk',hs',hS',hk'⟩:=h'.inv
 obtain ⟨k,r1,r2,r3,a2,s1,s2,s3,a4,a5,a6,a7,a8⟩:=N
 obtain ⟨k',p1,p2,p3,b2,q1,q2,q3,b4,b5,b6,b7,b8⟩:=N'
 simp only [Tn.mk.injEq] at e
 obtain ⟨rfl,rfl,rfl,rfl,rfl,rfl,rfl,rfl,rfl⟩:=e
 dsimp only at hs hS hr hR hs' hS' hr' hR' ok ok'
 have e1:p2=r2:=by omega
 have e2:q2=s2:=by omega
 subst e1 e2
 have kr:p2≤9223372036854775807:=by have:=ok.r;dsimp only at this;have:maxLen=9223372036854775807:=rfl;omega
 have ks:q2≤9223372036854775807:=by have:=ok.s;dsimp only at this;have:maxLen=9223372036854775807:=rfl;omega
 have HRW:Hid (∀ w1:World,(∀ b,b < B→w1.heap[b]?=w0.heap[b]?)→R2 w1 B r1 R∧R2 w1 B p1 R):=fun w1 h1=>⟨hR.kept h1,hR'.kept h1⟩
 have HW:=hid hw
 have HS:=hid hS
 have HS':=hid hS'
 have HIH:=hid ih
 have HK:=hid hk'
 have HL:=hid hs
 have HRL:=hid hr
 clear ok ok' hr hR hRk hs hS hk ih hr' hR' hRk' hs' hS' hk' h' hw
 go_enter Tryz.func16,Tryz.ntmps16
 go_wp2_with fail
 obtain ⟨W,hW⟩:∃ W,W=(w.alloc (.cells #[.int .i64 k,.slice r1 p2 r3,.int .i64 a2,.slice s1 q2 s3,.int .i64 a4,.int .i64 a5,.bool a6,.int .i64 a7,.string a8] 25)).alloc (.cells #[.int .i64 k,.slice p1 p2 p3,.int .i64 a2,.slice q1 q2 q3,.int .i64 a4,.int .i64 a5,.bool a6,.int .i64 a7,.string a8] 25):=⟨_,rfl⟩
 have HBW:Hid (Below w.heap.size w W):=by rw [hW];exact below_two' w _ _
 have HX1:Hid (W.heap[w.heap.size]?=some (.cells #[.int .i64 k,.slice r1 p2 r3,.int .i64 a2,.slice s1 q2 s3,.int .i64 a4,.int .i64 a5,.bool a6,.int .i64 a7,.string a8] 25 (0,0))):=by
  rw [hW]
  exact (heap_alloc_old _ _ (by simp)).trans (heap_alloc_new w _)
 have HX2:Hid (W.heap[w.heap.size + 1]?=some (.cells #[.int .i64 k,.slice p1 p2 p3,.int .i64 a2,.slice q1 q2 q3,.int .i64 a4,.int .i64 a5,.bool a6,.int .i64 a7,.string a8] 25 (0,0))):=by
  rw [hW]
  exact two_new w _ _ _
 have l1:w.heap.size < W.heap.size:=(Array.getElem?_eq_some_iff.1 HX1.out).1
 have l2:w.heap.size + 1 < W.heap.size:=(Array.getElem?_eq_some_iff.1 HX2.out).1
 rw [← hW]
 obtain ⟨x1,hx1⟩:∃ x1,x1=w.heap.size:=⟨_,rfl⟩
 obtain ⟨x2,hx2⟩:∃ x2,x2=w.heap.size + 1:=⟨_,rfl⟩
 rw [← hx2] at HX2 l2 ⊢
 rw [← hx1] at HX1 l1 ⊢
 have HWW:Hid (∀ b,b < B→W.heap[b]?=w0.heap[b]?):=fun b hb=>(HBW.out.block b (by omega)).trans (HW.out b hb)
 have HBW':Hid (Below x1 w W):=by rw [hx1];exact HBW.out
 have hBW:B≤W.heap.size:=by omega
 have HXX:=hid hx1
 clear hW HW HBW hx1 hx2
 go_loopw [5] (fun x wq=>∃ i:Nat,x=.int .i64 (i:Int)∧i≤p2∧Hid (Below W.heap.size W wq)) (fun x _=>p2 - (intOf x).toNat)
 case atStart=>exact ⟨0,rfl,by omega,Below.refl _ _⟩
 case round =>
  obtain ⟨i,rfl,hi,BK⟩:=hrel
  obtain ⟨o0,o1,o2,o3,o4,o5,o6,o7,o8⟩:=nine' ((BK.out.block x1 l1).trans HX1.out)
  obtain ⟨u0,u1,u2,u3,u4,u5,u6,u7,u8⟩:=nine' ((BK.out.block x2 l2).trans HX2.out)
  by_cases hil:i < p2
  ·have b1:decide ((i:Int) < (p2:Int))=true:=by simp;omega
   have b2:(i:Int) < (p2:Int):=by omega
   have hlt:i < R.length:=by have:=HRL.out;omega
   have hwk:∀ b,b < B→wr.heap[b]?=w0.heap[b]?:=fun b hb=>(BK.out.block b (by omega)).trans (HWW.out b hb)
   obtain ⟨hq1,hq2⟩:=HRW.out wr hwk
   have hne:R≠[]:=fun e=>by rw [e] at hlt;simp at hlt
   obtain ⟨rb,ro,e1,_,hc1⟩:=hq1 hne
   obtain ⟨pb,po,e2,_,hc2⟩:=hq2 hne
   subst e1 e2
   obtain ⟨m0,m1⟩:=hc1 i hlt
   obtain ⟨v0,v1⟩:=hc2 i hlt
   obtain ⟨⟨lo,hi'⟩,hv⟩:∃ v,R[i]'hlt=v:=⟨_,rfl⟩
   rw [hv] at m0 m1 v0 v1
   simp only at m0 m1 v0 v1
   have ad1:IntKind.i64.wrap ((i:Int) + 1)=(i:Int) + 1:=by simp [IntKind.wrap,IntKind.bits,IntKind.signed];omega
   have hneq:=fun W'=>rng_neqR lo hi' W'
   have hgd:=fun x y W'=>rng_guardR x y lo hi' lo hi' W'
   clear hc1 hc2 hq1 hq2 hwk hv hne
   go_wp2_with fail
   go_quiet (fail)
   go_wp2
   exact ⟨⟨i + 1,by push_cast;rfl,by omega,BK.out.trans ⟨rfl,rfl,rfl,Nat.le_refl _,fun _ _=>rfl⟩⟩,by simp [intOf];omega⟩
  ·have b1:decide ((i:Int) < (p2:Int))=false:=by simp;omega
   go_wp2_with fail
   clear b1 o0 o1 o2 o3 o4 o5 o6 o7 o8 u0 u1 u2 u3 u4 u5 u6 u7 u8
   go_loopw [6] (fun x wq=>∃ i2:Nat,x=.int .i64 (i2:Int)∧i2≤q2∧Hid (Below W.heap.size W wq)) (fun x _=>q2 - (intOf x).toNat)
   case atStart=>exact ⟨0,rfl,by omega,BK⟩
   case round =>
    clear BK
    obtain ⟨i2,rfl,hi2,BK⟩:=hrel
    obtain ⟨o0,o1,o2,o3,o4,o5,o6,o7,o8⟩:=nine' ((BK.out.block x1 l1).trans HX1.out)
    obtain ⟨u0,u1,u2,u3,u4,u5,u6,u7,u8⟩:=nine' ((BK.out.block x2 l2).trans HX2.out)
    by_cases hil2:i2 < q2
    ·have b1:decide ((i2:Int) < (q2:Int))=true:=by simp;omega
     have b2:(i2:Int) < (q2:Int):=by omega
     have hlt:i2 < ts.length:=by have:=HL.out;omega
     have hwk:∀ b,b < B→wr.heap[b]?=w0.heap[b]?:=fun b hb=>(BK.out.block b (by omega)).trans (HWW.out b hb)
     obtain ⟨b,o,e1,hb,hc⟩:=HS.out (by omega)
     obtain ⟨b',o',e2,hb',hc'⟩:=HS'.out (by omega)
     subst e1 e2
     obtain ⟨n0,n1,n2,n3,n4,n5,n6,n7,n8⟩:=(hc i2 hlt).kept (hwk b hb)
     obtain ⟨k0,k1,k2,k3,k4,k5,k6,k7,k8⟩:=(hc' i2 hlt).kept (hwk b' hb')
     have C1:∀ W',Below wr.heap.size wr W'→Calls Tryz.prog 16 #[(ND i2).v,(ND' i2).v] W' fun e w'=>e=.returned (.bool true)∧Hid (Below wr.heap.size wr w'):=fun W' hBl =>
      (HIH.out i2 hlt (ND' i2) (HK.out i2 hlt) W' (by have:=hBl.size;have:=BK.out.size;omega) (fun b hb=>(hBl.block b (by have:=BK.out.size;omega)).trans (hwk b hb))).mono fun e w' h=>⟨h.1,hBl.trans (Joins.below_le h.2 hBl.size)⟩
     obtain ⟨P,hP⟩:∃ P,P=ND i2:=⟨_,rfl⟩
     obtain ⟨P',hP'⟩:∃ P,P=ND' i2:=⟨_,rfl⟩
     rw [← hP,← hP'] at C1
     rw [← hP] at n0 n1 n2 n3 n4 n5 n6 n7 n8
     rw [← hP'] at k0 k1 k2 k3 k4 k5 k6 k7 k8
     clear hc hc' hwk hP hP'
     have ad1:IntKind.i64.wrap ((i2:Int) + 1)=(i2:Int) + 1:=by simp [IntKind.wrap,IntKind.bits,IntKind.signed];omega
     go_wp2_with fail
     go_region_with (go_at_call 16;(with_reducible refine (C1 _ ?_).mono ?_);(exact ⟨rfl,rfl,rfl,Nat.le_refl _,fun _ _=>rfl⟩);rintro e w6 ⟨rfl,HB6⟩)
     all_goals go_wp2
     all_goals exact ⟨⟨i2 + 1,by push_cast;rfl,by omega,BK.out.trans (Joins.below_le HB6.out BK.out.size)⟩,by simp [intOf];omega⟩
    ·have b1:decide ((i2:Int) < (q2:Int))=false:=by simp;omega
     go_wp2
     go_ret
     refine ⟨rfl,?_⟩
     rw [← HXX.out]
     exact HBW'.out.trans (Joins.below_le BK.out (by omega))
theorem same13 {w:World} {N N':Nv} {t:Tn} (h:TI w w.heap.size N t) (h':TI w w.heap.size N' t):Calls Tryz.prog 16 #[N.v,N'.v] w fun e w'=>e=.returned (.bool true)∧Below w.heap.size w w':=same13g h N' h' w (Nat.le_refl _) fun _ _=>rfl
end Go.Proofs.YtacaanhnlfpbhaaGreat
namespace Go.Proofs.YtacaanhnlfpbhaaGreat
open Go.RowKit
set_option linter.unusedVariables false
set_option linter.unusedSimpArgs false
theorem O2_app_at (R:List (Int × Int)):(O2 (R ++ M2))[R.length * 2]?=some (.int .i64 (-77))∧(O2 (R ++ M2))[(R.length + 1) * 2]?=some (.int .i64 (-78)):=by
 have h1:=O2_at (R ++ M2) R.length (by simp [M2])
 have h2:=O2_at (R ++ M2) (R.length + 1) (by simp [M2])
 refine ⟨h1.1.trans ?_,h2.1.trans ?_⟩ <;> simp [M2]
theorem nodes_app_at (MS:List Nv):((MS ++ [mk7 (-77),mk7 (-78)]).flatMap Nv.cs)[MS.length * 9]?=some (.int .i64 (-77))∧((MS ++ [mk7 (-77),mk7 (-78)]).flatMap Nv.cs)[(MS.length + 1) * 9]?=some (.int .i64 (-78)):=by
 have h1:=flat9 (MS ++ [mk7 (-77),mk7 (-78)]) MS.length 0 (by simp) (by omega)
 have h2:=flat9 (MS ++ [mk7 (-77),mk7 (-78)]) (MS.length + 1) 0 (by simp) (by omega)
 refine ⟨h1.trans ?_,h2.trans ?_⟩ <;> simp
theorem row_two {w:World} {base e size n:Nat} {a:Option Addr} {c:Nat} {xs:List Value} (h:w.ownsRow base e size (.slice a (n + 2) c) (n + 2) xs):∃ b,a=some ⟨b,0,none⟩∧n + 2≤c∧c≤maxLen∧∀ j,j < (n + 2) * size→w.cell? ⟨b,j,none⟩=xs[j]?:=by
 rcases h.2 with ⟨e,h0⟩ | ⟨b,cap,cur,e,h1,h2,h3,h4,_⟩
 ·omega
 ·have hrow:=h
  rw [e] at hrow
  simp only [Value.slice.injEq] at e
  obtain ⟨e1,_,rfl⟩:=e
  exact ⟨b,e1,h3,h4,fun j hj=>hrow.cellAt j hj⟩
set_option maxRecDepth 100000 in
set_option maxHeartbeats 8000000 in
theorem kept14 {w0:World} {N:Nv} {t:Tn} {A:Nat→Prop} (h:TL w0 N t A):∀ w:World,(∀ b,A b→w.heap[b]?=w0.heap[b]?)→Calls Tryz.prog 15 #[N.v] w fun e w'=>e=.returned (.bool true)∧Below w.heap.size w w':=by
 induction h with
 | @mk N R ts ND AS ok hRk e1 e2 rr sr hk d1 d2 d3 ih =>
 intro w hw
 have IH:∀ i (hi:i < ts.length) (w:World),(∀ b,AS i b→w.heap[b]?=w0.heap[b]?)→Calls Tryz.prog 15 #[(ND i).v] w fun e w'=>e=.returned (.bool true)∧Below w.heap.size w w':=ih
 have hrr:=row_kept rr (w':=w) (fun b hb=>hw b (.inl ((ob_len _ _ _ _ _).trans hb)))
 have hsr:=row_kept sr (w':=w) (fun b hb=>hw b (.inr (.inl ((ob_len _ _ _ _ _).trans hb))))
 have hww:∀ i b,i < ts.length→AS i b→w.heap[b]?=w0.heap[b]?:=fun i b hi hb=>hw b (.inr (.inr ⟨i,hi,hb⟩))
 have hlow:∀ i b,i < ts.length→AS i b→b < w.heap.size:=fun i b hi hb=>by
  have h1:=(hk i hi).low b hb
  have h2:=hww i b hi hb
  rw [Array.getElem?_eq_getElem h1] at h2
  exact (Array.getElem?_eq_some_iff.1 h2).1
 obtain ⟨br,hbr,hrc,hrm,hcr⟩:=row_two hrr
 obtain ⟨bs,hbs,hsc,hsm,hcs⟩:=row_two hsr
 have m1:=(hcr (R.length * 2) (by omega)).trans (O2_app_at R).1
 have m2:=(hcr ((R.length + 1) * 2) (by omega)).trans (O2_app_at R).2
 have hna:=nodes_app_at ((List.range ts.length).map ND)
 simp only [List.length_map,List.length_range] at hna
 have m3:=(hcs (ts.length * 9) (by omega)).trans hna.1
 have m4:=(hcs ((ts.length + 1) * 9) (by omega)).trans hna.2
 have hlr:br < w.heap.size:=World.block_lt_of_cell? _ _ m1
 have hls:bs < w.heap.size:=World.block_lt_of_cell? _ _ m3
 have hchild:∀ i,i < ts.length→N9 w bs 0 i (ND i):=fun i hi=>by
  have c:∀ k,k < 9→w.cell? ⟨bs,0 + i * 9 + k,none⟩=(Nv.cs (ND i))[k]?:=fun k hk=>by
   rw [Nat.zero_add,hcs (i * 9 + k) (by omega)]
   have:=flat9 ((List.range ts.length).map ND ++ [mk7 (-77),mk7 (-78)]) i k (by simp;omega) hk
   rw [this,List.getElem_append_left (by simpa using hi)]
   simp
  exact ⟨c 0 (by omega),c 1 (by omega),c 2 (by omega),c 3 (by omega),c 4 (by omega),c 5 (by omega),c 6 (by omega),c 7 (by omega),c 8 (by omega)⟩
 obtain ⟨k,r1,r2,r3,a2,s1,s2,s3,a4,a5,a6,a7,a8⟩:=N
 dsimp only at e1 e2 hbr hbs hrc hsc hrm hsm
 subst hbr hbs
 rw [← e1] at m1 m2 hrc
 rw [← e2] at m3 m4 hsc
 have hm:maxLen=9223372036854775807:=rfl
 have hr9:r2 + 2≤9223372036854775807:=by omega
 have hs9:s2 + 2≤9223372036854775807:=by omega
 have w1:IntKind.i64.wrap ((r2:Int) + 2)=(r2:Int) + 2:=by simp [IntKind.wrap,IntKind.bits,IntKind.signed];omega
 have w2:IntKind.i64.wrap ((s2:Int) + 2)=(s2:Int) + 2:=by simp [IntKind.wrap,IntKind.bits,IntKind.signed];omega
 have w3:IntKind.i64.wrap ((r2:Int) + 1)=(r2:Int) + 1:=by simp [IntKind.wrap,IntKind.bits,IntKind.signed];omega
 have w4:IntKind.i64.wrap ((s2:Int) + 1)=(s2:Int) + 1:=by simp [IntKind.wrap,IntKind.bits,IntKind.signed];omega
 have j1:(r2:Int) + 2≤(r3:Int):=by omega
 have j2:(s2:Int) + 2≤(s3:Int):=by omega
 have j3:(r2:Int) < (r2:Int) + 2:=by omega
 have j4:(r2:Int) + 1 < (r2:Int) + 2:=by omega
 have j5:(s2:Int) < (s2:Int) + 2:=by omega
 have j6:(s2:Int) + 1 < (s2:Int) + 2:=by omega
 have HIH:=hid IH
 have HWW:=hid hww
 have HLO:=hid hlow
 have HCH:=hid hchild
 have HL:=hid e2
 have HOK:=hid ok
 clear ok hRk e1 e2 rr sr hk d1 d2 d3 ih IH hrr hsr hww hlow hchild hcr hcs hna hw hrm hsm hm
 go_enter Tryz.func15,Tryz.ntmps15
 go_wp2_with fail
 obtain ⟨W,hW⟩:∃ W,W=w.alloc (.cells #[.int .i64 k,.slice (some ⟨br,0,none⟩) r2 r3,.int .i64 a2,.slice (some ⟨bs,0,none⟩) s2 s3,.int .i64 a4,.int .i64 a5,.bool a6,.int .i64 a7,.string a8] 25):=⟨_,rfl⟩
 rw [← hW]
 have HX:Hid (BxN W w.heap.size ⟨k,some ⟨br,0,none⟩,r2,r3,a2,some ⟨bs,0,none⟩,s2,s3,a4,a5,a6,a7,a8⟩):=by rw [hW];exact heap_alloc_new w _
 have HB:Hid (Below w.heap.size w W):=by rw [hW];exact Joins.below_alloc1 w _
 have hxl:w.heap.size < W.heap.size:=by rw [hW];simp
 clear hW m1 m2 m3 m4
 go_loopw [7] (fun y wq=>∃ i:Nat,y=.int .i64 (i:Int)∧i≤s2∧Hid (Below W.heap.size W wq)) (fun y _=>s2 - (intOf y).toNat)
 case atStart=>exact ⟨0,rfl,by omega,Below.refl _ _⟩
 case round =>
  obtain ⟨i,rfl,hi,BK⟩:=hrel
  obtain ⟨o0,o1,o2,o3,o4,o5,o6,o7,o8⟩:=nine' ((BK.out.block w.heap.size hxl).trans HX.out)
  have hbw:Below w.heap.size w wr:=HB.out.trans (Joins.below_le BK.out HB.out.size)
  by_cases hil:i < s2
  ·have b1:decide ((i:Int) < (s2:Int))=true:=by simp;omega
   have b2:(i:Int) < (s2:Int):=by omega
   have hlt:i < ts.length:=by rw [← HL.out];exact hil
   obtain ⟨n0,n1,n2,n3,n4,n5,n6,n7,n8⟩:=(HCH.out i hlt).kept (hbw.block bs hls)
   simp only [Nat.zero_add] at n0 n1 n2 n3 n4 n5 n6 n7 n8
   have HC:=HIH.out i hlt wr (fun b hb=>(hbw.block b (HLO.out i b hlt hb)).trans (HWW.out i b hlt hb))
   have ad1:IntKind.i64.wrap ((i:Int) + 1)=(i:Int) + 1:=by simp [IntKind.wrap,IntKind.bits,IntKind.signed];omega
   obtain ⟨P,hP⟩:∃ P,P=ND i:=⟨_,rfl⟩
   rw [← hP] at HC n0 n1 n2 n3 n4 n5 n6 n7 n8
   clear hP hbw
   go_wp2_with (first | (go_at_call 15;(with_reducible refine HC.mono ?_);rintro e w2 ⟨rfl,hb2⟩;have HB2:=hid hb2;clear hb2 HC))
   exact ⟨⟨i + 1,by push_cast;rfl,by omega,BK.out.trans (Joins.below_le HB2.out BK.out.size)⟩,by simp [intOf];omega⟩
  ·have b1:decide ((i:Int) < (s2:Int))=false:=by simp;omega
   have HBW:=hid hbw
   clear hbw
   go_wp2
   go_ret
   exact ⟨rfl,HBW.out⟩
end Go.Proofs.YtacaanhnlfpbhaaGreat
