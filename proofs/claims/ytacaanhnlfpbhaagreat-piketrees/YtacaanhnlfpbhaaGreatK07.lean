/- HELPERS: texts of ours put together. -/
import Derived.Test.YtacaanhnlfpbhaaGreatK06
import Derived.Test.YtacaanhnlfpbhaaGreatK02
import Derived.Test.YtacaanhnlfpbhaaGreatK01
import Derived.WalkKit
import Derived.Laws.BitsLemmas
import Derived.Test.YtacaanhnlfpbhaaGreatK04
import Derived.LoopN
import Derived.Deep.OwnRows
import Derived.Laws.IdiomCopy
namespace Go.Proofs.YtacaanhnlfpbhaaGreat
open Go.RowKit
set_option linter.unusedVariables false
set_option linter.unusedSimpArgs false
mutual
inductive Beg (E:Nat→Way):Tn→Int→Way→Int→Way→Prop
 | empty {R:List (Int × Int)} {a:Int} {s:List Tn} {mn mx:Int} {lz:Bool} {ix:Int} {nm:ByteArray} {n:Int} {B:Way}:Beg E (.mk 1 R a s mn mx lz ix nm) n B (n + 1) (.once (n + 1) B)
 | cls {R:List (Int × Int)} {a:Int} {s:List Tn} {mn mx:Int} {lz:Bool} {ix:Int} {nm:ByteArray} {n:Int} {B:Way}:Beg E (.mk 2 R a s mn mx lz ix nm) n B (n + 1) (.once (n + 1) (.runeOf R B))
 | ast {R:List (Int × Int)} {a:Int} {s:List Tn} {mn mx:Int} {lz:Bool} {ix:Int} {nm:ByteArray} {n:Int} {B:Way}:Beg E (.mk 3 R a s mn mx lz ix nm) n B (n + 1) (.once (n + 1) (.ifHolds a B))
 | cat {R:List (Int × Int)} {a:Int} {s:List Tn} {mn mx:Int} {lz:Bool} {ix:Int} {nm:ByteArray} {n n':Int} {B W:Way} (h:BegC E s n B n' W):Beg E (.mk 4 R a s mn mx lz ix nm) n B n' W
 | alt {R:List (Int × Int)} {a:Int} {s:List Tn} {mn mx:Int} {lz:Bool} {ix:Int} {nm:ByteArray} {n n':Int} {B:Way} {Ws:List Way} (h:BegA E s n B n' Ws):Beg E (.mk 5 R a s mn mx lz ix nm) n B (n' + 1) (.once (n' + 1) (.inOrder Ws))
 | grp {R:List (Int × Int)} {a:Int} {t:Tn} {mn mx:Int} {lz:Bool} {i:Nat} {nm:ByteArray} {n n':Int} {B W:Way} (h:Beg E t n (.noted (2 * i + 1) B) n' W):Beg E (.mk 7 R a [t] mn mx lz (i:Int) nm) n B (n' + 1) (.once (n' + 1) (.noted (2 * i) W))
 | any0 {R:List (Int × Int)} {a:Int} {t:Tn} {lz:Bool} {ix:Int} {nm:ByteArray} {n n2:Int} {b:Nat} {B:Way} (h:Beg E t (n + 1) (Dcd lz n b B) n2 (E b)):Beg E (.mk 6 R a [t] 0 (-1) lz ix nm) n B n2 (Dcd lz n b B)
 | any {R:List (Int × Int)} {a:Int} {t:Tn} {c:Nat} {lz:Bool} {ix:Int} {nm:ByteArray} {n n2 n3:Int} {b:Nat} {B W3:Way} (h:Beg E t (n + 1) (Dcd lz n b B) n2 (E b)) (hT:BegT E t c n2 (E b) n3 W3):Beg E (.mk 6 R a [t] ((c:Int) + 1) (-1) lz ix nm) n B n3 W3
 | bnd {R:List (Int × Int)} {a:Int} {t:Tn} {c m:Nat} {lz:Bool} {ix:Int} {nm:ByteArray} {n n1 n2:Int} {B W1 W2:Way} (hO:BegO E t lz B m n n1 W1) (hT:BegT E t c n1 W1 n2 W2):Beg E (.mk 6 R a [t] (c:Int) ((c:Int) + (m:Int)) lz ix nm) n B n2 W2
inductive BegC (E:Nat→Way):List Tn→Int→Way→Int→Way→Prop
 | nil {n:Int} {B:Way}:BegC E [] n B n B
 | cons {t:Tn} {ts:List Tn} {n n1 n2:Int} {B W1 W2:Way} (h:BegC E ts n B n1 W1) (h2:Beg E t n1 W1 n2 W2):BegC E (t :: ts) n B n2 W2
inductive BegA (E:Nat→Way):List Tn→Int→Way→Int→List Way→Prop
 | nil {n:Int} {B:Way}:BegA E [] n B n []
 | snoc {t:Tn} {ts:List Tn} {n n1 n2:Int} {B W2:Way} {Ws:List Way} (h:BegA E ts n B n1 Ws) (h2:Beg E t n1 B n2 W2):BegA E (ts ++ [t]) n B n2 (Ws ++ [W2])
inductive BegT (E:Nat→Way):Tn→Nat→Int→Way→Int→Way→Prop
 | zero {t:Tn} {n:Int} {W:Way}:BegT E t 0 n W n W
 | succ {t:Tn} {c:Nat} {n n1 n2:Int} {W W1 W2:Way} (h:BegT E t c n W n1 W1) (h2:Beg E t n1 W1 n2 W2):BegT E t (c + 1) n W n2 W2
inductive BegO (E:Nat→Way):Tn→Bool→Way→Nat→Int→Int→Way→Prop
 | zero {t:Tn} {lz:Bool} {B:Way} {n:Int}:BegO E t lz B 0 n n B
 | succ {t:Tn} {lz:Bool} {B:Way} {c:Nat} {n n1 n2:Int} {W1 W2:Way} (h:BegO E t lz B c n n1 W1) (h2:Beg E t n1 W1 n2 W2):BegO E t lz B (c + 1) n (n2 + 1) (.once (n2 + 1) (.inOrder (if lz=true then [B,W2] else [W2,B])))
end
set_option maxRecDepth 100000 in
set_option maxHeartbeats 8000000 in
theorem greatest15 {w0:World} {B:Nat} {N:Nv} {t:Tn} (h:TI w0 B N t):∀ (w:World),B≤w.heap.size→(∀ b,b < B→w.heap[b]?=w0.heap[b]?) →
  Calls Tryz.prog 40 #[N.v] w fun e w'=>e=.returned (.int .i64 t.gi)∧Below w.heap.size w w':=by
 induction h with
 | @mk N R ts ND ok hr hR hRk hs hS hk ih =>
 intro w hB hw
 have hmax:=ok.s
 obtain ⟨k,r1,r2,r3,a2,s1,s2,s3,a4,a5,a6,a7,a8⟩:=N
 simp only at hs hS hmax
 simp only [Tn.gi]
 obtain ⟨r,hrr⟩:∃ r,r=giL ts a7:=⟨_,rfl⟩
 rw [← hrr]
 have HR:=hid' hrr
 have HW:=hid' hw
 have HS:=hid' hS
 have IH:=hid' ih
 have hm2:s2≤9223372036854775807:=by have:maxLen=9223372036854775807:=rfl;omega
 have HL:=hid' hs
 clear ok hr hR hRk hk hS hw hrr ih hmax hs
 go_enter Tryz.func40,Tryz.ntmps40
 go_wp2_with fail
 go_loopw [3,4] (fun u y wq=>∃ i:Nat,y=.int .i64 (i:Int)∧i≤s2∧(∃ q,u=.int .i64 q∧Hid (giL (ts.drop i) q=r))∧Hid (Below w.heap.size w wq)∧Hid (wq.heap[w.heap.size]?=some (.cells #[.int .i64 k,.slice r1 r2 r3,.int .i64 a2,.slice s1 s2 s3,.int .i64 a4,.int .i64 a5,.bool a6,.int .i64 a7,.string a8] 25 (0,0)))) (fun _ y _=>s2 - (intOf y).toNat)
 case atStart=>exact ⟨0,rfl,by omega,⟨a7,rfl,HR.out.symm⟩,Joins.below_alloc1 w _,heap_alloc_new w _⟩
 case round =>
  obtain ⟨i,rfl,hi,⟨q,rfl,HQ⟩,BK,BX⟩:=hrel
  obtain ⟨o0,o1,o2,o3,o4,o5,o6,o7,o8⟩:=nine' BX.out
  by_cases hil:i < s2
  ·have b1:decide ((i:Int) < (s2:Int))=true:=by simp;omega
   have b2:(i:Int) < (s2:Int):=by omega
   have hlt:i < ts.length:=by rw [← HL.out];exact hil
   obtain ⟨b,o,hs1,hb,hc⟩:=HS.out (by omega)
   subst hs1
   have hwk:∀ b,b < B→wr.heap[b]?=w0.heap[b]?:=fun b hb=>(BK.out.block b (by omega)).trans (HW.out b hb)
   obtain ⟨n0,n1,n2,n3,n4,n5,n6,n7,n8⟩:=(hc i hlt).kept (hwk b hb)
   have HC:=IH.out i hlt wr (by have:=BK.out.size;omega) hwk
   rw [giL_drop ts i hlt q] at HQ
   obtain ⟨g,hg⟩:∃ g,g=ts[i].gi:=⟨_,rfl⟩
   rw [← hg] at HC HQ
   obtain ⟨M,hM⟩:∃ M,M=ND i:=⟨_,rfl⟩
   rw [← hM] at HC n0 n1 n2 n3 n4 n5 n6 n7 n8
   have ad1:IntKind.i64.wrap ((i:Int) + 1)=(i:Int) + 1:=by simp [IntKind.wrap,IntKind.bits,IntKind.signed];omega
   clear hM hg hwk hc hlt
   go_wp2_with (first | (go_at_call 40;(with_reducible refine HC.mono ?_);rintro e w2 ⟨rfl,hb2⟩;have HB2:=hid' hb2;clear hb2 HC))
   refine ⟨⟨i + 1,by push_cast;rfl,by omega,⟨_,rfl,HQ.out⟩,?_,?_⟩,?_⟩
   ·exact BK.out.trans (Joins.below_le HB2.out BK.out.size)
   ·exact (HB2.out.block _ (by have:=(Array.getElem?_eq_some_iff.1 BX.out).1;omega)).trans BX.out
   ·simp [intOf]
    omega
  ·have b1:decide ((i:Int) < (s2:Int))=false:=by simp;omega
   obtain rfl:i=s2:=by omega
   have e:=HQ.out
   rw [HL.out,List.drop_length] at e
   simp only [giL] at e
   go_wp2
   go_ret
   exact ⟨by first | rfl | exact ret_int e,BK.out⟩
set_option maxRecDepth 100000 in
set_option maxHeartbeats 8000000 in
theorem refsize28 {w0:World} {B:Nat} {N:Nv} {t:Tn} (h:TI w0 B N t):t.fine=true→∀ (w:World),B≤w.heap.size→(∀ b,b < B→w.heap[b]?=w0.heap[b]?) →
  Calls Tryz.prog 33 #[N.v] w fun e w'=>e=.returned (.int .i64 (min 1073741824 t.sz:Nat))∧Below w.heap.size w w':=by
 induction h with
 | @mk N R ts ND ok hr hR hRk hs hS hk ih =>
 intro hf w hB hw
 have hmax:=ok.s
 obtain ⟨k,r1,r2,r3,a2,s1,s2,s3,a4,a5,a6,a7,a8⟩:=N
 simp only at hs hS hmax
 simp only [Tn.fine,Bool.and_eq_true] at hf
 have FN:=fine_nodeZ hf.1
 have HFG:=hid' (fineL_get hf.2)
 simp only [Tn.sz]
 obtain ⟨r,hrr⟩:∃ r:Nat,r=min 1073741824 (if k=6 then repN a4 a5 (szL ts) else 1 + szL ts):=⟨_,rfl⟩
 rw [← hrr]
 have HR:=hid' hrr
 have HW:=hid' hw
 have HS:=hid' hS
 have IH:=hid' ih
 have HFN:=hid' FN
 have hm2:s2≤9223372036854775807:=by have:maxLen=9223372036854775807:=rfl;omega
 have HL:=hid' hs
 clear ok hr hR hRk hk hS hw hrr ih hmax hs hf FN
 go_enter Tryz.func33,Tryz.ntmps33
 go_wp2_with fail
 go_loopw [3,4] (fun u y wq=>∃ (i q:Nat),y=.int .i64 (i:Int)∧i≤s2∧u=.int .i64 (q:Int)∧q≤1073741824∧Hid (q=min 1073741824 (szL (ts.take i)))∧Hid (Below w.heap.size w wq)∧Hid (wq.heap[w.heap.size]?=some (.cells #[.int .i64 k,.slice r1 r2 r3,.int .i64 a2,.slice s1 s2 s3,.int .i64 a4,.int .i64 a5,.bool a6,.int .i64 a7,.string a8] 25 (0,0)))) (fun _ y _=>s2 - (intOf y).toNat)
 case atStart=>exact ⟨0,0,rfl,by omega,rfl,by omega,by show (0:Nat)=_;simp [szL],Joins.below_alloc1 w _,heap_alloc_new w _⟩
 case round =>
  obtain ⟨i,q,rfl,hi,rfl,hq,HQ,BK,BX⟩:=hrel
  obtain ⟨o0,o1,o2,o3,o4,o5,o6,o7,o8⟩:=nine' BX.out
  by_cases hil:i < s2
  ·have b1:decide ((i:Int) < (s2:Int))=true:=by simp;omega
   have b2:(i:Int) < (s2:Int):=by omega
   have hlt:i < ts.length:=by rw [← HL.out];exact hil
   obtain ⟨b,o,hs1,hb,hc⟩:=HS.out (by omega)
   subst hs1
   have hwk:∀ b,b < B→wr.heap[b]?=w0.heap[b]?:=fun b hb=>(BK.out.block b (by omega)).trans (HW.out b hb)
   obtain ⟨n0,n1,n2,n3,n4,n5,n6,n7,n8⟩:=(hc i hlt).kept (hwk b hb)
   have HC:=IH.out i hlt (HFG.out i hlt) wr (by have:=BK.out.size;omega) hwk
   have hst:=szL_take ts i hlt
   obtain ⟨g,hg⟩:∃ g,g=min 1073741824 ts[i].sz:=⟨_,rfl⟩
   rw [← hg] at HC
   have hgb:g≤1073741824:=by omega
   have HQ':Hid (min 1073741824 (q + g)=min 1073741824 (szL (ts.take (i + 1)))):=by
    have h1:=HQ.out
    show _=_
    omega
   obtain ⟨M,hM⟩:∃ M,M=ND i:=⟨_,rfl⟩
   rw [← hM] at HC n0 n1 n2 n3 n4 n5 n6 n7 n8
   have ad1:IntKind.i64.wrap ((i:Int) + 1)=(i:Int) + 1:=by simp [IntKind.wrap,IntKind.bits,IntKind.signed];omega
   have ad2:IntKind.i64.wrap ((q:Int) + (g:Int))=(q:Int) + (g:Int):=by simp [IntKind.wrap,IntKind.bits,IntKind.signed];omega
   clear hM hg hwk hc hlt hst HQ
   go_wp2_with (first | (go_at_call 33;(with_reducible refine HC.mono ?_);rintro e w2 ⟨rfl,hb2⟩;have HB2:=hid' hb2;clear hb2 HC))
   refine ⟨⟨i + 1,min 1073741824 (q + g),by push_cast;rfl,by omega,by congr 1;omega,by omega,HQ'.out,?_,?_⟩,?_⟩
   ·exact BK.out.trans (Joins.below_le HB2.out BK.out.size)
   ·exact (HB2.out.block _ (Array.getElem?_eq_some_iff.1 BX.out).1).trans BX.out
   ·simp [intOf]
    omega
  ·have b1:decide ((i:Int) < (s2:Int))=false:=by simp;omega
   obtain rfl:i=s2:=by omega
   have e:=HQ.out
   rw [HL.out,List.take_length] at e
   have hr':=HR.out
   by_cases k6:k=6
   ·subst k6
    simp only [if_true] at hr'
    obtain ⟨_,m0,m1,mx⟩:=HFN.out.rep rfl
    rw [← repN_cap,← e] at hr'
    have HR':=hid' hr'
    clear e hr' HR HQ HFN
    rcases mx with rfl | ⟨mx0,mx1⟩
    ·by_cases hz:a4=0
     ·subst hz
      have ad2:IntKind.i64.wrap (1 + (q:Int))=1 + (q:Int):=by simp [IntKind.wrap,IntKind.bits,IntKind.signed];omega
      go_wp2
      go_ret
      exact ⟨ret_int (by have:=HR'.out;simp [repN] at this;omega),BK.out⟩
     ·have hz':(a4 == 0)=false:=by simpa using hz
      have hp:0≤a4 * (q:Int)∧a4 * (q:Int)≤1000 * 1073741824:=⟨Int.mul_nonneg m0 (by omega),Int.mul_le_mul m1 (by omega) (by omega) (by omega)⟩
      have ad1:IntKind.i64.wrap (a4 * (q:Int))=a4 * (q:Int):=by simp [IntKind.wrap,IntKind.bits,IntKind.signed];omega
      have ad2:IntKind.i64.wrap (a4 * (q:Int) + 1)=a4 * (q:Int) + 1:=by simp [IntKind.wrap,IntKind.bits,IntKind.signed];omega
      have hre:((repN a4 (-1) q:Nat):Int)=a4 * q + 1:=by
       simp only [repN,if_true]
       rw [Nat.max_eq_left (by omega)]
       push_cast
       rw [Int.toNat_of_nonneg m0]
      go_wp2
      go_ret
      exact ⟨ret_int (by have:=HR'.out;omega),BK.out⟩
    ·have mxn:a5≠-1:=by omega
     have c0:decide (a5 < 0)=false:=by simp;omega
     have hp:0≤a4 * (q:Int)∧a4 * (q:Int)≤1000 * 1073741824:=⟨Int.mul_nonneg m0 (by omega),Int.mul_le_mul m1 (by omega) (by omega) (by omega)⟩
     have hp2:0≤(a5 - a4) * (1 + (q:Int))∧(a5 - a4) * (1 + (q:Int))≤1000 * 1073741825:=⟨Int.mul_nonneg (by omega) (by omega),Int.mul_le_mul (by omega) (by omega) (by omega) (by omega)⟩
     have hre:((repN a4 a5 q:Nat):Int)=max 1 (a4 * q + (a5 - a4) * (1 + q)):=by
      have e:((a4.toNat * q + (a5 - a4).toNat * (1 + q):Nat):Int)=a4 * q + (a5 - a4) * (1 + q):=by
       push_cast
       rw [Int.toNat_of_nonneg m0,Int.toNat_of_nonneg (by omega)]
      simp only [repN,if_neg mxn]
      generalize a4.toNat * q + (a5 - a4).toNat * (1 + q)=X at e
      omega
     have ad1:IntKind.i64.wrap (a4 * (q:Int))=a4 * (q:Int):=by simp [IntKind.wrap,IntKind.bits,IntKind.signed];omega
     have ad2:IntKind.i64.wrap (a5 - a4)=a5 - a4:=by simp [IntKind.wrap,IntKind.bits,IntKind.signed];omega
     have ad3:IntKind.i64.wrap (1 + (q:Int))=1 + (q:Int):=by simp [IntKind.wrap,IntKind.bits,IntKind.signed];omega
     have ad4:IntKind.i64.wrap ((a5 - a4) * (1 + (q:Int)))=(a5 - a4) * (1 + (q:Int)):=by simp [IntKind.wrap,IntKind.bits,IntKind.signed];omega
     have ad5:IntKind.i64.wrap (a4 * (q:Int) + (a5 - a4) * (1 + (q:Int)))=a4 * (q:Int) + (a5 - a4) * (1 + (q:Int)):=by simp [IntKind.wrap,IntKind.bits,IntKind.signed];omega
     go_wp2
     go_ret
     exact ⟨ret_int (by have:=HR'.out;omega),BK.out⟩
   ·have k6':(k == 6)=false:=by simpa using k6
    simp only [k6,if_false] at hr'
    have HR':=hid' hr'
    have HE:=hid' e
    by_cases kl:k=4∨k=5∨k=7
    ·have ad2:IntKind.i64.wrap (1 + (q:Int))=1 + (q:Int):=by simp [IntKind.wrap,IntKind.bits,IntKind.signed];omega
     clear e hr' HR HQ HFN k6
     rcases kl with rfl | rfl | rfl
     ·go_wp2
      go_ret
      exact ⟨ret_int (by have:=HR'.out;have:=HE.out;omega),BK.out⟩
     ·go_wp2
      go_ret
      exact ⟨ret_int (by have:=HR'.out;have:=HE.out;omega),BK.out⟩
     ·go_wp2
      go_ret
      exact ⟨ret_int (by have:=HR'.out;have:=HE.out;omega),BK.out⟩
    ·have h0:=HFN.out.leaf (by have:=HFN.out.kind;omega)
     have k4:(k == 4)=false:=by simp;omega
     have k5:(k == 5)=false:=by simp;omega
     have k7:(k == 7)=false:=by simp;omega
     have ht:ts=[]:=List.length_eq_zero_iff.1 h0
     subst ht
     simp only [szL] at hr'
     subst hr'
     clear e HR HQ HFN k6 HR' HE kl h0
     go_wp2
     go_ret
     exact ⟨rfl,BK.out⟩
theorem giL_ge (ts:List Tn):∀ (m:Int),m≤giL ts m∧∀ (i:Nat) (hi:i < ts.length),ts[i].gi≤giL ts m:=by
 induction ts with
 | nil=>intro m;exact ⟨by simp [giL],fun i hi=>by simp at hi⟩
 | cons t ts ih =>
  intro m
  simp only [giL]
  obtain ⟨h1,h2⟩:=ih (max m t.gi)
  refine ⟨by omega,fun i hi=>?_⟩
  cases i with
  | zero=>simp only [List.getElem_cons_zero];omega
  | succ i=>simpa using h2 i (by simpa using hi)
theorem size3:(Tryz.prog.info? 3).map (·.size)=some 1:=by kernel_rfl
abbrev M1:Value:=.int .i64 (-1)
theorem copy_one (W:World) (b o dl dc sc:Nat) (a:Addr) (hs:W.cell? (a.add 0)=some M1) (hd:(W.cell? ⟨b,o,none⟩).isSome=true) (hf:W.frozen? ⟨b,o,none⟩=false) (hdl:1≤dl) :
  (Builtin.copy_ #[26,26] 3 #[.slice (some ⟨b,o,none⟩) dl dc,.slice (some a) 1 sc]).run Tryz.prog W=.ok (.int .i64 1) (W.setCell ⟨b,o,none⟩ M1):=by
 have h:=run_copy_cells (P:=Tryz.prog) W 26 26 3 3 b o dl dc a 1 sc [M1] Tryz.underlying26 size3 (by simp [Nat.min_def];omega) (by intro j v hj;match j,hj with | 0,hj=>simp at hj;subst hj;exact hs) (by intro j hj;simp at hj;subst hj;exact hd) (by intro j hj;simp at hj;subst hj;exact hf) (by intro v hv;simp at hv;subst hv;rfl)
 exact h
theorem u64_small (n:Int) (h0:0≤n) (h1:n < 2 ^ 40):IntKind.u64.wrap n=n:=by
 simp [IntKind.wrap,IntKind.bits,IntKind.signed]
 omega
theorem and32 (c:Nat) (hc:c≤10000):bits .and .u64 (c:Int) 4294967295=(c:Int):=by
 have h:=bits_mask .u64 40 (by decide) u64_small 32 (by decide) (c:Int) (by omega) (by omega)
 have e:((2:Int) ^ 32 - 1)=4294967295:=by decide
 rw [e] at h
 rw [h]
 omega
set_option maxRecDepth 100000 in
set_option maxHeartbeats 2000000 in
theorem mul88g (c:Nat) (hc:c≤10000) (w:World):Calls Tryz.prog 181 #[.int .u64 1,.int .u64 (c:Int)] w fun e w'=>e=.returned (.tuple #[.int .u64 0,.int .u64 (c:Int)])∧w'=w:=by
 have a1:bits .and .u64 1 4294967295=1:=and32 1 (by omega)
 have a2:=and32 c hc
 have a0:bits .and .u64 0 4294967295=0:=and32 0 (by omega)
 have wc:IntKind.u64.wrap (c:Int)=(c:Int):=u64_small _ (by omega) (by omega)
 have w0:IntKind.u64.wrap 0=0:=u64_small _ (by omega) (by omega)
 have d1:(c:Int) / 4294967296=0:=by omega
 go_enter Tryz.func181,Tryz.ntmps181
 go_wp2
 go_ret2
 refine ⟨?_,rfl⟩
 simp [a1,a2,a0,wc,w0,d1]
set_option maxRecDepth 100000 in
set_option maxHeartbeats 2000000 in
theorem mul63g (c:Nat) (hc:c≤10000) (w:World):Calls Tryz.prog 113 #[.int .u64 1,.int .u64 (c:Int)] w fun e w'=>e=.returned (.tuple #[.int .u64 0,.int .u64 (c:Int)])∧w'=w:=by
 have HC:=mul88g c hc
 have wc:IntKind.u64.wrap (c:Int)=(c:Int):=u64_small _ (by omega) (by omega)
 go_enter Tryz.func113,Tryz.ntmps113
 go_wp2_with (go_at_call 181;(with_reducible refine (HC _).mono ?_);rintro e w' ⟨rfl,rfl⟩)
 go_ret2
 exact ⟨rfl,rfl⟩
theorem makeN (c:Nat) (hc:c≤10000) (w:World):(Instr.makeSlice 26 (.int .i64 (c:Int)) (.int .i64 (c:Int))).run Tryz.prog w=.ok (.slice (some ⟨w.heap.size,0,none⟩) c c) (w.alloc (.cells (madeCells #[.int .i64 0] c) 3)):=
 run_make_row' (P:=Tryz.prog) 26 3 (.int .i64 0) 8 Tryz.underlying26 info3 rfl .i64 .i64 c (by omega) (by omega) w
theorem below_setC {B b:Nat} {a:World} (hb:B≤b):∀ (vs:List Value) (o:Nat) (w:World),Below B a w→Below B a (w.setCells b o vs)
 | [],_,_,h=>h
 | v :: vs,o,w,h=>below_setC hb vs (o + 1) _ (h.setCell (by exact hb) v)
def RI (nb c n:Nat) (W:World):Prop:=∃ arr:Array Value,W.heap[nb]?=some (.cells arr 3 (0,0))∧arr.size=c∧∀ i,i < n→arr[i]?=some M1
theorem RI.next {nb c n:Nat} {W:World} (h:RI nb c n W) (hn:n < c):RI nb c (n + 1) (W.setCell ⟨nb,n,none⟩ M1):=by
 obtain ⟨arr,h1,h2,h3⟩:=h
 refine ⟨arr.setIfInBounds n M1,Joins.block_setCell (i:=n) h1 _,by simp [h2],fun i hi=>?_⟩
 by_cases e:i=n
 ·subst e;simp [h2,hn]
 ·rw [Array.getElem?_setIfInBounds_ne (by omega)];exact h3 i (by omega)
theorem RI.more {nb c:Nat}:∀ (k n:Nat) {W:World},RI nb c n W→n + k≤c→RI nb c (n + k) (W.setCells nb n (List.replicate k M1)):=by
 intro k
 induction k with
 | zero=>intro n W h _;exact h
 | succ k ih =>
  intro n W h hk
  rw [List.replicate_succ,World.setCells]
  have:=ih (n + 1) (h.next (by omega)) (by omega)
  rwa [show n + 1 + k=n + (k + 1) by omega] at this
theorem RI.cell {nb c n:Nat} {W:World} (h:RI nb c n W) {i:Nat} (hi:i < n):W.cell? ⟨nb,i,none⟩=some M1:=by
 obtain ⟨arr,h1,h2,h3⟩:=h
 rw [Joins.cell_of_block h1 i]
 exact h3 i hi
theorem RI.some {nb c n:Nat} {W:World} (h:RI nb c n W) {i:Nat} (hi:i < c):(W.cell? ⟨nb,i,none⟩).isSome=true:=by
 obtain ⟨arr,h1,h2,h3⟩:=h
 rw [Joins.cell_of_block h1 i]
 simp [h2,hi]
theorem RI.free {nb c n:Nat} {W:World} (h:RI nb c n W) (i:Nat):W.frozen? ⟨nb,i,none⟩=false:=by
 obtain ⟨arr,h1,h2,h3⟩:=h
 exact Joins.unfrozen_of_block h1 i
theorem copy_self (nb c n:Nat) (W:World) (h:RI nb c n W) (hn:1≤n) (hnc:n≤c) :
  (Builtin.copy_ #[26,26] 3 #[.slice (some ⟨nb,n,none⟩) (c - n) (c - n),.slice (some ⟨nb,0,none⟩) n c]).run Tryz.prog W=.ok (.int .i64 ((min n (c - n):Nat):Int)) (W.setCells nb n (List.replicate (min n (c - n)) M1)):=by
 have h:=run_copy_cells (P:=Tryz.prog) W 26 26 3 3 nb n (c - n) (c - n) ⟨nb,0,none⟩ n c (List.replicate (min n (c - n)) M1) Tryz.underlying26 size3 (by simp) (by
   intro j v hj
   have hj':j < min n (c - n):=by
    have:=(List.getElem?_eq_some_iff.1 hj).1
    simpa using this
   simp [hj'] at hj
   subst hj
   have:=h.cell (i:=j) (by omega)
   rw [show ((⟨nb,0,none⟩:Addr).add j)=⟨nb,j,none⟩ by by_cases e:j=0 <;> simp [Addr.add,e]]
   exact this) (by intro j hj;simp at hj;exact h.some (by omega)) (by intro j hj;exact h.free _) (by intro v hv;simp at hv;obtain ⟨_,rfl⟩:=hv;rfl)
 simpa [goInt] using h
set_option maxRecDepth 100000 in
set_option maxHeartbeats 2000000 in
theorem repeat51g (xb cap c:Nat) (hc1:1≤c) (hc2:c≤10000) (w:World) (hx:w.cell? ⟨xb,0,none⟩=some (.int .i64 (-1))) (hxl:xb < w.heap.size) :
  Calls Tryz.prog 75 #[.slice (some ⟨xb,0,none⟩) 1 cap,.int .i64 (c:Int)] w fun e w'=>e=.returned (.slice (some ⟨w.heap.size,0,none⟩) c c)∧Below w.heap.size w w'∧RI w.heap.size c c w':=by
 have HC:=mul63g c hc2 w
 have hmk:=makeN c hc2 w
 have wc:IntKind.u64.wrap (c:Int)=(c:Int):=u64_small _ (by omega) (by omega)
 have wi:IntKind.i64.wrap (c:Int)=(c:Int):=by simp [IntKind.wrap,IntKind.bits,IntKind.signed];omega
 obtain ⟨nb,hnb⟩:∃ nb,nb=w.heap.size:=⟨_,rfl⟩
 obtain ⟨V0,hV0⟩:∃ V,V=w.alloc (.cells (madeCells #[.int .i64 0] c) 3):=⟨_,rfl⟩
 obtain ⟨V1,hV1⟩:∃ V,V=V0.setCell ⟨nb,0,none⟩ M1:=⟨_,rfl⟩
 have h0:RI nb c 0 V0:=by rw [hV0,hnb];exact ⟨_,heap_alloc_new w _,by simp [madeCells],fun i hi=>by omega⟩
 have h1:RI nb c 1 V1:=by rw [hV1];exact h0.next (by omega)
 have hB1:Below w.heap.size w V1:=by
  rw [hV1,hV0]
  exact (Joins.below_alloc1 w _).setCell (by show w.heap.size≤nb;omega) _
 have k1:(Builtin.copy_ #[26,26] 3 #[.slice (some ⟨nb,0,none⟩) c c,.slice (some ⟨xb,0,none⟩) 1 cap]).run Tryz.prog V0=.ok (.int .i64 1) V1:=by
  rw [hV1]
  exact copy_one V0 nb 0 c c cap ⟨xb,0,none⟩ (by rw [hV0];exact (World.cell?_alloc_lt _ _ _ hxl).trans hx) (h0.some (by omega)) (h0.free 0) (by omega)
 rw [← hV0,← hnb] at hmk
 rw [← hnb]
 have HB1:=hid hB1
 have H1:=hid h1
 have HNB:=hid hnb
 clear h0 h1 hB1 hV0 hV1 hnb hx
 go_enter Tryz.func75,Tryz.ntmps75
 go_wp2_with (go_at_call 113;(with_reducible refine HC.mono ?_);rintro e w' ⟨rfl,hw'⟩;rw [hw'];clear hw' HC)
 go_loopw [8] (fun x wq=>∃ n:Nat,x=.int .i64 (n:Int)∧1≤n∧n≤c∧Hid (RI nb c n wq∧Below w.heap.size w wq)) (fun x _=>c - (intOf x).toNat)
 case atStart=>exact ⟨1,rfl,by omega,by omega,by exact ⟨H1.out,HB1.out⟩⟩
 case round =>
  obtain ⟨n,rfl,hn1,hnc,HI⟩:=hrel
  by_cases hlt:n < c
  ·have b1:decide ((n:Int) < (c:Int))=true:=by simp;omega
   have b2:(n:Int) < (c:Int):=by omega
   have kc:=copy_self nb c n wr.drew (by exact HI.out.1) hn1 hnc
   have ad:IntKind.i64.wrap ((n:Int) + ((min n (c - n):Nat):Int))=((n + min n (c - n):Nat):Int):=by simp [IntKind.wrap,IntKind.bits,IntKind.signed];omega
   have i1:(n:Int)≤(c:Int):=by omega
   have i0:(0:Int)≤(n:Int):=by omega
   go_wp2_with fail
   go_region
   all_goals
    go_wp2
    refine ⟨⟨n + min n (c - n),by push_cast;rfl,by omega,by omega,by exact ⟨RI.more _ _ (show RI nb c n wr.drew from HI.out.1) (by omega),below_setC (by have:=HNB.out;omega) _ _ _ HI.out.2.drew⟩⟩,by simp [intOf];omega⟩
  ·have b1:decide ((n:Int) < (c:Int))=false:=by simp;omega
   obtain rfl:n=c:=by omega
   go_wp2
   go_ret
   refine ⟨rfl,?_,HI.out.1⟩
   rw [HNB.out]
   exact HI.out.2
end Go.Proofs.YtacaanhnlfpbhaaGreat
namespace Go.Proofs.YtacaanhnlfpbhaaGreat
set_option linter.unusedVariables false
set_option linter.unusedSimpArgs false
inductive Ac where
 | alt (x y:Nat)
 | go (x:Nat)
 | cap (x a:Nat)
 | rune (x:Nat)
 | fit (a:Int)
 | stop
abbrev Th:=Nat × List Int
abbrev Fd:=Option (Int × List Int)
structure Vst where
 met:List Nat
 next:List Th
 found:Fd
 over:Bool
def Vst.mark (s:Vst) (i:Nat):Vst:={ s with met:=s.met ++ [i] }
def vis (A:Nat→Ac) (j:Nat):Nat→Nat→List Int→Vst→Vst
 | 0,_,_,s=>s
 | f + 1,i,c,s =>
  if (s.over || s.met.contains i)=true then s else
  match A i with
  | .alt x y=>vis A j f y c (vis A j f x c (s.mark i))
  | .go x=>vis A j f x c (s.mark i)
  | .cap x a=>vis A j f x (c.set a (j:Int)) (s.mark i)
  | .rune x=>{ s.mark i with next:=s.next ++ [(x,c)] }
  | .fit a=>{ s.mark i with found:=some (a,c),over:=true }
  | .stop=>s.mark i
def vall (A:Nat→Ac) (j f:Nat) (T:List Th) (s:Vst):Vst:=T.foldl (fun s t=>vis A j f t.1 t.2 s) s
def newV (fd:Fd):Vst:=⟨[],[],fd,false⟩
structure Pr where
 A:Nat→Nat→Ac
 n:Nat
 S:Nat
 K:Nat
def bgB (a:Nat) (anch:Bool) (j:Nat) (fd:Fd):Bool:=decide (j=a) || (!anch && fd.isNone)
def place (P:Pr) (a:Nat) (anch:Bool) (j:Nat) (T:List Th) (fd:Fd):Vst:=
 let s:=vall (P.A j) j (P.n + 1) T (newV fd)
 if bgB a anch j fd=true then vis (P.A j) j (P.n + 1) P.S (List.replicate P.K (-1)) s else s
def lock (P:Pr) (a:Nat) (anch:Bool):Nat→Nat→List Th→Fd→Nat→Fd × Nat
 | 0,_,_,fd,st=>(fd,st)
 | m + 1,j,T,fd,st =>
  let s:=place P a anch j T fd
  if (decide (m=0) || (s.next.isEmpty && (s.found.isSome || anch)))=true then (s.found,st + s.met.length)
  else lock P a anch m (j + 1) s.next s.found (st + s.met.length)
def itr (P:Pr) (a:Nat) (anch:Bool):Nat→Nat→List Th→Fd→List Th × Fd
 | 0,_,T,fd=>(T,fd)
 | m + 1,j,T,fd=>itr P a anch m (j + 1) (place P a anch j T fd).next (place P a anch j T fd).found
theorem vis_over {A:Nat→Ac} {j f i:Nat} {c:List Int} {s:Vst} (h:s.over=true):vis A j f i c s=s:=by
 cases f with
 | zero=>rfl
 | succ f=>simp [vis,h]
theorem vall_cons (A:Nat→Ac) (j f:Nat) (t:Th) (T:List Th) (s:Vst):vall A j f (t :: T) s=vall A j f T (vis A j f t.1 t.2 s):=rfl
def Ac.ok (n:Nat):Ac→Prop
 | .alt x y=>x < n∧y < n
 | .go x=>x < n
 | .cap x _=>x < n
 | .rune x=>x < n
 | .fit _=>True
 | .stop=>True
structure Inv (n K:Nat) (s:Vst):Prop where
 nd:s.met.Nodup
 lt:∀ k ∈ s.met,k < n
 nx:∀ t ∈ s.next,t.1 < n∧t.2.length=K
 le:s.next.length≤s.met.length
 fd:∀ y,s.found=some y→y.2.length=K
theorem nodup_le {n:Nat} {l:List Nat} (h:l.Nodup) (hl:∀ k ∈ l,k < n):l.length≤n:=by
 induction n generalizing l with
 | zero =>
  cases l with
  | nil=>simp
  | cons a l=>exact absurd (hl a List.mem_cons_self) (by omega)
 | succ n ih =>
  have h1:=ih (l:=l.erase n) (h.erase n) (fun k hk=>by
   have h2:=(List.Nodup.mem_erase_iff h).1 hk
   have:=hl k h2.2
   have:=h2.1
   omega)
  have:=List.length_erase (a:=n) (l:=l)
  split at this <;> omega
theorem Inv.small {n K:Nat} {s:Vst} (h:Inv n K s):s.met.length≤n:=nodup_le h.nd h.lt
theorem Inv.mark {n K:Nat} {s:Vst} (h:Inv n K s) {i:Nat} (hi:i < n) (hm:i ∉ s.met):Inv n K (s.mark i):=by
 refine ⟨?_,fun k hk=>?_,h.nx,?_,h.fd⟩
 ·simp only [Vst.mark]
  rw [List.nodup_append]
  refine ⟨h.nd,by simp,fun a ha b hb=>?_⟩
  simp at hb
  subst hb
  exact fun e=>hm (e ▸ ha)
 ·simp only [Vst.mark,List.mem_append,List.mem_singleton] at hk
  rcases hk with hk | rfl
  ·exact h.lt k hk
  ·exact hi
 ·have:=h.le
  simp only [Vst.mark,List.length_append,List.length_singleton]
  omega
theorem new_inv (n K:Nat) (fd:Fd) (hfd:∀ y,fd=some y→y.2.length=K):Inv n K (newV fd):=⟨by simp [newV],by simp [newV],by simp [newV],by simp [newV],hfd⟩
theorem not_met {s:Vst} {i:Nat} (h:¬ (s.over || s.met.contains i)=true):s.over=false∧i ∉ s.met:=by
 simp at h
 exact h
theorem vis_inv {A:Nat→Ac} {j n K:Nat} (hA:∀ i,i < n→(A i).ok n):∀ (f i:Nat) (c:List Int) (s:Vst),i < n→c.length=K→Inv n K s→Inv n K (vis A j f i c s):=by
 intro f
 induction f with
 | zero=>intro i c s _ _ h;exact h
 | succ f ih =>
  intro i c s hi hc h
  unfold vis
  split
  ·exact h
  ·rename_i hm
   obtain ⟨ho,hm⟩:=not_met hm
   have h1:=h.mark hi hm
   have hok:=hA i hi
   split
   ·rename_i x y e
    rw [e] at hok
    exact ih _ _ _ hok.2 hc (ih _ _ _ hok.1 hc h1)
   ·rename_i x e
    rw [e] at hok
    exact ih _ _ _ hok hc h1
   ·rename_i x a e
    rw [e] at hok
    exact ih _ _ _ hok (by simpa using hc) h1
   ·rename_i x e
    rw [e] at hok
    refine ⟨h1.nd,h1.lt,fun t ht=>?_,?_,h1.fd⟩
    ·simp only [List.mem_append,List.mem_singleton] at ht
     rcases ht with ht | rfl
     ·exact h.nx t ht
     ·exact ⟨hok,hc⟩
    ·have:=h.le
     simp only [Vst.mark,List.length_append,List.length_singleton]
     omega
   ·refine ⟨h1.nd,h1.lt,h1.nx,h1.le,fun y hy=>?_⟩
    simp only [Option.some.injEq] at hy
    subst hy
    exact hc
   ·exact h1
theorem vall_inv {A:Nat→Ac} {j n K f:Nat} (hA:∀ i,i < n→(A i).ok n):∀ (T:List Th) (s:Vst),(∀ t ∈ T,t.1 < n∧t.2.length=K)→Inv n K s→Inv n K (vall A j f T s):=by
 intro T
 induction T with
 | nil=>intro s _ h;exact h
 | cons t T ih =>
  intro s hT h
  rw [vall_cons]
  exact ih _ (fun u hu=>hT u (List.mem_cons_of_mem _ hu)) (vis_inv hA f t.1 t.2 s (hT t List.mem_cons_self).1 (hT t List.mem_cons_self).2 h)
structure Pr.Ok (P:Pr):Prop where
 ok:∀ j i,i < P.n→(P.A j i).ok P.n
 S:P.S < P.n
theorem place_inv {P:Pr} (hP:P.Ok) {a j:Nat} {anch:Bool} {T:List Th} {fd:Fd} (hT:∀ t ∈ T,t.1 < P.n∧t.2.length=P.K) (hfd:∀ y,fd=some y→y.2.length=P.K):Inv P.n P.K (place P a anch j T fd):=by
 have h:=vall_inv (j:=j) (f:=P.n + 1) (hP.ok j) T (newV fd) hT (new_inv P.n P.K fd hfd)
 unfold place
 dsimp only
 split
 ·exact vis_inv (hP.ok j) _ _ _ _ hP.S (by simp) h
 ·exact h
structure Grow (s t:Vst):Prop where
 met:∃ m,t.met=s.met ++ m
 next:∃ x,t.next=s.next ++ x
 found:t.over=false→t.found=s.found∧s.over=false
 some:s.found.isSome=true→t.found.isSome=true
theorem Grow.refl (s:Vst):Grow s s:=⟨⟨[],by simp⟩,⟨[],by simp⟩,fun h=>⟨rfl,h⟩,id⟩
theorem Grow.trans {s t u:Vst} (h:Grow s t) (k:Grow t u):Grow s u:=by
 obtain ⟨m,hm⟩:=h.met
 obtain ⟨m2,hm2⟩:=k.met
 obtain ⟨x,hx⟩:=h.next
 obtain ⟨x2,hx2⟩:=k.next
 refine ⟨⟨m ++ m2,by rw [hm2,hm,List.append_assoc]⟩,⟨x ++ x2,by rw [hx2,hx,List.append_assoc]⟩,fun ho=>?_,fun hs=>k.some (h.some hs)⟩
 obtain ⟨h1,h2⟩:=k.found ho
 obtain ⟨h3,h4⟩:=h.found h2
 exact ⟨h1.trans h3,h4⟩
theorem Grow.mark (s:Vst) (i:Nat):Grow s (s.mark i):=⟨⟨[i],rfl⟩,⟨[],by simp [Vst.mark]⟩,fun h=>⟨rfl,h⟩,id⟩
theorem vis_grow {A:Nat→Ac} {j:Nat}:∀ (f i:Nat) (c:List Int) (s:Vst),Grow s (vis A j f i c s):=by
 intro f
 induction f with
 | zero=>intro i c s;exact Grow.refl s
 | succ f ih =>
  intro i c s
  unfold vis
  split
  ·exact Grow.refl s
  ·rename_i hm
   obtain ⟨ho,hm⟩:=not_met hm
   have h1:=Grow.mark s i
   split
   ·exact h1.trans ((ih _ _ _).trans (ih _ _ _))
   ·exact h1.trans (ih _ _ _)
   ·exact h1.trans (ih _ _ _)
   ·exact ⟨⟨[i],rfl⟩,⟨[_],rfl⟩,fun h=>⟨rfl,h⟩,id⟩
   ·exact ⟨⟨[i],rfl⟩,⟨[],by simp [Vst.mark]⟩,fun h=>by simp at h,fun _=>rfl⟩
   ·exact h1
theorem vall_grow {A:Nat→Ac} {j f:Nat}:∀ (T:List Th) (s:Vst),Grow s (vall A j f T s):=by
 intro T
 induction T with
 | nil=>intro s;exact Grow.refl s
 | cons t T ih=>intro s;rw [vall_cons];exact (vis_grow f t.1 t.2 s).trans (ih _)
theorem place_grow (P:Pr) (a j:Nat) (anch:Bool) (T:List Th) (fd:Fd):Grow (newV fd) (place P a anch j T fd):=by
 unfold place
 dsimp only
 split
 ·exact (vall_grow T _).trans (vis_grow _ _ _ _)
 ·exact vall_grow T _
theorem place_nil {P:Pr} {a j:Nat} {anch:Bool} {fd:Fd} (hj:j≠a) (h:(fd.isSome || anch)=true):place P a anch j [] fd=newV fd:=by
 have:bgB a anch j fd=false:=by
  cases fd <;> simp_all [bgB]
 unfold place
 rw [this]
 rfl
theorem itr_nil {P:Pr} {a:Nat} {anch:Bool} {fd:Fd} (h:(fd.isSome || anch)=true):∀ (m j:Nat),a < j→(itr P a anch m j [] fd).2=fd:=by
 intro m
 induction m with
 | zero=>intro j _;rfl
 | succ m ih =>
  intro j hj
  simp only [itr]
  rw [place_nil (by omega) h]
  exact ih (j + 1) (by omega)
theorem lock_itr (P:Pr) (a:Nat) (anch:Bool):∀ (m j:Nat) (T:List Th) (fd:Fd) (st:Nat),a≤j→(lock P a anch m j T fd st).1=(itr P a anch m j T fd).2:=by
 intro m
 induction m with
 | zero=>intro j T fd st _;rfl
 | succ m ih =>
  intro j T fd st hj
  simp only [lock,itr]
  split
  ·rename_i h
   simp only [Bool.or_eq_true,Bool.and_eq_true,decide_eq_true_eq] at h
   rcases h with rfl | ⟨h1,h2⟩
   ·rfl
   ·rw [List.isEmpty_iff.1 h1,itr_nil (by simpa using h2) m (j + 1) (by omega)]
  ·exact ih _ _ _ _ (by omega)
def lockRun (P:Pr) (len a:Nat) (anch:Bool):Fd × Nat:=lock P a anch (len - a + 1) a [] none 0
end Go.Proofs.YtacaanhnlfpbhaaGreat
