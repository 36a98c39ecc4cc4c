/- HELPERS: texts of ours put together. -/
import Derived.Test.YtacaanhnlfpbhaaGreatK37
import Derived.Test.YtacaanhnlfpbhaaGreatK04
import Derived.Test.YtacaanhnlfpbhaaGreatK18
import Derived.Test.YtacaanhnlfpbhaaGreatK35
import Derived.Test.YtacaanhnlfpbhaaGreatK20
import Derived.Test.YtacaanhnlfpbhaaGreatK03
import Derived.Test.YtacaanhnlfpbhaaGreatK19
import Derived.WalkKit
import Derived.ProofKit
import Derived.BigQuiet
import Derived.WalkSmall
import Derived.Deep.QuietTactic
import Derived.Deep.RegionWith
import Derived.Lib.SmallJoins
import Derived.Lib.MinMax
import Derived.Maps.AppendAt
import Derived.Laws.AppendOwnNone
import Derived.Test.YtacaanhnlfpbhaaGreatK05
import Derived.LoopN
import Derived.Deep.OwnRows
import Derived.Laws.IdiomCopy
import Derived.Laws.BitsLemmas
import Derived.Laws.EntriesVeiled
import Derived.WalkLawsBesides
import Derived.Lib.LazyBuf
import Derived.Deep.Cut
import Derived.Laws.Rows
import Derived.Deep.MidRow
import Derived.Test.YtacaanhnlfpbhaaGreatK02
import Derived.Test.YtacaanhnlfpbhaaGreatProg
import Derived.Deep.WholeRow
import Derived.Test.YtacaanhnlfpbhaaGreatK01
import Derived.Test.YtacaanhnlfpbhaaGreatK17
import Derived.Deep.SlicePairs
import Derived.RowKit
import Derived.Lib.Small
import Derived.Deep.CutRange
import Derived.Deep.RegionHeld3
import Derived.Test.YtacaanhnlfpbhaaGreatK32
import Derived.Test.YtacaanhnlfpbhaaGreatK11
import Derived.Test.YtacaanhnlfpbhaaGreatK10
import Derived.OrdersHeld
import Derived.StillTail
import Derived.Tactics
import Derived.Below
import Derived.Test.YtacaanhnlfpbhaaGreatK07
import Derived.Laws.StructEq
import Derived.Deep.DrawnRows
namespace Go.Proofs.YtacaanhnlfpbhaaGreat
open Go.RowKit
set_option linter.unusedVariables false
set_option linter.unusedSimpArgs false
theorem O2_set:∀ (L:List (Int × Int)) (i:Nat) (x y:Int),((O2 L).set (i * 2) (.int .i64 x)).set (i * 2 + 1) (.int .i64 y)=O2 (L.set i (x,y)):=by
 intro L
 induction L with
 | nil=>intro i x y;simp [O2]
 | cons a L ih =>
  intro i x y
  cases i with
  | zero=>simp [O2]
  | succ i =>
   have h:=ih i x y
   have e:O2 (a :: L)=.int .i64 a.1 :: .int .i64 a.2 :: O2 L:=by simp [O2]
   have e2:O2 ((a :: L).set (i + 1) (x,y))=.int .i64 a.1 :: .int .i64 a.2 :: O2 (L.set i (x,y)):=by simp [O2]
   rw [e,e2,← h,show (i + 1) * 2=i * 2 + 1 + 1 by omega]
   simp
def Nv.setA (N:Nv) (x:Int):Nv:={ N with a2:=x }
theorem flat_setA:∀ (MS:List Nv) (i:Nat) (h:i < MS.length) (x:Int),(MS.flatMap Nv.cs).set (i * 9 + 2) (.int .i64 x)=(MS.set i (MS[i].setA x)).flatMap Nv.cs:=by
 intro MS
 induction MS with
 | nil=>intro i h;simp at h
 | cons M MS ih =>
  intro i h x
  cases i with
  | zero=>simp [Nv.setA]
  | succ i =>
   have h':=ih i (by simpa using h) x
   have e9:(Nv.cs M).length=9:=rfl
   rw [List.flatMap_cons,List.set_append_right _ _ (by rw [e9];omega),e9,show (i + 1) * 9 + 2 - 9=i * 9 + 2 by omega,h']
   simp
theorem map_set_if (n i:Nat) (hi:i < n) (f:Nat→Nv) (M:Nv) (L:List Nv):((List.range n).map f ++ L).set i M=(List.range n).map (fun j=>if j=i then M else f j) ++ L:=by
 rw [List.set_append_left _ _ (by simpa using hi)]
 congr 1
 apply List.ext_getElem
 ·simp
 ·intro j h1 h2
  simp only [List.length_map,List.length_range] at h2
  by_cases e:i=j
  ·subst e;simp
  ·rw [List.getElem_set_ne e];simp;intro h;exact absurd h.symm e
def Tn.setA:Tn→Int→Tn
 | .mk k R _ s mn mx lz ix nm,x=>.mk k R x s mn mx lz ix nm
theorem TL.setA {w:World} {N:Nv} {t:Tn} {A:Nat→Prop} (h:TL w N t A) (x:Int) (hx:I64ok x):TL w (N.setA x) (t.setA x) A:=by
 cases h with
 | mk ok hRk e1 e2 rr sr hk d1 d2 d3=>exact .mk (N:=N.setA x) ⟨ok.k,hx,ok.a4,ok.a5,ok.a7,ok.a8,ok.r,ok.s⟩ hRk e1 e2 rr sr hk d1 d2 d3
theorem Tn.setA_nodes (t:Tn) (x:Int):(t.setA x).nodes=t.nodes∧(t.setA x).small=t.small:=by cases t;exact ⟨rfl,rfl⟩
theorem nodesL_eq:∀ (ts us:List Tn),ts.length=us.length→(∀ i (h1:i < ts.length) (h2:i < us.length),us[i].nodes=ts[i].nodes∧us[i].small=true)→nodesL us=nodesL ts∧smallL us=true
 | [],[],_,_=>⟨rfl,rfl⟩
 | t :: ts,u :: us,hl,h=>by
  have h0:=h 0 (by simp) (by simp)
  have h1:=nodesL_eq ts us (by simpa using hl) (fun i g1 g2=>h (i + 1) (by simpa using g1) (by simpa using g2))
  simp only [List.getElem_cons_zero] at h0
  exact ⟨by simp only [nodesL];omega,by simp only [smallL,h0.2,h1.2,Bool.and_self]⟩
 | [],u :: us,hl,_=>by simp at hl
 | t :: ts,[],hl,_=>by simp at hl
theorem size53:(Tryz.prog.info? 70).map (·.size)=some 2:=by kernel_rfl
theorem store53 {ops:Array Oper} {rest:List Oper} {op:Oper} {a:Act} {w:World} {Q:Exit→Act→World→Prop} (hgd:op.guard=none) (x y:Operand) (ho:op.op=.store 70 x y)
  (b i:Nat) (p q:Int) (hx:a.eval x=.pointer (some ⟨b,i * 2,none⟩)) (hy:a.eval y=.agg #[.int .i64 p,.int .i64 q]) (ht:w.there b (i * 2) 2)
  (h:wpList Tryz.prog ops Q rest (a.put op.dst undef) ((w.setCell ⟨b,i * 2,none⟩ (.int .i64 p)).setCell ⟨b,i * 2 + 1,none⟩ (.int .i64 q))):wpList Tryz.prog ops Q (op :: rest) a w:=
 wpList_store_mid hgd 70 x y ho b (i * 2) #[.int .i64 p,.int .i64 q] hx hy ht size53 (by simp [Value.oneCell']) h
set_option maxRecDepth 100000 in
set_option maxHeartbeats 8000000 in
theorem turned15 {w0:World} {N:Nv} {t:Tn} {A:Nat→Prop} (h:TL w0 N t A):t.nodes≤200000→t.small=true→∀ w:World,(∀ b,A b→w.heap[b]?=w0.heap[b]?) →
  Calls Tryz.prog 19 #[N.v] w fun e w'=>e=.returned (.tuple #[])∧(∃ t':Tn,TL w' N t' A∧t'.nodes=t.nodes∧t'.small=true)∧Chs A w w':=by
 induction h with
 | @mk N R ts ND AS ok hRk e1 e2 rr sr hk d1 d2 d3 ih =>
 intro hno hsm w hw
 simp only [Tn.small,Bool.and_eq_true,decide_eq_true_eq] at hsm
 simp only [Tn.nodes] at hno
 have IH:∀ i (hi:i < ts.length) (w:World),(∀ b,AS i b→w.heap[b]?=w0.heap[b]?)→Calls Tryz.prog 19 #[(ND i).v] w fun e w'=>e=.returned (.tuple #[])∧(∃ t':Tn,TL w' (ND i) t' (AS i)∧t'.nodes=ts[i].nodes∧t'.small=true)∧Chs (AS i) w w':=fun i hi=>ih i hi (by have:=nodes_get ts i hi;omega) (smallL_get hsm.2 i hi)
 have hlen:ts.length≤200000:=by have:=nodes_ge ts;omega
 have hrr:=row_kept rr (w':=w) (fun b hb=>hw b (.inl ((ob_len _ _ _ _ _).trans hb)))
 have hsr:=row_kept sr (w':=w) (fun b hb=>hw b (.inr (.inl ((ob_len _ _ _ _ _).trans hb))))
 have hTw:∀ i (hi:i < ts.length),TL w (ND i) ts[i] (AS i):=fun i hi=>(hk i hi).kept fun b hb=>hw b (.inr (.inr ⟨i,hi,hb⟩))
 obtain ⟨br,hbr,hrc,hrm,_⟩:=row_two hrr
 obtain ⟨bs,hbs,hsc,hsm2,_⟩:=row_two hsr
 obtain ⟨k,r1,r2,r3,a2,s1,s2,s3,a4,a5,a6,a7,a8⟩:=N
 dsimp only at e1 e2 hbr hbs hrc hsc hrm hsm2 hrr hsr d2 d3
 subst hbr hbs
 have hne:br≠bs:=fun e=>d2 br rfl (by rw [e];rfl)
 have hd3:∀ i b,i < ts.length→AS i b→b≠br∧b≠bs:=fun i b hi hb=>⟨fun e=>(d3 i b hi hb).1 (by rw [e];rfl),fun e=>(d3 i b hi hb).2 (by rw [e];rfl)⟩
 rw [← e1] at hrr hrc
 rw [← e2] at hsr hsc
 have hr9:r2 * 16≤140737488351232:=by omega
 have hm2:s2≤200000:=by omega
 have HIH:=hid IH
 have HTW:=hid hTw
 have HWW:Hid (∀ j b,j < ts.length→AS j b→w.heap[b]?=w0.heap[b]?):=fun j b hj hb=>hw b (.inr (.inr ⟨j,hj,hb⟩))
 have HL:=hid e2
 have HRL:=hid e1
 have HOK:=hid ok
 have HRR:=hid hrr
 have HSR:=hid hsr
 have HD3:=hid hd3
 have HD1:=hid d1
 have HD2:=hid d2
 have HDD:=hid d3
 have HSM:=hid hsm
 have hlr:br < w.heap.size:=(hrr.lt br rfl).2
 have hls:bs < w.heap.size:=(hsr.lt bs rfl).2
 clear ok hRk e1 e2 rr sr hk d1 d2 d3 ih IH hrr hsr hTw hw hno hsm hlen hd3
 go_enter Tryz.func19,Tryz.ntmps19
 go_wp2_with fail
 obtain ⟨W,hW⟩:∃ W,W=w.alloc (.cells #[.int .i64 k,.slice (some ⟨br,0,none⟩) r2 r3,.int .i64 a2,.slice (some ⟨bs,0,none⟩) s2 s3,.int .i64 a4,.int .i64 a5,.bool a6,.int .i64 a7,.string a8] 25):=⟨_,rfl⟩
 rw [← hW]
 have HX:Hid (BxN W w.heap.size ⟨k,some ⟨br,0,none⟩,r2,r3,a2,some ⟨bs,0,none⟩,s2,s3,a4,a5,a6,a7,a8⟩):=by rw [hW];exact heap_alloc_new w _
 have hb:=Joins.below_alloc1 w (.cells #[.int .i64 k,.slice (some ⟨br,0,none⟩) r2 r3,.int .i64 a2,.slice (some ⟨bs,0,none⟩) s2 s3,.int .i64 a4,.int .i64 a5,.bool a6,.int .i64 a7,.string a8] 25)
 rw [← hW] at hb
 have HB:=hid hb
 have hxl:w.heap.size < W.heap.size:=by rw [hW];simp
 clear hW hb
 go_loopw [2] (fun y wq=>∃ i:Nat,y=.int .i64 (i:Int)∧i≤r2∧Hid (∃ R':List (Int × Int),R'.length=R.length∧(∀ x ∈ R'.take i,I64ok x.1∧I64ok x.2)∧wq.ownsRow 0 70 2 (.slice (some ⟨br,0,none⟩) (r2 + 2) r3) (r2 + 2) (O2 (R' ++ M2)))∧Hid (Chs (fun b=>b=br) W wq)) (fun y _=>r2 - (intOf y).toNat)
 case atStart=>exact ⟨0,rfl,by omega,⟨R,rfl,by simp,row_kept HRR.out (fun b hb=>HB.out.block b (HRR.out.lt b hb).2)⟩,Chs.refl _ _⟩
 case round =>
  obtain ⟨i,rfl,hi,HI,HCq⟩:=hrel
  have hXq:BxN wr w.heap.size ⟨k,some ⟨br,0,none⟩,r2,r3,a2,some ⟨bs,0,none⟩,s2,s3,a4,a5,a6,a7,a8⟩:=(HCq.out.block _ hxl (by omega)).trans HX.out
  obtain ⟨o0,o1,o2,o3,o4,o5,o6,o7,o8⟩:=nine' hXq
  by_cases hil:i < r2
  ·have b1:decide ((i:Int) < (r2:Int))=true:=by simp;omega
   have b2:(i:Int) < (r2:Int):=by omega
   have ad1:IntKind.i64.wrap ((i:Int) + 1)=(i:Int) + 1:=by simp [IntKind.wrap,IntKind.bits,IntKind.signed];omega
   have ml:IntKind.i64.wrap (3 * (i:Int))=3 * (i:Int):=by simp [IntKind.wrap,IntKind.bits,IntKind.signed];omega
   have ad2:IntKind.i64.wrap (1000 + 3 * (i:Int))=1000 + 3 * (i:Int):=by simp [IntKind.wrap,IntKind.bits,IntKind.signed];omega
   obtain ⟨R',hl',hk',hrow⟩:=HI.out
   have ht:=row_there hrow (j:=i * 2) (m:=2) (by omega)
   have hset:=row_setC (row_setC hrow (i * 2) (.int .i64 (1000 + 3 * (i:Int)))) (i * 2 + 1) (.int .i64 (1000 + 3 * (i:Int)))
   rw [O2_set,List.set_append_left _ _ (by rw [hl',← HRL.out];exact hil)] at hset
   have HSET:=hid hset
   have HLL:=hid hl'
   have HKK:=hid hk'
   clear hrow hset hl' hk' HI hXq
   go_wp2_with ((with_reducible refine store53 rfl (.tmp 21) (.tmp 20) rfl br i (1000 + 3 * (i:Int)) (1000 + 3 * (i:Int)) ?_ ?_ ht ?_);(rfl);(rfl))
   refine ⟨⟨i + 1,by push_cast;rfl,by omega,⟨R'.set i (1000 + 3 * (i:Int),1000 + 3 * (i:Int)),by rw [List.length_set];exact HLL.out,fun x hx=>?_,HSET.out⟩,(HCq.out.set rfl _).set rfl _⟩,by simp [intOf];omega⟩
   have hlt:i < R'.length:=by rw [HLL.out,← HRL.out];exact hil
   rw [List.take_succ_eq_append_getElem (by simpa using hlt),List.take_set_of_le (Nat.le_refl _)] at hx
   rcases List.mem_append.1 hx with h | h
   ·exact HKK.out x h
   ·simp at h
    subst h
    exact ⟨⟨by show _≤_;omega,by show _≤_;omega⟩,⟨by show _≤_;omega,by show _≤_;omega⟩⟩
  ·have b1:decide ((i:Int) < (r2:Int))=false:=by simp;omega
   obtain rfl:i=r2:=by omega
   have HRR':Hid (∃ R':List (Int × Int),R'.length=R.length∧(∀ x ∈ R',I64ok x.1∧I64ok x.2)∧wr.ownsRow 0 70 2 (.slice (some ⟨br,0,none⟩) (i + 2) r3) (i + 2) (O2 (R' ++ M2))):=by
    obtain ⟨R',h1,h2,h3⟩:=HI.out
    rw [List.take_of_length_le (by rw [h1,← HRL.out];exact Nat.le_refl _)] at h2
    exact ⟨R',h1,h2,h3⟩
   have HSR':Hid (wr.ownsRow 0 25 9 (.slice (some ⟨bs,0,none⟩) (s2 + 2) s3) (s2 + 2) (((List.range s2).map ND ++ [mk7 (-77),mk7 (-78)]).flatMap Nv.cs)):=by
    have h1:wr.heap[bs]?=w.heap[bs]?:=(HCq.out.block bs (by omega) (by omega)).trans (HB.out.block bs hls)
    have h2:=row_kept HSR.out (w':=wr) (fun b hb=>by cases hb;exact h1)
    exact h2
   have HCW:Hid (Chs (fun b=>b=br) w wr):=(Chs.of_below (A:=fun b=>b=br) HB.out).trans HCq.out (fun b h=>h) (fun b h=>h)
   have HTW':Hid (∀ j (hj:j < ts.length),TL wr (ND j) ts[j] (AS j)):=fun j hj=>(HTW.out j hj).kept fun b hb=>HCW.out.block b ((HTW.out j hj).low b hb) (HD3.out j b hj hb).1
   have hwl:W.heap.size≤wr.heap.size:=HCq.out.size
   clear HI hXq
   go_wp2_with fail
   clear b1
   obtain ⟨V,hV⟩:∃ V,V=wr:=⟨_,rfl⟩
   rw [← hV] at HRR' HSR' HCW HTW' hwl HCq ⊢
   clear hV
   go_loopw [3] (fun y wq=>∃ n:Nat,y=.int .i64 (n:Int)∧n≤s2∧Hid (∃ (ND':Nat→Nv) (us:List Tn),us.length=ts.length∧wq.ownsRow 0 25 9 (.slice (some ⟨bs,0,none⟩) (s2 + 2) s3) (s2 + 2) (((List.range s2).map ND' ++ [mk7 (-77),mk7 (-78)]).flatMap Nv.cs)∧(∀ j (hj:j < us.length),TL wq (ND' j) us[j] (AS j))∧(∀ j (h1:j < ts.length) (h2:j < us.length),us[j].nodes=ts[j].nodes∧us[j].small=true)∧(∀ j,n≤j→ND' j=ND j))∧Hid (∀ j b,n≤j→j < ts.length→AS j b→wq.heap[b]?=w0.heap[b]?)∧Hid (Chs (fun b=>b=bs∨∃ j,j < ts.length∧AS j b) V wq)) (fun y _=>s2 - (intOf y).toNat)
   case atStart =>
    refine ⟨0,rfl,by omega,⟨ND,ts,rfl,HSR'.out,HTW'.out,fun j h1 h2=>⟨rfl,smallL_get HSM.out.2 j h1⟩,fun j _=>rfl⟩,fun j b _ hj hb=>?_,Chs.refl _ _⟩
    exact (HCW.out.block b ((HTW.out j hj).low b hb) (HD3.out j b hj hb).1).trans (HWW.out j b hj hb)
   case round =>
    obtain ⟨n,rfl,hn,HST,HAW,HCq2⟩:=hrel
    have hxne:¬ (w.heap.size=bs∨∃ j,j < ts.length∧AS j w.heap.size):=by
     rintro (h | ⟨j,hj,h⟩)
     ·omega
     ·have:=(HTW.out j hj).low _ h;omega
    have hXq:BxN wr w.heap.size ⟨k,some ⟨br,0,none⟩,i,r3,a2,some ⟨bs,0,none⟩,s2,s3,a4,a5,a6,a7,a8⟩:=(HCq2.out.block _ (by omega) hxne).trans ((HCq.out.block _ hxl (by omega)).trans HX.out)
    obtain ⟨o0,o1,o2,o3,o4,o5,o6,o7,o8⟩:=nine' hXq
    have hVl:V.heap.size≤wr.heap.size:=HCq2.out.size
    by_cases hnl:n < s2
    ·have b1:decide ((n:Int) < (s2:Int))=true:=by simp;omega
     have b2:(n:Int) < (s2:Int):=by omega
     have hlt:n < ts.length:=by rw [← HL.out];exact hnl
     have ad1:IntKind.i64.wrap ((n:Int) + 1)=(n:Int) + 1:=by simp [IntKind.wrap,IntKind.bits,IntKind.signed];omega
     obtain ⟨ND',us,hul,hrow,hTL,hno',hsame⟩:=HST.out
     have h9:∀ V':World,V'.heap[bs]?=wr.heap[bs]?→N9 V' bs 0 n (ND n)∧V'.frozen? ⟨bs,n * 9 + 2,none⟩=false:=fun V' hV'=>by
      have hr:=row_kept hrow (w':=V') (fun b hb=>by cases hb;exact hV')
      have c:∀ q,q < 9→V'.cell? ⟨bs,0 + n * 9 + q,none⟩=(Nv.cs (ND n))[q]?:=fun q hq=>by
       rw [Nat.zero_add,hr.cellAt (n * 9 + q) (by omega),flat9 _ n q (by simp;omega) hq,List.getElem_append_left (by simpa using hnl)]
       simp [hsame n (Nat.le_refl _)]
      exact ⟨⟨c 0 (by omega),c 1 (by omega),c 2 (by omega),c 3 (by omega),c 4 (by omega),c 5 (by omega),c 6 (by omega),c 7 (by omega),c 8 (by omega)⟩,hr.frozenAt _⟩
     obtain ⟨⟨n0,n1,n2,n3,n4,n5,n6,n7,n8⟩,_⟩:=h9 wr rfl
     simp only [Nat.zero_add] at n0 n1 n2 n3 n4 n5 n6 n7 n8
     have HC:=HIH.out n hlt wr (fun b hb=>HAW.out n b (Nat.le_refl _) hlt hb)
     obtain ⟨P,hP⟩:∃ P,P=ND n:=⟨_,rfl⟩
     have hPk:∀ V':World,V'.heap[bs]?=wr.heap[bs]?→V'.cell? ⟨bs,n * 9,none⟩=some (.int .i64 P.k)∧V'.cell? ⟨bs,n * 9 + 2,none⟩=some (.int .i64 P.a2)∧V'.frozen? ⟨bs,n * 9 + 2,none⟩=false:=fun V' hV'=>by
      have h:=h9 V' hV'
      rw [hP]
      refine ⟨?_,?_,h.2⟩
      ·have:=h.1.1;simpa using this
      ·have:=h.1.2.2.1;simpa using this
     rw [← hP] at HC n0 n1 n2 n3 n4 n5 n6 n7 n8
     have HPK:=hid hPk
     have HPE:=hid hP
     have HUL:=hid hul
     have HRW:=hid hrow
     have HTL:=hid hTL
     have HNO:=hid hno'
     have HSA:=hid hsame
     have hbsn:¬ AS n bs:=fun h=>(HD3.out n bs hlt h).2 rfl
     have hbsl:bs < wr.heap.size:=(hrow.lt bs rfl).2
     have hxn:¬ AS n w.heap.size:=fun h=>hxne (.inr ⟨n,hlt,h⟩)
     have hxr:w.heap.size < wr.heap.size:=by omega
     clear hul hrow hTL hno' hsame h9 hPk hP HST hxne
     have fin:∀ (w2 w3:World) (t':Tn) (M:Nv) (tM:Tn),Chs (AS n) wr w2→TL w3 M tM (AS n)→tM.nodes=ts[n].nodes→tM.small=true→(∀ b,b≠bs→w3.heap[b]?=w2.heap[b]?)→w3.heap.size=w2.heap.size→w3.os=w2.os→w3.tape=w2.tape→w3.output=w2.output→w3.ownsRow 0 25 9 (.slice (some ⟨bs,0,none⟩) (s2 + 2) s3) (s2 + 2) (((List.range s2).map (fun j=>if j=n then M else ND' j) ++ [mk7 (-77),mk7 (-78)]).flatMap Nv.cs) →
       (∃ (ND'':Nat→Nv) (us':List Tn),us'.length=ts.length∧w3.ownsRow 0 25 9 (.slice (some ⟨bs,0,none⟩) (s2 + 2) s3) (s2 + 2) (((List.range s2).map ND'' ++ [mk7 (-77),mk7 (-78)]).flatMap Nv.cs)∧(∀ j (hj:j < us'.length),TL w3 (ND'' j) us'[j] (AS j))∧(∀ j (h1:j < ts.length) (h2:j < us'.length),us'[j].nodes=ts[j].nodes∧us'[j].small=true)∧(∀ j,n + 1≤j→ND'' j=ND j))∧(∀ j b,n + 1≤j→j < ts.length→AS j b→w3.heap[b]?=w0.heap[b]?)∧Chs (fun b=>b=bs∨∃ j,j < ts.length∧AS j b) V w3:=by
      intro w2 w3 t' M tM hC2 hM hM1 hM2 hk3 hs3 ho3 ht3 hp3 hrow3
      have hoth:∀ j b,j < ts.length→j≠n→AS j b→b < wr.heap.size→w3.heap[b]?=wr.heap[b]?:=fun j b hj hjn hb hbl=>(hk3 b (HD3.out j b hj hb).2).trans (hC2.block b hbl (fun h=>HD1.out j n b hj hlt hjn hb h))
      refine ⟨⟨fun j=>if j=n then M else ND' j,us.set n tM,by rw [List.length_set];exact HUL.out,hrow3,fun j hj=>?_,fun j h1 h2=>?_,fun j hj=>?_⟩,fun j b hj hjl hb=>?_,?_⟩
      ·have hju:j < us.length:=by simpa using hj
       by_cases e:j=n
       ·subst e;simpa using hM
       ·show TL w3 (if j=n then M else ND' j) _ _
        rw [if_neg e,List.getElem_set_ne (fun h=>e h.symm)]
        exact (HTL.out j hju).kept fun b hb=>hoth j b (by rw [← HUL.out];exact hju) e hb ((HTL.out j hju).low b hb)
      ·by_cases e:j=n
       ·subst e;simp only [List.getElem_set_self];exact ⟨hM1,hM2⟩
       ·rw [List.getElem_set_ne (fun h=>e h.symm)]
        exact HNO.out j h1 (by simpa using h2)
      ·show (if j=n then M else ND' j)=ND j
       rw [if_neg (by omega)];exact HSA.out j (by omega)
      ·have h0:=HAW.out j b (by omega) hjl hb
       have hbl:b < wr.heap.size:=by
        have h1:=(HTL.out j (by rw [HUL.out];exact hjl)).low b hb
        exact h1
       exact (hoth j b hjl (by omega) hb hbl).trans h0
      ·have h2:Chs (fun b=>b=bs∨∃ j,j < ts.length∧AS j b) V w2:=HCq2.out.trans hC2 (fun b h=>h) (fun b h=>.inr ⟨n,hlt,h⟩)
       exact ⟨ho3.trans h2.os,ht3.trans h2.tape,hp3.trans h2.output,by rw [hs3];exact h2.size,fun b hb hn=>(hk3 b (fun e=>hn (.inl e))).trans (h2.block b hb hn)⟩
     have HFIN:=hid fin
     clear fin
     by_cases k3:P.k=3
     ·have k3':(P.k == 3)=true:=by simpa using k3
      clear k3
      go_wp2_with (first | (go_at_call 19;(with_reducible refine HC.mono ?_);rintro e w2 ⟨rfl,⟨t',hT',hN',hS'⟩,hC2⟩;obtain ⟨p0,p2,pf⟩:=HPK.out w2 (hC2.block bs hbsl hbsn);clear o0 o1 o2 o3 o4 o5 o6 o7 o8 n0 n1 n2 n3 n4 n5 n6 n7 n8;obtain ⟨o0,o1,o2,o3,o4,o5,o6,o7,o8⟩:=nine' ((hC2.block _ hxr hxn).trans hXq);have HT2:=hid hT';have HN2:=hid hN';have HS2:=hid hS';have HC2:=hid hC2;clear hT' hN' hS' hC2 HC))
      have hrow3:(w2.setCell ⟨bs,n * 9 + 2,none⟩ (.int .i64 2)).ownsRow 0 25 9 (.slice (some ⟨bs,0,none⟩) (s2 + 2) s3) (s2 + 2) (((List.range s2).map (fun j=>if j=n then P.setA 2 else ND' j) ++ [mk7 (-77),mk7 (-78)]).flatMap Nv.cs):=by
       have h:=row_setC (row_kept HRW.out (w':=w2) (fun b hb=>by cases hb;exact HC2.out.block bs hbsl hbsn)) (n * 9 + 2) (.int .i64 2)
       rw [flat_setA _ n (by simp;omega)] at h
       have e:((List.range s2).map ND' ++ [mk7 (-77),mk7 (-78)])[n]'(by simp;omega)=P:=by
        rw [List.getElem_append_left (by simpa using hnl)]
        simp [HSA.out n (Nat.le_refl _),HPE.out]
       rw [e,map_set_if s2 n hnl] at h
       exact h
      have hM:TL (w2.setCell ⟨bs,n * 9 + 2,none⟩ (.int .i64 2)) (P.setA 2) (t'.setA 2) (AS n):=(HT2.out.setA 2 (by decide)).kept fun b hb=>Below.heap_setCell _ _ _ _ (by show b≠bs;exact (HD3.out n b hlt hb).2)
      obtain ⟨h1,h2,h3⟩:=HFIN.out w2 _ t' _ _ HC2.out hM ((t'.setA_nodes 2).1.trans HN2.out) ((t'.setA_nodes 2).2.trans HS2.out) (fun b hb=>Below.heap_setCell _ _ _ _ hb) (by simp [World.setCell]) rfl rfl rfl hrow3
      exact ⟨⟨n + 1,by push_cast;rfl,by omega,h1,h2,h3⟩,by simp [intOf];omega⟩
     ·have k3':(P.k == 3)=false:=by simpa using k3
      clear k3
      go_wp2_with (first | (go_at_call 19;(with_reducible refine HC.mono ?_);rintro e w2 ⟨rfl,⟨t',hT',hN',hS'⟩,hC2⟩;obtain ⟨p0,p2,pf⟩:=HPK.out w2 (hC2.block bs hbsl hbsn);clear o0 o1 o2 o3 o4 o5 o6 o7 o8 n0 n1 n2 n3 n4 n5 n6 n7 n8;obtain ⟨o0,o1,o2,o3,o4,o5,o6,o7,o8⟩:=nine' ((hC2.block _ hxr hxn).trans hXq);have HT2:=hid hT';have HN2:=hid hN';have HS2:=hid hS';have HC2:=hid hC2;clear hT' hN' hS' hC2 HC))
      have hrow3:w2.ownsRow 0 25 9 (.slice (some ⟨bs,0,none⟩) (s2 + 2) s3) (s2 + 2) (((List.range s2).map (fun j=>if j=n then P else ND' j) ++ [mk7 (-77),mk7 (-78)]).flatMap Nv.cs):=by
       have h:=row_kept HRW.out (w':=w2) (fun b hb=>by cases hb;exact HC2.out.block bs hbsl hbsn)
       have e:(fun j=>if j=n then P else ND' j)=ND':=by funext j;by_cases e:j=n;(subst e;simp [HSA.out j (Nat.le_refl _),HPE.out]);simp [e]
       rw [e];exact h
      obtain ⟨h1,h2,h3⟩:=HFIN.out w2 w2 t' _ _ HC2.out HT2.out HN2.out HS2.out (fun b hb=>rfl) rfl rfl rfl rfl hrow3
      exact ⟨⟨n + 1,by push_cast;rfl,by omega,h1,h2,h3⟩,by simp [intOf];omega⟩
    ·have b1:decide ((n:Int) < (s2:Int))=false:=by simp;omega
     obtain rfl:n=s2:=by omega
     clear hxne
     go_wp2
     go_end0
     obtain ⟨ND',us,hul,hrow,hTL,hno',hsame⟩:=HST.out
     obtain ⟨R',h1,h2,h3⟩:=HRR'.out
     have hnl:=nodesL_eq ts us hul.symm (fun j g1 g2=>hno' j g1 g2)
     have hRk:wr.heap[br]?=V.heap[br]?:=HCq2.out.block br (by have:=(h3.lt br rfl).2;exact this) (by
      rintro (h | ⟨j,hj,h⟩)
      ·exact hne h
      ·exact (HD3.out j br hj h).1 rfl)
     have hT0:=TL.mk (w:=wr) (N:=⟨k,some ⟨br,0,none⟩,i,r3,a2,some ⟨bs,0,none⟩,n,s3,a4,a5,a6,a7,a8⟩) (R:=R') (ts:=us) (ND:=ND') (AS:=AS) HOK.out h2 (by rw [h1];exact HRL.out) (by rw [hul];exact HL.out) (by rw [h1,← HRL.out];exact row_kept h3 (fun b hb=>by cases hb;exact hRk)) (by rw [hul,← HL.out];exact hrow) hTL (fun p q b hp hq=>HD1.out p q b (by omega) (by omega)) HD2.out (fun p b hp=>HDD.out p b (by omega))
     rw [hul] at hT0
     refine ⟨rfl,⟨_,hT0,?_,?_⟩,?_⟩
     ·simp only [Tn.nodes];omega
     ·simp only [Tn.small,hnl.2,Bool.and_true,decide_eq_true_eq,h1]
      exact HSM.out.1
     ·refine ⟨HCq2.out.os.trans HCW.out.os,HCq2.out.tape.trans HCW.out.tape,HCq2.out.output.trans HCW.out.output,Nat.le_trans HCW.out.size HCq2.out.size,fun b hb hn=>?_⟩
      refine (HCq2.out.block b (by have:=HCW.out.size;omega) ?_).trans (HCW.out.block b hb (fun e=>hn (.inl (by rw [e];rfl))))
      rintro (h | ⟨j,hj,h⟩)
      ·exact hn (.inr (.inl (by rw [h];rfl)))
      ·exact hn (.inr (.inr ⟨j,hj,h⟩))
end Go.Proofs.YtacaanhnlfpbhaaGreat
namespace Go.Proofs.YtacaanhnlfpbhaaGreat
open Go.RowKit Go.Lk
set_option linter.unusedVariables false
set_option linter.unusedSimpArgs false
theorem three_cellsM {w:World} {b:Nat} {v0 v1 v2:Value} {t:TypeId} {fr:Nat × Nat} (h:w.heap[b]?=some (.cells #[v0,v1,v2] t fr)):w.cell? ⟨b,0,none⟩=some v0∧w.cell? ⟨b,1,none⟩=some v1∧w.cell? ⟨b,2,none⟩=some v2:=
 ⟨Joins.cell_of_block h 0,Joins.cell_of_block h 1,Joins.cell_of_block h 2⟩
theorem TL.ti {w:World} {N:Nv} {t:Tn} {A:Nat→Prop} (h:TL w N t A):TI w w.heap.size N t:=by
 induction h with
 | @mk N R ts ND AS ok hRk e1 e2 rr sr hk d1 d2 d3 ih =>
  refine .mk (ND:=ND) ok e1 (fun hn=>?_) hRk e2 (fun hp=>?_) ih
  ·rcases rr.2 with ⟨_,h0⟩ | ⟨b,cap,cur,e,_⟩
   ·simp at h0
   ·simp only [Value.slice.injEq] at e
    have hbl:=(rr.lt b (by rw [e.1];rfl)).2
    rw [e.1] at rr
    refine ⟨b,0,e.1,hbl,fun i hi=>?_⟩
    have hl:i < (R ++ M2).length:=by simp;omega
    obtain ⟨r0,r1⟩:=O2_at (R ++ M2) i hl
    rw [List.getElem_append_left hi] at r0 r1
    rw [Nat.zero_add]
    exact ⟨(rr.cellAt (i * 2) (by omega)).trans r0,(rr.cellAt (i * 2 + 1) (by omega)).trans r1⟩
  ·rcases sr.2 with ⟨_,h0⟩ | ⟨b,cap,cur,e,_⟩
   ·simp at h0
   ·simp only [Value.slice.injEq] at e
    have hbl:=(sr.lt b (by rw [e.1];rfl)).2
    rw [e.1] at sr
    refine ⟨b,0,e.1,hbl,fun i hi=>?_⟩
    have hl:i < ((List.range ts.length).map ND ++ [mk7 (-77),mk7 (-78)]).length:=by simp;omega
    have hg:((List.range ts.length).map ND ++ [mk7 (-77),mk7 (-78)])[i]=ND i:=by
     rw [List.getElem_append_left (by simpa using hi)]
     simp
    have f:∀ k,k < 9→w.cell? ⟨b,i * 9 + k,none⟩=(Nv.cs (ND i))[k]?:=fun k hk'=>by
     rw [sr.cellAt (i * 9 + k) (by omega),flat9 _ i k hl hk',hg]
    have f0:=f 0 (by omega)
    rw [Nat.add_zero] at f0
    unfold N9
    rw [Nat.zero_add]
    exact ⟨f0,f 1 (by omega),f 2 (by omega),f 3 (by omega),f 4 (by omega),f 5 (by omega),f 6 (by omega),f 7 (by omega),f 8 (by omega)⟩
def pick4 {α:Type} (a b c d:α):Nat→α
 | 0=>a
 | 1=>b
 | 2=>c
 | _=>d
end Go.Proofs.YtacaanhnlfpbhaaGreat
namespace Go.Proofs.YtacaanhnlfpbhaaGreat
open Go.RowKit
set_option linter.unusedVariables false
set_option linter.unusedSimpArgs false
attribute [local go_sem ↓] Go.wp_at_zero Go.wp_at_succ
theorem fields49:Tryz.prog.underlying 70=some (.struct (Tryz.prog.fieldsOf 70)):=by kernel_rfl
theorem held49:Tryz.prog.stoodInHeld 70=false:=by kernel_rfl
theorem guard49:Tryz.prog.eqGuardType Tryz.prog.depth 70=false:=by kernel_rfl
set_option maxRecDepth 100000 in
theorem rng_neq (lo hi:Int) (W:World):(binOp .neq 70 (.agg #[.int .i64 lo,.int .i64 hi]) (.agg #[.int .i64 lo,.int .i64 hi])).run Tryz.prog W=.ok (.bool false) W:=by
 have he:∀ (a b:Int),(Op.equalIn 9999 3 (.int .i64 a) (.int .i64 b)).run Tryz.prog W=.ok (a == b) W:=fun a b=>run_equalIn_int W 9998 3 .i64 .i64 a b Tryz.underlying3
 rw [run_neq_struct,show Op.equalIn 10000 70=Op.equalIn (9999 + 1) 70 from rfl,run_equalIn_agg W 9999 70 _ _ fields49 held49]
 have hp:∀ (xs:Array Value) (o:Nat) (v:Value),xs[o]?=some v→(part 3 xs o).run Tryz.prog W=.ok v W:=by
  intro xs o v h
  simp [part,Tryz.isAgg3,h,Result.andThen]
 simp [Program.fieldsOf,Tryz.underlying70,Op.eqFields,hp,he,Result.andThen]
theorem rng_guard (x y:Operand) (lo hi lo' hi':Int) (W:World):(eqGuard .neq 70 x y (.agg #[.int .i64 lo,.int .i64 hi]) (.agg #[.int .i64 lo',.int .i64 hi'])).run Tryz.prog W=.ok () W:=run_eqGuard_agg W .neq 70 x y _ _ guard49
set_option maxRecDepth 100000 in
set_option maxHeartbeats 8000000 in
theorem same11 {w:World} {ad ad':Option Addr} {n c c':Nat} {l:List In} {s k:Int} (h:PI w w.heap.size ad n l) (h':PI w w.heap.size ad' n l) (hn:n≤9223372036854775807) :
  Calls Tryz.prog 26 #[pv ad n c s k,pv ad' n c' s k] w fun e w'=>e=.returned (.bool true)∧Below w.heap.size w w':=by
 obtain ⟨U,hU⟩:∃ U,U=(w.alloc (.cells #[.slice ad n c,.int .i64 s,.int .i64 k] 46)).alloc (.cells #[.slice ad' n c',.int .i64 s,.int .i64 k] 46):=⟨_,rfl⟩
 have hb:Below w.heap.size w U:=by rw [hU];exact below_two' w _ _
 have hX1:U.heap[w.heap.size]?=some (.cells #[.slice ad n c,.int .i64 s,.int .i64 k] 46 (0,0)):=by rw [hU];exact (heap_alloc_old _ _ (by simp)).trans (heap_alloc_new w _)
 have hX2:U.heap[w.heap.size + 1]?=some (.cells #[.slice ad' n c',.int .i64 s,.int .i64 k] 46 (0,0)):=by rw [hU];exact two_new w _ _ _
 have HP:=hid (h.kept hb hb.size)
 have HP':=hid (h'.kept hb hb.size)
 have HB:=hid hb
 have HL:=hid h.len
 have l1:w.heap.size < U.heap.size:=(Array.getElem?_eq_some_iff.1 hX1).1
 have l2:w.heap.size + 1 < U.heap.size:=(Array.getElem?_eq_some_iff.1 hX2).1
 clear h h' hb
 go_enter Tryz.func26,Tryz.ntmps26
 go_upto_region 1 with fail
 rw [← hU]
 obtain ⟨x2,hx2⟩:∃ x2,x2=w.heap.size + 1:=⟨_,rfl⟩
 rw [← hx2] at hX2 l2 ⊢
 obtain ⟨x1,hx1⟩:∃ x1,x1=w.heap.size:=⟨_,rfl⟩
 rw [← hx1] at hX1 l1 HB ⊢
 have HX1:=hid hX1
 have HX2:=hid hX2
 have HXE:=hid hx1
 clear hx1 hx2 hU hX1 hX2
 obtain ⟨p0,p1,p2⟩:=three_cells HX1.out
 obtain ⟨q0,q1,q2⟩:=three_cells HX2.out
 go_wp2_with fail
 clear p0 p1 p2 q0 q1 q2
 go_loopw [5] (fun y wq=>∃ i:Nat,y=.int .i64 (i:Int)∧i≤n∧Hid (Below U.heap.size U wq)) (fun y _=>n - (intOf y).toNat)
 case atStart=>exact ⟨0,rfl,by omega,Below.refl _ _⟩
 case round =>
  obtain ⟨i,rfl,hi,BK⟩:=hrel
  obtain ⟨p0,p1,p2⟩:=three_cells ((BK.out.block x1 l1).trans HX1.out)
  obtain ⟨q0,q1,q2⟩:=three_cells ((BK.out.block x2 l2).trans HX2.out)
  have hUw:U.heap.size≤wr.heap.size:=BK.out.size
  have l1w:x1 < wr.heap.size:=by omega
  have l2w:x2 < wr.heap.size:=by omega
  by_cases hil:i < n
  ·have b1:decide ((i:Int) < (n:Int))=true:=by simp;omega
   have b2:(i:Int) < (n:Int):=by omega
   have ad1:IntKind.i64.wrap ((i:Int) + 1)=(i:Int) + 1:=by simp [IntKind.wrap,IntKind.bits,IntKind.signed];omega
   have hlt:i < l.length:=by have:=HL.out;omega
   obtain ⟨g,o,ND,e,hg,hcs⟩:=HP.out.mem (by omega)
   obtain ⟨g',o',ND',e',hg',hcs'⟩:=HP'.out.mem (by omega)
   subst e e'
   have lg:g < wr.heap.size:=by omega
   have lg':g' < wr.heap.size:=by omega
   obtain ⟨m0,m1,m2,m3,m4⟩:=(hcs i hlt).1.kept (BK.out.block g hg)
   obtain ⟨t0,t1,t2,t3,t4⟩:=(hcs' i hlt).1.kept (BK.out.block g' hg')
   have hI:=(hcs i hlt).2.kept BK.out BK.out.size
   have hI':=(hcs' i hlt).2.kept BK.out BK.out.size
   obtain ⟨M,hM⟩:∃ M,M=ND i:=⟨_,rfl⟩
   obtain ⟨M',hM'⟩:∃ M,M=ND' i:=⟨_,rfl⟩
   rw [← hM] at m0 m1 m2 m3 m4 hI
   rw [← hM'] at t0 t1 t2 t3 t4 hI'
   clear hM hM' hcs hcs'
   obtain ⟨op,x,y,a,r1,r2,r3⟩:=M
   obtain ⟨op',x',y',a',r1',r2',r3'⟩:=M'
   obtain rfl:op'=op:=hI'.op.trans hI.op.symm
   obtain rfl:x'=x:=hI'.x.trans hI.x.symm
   obtain rfl:y'=y:=hI'.y.trans hI.y.symm
   obtain rfl:a'=a:=hI'.a.trans hI.a.symm
   obtain rfl:r2'=r2:=hI'.len.trans hI.len.symm
   have hr2:r2'≤8796093022208:=by have:=hI.sm;dsimp only at this;omega
   have HI:=hid hI
   have HI':=hid hI'
   clear hI hI'
   dsimp only at m0 m1 m2 m3 m4 t0 t1 t2 t3 t4
   go_wp2_with fail
   obtain ⟨V,hV⟩:∃ V,V=(wr.alloc (.cells #[.int .i64 op',.int .i64 x',.int .i64 y',.int .i64 a',.slice r1 r2' r3] 86)).alloc (.cells #[.int .i64 op',.int .i64 x',.int .i64 y',.int .i64 a',.slice r1' r2' r3'] 86):=⟨_,rfl⟩
   rw [← hV]
   have HBV:Hid (Below wr.heap.size wr V):=by rw [hV];exact below_two' wr _ _
   have hZ1:Hid (V.heap[wr.heap.size]?=some (.cells #[.int .i64 op',.int .i64 x',.int .i64 y',.int .i64 a',.slice r1 r2' r3] 86 (0,0))):=by rw [hV];exact (heap_alloc_old _ _ (by simp)).trans (heap_alloc_new wr _)
   have hZ2:Hid (V.heap[wr.heap.size + 1]?=some (.cells #[.int .i64 op',.int .i64 x',.int .i64 y',.int .i64 a',.slice r1' r2' r3'] 86 (0,0))):=by rw [hV];exact two_new wr _ _ _
   have k1:wr.heap.size < V.heap.size:=(Array.getElem?_eq_some_iff.1 hZ1.out).1
   have k2:wr.heap.size + 1 < V.heap.size:=(Array.getElem?_eq_some_iff.1 hZ2.out).1
   obtain ⟨z2,hz2⟩:∃ z2,z2=wr.heap.size + 1:=⟨_,rfl⟩
   rw [← hz2] at hZ2 k2 ⊢
   have HBW:=hid (BK.out.trans (Joins.below_le HBV.out BK.out.size))
   have HIV:=hid (HI.out.kept HBV.out HBV.out.size)
   have HIV':=hid (HI'.out.kept HBV.out HBV.out.size)
   obtain ⟨z1,hz1⟩:∃ z1,z1=wr.heap.size:=⟨_,rfl⟩
   rw [← hz1] at hZ1 k1 ⊢
   clear hV hz1 hz2 HBV HI HI' m0 m1 m2 m3 m4 t0 t1 t2 t3 t4 p0 p1 p2 q0 q1 q2 b1
   go_loopw [8] (fun y wq=>∃ j:Nat,y=.int .i64 (j:Int)∧j≤r2'∧Hid (Below V.heap.size V wq)) (fun y _=>r2' - (intOf y).toNat)
   case atStart=>exact ⟨0,rfl,by omega,Below.refl _ _⟩
   case round =>
    obtain ⟨j,rfl,hj,BJ⟩:=hrel
    obtain ⟨d0,d1,d2,d3,d4⟩:=five ((BJ.out.block z1 k1).trans hZ1.out)
    obtain ⟨f0,f1,f2,f3,f4⟩:=five ((BJ.out.block z2 k2).trans hZ2.out)
    by_cases hjl:j < r2'
    ·have b3:decide ((j:Int) < (r2':Int))=true:=by simp;omega
     have b4:(j:Int) < (r2':Int):=by omega
     have ad2:IntKind.i64.wrap ((j:Int) + 1)=(j:Int) + 1:=by simp [IntKind.wrap,IntKind.bits,IntKind.signed];omega
     have hlen:r2'=(l[i]).R.length:=HIV.out.len
     obtain ⟨a1,cap1,e1,h1⟩:=HIV.out.row.below BJ.out (Nat.le_refl _) (Nat.le_refl _)
     obtain ⟨a2,cap2,e2,h2⟩:=HIV'.out.row.below BJ.out (Nat.le_refl _) (Nat.le_refl _)
     simp only [Value.slice.injEq] at e1 e2
     obtain ⟨rfl,_,rfl⟩:=e1
     obtain ⟨rfl,_,rfl⟩:=e2
     rcases h1 with h1 | ⟨rb,ro,rfl,_,u0,u1⟩
     ·omega
     rcases h2 with h2 | ⟨rb',ro',rfl,_,v0,v1⟩
     ·omega
     have u0:=u0 j (by omega)
     have u1:=u1 j (by omega)
     have v0:=v0 j (by omega)
     have v1:=v1 j (by omega)
     obtain ⟨⟨lo,hi'⟩,hv⟩:∃ v,(l[i]).R.getD j (0,0)=v:=⟨_,rfl⟩
     rw [hv] at u0 u1 v0 v1
     dsimp only at u0 u1 v0 v1
     have hneq:=fun W'=>rng_neq lo hi' W'
     have hgd:=fun x y W'=>rng_guard x y lo hi' lo hi' W'
     clear hv hlen
     go_wp2_with fail
     go_quiet (fail)
     go_wp2
     exact ⟨⟨j + 1,by push_cast;rfl,by omega,BJ.out.trans ⟨rfl,rfl,rfl,Nat.le_refl _,fun _ _=>rfl⟩⟩,by simp [intOf];omega⟩
    ·have b3:decide ((j:Int) < (r2':Int))=false:=by simp;omega
     go_wp2
     exact ⟨⟨i + 1,by push_cast;rfl,by omega,HBW.out.trans (Joins.below_le BJ.out HBW.out.size)⟩,by simp [intOf];omega⟩
  ·have b1:decide ((i:Int) < (n:Int))=false:=by simp;omega
   go_wp2
   all_goals go_ret
   all_goals refine ⟨rfl,?_⟩
   rw [← HXE.out]
   exact HB.out.trans (Joins.below_le BK.out (by omega))
end Go.Proofs.YtacaanhnlfpbhaaGreat
