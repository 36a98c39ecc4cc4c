/- HELPERS: texts of ours put together. -/
import Derived.Test.YtacaanhnlfpbhaaGreatK13
import Derived.Test.YtacaanhnlfpbhaaGreatK03
import Derived.Test.YtacaanhnlfpbhaaGreatK06
import Derived.Test.YtacaanhnlfpbhaaGreatK02
import Derived.WalkKit
import Derived.Laws.BitsLemmas
import Derived.Test.YtacaanhnlfpbhaaGreatK12
namespace Go.Proofs.YtacaanhnlfpbhaaGreat
open Go.RowKit
set_option linter.unusedVariables false
set_option linter.unusedSimpArgs false
set_option maxRecDepth 100000 in
set_option maxHeartbeats 4000000 in
theorem sizeRep49g (N:Nv) (q:Nat) (w:World) (m0:0≤N.a4) (m1:N.a4≤1000) (mx:N.a5=-1∨N.a4≤N.a5∧N.a5≤1000) (hq:q≤1000000000) :
  Calls Tryz.prog 73 #[N.v,.int .i64 (q:Int)] w fun e w'=>e=.returned (.int .i64 (repN N.a4 N.a5 q:Nat))∧Below w.heap.size w w':=by
 obtain ⟨k,r1,r2,r3,a2,s1,s2,s3,a4,a5,a6,a7,a8⟩:=N
 simp only at m0 m1 mx
 dsimp only
 rcases mx with rfl | ⟨mx0,mx1⟩
 ·have hp:0≤max a4 1 * (q:Int)∧max a4 1 * (q:Int)≤1000 * 1000000000:=⟨Int.mul_nonneg (by omega) (by omega),Int.mul_le_mul (by omega) (by omega) (by omega) (by omega)⟩
  have ad1:IntKind.i64.wrap (max a4 1 * (q:Int))=max a4 1 * (q:Int):=by simp [IntKind.wrap,IntKind.bits,IntKind.signed];omega
  have ad2:IntKind.i64.wrap (max a4 1 * (q:Int) + 1)=max a4 1 * (q:Int) + 1:=by simp [IntKind.wrap,IntKind.bits,IntKind.signed];omega
  have hre:((repN a4 (-1) q:Nat):Int)=max a4 1 * q + 1:=by
   simp only [repN,if_true]
   have e:((max a4.toNat 1:Nat):Int)=max a4 1:=by omega
   push_cast
   rw [← e]
  obtain ⟨r,hr⟩:∃ r,r=repN a4 (-1) q:=⟨_,rfl⟩
  rw [← hr] at hre ⊢
  have HRE:=hid' hre
  clear hre hr
  go_enter Tryz.func73,Tryz.ntmps73
  go_wp2
  go_ret
  exact ⟨ret_int HRE.out.symm,Joins.below_alloc1 w _⟩
 ·have mxn:a5≠-1:=by omega
  have c0:(a5 == -1)=false:=by simpa using mxn
  have hp:0≤a4 * (q:Int)∧a4 * (q:Int)≤1000 * 1000000000:=⟨Int.mul_nonneg m0 (by omega),Int.mul_le_mul m1 (by omega) (by omega) (by omega)⟩
  have hp2:0≤(a5 - a4) * (1 + (q:Int))∧(a5 - a4) * (1 + (q:Int))≤1000 * 1000000001:=⟨Int.mul_nonneg (by omega) (by omega),Int.mul_le_mul (by omega) (by omega) (by omega) (by omega)⟩
  have hre:((repN a4 a5 q:Nat):Int)=max (a4 * q + (a5 - a4) * (1 + q)) 1:=by
   have e:((a4.toNat * q + (a5 - a4).toNat * (1 + q):Nat):Int)=a4 * q + (a5 - a4) * (1 + q):=by
    push_cast
    rw [Int.toNat_of_nonneg m0,Int.toNat_of_nonneg (by omega)]
   simp only [repN,if_neg mxn]
   generalize a4.toNat * q + (a5 - a4).toNat * (1 + q)=X at e
   omega
  have ad1:IntKind.i64.wrap (a4 * (q:Int))=a4 * (q:Int):=by simp [IntKind.wrap,IntKind.bits,IntKind.signed];omega
  have ad2:IntKind.i64.wrap (a5 - a4)=a5 - a4:=by simp [IntKind.wrap,IntKind.bits,IntKind.signed];omega
  have ad3:IntKind.i64.wrap (1 + (q:Int))=1 + (q:Int):=by simp [IntKind.wrap,IntKind.bits,IntKind.signed];omega
  have ad4:IntKind.i64.wrap ((a5 - a4) * (1 + (q:Int)))=(a5 - a4) * (1 + (q:Int)):=by simp [IntKind.wrap,IntKind.bits,IntKind.signed];omega
  have ad5:IntKind.i64.wrap (a4 * (q:Int) + (a5 - a4) * (1 + (q:Int)))=a4 * (q:Int) + (a5 - a4) * (1 + (q:Int)):=by simp [IntKind.wrap,IntKind.bits,IntKind.signed];omega
  obtain ⟨r,hr⟩:∃ r,r=repN a4 a5 q:=⟨_,rfl⟩
  rw [← hr] at hre ⊢
  have HRE:=hid' hre
  clear hre hr
  go_enter Tryz.func73,Tryz.ntmps73
  go_wp2
  go_ret
  exact ⟨ret_int HRE.out.symm,Joins.below_alloc1 w _⟩
set_option maxRecDepth 100000 in
set_option maxHeartbeats 8000000 in
theorem size30g {w0:World} {B:Nat} {N:Nv} {t:Tn} (h:TI w0 B N t):t.fine=true→t.nodes≤200000→∀ (w:World),B≤w.heap.size→(∀ b,b < B→w.heap[b]?=w0.heap[b]?) →
  Calls Tryz.prog 43 #[N.v] w fun e w'=>e=.returned (.int .i64 (min 2001 t.sz:Nat))∧Below w.heap.size w w':=by
 induction h with
 | @mk N R ts ND ok hr hR hRk hs hS hk ih =>
 intro hf hno w hB hw
 obtain ⟨N',hN'⟩:∃ N',N'=N:=⟨_,rfl⟩
 obtain ⟨k,r1,r2,r3,a2,s1,s2,s3,a4,a5,a6,a7,a8⟩:=N
 simp only at hs hS
 simp only [Tn.fine,Bool.and_eq_true] at hf
 simp only [Tn.nodes] at hno
 have FN:=fine_nodeZ hf.1
 have HFG:=hid' (fineL_get hf.2)
 have hts:ts.length≤200000:=by have:=nodes_ge ts;omega
 have HNO:=hid' hno
 simp only [Tn.sz]
 obtain ⟨r,hrr⟩:∃ r:Nat,r=min 2001 (if k=6 then repN a4 a5 (szL ts) else 1 + szL ts):=⟨_,rfl⟩
 rw [← hrr]
 have HR:=hid' hrr
 have HW:=hid' hw
 have HS:=hid' hS
 have IH:=hid' ih
 have HFN:=hid' FN
 have hm2:s2≤200000:=by omega
 have HL:=hid' hs
 clear ok hr hR hRk hk hS hw hrr ih hs hf FN hts hno
 go_enter Tryz.func43,Tryz.ntmps43
 go_wp2_with fail
 go_loopw [3,10] (fun u y wq=>∃ (i q:Nat),y=.int .i64 (i:Int)∧i≤s2∧u=.int .i64 (q:Int)∧q≤i * 2001∧Hid (min 2001 q=min 2001 (szL (ts.take i))∧(i≤1→q≤2001))∧Hid (Below w.heap.size w wq)∧Hid (wq.heap[w.heap.size]?=some (.cells #[.int .i64 k,.slice r1 r2 r3,.int .i64 a2,.slice s1 s2 s3,.int .i64 a4,.int .i64 a5,.bool a6,.int .i64 a7,.string a8] 25 (0,0)))) (fun _ y _=>s2 - (intOf y).toNat)
 case atStart=>exact ⟨0,0,rfl,by omega,rfl,by omega,⟨by simp [szL],by omega⟩,Joins.below_alloc1 w _,heap_alloc_new w _⟩
 case round =>
  obtain ⟨i,q,rfl,hi,rfl,hq,HQ,BK,BX⟩:=hrel
  obtain ⟨o0,o1,o2,o3,o4,o5,o6,o7,o8⟩:=nine' BX.out
  by_cases hil:i < s2
  ·have b1:decide ((i:Int) < (s2:Int))=true:=by simp;omega
   have b2:(i:Int) < (s2:Int):=by omega
   have hlt:i < ts.length:=by rw [← HL.out];exact hil
   obtain ⟨b,o,hs1,hb,hc⟩:=HS.out (by omega)
   subst hs1
   have hwk:∀ b,b < B→wr.heap[b]?=w0.heap[b]?:=fun b hb=>(BK.out.block b (by omega)).trans (HW.out b hb)
   obtain ⟨n0,n1,n2,n3,n4,n5,n6,n7,n8⟩:=(hc i hlt).kept (hwk b hb)
   have HC:=IH.out i hlt (HFG.out i hlt) (by have:=nodes_get ts i hlt;have:=HNO.out;omega) (wr.alloc (.cells #[.int .i64 (ND i).k,.slice (ND i).r1 (ND i).r2 (ND i).r3,.int .i64 (ND i).a2,.slice (ND i).s1 (ND i).s2 (ND i).s3,.int .i64 (ND i).a4,.int .i64 (ND i).a5,.bool (ND i).a6,.int .i64 (ND i).a7,.string (ND i).a8] 25)) (by have:=BK.out.size;simp;omega) (fun b hb=>(heap_alloc_old _ _ (by have:=BK.out.size;omega)).trans (hwk b hb))
   have hst:=szL_take ts i hlt
   obtain ⟨g,hg⟩:∃ g,g=min 2001 ts[i].sz:=⟨_,rfl⟩
   rw [← hg] at HC
   have hgb:g≤2001:=by omega
   have HQ':Hid (min 2001 (q + g)=min 2001 (szL (ts.take (i + 1)))∧(i + 1≤1→q + g≤2001)):=by
    have h1:=HQ.out.1
    exact ⟨by omega,fun h=>by omega⟩
   obtain ⟨M,hM⟩:∃ M,M=ND i:=⟨_,rfl⟩
   rw [← hM] at HC n0 n1 n2 n3 n4 n5 n6 n7 n8
   have ad1:IntKind.i64.wrap ((i:Int) + 1)=(i:Int) + 1:=by simp [IntKind.wrap,IntKind.bits,IntKind.signed];omega
   have ad2:IntKind.i64.wrap ((q:Int) + (g:Int))=(q:Int) + (g:Int):=by simp [IntKind.wrap,IntKind.bits,IntKind.signed];omega
   clear hM hg hwk hc hlt hst HQ
   go_wp2_with (first | (go_at_call 43;(with_reducible refine HC.mono ?_);rintro e w2 ⟨rfl,hb2⟩;have HB2:=hid' hb2;clear hb2 HC))
   refine ⟨⟨i + 1,q + g,by push_cast;rfl,by omega,by push_cast;rfl,by omega,HQ'.out,?_,?_⟩,?_⟩
   ·exact BK.out.trans (Joins.below_le ((Joins.below_alloc1 wr _).trans (Joins.below_le HB2.out (by simp))) BK.out.size)
   ·exact (HB2.out.block _ (by have:=(Array.getElem?_eq_some_iff.1 BX.out).1;simp;omega)).trans ((heap_alloc_old wr _ (Array.getElem?_eq_some_iff.1 BX.out).1).trans BX.out)
   ·simp [intOf]
    omega
  ·have b1:decide ((i:Int) < (s2:Int))=false:=by simp;omega
   obtain rfl:i=s2:=by omega
   have e:=HQ.out.1
   rw [HL.out,List.take_length] at e
   have hr':=HR.out
   have ad2:IntKind.i64.wrap (1 + (q:Int))=1 + (q:Int):=by simp [IntKind.wrap,IntKind.bits,IntKind.signed];omega
   by_cases k6:k=6
   ·subst k6
    simp only [if_true] at hr'
    obtain ⟨h1,m0,m1,mx⟩:=HFN.out.rep rfl
    have hq1:=HQ.out.2 (by rw [HL.out,h1];omega)
    rw [← repN_cap,← e,repN_cap] at hr'
    have HC:=sizeRep49g N' q wr (by rw [hN'];exact m0) (by rw [hN'];exact m1) (by rw [hN'];exact mx) (by omega)
    have hrb:repN a4 a5 q≤8000000:=by
     unfold repN
     split
     ·have:max a4.toNat 1 * q≤1000 * 2001:=Nat.mul_le_mul (by omega) hq1
      omega
     ·have:a4.toNat * q≤1000 * 2001:=Nat.mul_le_mul (by omega) hq1
      have:(a5 - a4).toNat * (1 + q)≤1000 * 2002:=Nat.mul_le_mul (by omega) (by omega)
      omega
    rw [hN'] at HC
    dsimp only at HC
    generalize repN a4 a5 q=x at HC hr' hrb
    have HR':=hid' hr'
    clear e hr' HR HQ HFN mx hN'
    go_wp2_with (first | (go_at_call 73;(with_reducible refine HC.mono ?_);rintro e w2 ⟨rfl,hb2⟩;have HB2:=hid' hb2;clear hb2 HC))
    go_ret
    exact ⟨ret_int (by have:=HR'.out;omega),BK.out.trans (Joins.below_le HB2.out BK.out.size)⟩
   ·have k6':(k == 6)=false:=by simpa using k6
    simp only [k6,if_false] at hr'
    have HR':=hid' hr'
    have HE:=hid' e
    clear e hr' HR HQ HFN k6
    go_wp2
    go_ret
    exact ⟨ret_int (by have:=HR'.out;have:=HE.out;omega),BK.out⟩
abbrev Nv.nd (N:Nv):Nd:=⟨N.r1,N.r2,N.r3,N.a2,N.s1,N.s2,N.s3,N.a4,N.a5,N.a6,N.a7,N.a8⟩
def BG (g K:Nat) (A:Six) (w0:World) (B0:Nat) (N:Nv) (t:Tn):Prop:=
 ∀ (w:World) (v:Value) (n:Int) (B:Way) (F1:List Nat),B0≤w.heap.size→(∀ b,b < B0→w.heap[b]?=w0.heap[b]?)→O7 w g A n→Rep g K AL w v B F1→g ∉ F1→Gw B→0≤n→n + 3 * ((t.sz * t.sz:Nat):Int)≤900000000 →
  Calls Tryz.prog 77 #[pt g,N.nd.v N.k,v] w fun e w'=>∃ u F FE n1 W,e=.returned u∧Mk g K AL w w' A n1 u W (List.range B0 ++ F1) F∧(∃ LE,BgR g K w.heap.size B.ags (fun E=>Beg E t n B n1 W) W.ags LE FE w')∧(∀ k ∈ FE,k ∈ List.range B0 ++ F1∨w.heap.size≤k)∧n≤n1∧n1≤n + t.sz∧Gw W∧∀ b ∈ W.ua,b ∈ B.ua
theorem BG.step {g K:Nat} {A:Six} {w0:World} {B0:Nat} {N:Nv} {t:Tn} (h:BG g K A w0 B0 N t) (hg:B0≤g) {w:World} (hB:B0≤w.heap.size) (hk:∀ b,b < B0→w.heap[b]?=w0.heap[b]?) {lo:Nat} (hlo:lo≤w.heap.size) {AG ub:List Nat} {bd1 bd2:Int→Prop} {R1 R2:Int→Way→(Nat→Way)→Prop} {F0:List Nat}
  (hbd:∀ n,bd1 n→0≤n∧n + 3 * ((t.sz * t.sz:Nat):Int)≤900000000∧∀ n1,n≤n1→n1≤n + t.sz→bd2 n1) (hR:∀ E n W n1 W1,R1 n W E→Beg E t n W n1 W1→R2 n1 W1 E) :
  StepJ g K A N.nd N.k (List.range B0) F0 w (JB g K lo AG ub bd1 R1) (JB g K lo AG ub bd2 R2):=by
 intro w' v n B F1 FE hc hO hRp hgF hgE hnF hnE ⟨hb,⟨hgw,hub⟩,LE,hB1⟩
 obtain ⟨b1,b2,b3⟩:=hbd n hb
 refine (h w' v n B F1 (Nat.le_trans hB hc.size) (fun b hb=>(hc.block b (by omega) (by simp;omega)).trans (hk b hb)) hO hRp hgF hgw b1 b2).mono ?_
 rintro e w'' ⟨u,F,FE2,n1,W,rfl,hM,⟨LE2,hB2⟩,hE2,h1,h2,h3,h4⟩
 refine ⟨u,F,FE ++ FE2,n1,W,rfl,hM,⟨b3 n1 h1 h2,⟨h3,fun b hb=>hub b (h4 b hb)⟩,LE ++ LE2,?_⟩,fun k hk=>?_⟩
 ·have hst:BgR g K lo AG (R1 n B) B.ags LE FE w'':=hB1.stab hM.chg.size fun k hk=>hM.chg.block k (hB1.low k hk) (by simp;intro e;exact hgE (e ▸ hk))
  exact hst.seq hB2 (Nat.le_trans hlo hc.size) hB1.ofLow (fun E e1 e2=>hR E n B n1 W e1 e2)
 ·rcases List.mem_append.1 hk with hk | hk
  ·exact .inl hk
  ·rcases hE2 k hk with h | h
   ·exact .inr (.inl h)
   ·exact .inr (.inr h)
theorem BgR.par {g K lo lo':Nat} {AG A1 A2:List Nat} {R1 R2 R:(Nat→Way)→Prop} {LE1 LE2:List (Nat × Way)} {FE1 FE2:List Nat} {w:World} (h1:BgR g K lo AG R1 A1 LE1 FE1 w) (h2:BgR g K lo' AG R2 A2 LE2 FE2 w) (hlo:lo≤lo') (hb:∀ p ∈ LE1,p.1 < lo')
  (hR:∀ E,R1 E→R2 E→R E):BgR g K lo AG R (A1 ++ A2) (LE1 ++ LE2) (FE1 ++ FE2) w:=by
 refine ⟨fun p hp=>?_,fun k hk=>?_,fun k hk=>?_,fun p hp=>?_,?_,fun E hE=>hR E (h1.rel E fun p hp=>hE p (by simp [hp])) (h2.rel E fun p hp=>hE p (by simp [hp])),fun b hb2=>?_,fun p hp b hb2=>?_,fun p hp=>by rcases List.mem_append.1 hp with hp | hp;exact h1.wf p hp;exact h2.wf p hp⟩
 ·rcases List.mem_append.1 hp with hp | hp
  ·obtain ⟨a1,v,F,a2,a3,a4⟩:=h1.env p hp
   exact ⟨by simp [a1],v,F,a2,a3,fun k hk=>by simp [a4 k hk]⟩
  ·obtain ⟨a1,v,F,a2,a3,a4⟩:=h2.env p hp
   exact ⟨by simp [a1],v,F,a2,a3,fun k hk=>by simp [a4 k hk]⟩
 ·rcases List.mem_append.1 hk with hk | hk
  ·exact h1.low k hk
  ·exact h2.low k hk
 ·rcases List.mem_append.1 hk with hk | hk
  ·exact h1.isc k hk
  ·exact h2.isc k hk
 ·rcases List.mem_append.1 hp with hp | hp
  ·exact h1.fresh p hp
  ·exact Nat.le_trans hlo (h2.fresh p hp)
 ·rw [List.map_append,List.nodup_append]
  refine ⟨h1.nd,h2.nd,fun a ha b hb2 e=>?_⟩
  simp only [List.mem_map] at ha hb2
  obtain ⟨p,hp,rfl⟩:=ha
  obtain ⟨q,hq,rfl⟩:=hb2
  have:=hb p hp
  have:=h2.fresh q hq
  omega
 ·rw [List.map_append]
  simp only [List.mem_append] at hb2 ⊢
  rcases hb2 with hb2 | hb2
  ·rcases h1.agw b hb2 with h | h
   ·exact .inl h
   ·exact .inr (.inl h)
  ·rcases h2.agw b hb2 with h | h
   ·exact .inl h
   ·exact .inr (.inr h)
 ·rw [List.map_append]
  simp only [List.mem_append]
  rcases List.mem_append.1 hp with hp | hp
  ·rcases h1.agl p hp b hb2 with h | h
   ·exact .inl h
   ·exact .inr (.inl h)
  ·rcases h2.agl p hp b hb2 with h | h
   ·exact .inl h
   ·exact .inr (.inr h)
theorem BG.stepL {g K:Nat} {A:Six} {w0:World} {B0:Nat} {N:Nv} {t:Tn} (h:BG g K A w0 B0 N t) (hg:B0≤g) {w:World} (hB:B0≤w.heap.size) (hk:∀ b,b < B0→w.heap[b]?=w0.heap[b]?) {lo:Nat} (hlo:lo≤w.heap.size) {bd1 bd2:Int→Prop} {R1 R2:Int→List Way→(Nat→Way)→Prop} {F0:List Nat}
  {f:FuncId} {fi ca:Array Value} {B:Way} (hRp:Rep g K AL w (.func (.func f) fi ca) B F0) (hgF:g ∉ F0) (hgw:Gw B)
  (hbd:∀ n,bd1 n→0≤n∧n + 3 * ((t.sz * t.sz:Nat):Int)≤900000000∧∀ n1,n≤n1→n1≤n + t.sz→bd2 n1) (hR:∀ E n l n1 W1,R1 n l E→Beg E t n B n1 W1→R2 n1 (l ++ [W1]) E) :
  StepL g K A N.nd N.k f fi ca (List.range B0 ++ F0) w (JBl g K lo B.ags bd1 R1) (JBl g K lo B.ags bd2 R2):=by
 intro w' n l FE hc hO ⟨hb,hgl,LE,hB1⟩ hgE hnE
 obtain ⟨b1,b2,b3⟩:=hbd n hb
 refine (h w' _ n B F0 (Nat.le_trans hB hc.size) (fun b hb=>(hc.block b (by omega) (by simp;omega)).trans (hk b hb)) hO (hRp.kept fun k hk=>hc.block k (hRp.low k hk) (by simp;intro e;exact hgF (e ▸ hk))) hgF hgw b1 b2).mono ?_
 rintro e w'' ⟨u,F,FE2,n1,W,rfl,hM,⟨LE2,hB2⟩,hE2,h1,h2,h3,h4⟩
 refine ⟨u,F,FE ++ FE2,n1,W,rfl,hM,⟨b3 n1 h1 h2,hgl.snoc h3,LE ++ LE2,?_⟩,fun k hk=>?_⟩
 ·have hst:BgR g K lo B.ags (R1 n l) (agsL l) LE FE w'':=hB1.stab hM.chg.size fun k hk=>hM.chg.block k (hB1.low k hk) (by simp;intro e;exact hgE (e ▸ hk))
  rw [agsL_snoc]
  exact hst.par hB2 (Nat.le_trans hlo hc.size) hB1.ofLow (fun E e1 e2=>hR E n l n1 W e1 e2)
 ·rcases List.mem_append.1 hk with hk | hk
  ·exact .inl hk
  ·rcases hE2 k hk with h | h
   ·exact .inr (.inl h)
   ·exact .inr (.inr h)
theorem Tn.sz_pos:∀ t:Tn,1≤t.sz
 | .mk k R a s mn mx lz ix nm=>by
  simp only [Tn.sz]
  split
  ·unfold repN;split <;> omega
  ·omega
theorem sz_get (ts:List Tn):∀ (i:Nat) (hi:i < ts.length),ts[i].sz + ts.length≤1 + szL ts:=by
 induction ts with
 | nil=>intro i hi;simp at hi
 | cons t ts ih =>
  have hl:ts.length≤szL ts:=by
   clear ih
   induction ts with
   | nil=>simp
   | cons u us ih=>simp only [szL,List.length_cons];have:=u.sz_pos;omega
  intro i hi
  cases i with
  | zero=>simp only [szL,List.getElem_cons_zero,List.length_cons];omega
  | succ i=>have:=ih i (by simpa using hi);have:=t.sz_pos;simp only [szL,List.getElem_cons_succ,List.length_cons];omega
theorem giL_ge (ts:List Tn):∀ (m:Int),m≤giL ts m∧∀ (i:Nat) (hi:i < ts.length),ts[i].gi≤giL ts m:=by
 induction ts with
 | nil=>intro m;exact ⟨by simp [giL],fun i hi=>by simp at hi⟩
 | cons t ts ih =>
  intro m
  simp only [giL]
  obtain ⟨h1,h2⟩:=ih (max m t.gi)
  refine ⟨by omega,fun i hi=>?_⟩
  cases i with
  | zero=>simp only [List.getElem_cons_zero];omega
  | succ i=>simpa using h2 i (by simpa using hi)
theorem Mk.wide {g K:Nat} {L:Nat→Prop} {w w':World} {A:Six} {n':Int} {v:Value} {W:Way} {F0 F1 F:List Nat} (h:Mk g K L w w' A n' v W F0 F) (hF:∀ k ∈ F0,k ∈ F1):Mk g K L w w' A n' v W F1 F:=⟨h.rep,h.ob,h.chg,fun k hk=>(h.new k hk).imp_left (hF k)⟩
theorem sq_ge (a:Nat):a≤a * a:=by
 cases a with
 | zero=>simp
 | succ a=>exact Nat.le_mul_of_pos_left _ (by omega)
theorem bg_empty (g K:Nat) (A:Six) (w0:World) (B0:Nat) (N:Nv) (R:List (Int × Int)) (ts:List Tn) (hk:N.k=1):BG g K A w0 B0 N (.mk N.k R N.a2 ts N.a4 N.a5 N.a6 N.a7 N.a8):=by
 intro w v n B F1 hB hkp hO hR hgF hgw h0 hn
 have hp:=sq_ge (Tn.mk N.k R N.a2 ts N.a4 N.a5 N.a6 N.a7 N.a8).sz
 have h1:=(Tn.mk N.k R N.a2 ts N.a4 N.a5 N.a6 N.a7 N.a8).sz_pos
 rw [hk]
 refine (begin_empty g K AL A n N.nd v B F1 w hO hR hgF ⟨h0,by omega⟩).mono ?_
 rintro e w' ⟨u,F,rfl,hM⟩
 refine ⟨u,F,[],n + 1,_,rfl,hM.wide fun k hk=>by simp [hk],⟨[],BgR.nil _ _ _ _ _ _ _ (fun E=>.empty) (fun b hb=>hb)⟩,fun k hk=>(by cases hk),by omega,by rw [hk] at h1;omega,hgw.once (by omega) (by omega),fun b hb=>by simp [Way.ua] at hb⟩
theorem bg_assert (g K:Nat) (A:Six) (w0:World) (B0:Nat) (N:Nv) (R:List (Int × Int)) (ts:List Tn) (hk:N.k=3):BG g K A w0 B0 N (.mk N.k R N.a2 ts N.a4 N.a5 N.a6 N.a7 N.a8):=by
 intro w v n B F1 hB hkp hO hR hgF hgw h0 hn
 have hp:=sq_ge (Tn.mk N.k R N.a2 ts N.a4 N.a5 N.a6 N.a7 N.a8).sz
 have h1:=(Tn.mk N.k R N.a2 ts N.a4 N.a5 N.a6 N.a7 N.a8).sz_pos
 rw [hk]
 refine (begin_assert g K AL A n N.nd v B F1 w hO hR hgF ⟨h0,by omega⟩).mono ?_
 rintro e w' ⟨u,F,rfl,hM⟩
 refine ⟨u,F,[],n + 1,_,rfl,hM.wide fun k hk=>by simp [hk],⟨[],BgR.nil _ _ _ _ _ _ _ (fun E=>.ast) (fun b hb=>hb)⟩,fun k hk=>(by cases hk),by omega,by rw [hk] at h1;omega,hgw.ifHolds.once (by omega) (by omega),fun b hb=>by simp [Way.ua] at hb⟩
theorem R2.rowIn {w:World} {B:Nat} {N:Nv} {R:List (Int × Int)} (h:R2 w B N.r1 R) (hr:N.r2=R.length):∃ G,RowIn w (.slice N.r1 N.r2 N.r3) R G∧∀ k ∈ G,k < B:=by
 rcases R with _ | ⟨x,R⟩
 ·exact ⟨[],.inl ⟨_,_,by rw [hr];rfl,rfl,rfl⟩,fun k hk=>by cases hk⟩
 ·obtain ⟨b,o,h1,h2,h3⟩:=h (by simp)
  refine ⟨[b],.inr ⟨b,o,N.r3,by rw [h1,hr],by simp,rfl,fun k hk=>?_,fun k hk=>?_⟩,fun k hk=>by simp at hk;omega⟩
  ·rw [(h3 k hk).1];simp only [List.getD_eq_getElem?_getD,List.getElem?_eq_getElem hk,Option.getD_some]
  ·rw [(h3 k hk).2];simp only [List.getD_eq_getElem?_getD,List.getElem?_eq_getElem hk,Option.getD_some]
theorem bg_class (g K:Nat) (A:Six) (w0:World) (B0:Nat) (hg:B0≤g) (N:Nv) (R:List (Int × Int)) (ts:List Tn) (hr:N.r2=R.length) (hR2:R2 w0 B0 N.r1 R) (hRl:R.length≤1000000) (hk:N.k=2):BG g K A w0 B0 N (.mk N.k R N.a2 ts N.a4 N.a5 N.a6 N.a7 N.a8):=by
 intro w v n B F1 hB hkp hO hR hgF hgw h0 hn
 have hp:=sq_ge (Tn.mk N.k R N.a2 ts N.a4 N.a5 N.a6 N.a7 N.a8).sz
 have h1:=(Tn.mk N.k R N.a2 ts N.a4 N.a5 N.a6 N.a7 N.a8).sz_pos
 obtain ⟨G,hG,hGl⟩:=(hR2.kept hkp).rowIn hr
 rw [hk]
 refine (begin_class g K AL G A n N.nd R v B F1 w hO hR hgF ⟨h0,by omega⟩ hG (fun hm=>by have:=hGl g hm;omega)).mono ?_
 rintro e w' ⟨u,F,rfl,hM⟩
 refine ⟨u,F,[],n + 1,_,rfl,hM.wide fun k hk=>?_,⟨[],BgR.nil _ _ _ _ _ _ _ (fun E=>.cls) (fun b hb=>hb)⟩,fun k hk=>(by cases hk),by omega,by rw [hk] at h1;omega,(hgw.runeOf hRl).once (by omega) (by omega),fun b hb=>by simp [Way.ua] at hb⟩
 rcases List.mem_append.1 hk with h | h
 ·simp [hGl k h]
 ·simp [h]
theorem JB.start (g K lo:Nat) (AG ub:List Nat) (n:Int) (B:Way) (R:Int→Way→(Nat→Way)→Prop) (bd:Int→Prop) (w:World) (hb:bd n) (hR:∀ E,R n B E) (hA:∀ b ∈ B.ags,b ∈ AG) (hg:Gw B) (hu:∀ b ∈ B.ua,b ∈ ub):(JB g K lo AG ub bd R).p n B [] w:=
 ⟨hb,⟨hg,hu⟩,[],BgR.nil _ _ _ _ _ _ _ hR hA⟩
theorem bg_group (g K:Nat) (A:Six) (w0:World) (B0:Nat) (hg:B0≤g) (N M:Nv) (R:List (Int × Int)) (t:Tn) (b o:Nat) (hs1:N.s1=some ⟨b,o,none⟩) (hb:b < B0) (hc:N9 w0 b o 0 M) (hs2:N.s2=1) (hs3:1≤N.s3) (hi:1≤N.a7∧N.a7≤500) (hK:2 * N.a7 + 1 < (K:Int)) (hk:N.k=7)
  (ih:BG g K A w0 B0 M t):BG g K A w0 B0 N (.mk N.k R N.a2 [t] N.a4 N.a5 N.a6 N.a7 N.a8):=by
 intro w v n B F1 hB hkp hO hR hgF hgw h0 hn
 have hsz:(Tn.mk N.k R N.a2 [t] N.a4 N.a5 N.a6 N.a7 N.a8).sz=1 + t.sz:=by simp [Tn.sz,szL,hk]
 rw [hsz] at hn
 have h1:=t.sz_pos
 have hq:=quad (a:=t.sz) (b:=1 + t.sz) (n:=n) (n':=n) h1 (by omega) (by omega)
 obtain ⟨i,hi2⟩:∃ i:Nat,N.a7=(i:Int):=⟨N.a7.toNat,by omega⟩
 have hsq:=sq_ge (1 + t.sz)
 rw [hk]
 refine (groupJ g K i b o N.s3 A n N.nd M.nd M.k B (JB g K w.heap.size B.ags B.ua (fun m=>m=n) (fun m W _=>m=n∧W=.noted (2 * i + 1) B)) (JB g K w.heap.size B.ags B.ua (fun m=>n≤m∧m≤n + t.sz) (fun m W E=>Beg E t n (.noted (2 * i + 1) B) m W)) (List.range B0) F1 [] v w hO hR
  (JB.start _ _ _ _ _ _ _ _ _ _ rfl (fun E=>⟨rfl,rfl⟩) (fun b hb=>hb) hgw.noted (fun b hb=>by simpa [Way.ua] using hb)) hgF (by simp;omega) (by simp) (by omega) (by omega) ⟨hs1,hs2,rfl,hi2⟩ hs3 (by omega) (by omega) (hc.kept (hkp b hb)) (fun m W FE w hj=>by have h1:=hj.1;exact ⟨by have:=h1.1;omega,by have:=h1.2;omega⟩)
  (ih.step hg hB hkp (Nat.le_refl _) (fun m hm=>by subst hm;exact ⟨h0,by omega,fun n1 h1 h2=>⟨h1,h2⟩⟩) (fun E n' W n1 W1 h1 h2=>by obtain ⟨rfl,rfl⟩:=h1;exact h2))).mono ?_
 rintro e w' ⟨u,F,FE,n1,W1,rfl,hM,⟨⟨hb1,hb2⟩,⟨hg1,hu1⟩,LE,hB⟩,hE⟩
 refine ⟨u,F,FE,n1 + 1,_,rfl,hM.wide fun k hk=>by simpa using hk,⟨LE,hB.imp (fun E h=>by rw [hi2];exact .grp h) (fun b hb=>.inr hb)⟩,fun k hk=>(hE k hk).imp_left fun h=>by simpa using h,by omega,by rw [← hk,hsz];omega,hg1.noted.once (by omega) (by omega),fun b hb=>by simp [Way.ua] at hb⟩
theorem bg_alt (g K:Nat) (A:Six) (w0:World) (B0:Nat) (hg:B0≤g) (N:Nv) (R:List (Int × Int)) (ts:List Tn) (ND:Nat→Nv) (b o:Nat) (hs1:N.s1=some ⟨b,o,none⟩) (hb:b < B0) (hc:∀ i,i < ts.length→N9 w0 b o i (ND i)) (hs2:N.s2=ts.length) (hs3:ts.length≤N.s3) (hl:ts.length≤200000) (hk:N.k=5)
  (ih:∀ i (hi:i < ts.length),BG g K A w0 B0 (ND i) ts[i]):BG g K A w0 B0 N (.mk N.k R N.a2 ts N.a4 N.a5 N.a6 N.a7 N.a8):=by
 intro w v n B F1 hB hkp hO hR hgF hgw h0 hn
 have hsz:(Tn.mk N.k R N.a2 ts N.a4 N.a5 N.a6 N.a7 N.a8).sz=1 + szL ts:=by simp [Tn.sz,hk]
 rw [hsz] at hn
 have hsq:=sq_ge (1 + szL ts)
 obtain ⟨f,fi,ca,rfl⟩:=hR.form
 have hle:∀ i,i≤ts.length→szL (ts.take i)≤szL ts:=fun i hi=>by
  have e:szL ts=szL (ts.take i) + szL (ts.drop i):=by
   clear hc hs2 hs3 hl ih hsz hsq hn hi
   induction ts generalizing i with
   | nil=>simp [szL]
   | cons t ts ih=>cases i with
    | zero=>simp [szL]
    | succ i=>simp only [List.take_succ_cons,List.drop_succ_cons,szL];have:=ih i;omega
  omega
 rw [hk]
 refine (altJ g K ts.length b o N.s3 A (fun i=>JBl g K w.heap.size B.ags (fun m=>n≤m∧m≤n + szL (ts.take i)) (fun m l E=>BegA E (ts.take i) n B m l)) n [] (List.range B0 ++ F1) (fun i=>(ND i).nd) (fun i=>(ND i).k) N.nd f fi ca w hO
  ⟨⟨by omega,by omega⟩,.nil,[],BgR.nil _ _ _ _ _ _ _ (fun E=>by simpa using BegA.nil) (fun b hb=>by simp [agsL] at hb)⟩ (by simp;exact ⟨by omega,hgF⟩) (fun k hk=>by cases hk) (fun k hk=>by rcases List.mem_append.1 hk with h | h;(simp at h;omega);exact hR.low k h) (by omega) (by omega) (by omega) hs3 (fun i hi=>(hc i hi).kept (hkp b hb)) ⟨hs1,hs2,rfl⟩
  (fun m l FE w hj=>by have h1:=hj.1;have:=hle ts.length (Nat.le_refl _);exact ⟨by have:=h1.1;omega,by have:=h1.2;omega⟩) (fun i hi=>(ih i hi).stepL hg hB hkp (Nat.le_refl _) hR hgF hgw (fun m hm=>?_) (fun E n' l n1 W1 h1 h2=>?_))).mono ?_
 ·have h1:=szL_take ts i hi
  have h2:=hle (i + 1) hi
  have hq:=quad (a:=ts[i].sz) (b:=1 + szL ts) (n:=n) (n':=m) ts[i].sz_pos (by omega) (by have:=hm.2;omega)
  exact ⟨by have:=hm.1;omega,by omega,fun n1 h3 h4=>⟨by have:=hm.1;omega,by have:=hm.2;omega⟩⟩
 ·rw [List.take_succ_eq_append_getElem hi]
  exact .snoc h1 h2
 ·rintro e w' ⟨u,F,FE,n1,l,rfl,hM,⟨⟨hb1,hb2⟩,hgl,LE,hB⟩,hE⟩
  rw [List.take_length] at hb2 hB
  exact ⟨u,F,FE,n1 + 1,_,rfl,hM,⟨LE,hB.imp (fun E h=>.alt h) (fun b hb=>.inr hb)⟩,hE,by omega,by rw [← hk,hsz];omega,(Gw.inOrder hgl).once (by omega) (by omega),fun b hb=>by simp [Way.ua] at hb⟩
def sumP (ts:List Tn) (pre:List (Fin ts.length)):Nat:=(pre.map fun x=>(ts[x.val]'x.isLt).sz).sum
theorem sumP_snoc (ts:List Tn) (pre:List (Fin ts.length)) (x:Fin ts.length):sumP ts (pre ++ [x])=sumP ts pre + (ts[x.val]'x.isLt).sz:=by simp [sumP]
theorem sumP_le (ts:List Tn) (S:Nat) (hS:∀ i (hi:i < ts.length),ts[i].sz≤S) (pre:List (Fin ts.length)):sumP ts pre≤pre.length * S:=by
 induction pre with
 | nil=>simp [sumP]
 | cons x pre ih =>
  have:=hS x.val x.isLt
  simp only [sumP,List.map_cons,List.sum_cons,List.length_cons] at *
  rw [Nat.succ_mul]
  omega
theorem dn_list (ts:List Tn) (ys:List (Fin ts.length)) (hl:ys.length=ts.length) (h:Dn ts.length ys):ys.reverse.map (fun x=>ts[x.val]'x.isLt)=ts:=by
 apply List.ext_getElem
 ·simp [hl]
 ·intro i h1 h2
  simp only [List.length_map,List.length_reverse] at h1
  have hv:∀ j (hj:j < ys.length),(ys[j]'hj).val=ts.length - 1 - j:=fun j hj=>by
   have e:=congrArg (fun l=>l[j]?) h
   simp only [List.getElem?_map,List.getElem?_eq_getElem hj,Option.map_some] at e
   rw [List.getElem?_range (by omega)] at e
   simpa using e
  simp only [List.getElem_map,List.getElem_reverse]
  have e:=hv (ys.length - 1 - i) (by omega)
  congr 1
  omega
theorem sum_szL (ts:List Tn):(ts.map Tn.sz).sum=szL ts:=by
 induction ts with
 | nil=>rfl
 | cons t ts ih=>simp [szL,ih]
theorem sumP_dn (ts:List Tn) (ys:List (Fin ts.length)) (hl:ys.length=ts.length) (h:Dn ts.length ys):sumP ts ys=szL ts:=by
 have e:=dn_list ts ys hl h
 have:sumP ts ys=((ys.reverse.map (fun x=>ts[x.val]'x.isLt)).map Tn.sz).sum:=by
  simp only [sumP,List.map_map,List.map_reverse,List.sum_reverse]
  rfl
 rw [this,e,sum_szL]
theorem quad2 (m S:Nat) (hm:1≤m):(m - 1) * S + 3 * (S * S)≤3 * ((S + m) * (S + m)):=by
 have e:(S + m) * (S + m)=S * S + S * m + (m * S + m * m):=by rw [Nat.add_mul,Nat.mul_add,Nat.mul_add]
 have h1:(m - 1) * S≤m * S:=Nat.mul_le_mul_right _ (by omega)
 rw [e]
 generalize S * S=a at *
 generalize m * S=b at *
 generalize S * m=c at *
 generalize m * m=d at *
 omega
theorem bg_cat (g K:Nat) (A:Six) (w0:World) (B0:Nat) (hg:B0≤g) (N:Nv) (R:List (Int × Int)) (ts:List Tn) (ND:Nat→Nv) (b o:Nat) (hs1:N.s1=some ⟨b,o,none⟩) (hb:b < B0) (hc:∀ i,i < ts.length→N9 w0 b o i (ND i)) (hs2:N.s2=ts.length) (hs3:ts.length≤N.s3) (hl:ts.length≤200000) (hk:N.k=4)
  (ih:∀ i (hi:i < ts.length),BG g K A w0 B0 (ND i) ts[i]):BG g K A w0 B0 N (.mk N.k R N.a2 ts N.a4 N.a5 N.a6 N.a7 N.a8):=by
 intro w v n B F1 hB hkp hO hR hgF hgw h0 hn
 have hsz:(Tn.mk N.k R N.a2 ts N.a4 N.a5 N.a6 N.a7 N.a8).sz=1 + szL ts:=by simp [Tn.sz,hk]
 rw [hsz] at hn
 have hsq:=sq_ge (1 + szL ts)
 obtain ⟨S,hS⟩:∃ S,1 + szL ts=S + ts.length:=⟨1 + szL ts - ts.length,by
  have:ts.length≤szL ts:=by
   clear hc hs2 hs3 hl ih hsz hn hsq
   induction ts with
   | nil=>simp
   | cons u us ih=>simp only [szL,List.length_cons];have:=u.sz_pos;omega
  omega⟩
 have hSi:∀ i (hi:i < ts.length),ts[i].sz≤S:=fun i hi=>by have:=sz_get ts i hi;omega
 rw [hS] at hn
 rw [hk]
 refine (catJ g K ts.length b o N.s3 A n (fun pre=>JB g K w.heap.size B.ags B.ua (fun m=>n≤m∧m≤n + sumP ts pre) (fun m W E=>BegC E (pre.reverse.map (fun x=>ts[x.val]'x.isLt)) n B m W)) (List.range B0) F1 [] (fun i=>(ND i).nd) (fun i=>(ND i).k) N.nd v B w hO hR
  (JB.start _ _ _ _ _ _ _ _ _ _ ⟨by omega,by omega⟩ (fun E=>.nil) (fun b hb=>hb) hgw (fun b hb=>hb)) (fun pre n W FE w hj=>by obtain ⟨_,_,LE,h⟩:=hj;exact h.isc) hgF (by simp;omega) (by simp) (fun k hk=>by simp at hk;omega) (by omega) (by omega) (by omega) hs3 (fun i hi=>(hc i hi).kept (hkp b hb)) ⟨hs1,hs2,rfl⟩
  (fun pre x hlt=>(ih x.val x.isLt).step hg hB hkp (Nat.le_refl _) (fun m hm=>?_) (fun E n' W n1 W1 h1 h2=>?_))).mono ?_
 ·have h1:=sumP_le ts S hSi pre
  have h2:=hSi x.val x.isLt
  have h3:=quad2 ts.length S (by omega)
  have h4:pre.length * S≤(ts.length - 1) * S:=Nat.mul_le_mul_right _ (by omega)
  have h5:(ts[x.val]'x.isLt).sz * (ts[x.val]'x.isLt).sz≤S * S:=Nat.mul_le_mul h2 h2
  refine ⟨by have:=hm.1;omega,?_,fun n1 h6 h7=>⟨by have:=hm.1;omega,by rw [sumP_snoc];have:=hm.2;push_cast;omega⟩⟩
  have h8:=hm.2
  generalize (ts[x.val]'x.isLt).sz * (ts[x.val]'x.isLt).sz=q at *
  generalize (S + ts.length) * (S + ts.length)=q2 at *
  generalize S * S=q3 at *
  generalize (ts.length - 1) * S=q4 at *
  generalize pre.length * S=q5 at *
  omega
 ·simp only [List.reverse_append,List.reverse_cons,List.reverse_nil,List.nil_append,List.map_cons,List.singleton_append]
  exact .cons h1 h2
 ·rintro e w' ⟨u,F,FE,n1,W,ys,⟨hyl,hyd⟩,rfl,hM⟩
  obtain ⟨⟨hb1,hb2⟩,⟨hg1,hu1⟩,LE,hB⟩:=hM.j
  rw [sumP_dn ts ys hyl hyd] at hb2
  rw [dn_list ts ys hyl hyd] at hB
  exact ⟨u,F,FE,n1,W,rfl,hM.m.wide fun k hk=>by simpa using hk,⟨LE,hB.imp (fun E h=>.cat h) (fun b hb=>.inr hb)⟩,fun k hk=>(hM.newE k hk).imp_left fun h=>by simpa using h,by omega,by rw [← hk,hsz];omega,hg1,hu1⟩
end Go.Proofs.YtacaanhnlfpbhaaGreat
