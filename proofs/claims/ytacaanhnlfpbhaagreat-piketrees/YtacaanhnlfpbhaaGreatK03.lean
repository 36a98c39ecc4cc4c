/- HELPERS: texts of ours put together. -/
import Derived.Test.YtacaanhnlfpbhaaGreatK02
import Derived.Test.YtacaanhnlfpbhaaGreatK01
import Derived.Test.YtacaanhnlfpbhaaGreatProg
import Derived.WalkKit
import Derived.ProofKit
import Derived.BigQuiet
import Derived.WalkSmall
import Derived.Deep.QuietTactic
import Derived.Deep.RegionWith
import Derived.Lib.SmallJoins
import Derived.Lib.MinMax
import Derived.Maps.AppendAt
import Derived.Laws.AppendOwnNone
import Derived.Lib.Small
import Derived.Deep.SlicePairs
import Derived.RowKit
import Derived.Deep.Cut
import Derived.Deep.CutRange
import Derived.Deep.RegionHeld3
namespace Go.Proofs.YtacaanhnlfpbhaaGreat
open Go.RowKit
set_option linter.unusedVariables false
set_option linter.unusedSimpArgs false
theorem fine_kind {k:Int} {R:List (Int × Int)} {a:Int} {n:Nat} {mn mx:Int} {lz:Bool} {ix:Int} {nm:ByteArray} (h:nodeB k R a n mn mx lz ix nm=true) :
  ((k=1∨k=2∨k=3)∧n=0∧R.length≤5000)∨((k=4∨k=5)∧2≤n)∨(k=6∧n=1∧0≤mn∧mn≤1000∧(mx=-1∨mn≤mx∧mx≤1000))∨(k=7∧n=1∧1≤ix∧ix≤500):=by
 have hk:k=1∨k=2∨k=3∨k=4∨k=5∨k=6∨k=7:=(fine_node h).kind
 rcases hk with rfl | rfl | rfl | rfl | rfl | rfl | rfl
 ·simp [nodeB,bareB] at h;left;refine ⟨by omega,by omega,?_⟩;have:=h.1;simp [h]
 ·simp [nodeB,bareB] at h;left;exact ⟨by omega,by omega,rightB_len h.1⟩
 ·simp [nodeB,bareB] at h;left;refine ⟨by omega,by omega,?_⟩;simp [h]
 ·simp [nodeB,bareB] at h;right;left;exact ⟨by omega,by omega⟩
 ·simp [nodeB,bareB] at h;right;left;exact ⟨by omega,by omega⟩
 ·simp [nodeB,bareB] at h;right;right;left;exact ⟨rfl,by omega,by omega,by omega,by omega⟩
 ·simp [nodeB,bareB] at h;right;right;right;exact ⟨rfl,by omega,by omega,by omega⟩
theorem rowS_dle (k:Int) (l:List (Tn × Nat)) {M:Nat} (h:∀ x ∈ l,x.1.depth≤M):depthL (rowS k l)≤M:=depthL_le_of fun t ht=>by
 simp only [rowS,List.mem_flatMap,List.mem_flatten,List.mem_replicate] at ht
 obtain ⟨x,hx,y,⟨_,rfl⟩,hy⟩:=ht
 have h1:=h x hx
 unfold within at hy
 split at hy
 ·have:=depthL_mem hy;have:=x.1.depth_subs;omega
 ·simp at hy;subst hy;exact h1
theorem joinT_dle (l:List (Tn × Nat)) {M:Nat} (h:∀ x ∈ l,x.1.depth≤M):(joinT l).depth≤M + 1:=by
 unfold joinT joinK
 split
 ·simp [Tn.depth,depthL]
 ·split
  ·cases hl:l.filter keep with
   | nil=>simp [Tn.depth,depthL]
   | cons x l' =>
    simp only [List.headD_cons]
    have:x ∈ l.filter keep:=by rw [hl];simp
    have:=h x (List.mem_filter.1 this).1
    omega
  ·rw [rowT_depth]
   have:=rowS_dle 4 (l.filter keep) (M:=M) (fun x hx=>h x (List.mem_filter.1 hx).1)
   omega
theorem repT_dle (y:Tn) (mn mx:Int) (lz:Bool) (h1:0≤mn) (h2:mn≤1000) (h3:mx=-1∨mn≤mx∧mx≤1000):(repT y mn mx lz).depth≤y.depth + 2002:=by
 unfold repT
 split
 ·refine joinT_dle _ (M:=y.depth + 2001) fun x hx=>?_
  simp at hx
  rcases hx with rfl | rfl
  ·simp
  ·have:=optT_dle y lz (mx - mn).toNat
   simp only
   omega
 ·split
  ·rw [loopT_depth];omega
  ·refine Nat.le_trans (joinT_dle _ (M:=y.depth + 1) fun x hx=>?_) (by omega)
   simp at hx
   rcases hx with rfl | rfl
   ·simp
   ·simp only [loopT_depth];omega
theorem SL_len (ts:List Tn):(SL ts).length=ts.length:=by rw [SL_map];simp
theorem SL_head {ts:List Tn} (h:0 < ts.length):(SL ts).headD emptyT=(ts[0]'h).S:=by
 cases ts with
 | nil=>simp at h
 | cons t ts=>rfl
mutual
theorem S_depth:∀ t:Tn,t.fine=true→t.S.depth≤2003 * t.depth
 | .mk k R a s mn mx lz ix nm,h=>by
  simp only [Tn.fine,Bool.and_eq_true] at h
  have ih:=SL_depth s h.2
  have hd:(Tn.mk k R a s mn mx lz ix nm).depth=1 + depthL s:=by simp only [Tn.depth]
  rw [hd]
  have hhead:((SL s).headD emptyT).depth≤2003 * depthL s + 1:=by
   cases hs:SL s with
   | nil=>simp [Tn.depth,depthL]
   | cons u l=>simp only [List.headD_cons];have:=ih u (by rw [hs];simp);omega
  simp only [Tn.S]
  split
  ·refine Nat.le_trans (joinT_dle _ (M:=2003 * depthL s) fun x hx=>?_) (by omega)
   obtain ⟨u,hu,rfl⟩:=List.mem_map.1 hx
   exact ih u hu
  ·split
   ·rw [rowT_depth]
    have:=rowS_dle 5 (ones (SL s)) (M:=2003 * depthL s) (fun x hx=>by obtain ⟨u,hu,rfl⟩:=List.mem_map.1 hx;exact ih u hu)
    omega
   ·split
    ·rcases fine_kind h.1 with h1 | h1 | h1 | h1
     ·omega
     ·omega
     ·have h1':=h1
      have hl:0 < s.length:=by omega
      have hm:(SL s).headD emptyT ∈ SL s:=by
       cases hs:SL s with
       | nil=>have:=SL_len s;rw [hs] at this;simp at this;omega
       | cons u l=>simp
      have:=ih _ hm
      have:=repT_dle ((SL s).headD emptyT) mn mx lz h1.2.2.1 h1.2.2.2.1 h1.2.2.2.2
      omega
     ·omega
    ·split
     ·simp only [Tn.depth,depthL];omega
     ·simp only [Tn.depth,depthL];omega
theorem SL_depth:∀ ts:List Tn,fineL ts=true→∀ u ∈ SL ts,u.depth≤2003 * depthL ts
 | [],_=>fun u hu=>by simp [SL] at hu
 | t :: ts,h=>fun u hu=>by
  simp only [fineL,Bool.and_eq_true] at h
  simp only [SL,List.mem_cons] at hu
  simp only [depthL]
  rcases hu with rfl | hu
  ·have:=S_depth t h.1;omega
  ·have:=SL_depth ts h.2 u hu;omega
end
theorem R2.rp {w:World} {B:Nat} {ad:Option Addr} {R:List (Int × Int)} (h:R2 w B ad R):RP w (fun b=>b < B) ad R:=h
theorem enter_of {P : Program} {f : FuncId} {fn : Func} {c : Code} (hf : P.funcs[f]? = some fn) (hname : (fn.name == "runtime.NumGoroutine") = false) (hb : fn.body = some c) : ∀ (args : Array Value) (w : World), (callFunc f args).run P w = .ok (.enter f args) w := by
 intro args w
 have h1 : fn.name ≠ "runtime.NumGoroutine" := by simpa using hname
 simp [callFunc,hf,h1,hb]
abbrev Zn:Nv:=⟨0,none,0,0,0,none,0,0,0,0,false,0,⟨#[]⟩⟩
abbrev set9 (W:World) (g q:Nat) (M:Nv):World:=(((((((((W.setCell ⟨g,q,none⟩ (.int .i64 M.k)).setCell ⟨g,q + 1,none⟩ (.slice M.r1 M.r2 M.r3)).setCell ⟨g,q + 2,none⟩ (.int .i64 M.a2)).setCell ⟨g,q + 3,none⟩ (.slice M.s1 M.s2 M.s3)).setCell ⟨g,q + 4,none⟩ (.int .i64 M.a4)).setCell ⟨g,q + 5,none⟩ (.int .i64 M.a5)).setCell ⟨g,q + 6,none⟩ (.bool M.a6)).setCell ⟨g,q + 7,none⟩ (.int .i64 M.a7)).setCell ⟨g,q + 8,none⟩ (.string M.a8))
theorem set9_eq (W:World) (g q:Nat) (M:Nv):set9 W g q M=W.setCells g q (Nv.cs M):=rfl
theorem flat_rep_len (n:Nat) (l:List Tn):(List.replicate n l).flatten.length=n * l.length:=by simp
def Tn.bigS (t:Tn):Bool:=decide (200000 < t.S.nodes) || decide (10000 < t.S.depth)
def errS (t:Tn):Int:=if t.sound then (if t.bigS then 3 else 0) else 50
abbrev zeroT:Tn:=.mk 0 [] 0 [] 0 0 false 0 ⟨#[]⟩
def simT (t:Tn):Tn:=if errS t=0 then t.S else zeroT
theorem zn_ok:Zn.ok:=ok_NO 0 0 0 false 0 ⟨#[]⟩ (by decide) (by decide) (by decide) (by decide) (Nat.zero_le _)
mutual
def Tn.small:Tn→Bool
 | .mk _ R _ s _ _ _ _ _=>decide (R.length * 16≤140737488351232) && smallL s
def smallL:List Tn→Bool
 | []=>true
 | t :: ts=>t.small && smallL ts
end
theorem smallL_get {ts:List Tn} (h:smallL ts=true):∀ (i:Nat) (hi:i < ts.length),ts[i].small=true:=by
 induction ts with
 | nil=>intro i hi;simp at hi
 | cons t ts ih =>
  simp only [smallL,Bool.and_eq_true] at h
  intro i hi
  cases i with
  | zero=>exact h.1
  | succ i=>exact ih h.2 i (by simpa using hi)
theorem wt_mul (T:Int) (n:Nat) (h1:1≤T) (h2:T≤1099511627776 / (n:Int)) (hn:1≤n):∃ v:Nat,wrap64 (T * (n:Int))=(v:Int)∧v≤1099511627776:=by
 obtain ⟨m,rfl⟩:∃ m:Nat,T=(m:Int):=⟨T.toNat,by omega⟩
 have h3:(m:Int) * (n:Int)≤1099511627776:=by
  have:=Int.mul_le_of_le_ediv (by omega:(0:Int) < (n:Int)) h2
  exact this
 have e:(m:Int) * (n:Int)=((m * n:Nat):Int):=by push_cast;rfl
 rw [e] at h3 ⊢
 refine ⟨m * n,?_,by omega⟩
 unfold wrap64
 omega
set_option maxRecDepth 100000 in
set_option maxHeartbeats 8000000 in
theorem weight28 {w0:World} {B:Nat} {N:Nv} {t:Tn} (h:TI w0 B N t):t.small=true→∀ (w:World),B≤w.heap.size→(∀ b,b < B→w.heap[b]?=w0.heap[b]?) →
  Calls Tryz.prog 49 #[N.v] w fun e w'=>∃ v:Nat,e=.returned (.int .i64 (v:Int))∧v≤1099511627776∧Below w.heap.size w w':=by
 induction h with
 | @mk N R ts ND ok hr hR hRk hs hS hk ih =>
 intro hsm w hB hw
 simp only [Tn.small,Bool.and_eq_true,decide_eq_true_eq] at hsm
 have ihS:∀ i (hi:i < ts.length),∀ w1:World,B≤w1.heap.size→(∀ b,b < B→w1.heap[b]?=w0.heap[b]?)→Calls Tryz.prog 49 #[(ND i).v] w1 fun e w'=>∃ v:Nat,e=.returned (.int .i64 (v:Int))∧v≤1099511627776∧Below w1.heap.size w1 w':=fun i hi=>ih i hi (smallL_get hsm.2 i hi)
 have hBW:Below w.heap.size w (w.alloc (.cells #[.int .i64 N.k,.slice N.r1 N.r2 N.r3,.int .i64 N.a2,.slice N.s1 N.s2 N.s3,.int .i64 N.a4,.int .i64 N.a5,.bool N.a6,.int .i64 N.a7,.string N.a8] 25)):=Joins.below_alloc1 w _
 have hBN:BN (w.alloc (.cells #[.int .i64 N.k,.slice N.r1 N.r2 N.r3,.int .i64 N.a2,.slice N.s1 N.s2 N.s3,.int .i64 N.a4,.int .i64 N.a5,.bool N.a6,.int .i64 N.a7,.string N.a8] 25)) w.heap.size N:=heap_alloc_new w _
 have hmax:=ok.s
 have hok4:=ok.a4
 have hok5:=ok.a5
 obtain ⟨k,r1,r2,r3,a2,s1,s2,s3,a4,a5,a6,a7,a8⟩:=N
 dsimp only at hs hS hr hBN hBW hmax hok4 hok5
 have hm2:s2≤9223372036854775807:=by have:maxLen=9223372036854775807:=rfl;omega
 have hr2:r2≤8796093021952:=by omega
 have ad0:IntKind.i64.wrap (1 + (r2:Int))=1 + (r2:Int):=by simp [IntKind.wrap,IntKind.bits,IntKind.signed];omega
 obtain ⟨q0,q1,q2,q3,q4,q5,q6,q7,q8⟩:=nine' hBN
 obtain ⟨W,hW⟩:∃ W,W=w.alloc (.cells #[.int .i64 k,.slice r1 r2 r3,.int .i64 a2,.slice s1 s2 s3,.int .i64 a4,.int .i64 a5,.bool a6,.int .i64 a7,.string a8] 25):=⟨_,rfl⟩
 rw [← hW] at hBN hBW q0 q1 q2 q3 q4 q5 q6 q7 q8
 obtain ⟨z,hz⟩:∃ z,z=w.heap.size:=⟨_,rfl⟩
 rw [← hz] at hBN hBW q0 q1 q2 q3 q4 q5 q6 q7 q8
 have HBN:=hid hBN
 have HBW:=hid hBW
 have HZ:=hid hz
 have HSS:=hid hS
 have HIH:=hid ihS
 have HL:=hid hs
 have HW:=hid hw
 clear hBN hBW hS ihS ih hk ok hr hR hRk hs hw hsm hmax
 go_enter Tryz.func49,Tryz.ntmps49
 go_upto_region 1 with fail
 rw [← hz,← hW]
 clear hW hz
 go_wp2_with fail
 go_loopw [3,4] (fun u y wq=>∃ i:Nat,y=.int .i64 (i:Int)∧i≤s2∧(∃ n:Nat,u=.int .i64 (n:Int)∧1≤n∧n≤8796093021953)∧Hid (Below z w wq)∧Hid (BN wq z ⟨k,r1,r2,r3,a2,s1,s2,s3,a4,a5,a6,a7,a8⟩)) (fun _ y _=>s2 - (intOf y).toNat)
 case atStart=>exact ⟨0,rfl,by omega,⟨1 + r2,by push_cast;rfl,by omega,by omega⟩,HBW.out,HBN.out⟩
 case round =>
  obtain ⟨i,rfl,hi,⟨n,rfl,hn1,hn2⟩,BK,BX⟩:=hrel
  clear q0 q1 q2 q3 q4 q5 q6 q7 q8
  obtain ⟨q0,q1,q2,q3,q4,q5,q6,q7,q8⟩:=nine' BX.out
  by_cases hil:i < s2
  ·have b1:decide ((i:Int) < (s2:Int))=true:=by simp;omega
   have b2:(i:Int) < (s2:Int):=by omega
   have ad1:IntKind.i64.wrap ((i:Int) + 1)=(i:Int) + 1:=by simp [IntKind.wrap,IntKind.bits,IntKind.signed];omega
   have hlt:i < ts.length:=by have:=HL.out;omega
   obtain ⟨b,o,rfl,hbl,h9⟩:=HSS.out (by omega)
   have hbw:wr.heap[b]?=w.heap[b]?:=BK.out.block b (by have:=HZ.out;omega)
   obtain ⟨n0,n1,n2,n3,n4,n5,n6,n7,n8⟩:=(h9 i hlt).kept (hbw.trans (HW.out b hbl))
   have HC:=HIH.out i hlt wr (by have:=BK.out.size;have:=HZ.out;omega) (fun b hb=>(BK.out.block b (by have:=HZ.out;omega)).trans (HW.out b hb))
   have hzl:=(Array.getElem?_eq_some_iff.1 BX.out).1
   obtain ⟨M,hM⟩:∃ M,M=ND i:=⟨_,rfl⟩
   rw [← hM] at HC n0 n1 n2 n3 n4 n5 n6 n7 n8
   clear h9 hbw hM
   go_wp2_with (first | (go_at_call 49;(with_reducible refine HC.mono ?_);rintro e w2 ⟨v,rfl,hv,hb2⟩;have ad2:IntKind.i64.wrap ((n:Int) + (v:Int))=(n:Int) + (v:Int):=(by simp [IntKind.wrap,IntKind.bits,IntKind.signed];omega);have hB2:=(hb2.block z hzl).trans BX.out;clear q0 q1 q2 q3 q4 q5 q6 q7 q8;obtain ⟨q0,q1,q2,q3,q4,q5,q6,q7,q8⟩:=nine' hB2;have HB2:=hid hb2;have HX2:=hid hB2;clear hb2 hB2 HC))
   have hz:=HZ.out
   refine ⟨⟨i + 1,by push_cast;rfl,by omega,⟨min 1099511627776 (n + v),by congr 1;omega,by omega,by omega⟩,BK.out.trans (Joins.below_le HB2.out (by have:=BK.out.size;omega)),HX2.out⟩,by simp [intOf];omega⟩
  ·have b1:decide ((i:Int) < (s2:Int))=false:=by simp;omega
   have hn0:((n:Int) == 0)=false:=by simp;omega
   have hn0':(n:Int)≠0:=by omega
   by_cases hk:k=6
   ·have g6:(k == 6)=true:=by simpa using hk
    go_wp2
    all_goals go_ret
    all_goals first | exact ⟨1099511627776,rfl,by omega,by rw [← HZ.out];exact BK.out⟩ | (obtain ⟨v,hv,hv2⟩:=wt_mul a5 n (by omega) (by omega) hn1;exact ⟨v,congrArg (fun x:Int=>Ending.returned (Value.int .i64 x)) hv,hv2,by rw [← HZ.out];exact BK.out⟩) | (obtain ⟨v,hv,hv2⟩:=wt_mul a4 n (by omega) (by omega) hn1;exact ⟨v,congrArg (fun x:Int=>Ending.returned (Value.int .i64 x)) hv,hv2,by rw [← HZ.out];exact BK.out⟩) | (obtain ⟨v,hv,hv2⟩:=wt_mul 1 n (by omega) (by omega) hn1;exact ⟨v,congrArg (fun x:Int=>Ending.returned (Value.int .i64 x)) hv,hv2,by rw [← HZ.out];exact BK.out⟩) | (obtain ⟨v,hv,hv2⟩:=wt_mul 1 n (by omega) (by omega) hn1;rw [Int.one_mul] at hv;exact ⟨v,congrArg (fun x:Int=>Ending.returned (Value.int .i64 x)) hv,hv2,by rw [← HZ.out];exact BK.out⟩)
   ·have g6:(k == 6)=false:=by simpa using hk
    go_wp2
    all_goals go_ret
    all_goals first | exact ⟨1099511627776,rfl,by omega,by rw [← HZ.out];exact BK.out⟩ | (obtain ⟨v,hv,hv2⟩:=wt_mul 1 n (by omega) (by omega) hn1;exact ⟨v,congrArg (fun x:Int=>Ending.returned (Value.int .i64 x)) hv,hv2,by rw [← HZ.out];exact BK.out⟩) | (obtain ⟨v,hv,hv2⟩:=wt_mul 1 n (by omega) (by omega) hn1;rw [Int.one_mul] at hv;exact ⟨v,congrArg (fun x:Int=>Ending.returned (Value.int .i64 x)) hv,hv2,by rw [← HZ.out];exact BK.out⟩) | (obtain ⟨v,hv,hv2⟩:=wt_mul 1 n (by omega) (by omega) hn1;rw [Int.one_mul,IntWalk.wrap64_in _ (by omega)] at hv;exact ⟨n,rfl,by omega,by rw [← HZ.out];exact BK.out⟩)
set_option maxRecDepth 100000 in
set_option maxHeartbeats 4000000 in
theorem heavy8 {w:World} {N:Nv} {t:Tn} (h:TI w w.heap.size N t) (hs:t.small=true):Calls Tryz.prog 22 #[N.v] w fun e w'=>∃ b,e=.returned (.bool b)∧Below w.heap.size w w':=by
 have HC:=weight28 h hs (w.alloc (.cells #[.int .i64 N.k,.slice N.r1 N.r2 N.r3,.int .i64 N.a2,.slice N.s1 N.s2 N.s3,.int .i64 N.a4,.int .i64 N.a5,.bool N.a6,.int .i64 N.a7,.string N.a8] 25)) (by simp) (fun b hb=>heap_alloc_old w _ hb)
 have HB:=hid (Joins.below_alloc1 w (.cells #[.int .i64 N.k,.slice N.r1 N.r2 N.r3,.int .i64 N.a2,.slice N.s1 N.s2 N.s3,.int .i64 N.a4,.int .i64 N.a5,.bool N.a6,.int .i64 N.a7,.string N.a8] 25))
 obtain ⟨k,r1,r2,r3,a2,s1,s2,s3,a4,a5,a6,a7,a8⟩:=N
 dsimp only at HC HB
 clear h
 go_enter Tryz.func22,Tryz.ntmps22
 go_wp2_with (first | (go_at_call 49;(with_reducible refine HC.mono ?_);rintro e w2 ⟨v,rfl,hv,hb2⟩;have HB2:=hid hb2;clear hb2 HC))
 all_goals go_ret
 all_goals exact ⟨_,rfl,HB.out.trans (Joins.below_le HB2.out HB.out.size)⟩
end Go.Proofs.YtacaanhnlfpbhaaGreat
namespace Go.Proofs.YtacaanhnlfpbhaaGreat
open Go.RowKit Go.Deep Go.ChangeShapes Go.WideShapes
set_option linter.unusedVariables false
set_option linter.unusedSimpArgs false
theorem smallL_of:∀ {ts:List Tn},(∀ t ∈ ts,t.small=true)→smallL ts=true
 | [],_=>rfl
 | t :: ts,h=>by simp only [smallL,Bool.and_eq_true];exact ⟨h t (by simp),smallL_of fun u hu=>h u (by simp [hu])⟩
theorem weightsAll_memT {H:Type} {P:Program} {e:TypeId}:∀ {l:List (DataW H)} {d:DataW H},d ∈ l→∀ n ∈ d.weights P e,n ∈ DataW.weightsAll P e l
 | x :: l,d,hd,n,hn=>by
  simp only [DataW.weightsAll,List.mem_append]
  rcases List.mem_cons.1 hd with rfl | h
  ·exact .inl hn
  ·exact .inr (weightsAll_memT h n hn)
section
variable {H:Type} {enc:TypeId × Value→H} {P:Program} {w:World} {base:Nat} {spare:Nat→Bool} {held:Bool} {tn ts tr te ti tb tg:TypeId} {f:Nat→Field} {g0 g1:Field}
theorem ranges_smallT (S:NodeTy P tn ts tr te ti tb tg f g0 g1) (hby:P.bytesOf te=16) {fuel:Nat} {cs:List Value} {x:DataW H × List MemPlace} (h:DataW.trod enc P w base spare held fuel tr cs=some x) (hw:∀ n ∈ x.1.weights P tr,n≤reachBytes) {ad:Option Addr} {n c:Nat} (hc:cs=[.slice ad n c]):n * 16≤140737488351232:=by
 rcases DataW.trod_slice S.hr h with ⟨e,_⟩ | ⟨a,len,cap,elems,rest,n',_,e,hx,_,_,_,hel,_⟩
 ·rw [hc] at e
  simp at e
  omega
 ·rw [hc] at e
  simp at e
  have:=hw ((elems.length + rest.length) * P.bytesOf te) (by rw [hx];simp [DataW.weights,S.hr])
  rw [hby] at this
  have hr:reachBytes=140737488351232:=by decide
  omega
theorem open_nodeS (S:NodeTy P tn ts tr te ti tb tg f g0 g1) (hby:P.bytesOf te=16):∀ (fuel:Nat) (cs:List Value) (x:DataW H × List MemPlace),DataW.trod enc P w base spare held fuel tn cs=some x→(∀ n ∈ x.1.weights P tn,n≤reachBytes)→∃ N t,cs=Nv.cs N∧TI w w.heap.size N t∧t.small=true:=by
 intro fuel
 induction fuel using Nat.strongRecOn with
 | _ fuel ih =>
 intro cs x h hwt
 obtain ⟨xs,n,hf,rfl,hl,hxl,hfs⟩:=DataW.trod_struct S.hn h
 rw [S.cn] at hl
 simp only [List.size_toArray,List.length_cons,List.length_nil] at hxl
 obtain ⟨t0,t1,t2,t3,t4,t5,t6,t7,t8⟩:=S.ty
 match xs,hxl,cs,hl with
 | [y0,y1,y2,y3,y4,y5,y6,y7,y8],_,[v0,v1,v2,v3,v4,v5,v6,v7,v8],_ =>
 have g0:=hfs 0 (f 0) rfl
 have g1:=hfs 1 (f 1) rfl
 have g2:=hfs 2 (f 2) rfl
 have g3:=hfs 3 (f 3) rfl
 have g4:=hfs 4 (f 4) rfl
 have g5:=hfs 5 (f 5) rfl
 have g6:=hfs 6 (f 6) rfl
 have g7:=hfs 7 (f 7) rfl
 have g8:=hfs 8 (f 8) rfl
 simp [t0,S.of,S.ci] at g0
 simp [t1,S.of,S.cr] at g1
 simp [t2,S.of,S.ci] at g2
 simp [t3,S.of,S.cs] at g3
 simp [t4,S.of,S.ci] at g4
 simp [t5,S.of,S.ci] at g5
 simp [t6,S.of,S.cb] at g6
 simp [t7,S.of,S.ci] at g7
 simp [t8,S.of,S.cg] at g8
 have hw1:∀ n ∈ y1.1.weights P tr,n≤reachBytes:=fun n hn=>hwt n (by
  simp only [DataW.weights,S.hn]
  exact DataW.weights_mem_each (j:=1) (by simp [t1]) (by simp) n hn)
 have hw3:∀ n ∈ y3.1.weights P ts,n≤reachBytes:=fun n hn=>hwt n (by
  simp only [DataW.weights,S.hn]
  exact DataW.weights_mem_each (j:=3) (by simp [t3]) (by simp) n hn)
 obtain ⟨k,e0,_,w0⟩:=DataW.trod_int S.hi g0
 obtain ⟨a2,e2,_,w2⟩:=DataW.trod_int S.hi g2
 obtain ⟨a4,e4,_,w4⟩:=DataW.trod_int S.hi g4
 obtain ⟨a5,e5,_,w5⟩:=DataW.trod_int S.hi g5
 obtain ⟨a7,e7,_,w7⟩:=DataW.trod_int S.hi g7
 obtain ⟨a6,e6,_⟩:=DataW.trod_bool S.hb g6
 obtain ⟨a8,e8,_,w8⟩:=DataW.trod_string S.hg g8
 obtain ⟨r1,r2,r3,R,e1,hr,hrc,hrm,hR,hRk⟩:=open_ranges S g1
 have hsr:R.length * 16≤140737488351232:=by rw [← hr];exact ranges_smallT S hby g1 hw1 e1
 simp only [List.cons.injEq,and_true] at e0 e1 e2 e4 e5 e6 e7 e8
 subst e0 e1 e2 e4 e5 e6 e7 e8
 rcases DataW.trod_slice S.hs g3 with ⟨e3,_⟩ | ⟨a,len,cap,elems,rest,n',hn',e3,hy3,hb,hlc,hcm,hel,hx,_,_⟩
 ·simp only [List.cons.injEq,and_true] at e3
  subst e3
  exact ⟨⟨k,r1,r2,r3,a2,none,0,0,a4,a5,a6,a7,a8⟩,_,rfl,.mk (ts:=[]) (ND:=fun _=>default) ⟨i64ok w0,i64ok w2,i64ok w4,i64ok w5,i64ok w7,w8,⟨hrc,hrm⟩,⟨Nat.le_refl _,by simp [maxLen]⟩⟩ hr hR hRk rfl (fun hp=>absurd hp (by simp)) (fun i hi=>absurd hi (by simp)),by simp only [Tn.small,smallL,Bool.and_true,decide_eq_true_eq];exact hsr⟩
 ·simp only [List.cons.injEq,and_true] at e3
  subst e3
  rw [S.cn] at hx
  have each:∀ i,i < len→∃ q:Nv × Tn,(∀ j,j < 9→w.cell? (a.add (i * 9 + j))=(Nv.cs q.1)[j]?)∧TI w w.heap.size q.1 q.2∧q.2.small=true:=fun i hi=>by
   have h1:=hx i hi
   rw [List.getElem?_eq_getElem (by omega)] at h1
   obtain ⟨cs',h2,h3⟩:=Option.bind_eq_some_iff.1 h1
   obtain ⟨N,t,rfl,ht,hts⟩:=ih n' (by omega) cs' _ h3 (fun n hn=>hw3 n (by rw [hy3];simp only [DataW.weights,S.hs];exact List.mem_cons_of_mem _ (List.mem_append_left _ (weightsAll_memT (List.mem_map.2 ⟨_,List.getElem_mem _,rfl⟩) n hn))))
   obtain ⟨_,_,hc⟩:=World.cells?_some h2
   exact ⟨(N,t),fun j hj=>by have:=hc j hj;rwa [add_add] at this,ht,hts⟩
  obtain ⟨q,hq⟩:=choose_lt each
  refine ⟨⟨k,r1,r2,r3,a2,some a,len,cap,a4,a5,a6,a7,a8⟩,_,rfl,.mk (ts:=(List.range len).map fun i=>(q i).2) (ND:=fun i=>(q i).1) ⟨i64ok w0,i64ok w2,i64ok w4,i64ok w5,i64ok w7,w8,⟨hrc,hrm⟩,⟨hlc,hcm⟩⟩ hr hR hRk (by simp) (fun hp=>?_) (fun i hi=>?_),?_⟩
  ·simp only [List.length_map,List.length_range] at hp ⊢
   have hc0:=(hq 0 hp).1 0 (by omega)
   simp only [Nv.cs,List.getElem?_cons_zero] at hc0
   have hsp:a.spot=none:=by simpa [Addr.add] using World.cell?_spot hc0
   obtain ⟨b,o,sp⟩:=a
   simp only at hsp
   subst hsp
   refine ⟨b,o,rfl,World.block_lt_of_cell? _ _ hc0,fun i hi=>?_⟩
   have h1:=(hq i hi).1
   simp only [add_plain,← Nat.add_assoc] at h1
   exact ⟨by simpa using h1 0 (by omega),by simpa using h1 1 (by omega),by simpa using h1 2 (by omega),by simpa using h1 3 (by omega),by simpa using h1 4 (by omega),by simpa using h1 5 (by omega),by simpa using h1 6 (by omega),by simpa using h1 7 (by omega),by simpa using h1 8 (by omega)⟩
  ·simp only [List.length_map,List.length_range] at hi
   simpa using (hq i hi).2.1
  ·simp only [Tn.small,Bool.and_eq_true,decide_eq_true_eq]
   refine ⟨hsr,smallL_of fun t ht=>?_⟩
   obtain ⟨i,hi,rfl⟩:=List.mem_map.1 ht
   exact (hq i (List.mem_range.1 hi)).2.2
end
set_option maxRecDepth 100000
section
variable {H:Type} {enc:TypeId × Value→H} {W:World} {base:Nat} {v:Value} {d:DataW H} {p:List MemPlace}
theorem node_argS (hok:Value.okWide Tryz.prog W .any base 25 v) (h0:DataW.Trod enc Tryz.prog W 0 (fun _=>true) true 25 v d p) (hsz:∀ n ∈ d.weights Tryz.prog 25,n≤reachBytes):∃ N t,v=Nv.v N∧TI W W.heap.size N t∧t.small=true:=by
 obtain ⟨cs,rfl,hs⟩:=okWide_struct Tryz.underlying25 hok
 obtain ⟨fuel,hf⟩:=h0
 obtain ⟨N,t,h1,h2,h3⟩:=open_nodeS nodeTy (by kernel_rfl) fuel _ _ hf hsz
 have h1':cs.toList=Nv.cs N:=h1
 refine ⟨N,t,?_,h2,h3⟩
 have:cs=(Nv.cs N).toArray:=by rw [← h1']
 rw [this]
end
end Go.Proofs.YtacaanhnlfpbhaaGreat
namespace Go.Proofs.YtacaanhnlfpbhaaGreat
open Go.RowKit
set_option linter.unusedVariables false
set_option linter.unusedSimpArgs false
abbrev I64 (l:List Int):List Value:=l.map (Value.int .i64)
theorem one_cell_ints (l:List Int):∀ u ∈ I64 l,u.oneCell'=true:=by
 intro u hu
 obtain ⟨x,_,rfl⟩:=List.mem_map.1 hu
 rfl
theorem run_append_move {P:Program} (w:World) (base:Nat) (t ty e:TypeId) (i:TypeInfo) (z:Value) (bytes:Nat) (ht:P.underlying t=some (.slice e)) (hi:P.info? e=some i) (hz:i.zero=some z)
  (hsize:i.size=1) (hby:i.bytes=bytes) (hzs:z.cells.size=1)
  (v:Value) (n:Nat) (xs:List Value) (hown:w.ownsRow base e 1 v n xs)
  (a:Addr) (m c:Nat) (news:List Value) (hl:news.length=m) (hm:0 < m) (hnews:∀ j u,news[j]?=some u→w.cell? (a.add j)=some u) (h1:∀ u ∈ news,u.oneCell'=true)
  (h63:n + m≤maxLen) (hbytes:(n + m) * bytes≤140737488355328) (hbase:base≤w.heap.size) :
  ∃ v' w',(Builtin.append_ #[t,t] ty #[v,.slice (some a) m c]).run P w=.ok v' w'∧w'.ownsRow base e 1 v' (n + m) (xs ++ news)∧Moved w w' v v':=by
 obtain ⟨v',w',hrun,h2,h3,h4,h5⟩:=run_append_own_at (P:=P) w base t ty e i z 1 bytes ht hi hz hsize hby hzs (by decide) v n xs hown a m c news (by omega) hnews h1 h63 hbytes hbase
 refine ⟨v',w',hrun,h2,?_⟩
 rcases hown.2 with ⟨rfl,rfl⟩ | ⟨g,cap,cur,rfl,hbg,hg,hnc,hcm,hcs,htake⟩
 ·rcases h5 with h5 | h5
  ·exact .inl ⟨h5,h3⟩
  ·exact .inr ⟨h5,h3⟩
 ·by_cases hroom:n + m≤cap
  ·have hr:=run_append_room (P:=P) w t ty e i ht hi g n cap cur hg a m c news (by rw [hsize];omega) hnews h1 hroom (by rw [hsize,hcs];omega)
   have he:=hrun.symm.trans hr
   injection he with e1 e2
   left
   exact ⟨by rw [e1];rfl,h3⟩
  ·have holds:∀ j u,xs[j]?=some u→w.cell? ((⟨g,0,none⟩:Addr).add j)=some u:=hown.cells (g:=g) rfl
   have hr:=run_append_grow (P:=P) w t ty e i z ht hi hz ⟨g,0,none⟩ n cap xs (by rw [hsize];exact hown.1) holds a m c news (by rw [hsize];omega) hnews (by omega) (by unfold maxLen at h63;omega) (growslice_fits (by omega) (by rw [hby];exact hbytes))
   have he:=hrun.symm.trans hr
   injection he with e1 e2
   right
   refine ⟨by rw [e1];rfl,?_⟩
   rw [e2]
   exact ⟨rfl,rfl,rfl,by simp,fun k hk _=>heap_alloc_old w.drew _ hk⟩
theorem wpList_append_move {P:Program} {w:World} {ops:Array Oper} {rest:List Oper} {o:Oper} {a:Act} {Q:Exit→Act→World→Prop} (hgd:o.guard=none) (s x:Operand) (t:TypeId)
  (ho:o.op=.call { callee:=.builtin .append,args:=#[s,x],argTypes:=#[t,t] })
  (base:Nat) (e:TypeId) (i:TypeInfo) (z:Value) (bytes:Nat) (ht:P.underlying t=some (.slice e)) (hi:P.info? e=some i) (hz:i.zero=some z)
  (hsize:i.size=1) (hby:i.bytes=bytes) (hzs:z.cells.size=1)
  (v:Value) (n:Nat) (xs:List Value) (hs:a.eval s=v) (hown:w.ownsRow base e 1 v n xs)
  (ad:Addr) (m c:Nat) (news:List Value) (hx:a.eval x=.slice (some ad) m c) (hl:news.length=m) (hm:0 < m) (hnews:∀ j u,news[j]?=some u→w.cell? (ad.add j)=some u) (h1:∀ u ∈ news,u.oneCell'=true)
  (h63:n + m≤maxLen) (hbytes:(n + m) * bytes≤140737488355328) (hbase:base≤w.heap.size)
  (h:∀ v' w',Hid (w'.ownsRow base e 1 v' (n + m) (xs ++ news))→Hid (Moved w w' v v')→wpList P ops Q rest (a.put o.dst v') w'):wpList P ops Q (o :: rest) a w:=by
 refine wpList_plain hgd fun K hK=>?_
 obtain ⟨v',w',hr,h2,h3⟩:=run_append_move (P:=P) w base t o.type e i z bytes ht hi hz hsize hby hzs v n xs hown ad m c news hl hm hnews h1 h63 hbytes hbase
 unfold Oper.wp execOp
 simp only [ho,resolve,invoke,builtin,Sem.run_bind,Sem.run_pure,Result.andThen_ok,List.map_toArray,List.map_cons,List.map_nil,hs,hx,hr]
 exact hK _ _ (h v' w' h2 h3)
theorem Chg.away {w w':World} {F F' G:List Nat} (h:Chg w w' F F') (hG:∀ k ∈ G,k < w.heap.size) (hd:∀ k ∈ G,k ∉ F):∀ k ∈ G,k ∉ F':=fun k hk hm=>by
 rcases h.new k hm with h | h
 ·exact hd k hk h
 ·have:=hG k hk;omega
end Go.Proofs.YtacaanhnlfpbhaaGreat
namespace Go.Proofs.YtacaanhnlfpbhaaGreat
open Go.RowKit Go.Lib
set_option linter.unusedVariables false
set_option linter.unusedSimpArgs false
set_option maxHeartbeats 1000000 in
theorem right_long (L:List (Int × Int)) (ad:Option Addr) (n cap:Nat) (w:World) (hS:5000 < n) (hS2:n≤17592186044416) :
  Calls Tryz.prog 169 #[.slice ad n cap] w fun e w'=>e=.returned (.bool false)∧Below w.heap.size w w':=by
 go_enter Tryz.func169,Tryz.ntmps169
 go_wp2
 go_ret
 exact ⟨rfl,Below.refl _ _⟩
theorem right25 (L:List (Int × Int)) (ad:Option Addr) (n cap:Nat) (w:World) (hn:n=L.length) (hS2:n≤17592186044416) (hl:RowAt w.heap.size w (.slice ad n cap) L) :
  Calls Tryz.prog 169 #[.slice ad n cap] w fun e w'=>e=.returned (.bool (rightB L))∧Below w.heap.size w w':=by
 by_cases h:n≤5000
 ·have e:rightB L=rightFrom 0 L:=by unfold rightB;rw [← hn];simp [h]
  rw [e]
  exact right_short L ad n cap w hn h hl
 ·have e:rightB L=false:=by unfold rightB;rw [← hn];simp [h]
  rw [e]
  exact right_long L ad n cap w (by omega) hS2
def hasB (L:List (Int × Int)) (r:Int):Bool:=L.any fun g=>decide (g.1≤r) && decide (r≤g.2)
end Go.Proofs.YtacaanhnlfpbhaaGreat
namespace Go.Proofs.YtacaanhnlfpbhaaGreat
open Go.RowKit
set_option linter.unusedVariables false
set_option linter.unusedSimpArgs false
theorem below38 (n c:Int) (w:World):Calls Tryz.prog 126 #[.int .i64 n,.int .i64 c] w fun e w'=>e=.returned (.bool (belowB n c))∧w'=w:=by
 go_enter Tryz.func126,Tryz.ntmps126
 go_wp2
 all_goals go_ret
 all_goals exact ⟨ret_bool (by (simp_all [belowB]) <;> (intros;omega)),rfl⟩
theorem caps39 (c:Int) (w:World):Calls Tryz.prog 127 #[.int .i64 c] w fun e w'=>e=.returned (.bool (capsB c))∧w'=w:=by
 go_enter Tryz.func127,Tryz.ntmps127
 go_wp2
 all_goals go_ret
 all_goals refine ⟨ret_bool ?_,rfl⟩
 all_goals first | (simp_all [capsB];done) | (simp [capsB,Int.tmod_eq_emod] <;> omega)
theorem hasX61 (op:Int) (w:World):Calls Tryz.prog 192 #[.int .i64 op] w fun e w'=>e=.returned (.bool (hasXB op))∧w'=w:=by
 go_enter Tryz.func192,Tryz.ntmps192
 go_wp2
 all_goals go_ret
 all_goals exact ⟨ret_bool (by simp_all [hasXB]),rfl⟩
theorem hasY62 (op:Int) (w:World):Calls Tryz.prog 193 #[.int .i64 op] w fun e w'=>e=.returned (.bool (hasYB op))∧w'=w:=by
 go_enter Tryz.func193,Tryz.ntmps193
 go_wp2
 all_goals go_ret
 all_goals exact ⟨ret_bool (by simp_all [hasYB]),rfl⟩
theorem target60 (tox:Int) (has:Bool) (c:Int) (w:World):Calls Tryz.prog 191 #[.int .i64 tox,.bool has,.int .i64 c] w fun e w'=>e=.returned (.bool (isTargetB tox has c))∧w'=w:=by
 have HC:=below38 tox c w
 cases has
 ·go_enter Tryz.func191,Tryz.ntmps191
  go_wp2
  all_goals go_ret
  all_goals exact ⟨ret_bool (by simp_all [isTargetB]),rfl⟩
 ·go_enter Tryz.func191,Tryz.ntmps191
  go_wp2_with (first | (go_at_call 126;(with_reducible refine HC.mono ?_);rintro e w2 ⟨rfl,rfl⟩))
  all_goals go_ret
  all_goals exact ⟨ret_bool (by simp [isTargetB]),rfl⟩
theorem assert80 (n:Int) (w:World):Calls Tryz.prog 231 #[.int .i64 n] w fun e w'=>e=.returned (.bool (assertB n))∧w'=w:=by
 go_enter Tryz.func231,Tryz.ntmps231
 go_wp2
 all_goals go_ret
 all_goals exact ⟨ret_bool (by simp_all [assertB]),rfl⟩
theorem arg63 (op arg caps:Int) (w:World):Calls Tryz.prog 194 #[.int .i64 op,.int .i64 arg,.int .i64 caps] w fun e w'=>e=.returned (.bool (isArgB op arg caps))∧w'=w:=by
 have H1:=below38 arg caps w
 have H2:=below38 arg 100 w
 have H3:=assert80 arg w
 go_enter Tryz.func194,Tryz.ntmps194
 go_wp2_with (first | (go_at_call 126;(first | (with_reducible refine H1.mono ?_) | (with_reducible refine H2.mono ?_));rintro e w2 ⟨rfl,rfl⟩) | (go_at_call 231;(with_reducible refine H3.mono ?_);rintro e w2 ⟨rfl,rfl⟩))
 all_goals go_ret
 all_goals exact ⟨ret_bool (by simp_all [isArgB]),rfl⟩
theorem ranges64 (op:Int) (R:List (Int × Int)) (ad:Option Addr) (n cap:Nat) (w:World) (hn:n=R.length) (hS:n * 16≤140737488351232) (hl:RowAt w.heap.size w (.slice ad n cap) R) :
  Calls Tryz.prog 195 #[.int .i64 op,.slice ad n cap] w fun e w'=>e=.returned (.bool (isRangesB op R))∧Below w.heap.size w w':=by
 have HC:=right25 R ad n cap w hn (by omega) hl
 have HN:=hid' hn
 clear hn hl
 by_cases h1:op=1
 ·subst h1
  by_cases h0:n=0
  ·subst h0
   go_enter Tryz.func195,Tryz.ntmps195
   go_wp2
   all_goals go_ret
   all_goals exact ⟨ret_bool (by simp [isRangesB,← HN.out]),Below.refl _ _⟩
  ·have b1:decide ((n:Int) > 0)=true:=by simp;omega
   have b2:decide ((0:Int) < (n:Int))=true:=by simp;omega
   go_enter Tryz.func195,Tryz.ntmps195
   go_wp2_with (first | (go_at_call 169;(with_reducible refine HC.mono ?_);rintro e w2 ⟨rfl,hb⟩;have HB:=hid' hb;clear hb HC))
   all_goals go_ret
   all_goals exact ⟨ret_bool (by simp [isRangesB,← HN.out];intro h;omega),HB.out⟩
 ·have b0:(op != 1)=true:=by simpa using h1
  go_enter Tryz.func195,Tryz.ntmps195
  go_wp2
  all_goals go_ret
  all_goals exact ⟨ret_bool (by simp only [isRangesB,← HN.out];rw [if_neg (by simpa using h1),Bool.eq_iff_iff];simp),Below.refl _ _⟩
theorem below_drewN' {B:Nat} {a w:World} (h:Below B a w) (n:Nat):Below B a (w.drewN n):=h.trans ⟨rfl,rfl,rfl,Nat.le_refl _,fun _ _=>rfl⟩
set_option maxRecDepth 100000 in
set_option maxHeartbeats 4000000 in
theorem inst40 (N:Iv) (R:List (Int × Int)) (n caps:Int) (w:World) (hn:N.r2=R.length) (hS:N.r2 * 16≤140737488351232) (hl:RowAt w.heap.size w (.slice N.r1 N.r2 N.r3) R) :
  Calls Tryz.prog 128 #[N.v,.int .i64 n,.int .i64 caps] w fun e w'=>e=.returned (.bool (In.okB ⟨N.op,N.x,N.y,N.a,R⟩ n caps))∧Below w.heap.size w w':=by
 obtain ⟨op,x,y,a,r1,r2,r3⟩:=N
 dsimp only at hn hS hl ⊢
 obtain ⟨U,hU⟩:∃ U,U=w.alloc (.cells #[.int .i64 op,.int .i64 x,.int .i64 y,.int .i64 a,.slice r1 r2 r3] 86):=⟨_,rfl⟩
 have hb:Below w.heap.size w U:=by rw [hU];exact Joins.below_alloc1 w _
 have hX:U.heap[w.heap.size]?=some (.cells #[.int .i64 op,.int .i64 x,.int .i64 y,.int .i64 a,.slice r1 r2 r3] 86 (0,0)):=by rw [hU];exact heap_alloc_new w _
 obtain ⟨c0,c1,c2,c3,c4⟩:=five hX
 have HR:∀ W,W.heap=U.heap→W.os=U.os→W.tape=U.tape→W.output=U.output→Calls Tryz.prog 195 #[.int .i64 op,.slice r1 r2 r3] W fun e w'=>e=.returned (.bool (isRangesB op R))∧Below U.heap.size U w':=by
  intro W e1 e2 e3 e4
  have hbW:Below U.heap.size U W:=⟨e2,e3,e4,by rw [e1];exact Nat.le_refl _,fun k hk=>by rw [e1]⟩
  have hbw:Below w.heap.size w W:=hb.trans (Joins.below_le hbW hb.size)
  refine (ranges64 op R r1 r2 r3 W hn hS (hl.below hbw (Nat.le_refl _) hbw.size)).mono ?_
  rintro e w' ⟨h1,h2⟩
  exact ⟨h1,hbW.trans (Joins.below_le h2 hbW.size)⟩
 have HRR:=hid' HR
 have HB:=hid' hb
 have HX:=hid' hX
 have hsz:w.heap.size < U.heap.size:=(Array.getElem?_eq_some_iff.1 hX).1
 clear HR hn hS hl hb hX
 have T1:=fun W=>target60 x (hasXB op) n W
 have T2:=fun W=>target60 y (hasYB op) n W
 have T3:=fun W=>arg63 op a caps W
 have X1:=fun W=>hasX61 op W
 have X2:=fun W=>hasY62 op W
 obtain ⟨b,hbe⟩:∃ b,b=w.heap.size:=⟨_,rfl⟩
 go_enter Tryz.func128,Tryz.ntmps128
 go_upto_region 1 with fail
 rw [← hU,← hbe]
 rw [← hbe] at c0 c1 c2 c3 c4 hsz HX HB
 have HBE:=hid' hbe
 clear hU hbe
 cases g1:isTargetB x (hasXB op) n
 ·simp only [g1] at T1
  go_quiet (first | (go_at_call 192;with_reducible refine Calls.quiet_of_same (X1 _)) | (go_at_call 191;first | (with_reducible refine Calls.quiet_of_same (T1 _)) | (with_reducible refine Calls.quiet_of_same (T2 _))) | (go_at_call 193;with_reducible refine Calls.quiet_of_same (X2 _)) | (go_at_call 194;with_reducible refine Calls.quiet_of_same (T3 _)))
  go_wp2
  all_goals go_ret
  all_goals refine ⟨ret_bool (by simp [In.okB,g1]),?_⟩
  all_goals rw [← HBE.out]
  all_goals exact below_drewN' HB.out _
 ·simp only [g1] at T1
  cases g2:isTargetB y (hasYB op) n
  ·simp only [g2] at T2
   go_quiet (first | (go_at_call 192;with_reducible refine Calls.quiet_of_same (X1 _)) | (go_at_call 191;first | (with_reducible refine Calls.quiet_of_same (T1 _)) | (with_reducible refine Calls.quiet_of_same (T2 _))) | (go_at_call 193;with_reducible refine Calls.quiet_of_same (X2 _)) | (go_at_call 194;with_reducible refine Calls.quiet_of_same (T3 _)))
   go_wp2
   all_goals go_ret
   all_goals refine ⟨ret_bool (by simp [In.okB,g1,g2]),?_⟩
   all_goals rw [← HBE.out]
   all_goals exact below_drewN' HB.out _
  ·simp only [g2] at T2
   cases g3:isArgB op a caps
   ·simp only [g3] at T3
    go_quiet (first | (go_at_call 192;with_reducible refine Calls.quiet_of_same (X1 _)) | (go_at_call 191;first | (with_reducible refine Calls.quiet_of_same (T1 _)) | (with_reducible refine Calls.quiet_of_same (T2 _))) | (go_at_call 193;with_reducible refine Calls.quiet_of_same (X2 _)) | (go_at_call 194;with_reducible refine Calls.quiet_of_same (T3 _)))
    go_wp2
    all_goals go_ret
    all_goals refine ⟨ret_bool (by simp [In.okB,g1,g2,g3]),?_⟩
    all_goals rw [← HBE.out]
    all_goals exact below_drewN' HB.out _
   ·simp only [g3] at T3
    go_region_held3 (fun W=>W.cell? ⟨b,0,none⟩=some (.int .i64 op)∧W.cell? ⟨b,1,none⟩=some (.int .i64 x)∧W.cell? ⟨b,2,none⟩=some (.int .i64 y)∧W.cell? ⟨b,3,none⟩=some (.int .i64 a)∧W.cell? ⟨b,4,none⟩=some (.slice r1 r2 r3)) (first | (exact ⟨d0,d1,d2,d3,d4⟩) | (simp [*];done)) (first | (go_at_call 192;(with_reducible refine (X1 _).mono ?_);rintro e w2 ⟨rfl,rfl⟩) | (go_at_call 191;(first | (with_reducible refine (T1 _).mono ?_) | (with_reducible refine (T2 _).mono ?_));rintro e w2 ⟨rfl,rfl⟩) | (go_at_call 193;(with_reducible refine (X2 _).mono ?_);rintro e w2 ⟨rfl,rfl⟩) | (go_at_call 194;(with_reducible refine (T3 _).mono ?_);rintro e w2 ⟨rfl,rfl⟩) | (go_at_call 195;(with_reducible refine (HRR.out _ ?_ ?_ ?_ ?_).mono ?_);(rfl);(rfl);(rfl);(rfl);rintro e w2 ⟨rfl,hb2⟩;obtain ⟨d0,d1,d2,d3,d4⟩:=five ((hb2.block b hsz).trans HX.out);have HB2:=hid' hb2;clear hb2))
    all_goals go_wp2
    all_goals go_ret
    all_goals refine ⟨ret_bool (by simp [In.okB,g1,g2,g3]),?_⟩
    all_goals rw [← HBE.out]
    all_goals first | exact HB.out.drew | exact HB.out | exact HB.out.trans (Joins.below_le HB2.out (by omega))
end Go.Proofs.YtacaanhnlfpbhaaGreat
