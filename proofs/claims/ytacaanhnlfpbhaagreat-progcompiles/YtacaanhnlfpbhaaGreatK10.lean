/- HELPERS: texts of ours put together. -/
import Derived.Test.YtacaanhnlfpbhaaGreatK09
import Derived.Test.YtacaanhnlfpbhaaGreatK01
import Derived.Test.YtacaanhnlfpbhaaGreatK04
import Derived.Test.YtacaanhnlfpbhaaGreatK02
import Derived.Test.YtacaanhnlfpbhaaGreatK03
import Derived.Deep.Onto
import Derived.Laws.Rows
namespace Go.Proofs.YtacaanhnlfpbhaaGreat
open Go.RowKit Go.Deep Go.ChangeShapes Go.WideShapes
set_option linter.unusedVariables false
set_option linter.unusedSimpArgs false
theorem smallL_of:∀ {ts:List Tn},(∀ t ∈ ts,t.small=true)→smallL ts=true
 | [],_=>rfl
 | t :: ts,h=>by simp only [smallL,Bool.and_eq_true];exact ⟨h t (by simp),smallL_of fun u hu=>h u (by simp [hu])⟩
theorem weightsAll_memT {H:Type} {P:Program} {e:TypeId}:∀ {l:List (DataW H)} {d:DataW H},d ∈ l→∀ n ∈ d.weights P e,n ∈ DataW.weightsAll P e l
 | x :: l,d,hd,n,hn=>by
  simp only [DataW.weightsAll,List.mem_append]
  rcases List.mem_cons.1 hd with rfl | h
  ·exact .inl hn
  ·exact .inr (weightsAll_memT h n hn)
section
variable {H:Type} {enc:TypeId × Value→H} {P:Program} {w:World} {base:Nat} {spare:Nat→Bool} {held:Bool} {tn ts tr te ti tb tg:TypeId} {f:Nat→Field} {g0 g1:Field}
theorem ranges_smallT (S:NodeTy P tn ts tr te ti tb tg f g0 g1) (hby:P.bytesOf te=16) {fuel:Nat} {cs:List Value} {x:DataW H × List MemPlace} (h:DataW.trod enc P w base spare held fuel tr cs=some x) (hw:∀ n ∈ x.1.weights P tr,n≤reachBytes) {ad:Option Addr} {n c:Nat} (hc:cs=[.slice ad n c]):n * 16≤140737488351232:=by
 rcases DataW.trod_slice S.hr h with ⟨e,_⟩ | ⟨a,len,cap,elems,rest,n',_,e,hx,_,_,_,hel,_⟩
 ·rw [hc] at e
  simp at e
  omega
 ·rw [hc] at e
  simp at e
  have:=hw ((elems.length + rest.length) * P.bytesOf te) (by rw [hx];simp [DataW.weights,S.hr])
  rw [hby] at this
  have hr:reachBytes=140737488351232:=by decide
  omega
theorem open_nodeS (S:NodeTy P tn ts tr te ti tb tg f g0 g1) (hby:P.bytesOf te=16):∀ (fuel:Nat) (cs:List Value) (x:DataW H × List MemPlace),DataW.trod enc P w base spare held fuel tn cs=some x→(∀ n ∈ x.1.weights P tn,n≤reachBytes)→∃ N t,cs=Nv.cs N∧TI w w.heap.size N t∧t.small=true:=by
 intro fuel
 induction fuel using Nat.strongRecOn with
 | _ fuel ih =>
 intro cs x h hwt
 obtain ⟨xs,n,hf,rfl,hl,hxl,hfs⟩:=DataW.trod_struct S.hn h
 rw [S.cn] at hl
 simp only [List.size_toArray,List.length_cons,List.length_nil] at hxl
 obtain ⟨t0,t1,t2,t3,t4,t5,t6,t7,t8⟩:=S.ty
 match xs,hxl,cs,hl with
 | [y0,y1,y2,y3,y4,y5,y6,y7,y8],_,[v0,v1,v2,v3,v4,v5,v6,v7,v8],_ =>
 have g0:=hfs 0 (f 0) rfl
 have g1:=hfs 1 (f 1) rfl
 have g2:=hfs 2 (f 2) rfl
 have g3:=hfs 3 (f 3) rfl
 have g4:=hfs 4 (f 4) rfl
 have g5:=hfs 5 (f 5) rfl
 have g6:=hfs 6 (f 6) rfl
 have g7:=hfs 7 (f 7) rfl
 have g8:=hfs 8 (f 8) rfl
 simp [t0,S.of,S.ci] at g0
 simp [t1,S.of,S.cr] at g1
 simp [t2,S.of,S.ci] at g2
 simp [t3,S.of,S.cs] at g3
 simp [t4,S.of,S.ci] at g4
 simp [t5,S.of,S.ci] at g5
 simp [t6,S.of,S.cb] at g6
 simp [t7,S.of,S.ci] at g7
 simp [t8,S.of,S.cg] at g8
 have hw1:∀ n ∈ y1.1.weights P tr,n≤reachBytes:=fun n hn=>hwt n (by
  simp only [DataW.weights,S.hn]
  exact DataW.weights_mem_each (j:=1) (by simp [t1]) (by simp) n hn)
 have hw3:∀ n ∈ y3.1.weights P ts,n≤reachBytes:=fun n hn=>hwt n (by
  simp only [DataW.weights,S.hn]
  exact DataW.weights_mem_each (j:=3) (by simp [t3]) (by simp) n hn)
 obtain ⟨k,e0,_,w0⟩:=DataW.trod_int S.hi g0
 obtain ⟨a2,e2,_,w2⟩:=DataW.trod_int S.hi g2
 obtain ⟨a4,e4,_,w4⟩:=DataW.trod_int S.hi g4
 obtain ⟨a5,e5,_,w5⟩:=DataW.trod_int S.hi g5
 obtain ⟨a7,e7,_,w7⟩:=DataW.trod_int S.hi g7
 obtain ⟨a6,e6,_⟩:=DataW.trod_bool S.hb g6
 obtain ⟨a8,e8,_,w8⟩:=DataW.trod_string S.hg g8
 obtain ⟨r1,r2,r3,R,e1,hr,hrc,hrm,hR,hRk⟩:=open_ranges S g1
 have hsr:R.length * 16≤140737488351232:=by rw [← hr];exact ranges_smallT S hby g1 hw1 e1
 simp only [List.cons.injEq,and_true] at e0 e1 e2 e4 e5 e6 e7 e8
 subst e0 e1 e2 e4 e5 e6 e7 e8
 rcases DataW.trod_slice S.hs g3 with ⟨e3,_⟩ | ⟨a,len,cap,elems,rest,n',hn',e3,hy3,hb,hlc,hcm,hel,hx,_,_⟩
 ·simp only [List.cons.injEq,and_true] at e3
  subst e3
  exact ⟨⟨k,r1,r2,r3,a2,none,0,0,a4,a5,a6,a7,a8⟩,_,rfl,.mk (ts:=[]) (ND:=fun _=>default) ⟨i64ok w0,i64ok w2,i64ok w4,i64ok w5,i64ok w7,w8,⟨hrc,hrm⟩,⟨Nat.le_refl _,by simp [maxLen]⟩⟩ hr hR hRk rfl (fun hp=>absurd hp (by simp)) (fun i hi=>absurd hi (by simp)),by simp only [Tn.small,smallL,Bool.and_true,decide_eq_true_eq];exact hsr⟩
 ·simp only [List.cons.injEq,and_true] at e3
  subst e3
  rw [S.cn] at hx
  have each:∀ i,i < len→∃ q:Nv × Tn,(∀ j,j < 9→w.cell? (a.add (i * 9 + j))=(Nv.cs q.1)[j]?)∧TI w w.heap.size q.1 q.2∧q.2.small=true:=fun i hi=>by
   have h1:=hx i hi
   rw [List.getElem?_eq_getElem (by omega)] at h1
   obtain ⟨cs',h2,h3⟩:=Option.bind_eq_some_iff.1 h1
   obtain ⟨N,t,rfl,ht,hts⟩:=ih n' (by omega) cs' _ h3 (fun n hn=>hw3 n (by rw [hy3];simp only [DataW.weights,S.hs];exact List.mem_cons_of_mem _ (List.mem_append_left _ (weightsAll_memT (List.mem_map.2 ⟨_,List.getElem_mem _,rfl⟩) n hn))))
   obtain ⟨_,_,hc⟩:=World.cells?_some h2
   exact ⟨(N,t),fun j hj=>by have:=hc j hj;rwa [add_add] at this,ht,hts⟩
  obtain ⟨q,hq⟩:=choose_lt each
  refine ⟨⟨k,r1,r2,r3,a2,some a,len,cap,a4,a5,a6,a7,a8⟩,_,rfl,.mk (ts:=(List.range len).map fun i=>(q i).2) (ND:=fun i=>(q i).1) ⟨i64ok w0,i64ok w2,i64ok w4,i64ok w5,i64ok w7,w8,⟨hrc,hrm⟩,⟨hlc,hcm⟩⟩ hr hR hRk (by simp) (fun hp=>?_) (fun i hi=>?_),?_⟩
  ·simp only [List.length_map,List.length_range] at hp ⊢
   have hc0:=(hq 0 hp).1 0 (by omega)
   simp only [Nv.cs,List.getElem?_cons_zero] at hc0
   have hsp:a.spot=none:=by simpa [Addr.add] using World.cell?_spot hc0
   obtain ⟨b,o,sp⟩:=a
   simp only at hsp
   subst hsp
   refine ⟨b,o,rfl,World.block_lt_of_cell? _ _ hc0,fun i hi=>?_⟩
   have h1:=(hq i hi).1
   simp only [add_plain,← Nat.add_assoc] at h1
   exact ⟨by simpa using h1 0 (by omega),by simpa using h1 1 (by omega),by simpa using h1 2 (by omega),by simpa using h1 3 (by omega),by simpa using h1 4 (by omega),by simpa using h1 5 (by omega),by simpa using h1 6 (by omega),by simpa using h1 7 (by omega),by simpa using h1 8 (by omega)⟩
  ·simp only [List.length_map,List.length_range] at hi
   simpa using (hq i hi).2.1
  ·simp only [Tn.small,Bool.and_eq_true,decide_eq_true_eq]
   refine ⟨hsr,smallL_of fun t ht=>?_⟩
   obtain ⟨i,hi,rfl⟩:=List.mem_map.1 ht
   exact (hq i (List.mem_range.1 hi)).2.2
end
set_option maxRecDepth 100000
section
variable {H:Type} {enc:TypeId × Value→H} {W:World} {base:Nat} {v:Value} {d:DataW H} {p:List MemPlace}
theorem node_argS (hok:Value.okWide Tryz.prog W .any base 25 v) (h0:DataW.Trod enc Tryz.prog W 0 (fun _=>true) true 25 v d p) (hsz:∀ n ∈ d.weights Tryz.prog 25,n≤reachBytes):∃ N t,v=Nv.v N∧TI W W.heap.size N t∧t.small=true:=by
 obtain ⟨cs,rfl,hs⟩:=okWide_struct Tryz.underlying25 hok
 obtain ⟨fuel,hf⟩:=h0
 obtain ⟨N,t,h1,h2,h3⟩:=open_nodeS nodeTy (by kernel_rfl) fuel _ _ hf hsz
 have h1':cs.toList=Nv.cs N:=h1
 refine ⟨N,t,?_,h2,h3⟩
 have:cs=(Nv.cs N).toArray:=by rw [← h1']
 rw [this]
end
end Go.Proofs.YtacaanhnlfpbhaaGreat
namespace Go.Proofs.YtacaanhnlfpbhaaGreat
open Go.RowKit
set_option linter.unusedVariables false
set_option linter.unusedSimpArgs false
abbrev BNo (w:World) (b:Nat) (N:Nv):Prop:=w.heap[b]?=some (.cells #[.int .i64 N.k,.slice N.r1 N.r2 N.r3,.int .i64 N.a2,.slice N.s1 N.s2 N.s3,.int .i64 N.a4,.int .i64 N.a5,.bool N.a6,.int .i64 N.a7,.string N.a8] 25 (0,0))
theorem fine_kind0 {k:Int} {R:List (Int × Int)} {a:Int} {n:Nat} {mn mx:Int} {lz:Bool} {ix:Int} {nm:ByteArray} (h:nodeB k R a n mn mx lz ix nm=true) :
  ((k=1∨k=2∨k=3)∧n=0∧R.length≤5000)∨((k=4∨k=5)∧2≤n)∨(k=6∧n=1∧0≤mn∧mn≤1000∧(mx=-1∨mn≤mx∧mx≤1000))∨(k=7∧n=1∧1≤ix∧ix≤500):=by
 have hk:k=1∨k=2∨k=3∨k=4∨k=5∨k=6∨k=7:=(fine_node h).kind
 rcases hk with rfl | rfl | rfl | rfl | rfl | rfl | rfl
 ·simp [nodeB,bareB] at h;left;refine ⟨by omega,by omega,?_⟩;have:=h.1;simp [h]
 ·simp [nodeB,bareB] at h;left;exact ⟨by omega,by omega,rightB_len h.1⟩
 ·simp [nodeB,bareB] at h;left;refine ⟨by omega,by omega,?_⟩;simp [h]
 ·simp [nodeB,bareB] at h;right;left;exact ⟨by omega,by omega⟩
 ·simp [nodeB,bareB] at h;right;left;exact ⟨by omega,by omega⟩
 ·simp [nodeB,bareB] at h;right;right;left;exact ⟨rfl,by omega,by omega,by omega,by omega⟩
 ·simp [nodeB,bareB] at h;right;right;right;exact ⟨rfl,by omega,by omega,by omega⟩
mutual
def Tn.len:Tn→Nat
 | .mk k _ _ s mn mx _ _ _=>if k=2∨k=3 then 1 else if k=7 then lenL s + 2 else if k=4 then lenL s else if k=5 then lenL s + 2 * (s.length - 1) else if k=6 then (if mn=1∨mx=1 then lenL s + 1 else lenL s + 2) else 0
def lenL:List Tn→Nat
 | []=>0
 | t :: ts=>t.len + lenL ts
end
def forkI (round past:Nat) (lz:Bool):In:=if lz then ⟨2,(past:Int),(round:Int),0,[]⟩ else ⟨2,(round:Int),(past:Int),0,[]⟩
mutual
def Tn.lay:Tn→Nat→List In
 | .mk k R a s mn mx lz ix nm,n =>
  if k=2 then (if R.length=0 then [⟨6,0,0,0,[]⟩] else [⟨1,((n + 1:Nat):Int),0,0,R⟩])
  else if k=3 then [⟨4,((n + 1:Nat):Int),0,a,[]⟩]
  else if k=7 then ⟨3,((n + 1:Nat):Int),0,2 * ix,[]⟩ :: (layL s (n + 1) ++ [⟨3,((n + 1 + lenL s + 1:Nat):Int),0,2 * ix + 1,[]⟩])
  else if k=4 then layL s n
  else if k=5 then layA s n ((n + (lenL s + 2 * (s.length - 1)):Nat):Int)
  else if k=6 then
   if mn=1 then layL s n ++ [forkI n (n + lenL s + 1) lz]
   else if mx=1 then forkI (n + 1) (n + 1 + lenL s) lz :: layL s (n + 1)
   else forkI (n + 1) (n + 1 + lenL s + 1) lz :: (layL s (n + 1) ++ [⟨7,(n:Int),0,0,[]⟩])
  else []
def layL:List Tn→Nat→List In
 | [],_=>[]
 | t :: ts,n=>t.lay n ++ layL ts (n + t.len)
def layA:List Tn→Nat→Int→List In
 | [],_,_=>[]
 | [t],n,_=>t.lay n
 | t :: u :: ts,n,f=>⟨2,((n + 1:Nat):Int),((n + t.len + 2:Nat):Int),0,[]⟩ :: (t.lay (n + 1) ++ ⟨7,f,0,0,[]⟩ :: layA (u :: ts) (n + t.len + 2) f)
end
mutual
theorem lay_len:∀ (t:Tn) (n:Nat),(t.lay n).length=t.len
 | .mk k R a s mn mx lz ix nm,n=>by
  have h1:=layL_len s
  have h2:=layA_len s
  by_cases k2:k=2
  ·subst k2;simp [Tn.lay,Tn.len];split <;> rfl
  by_cases k3:k=3
  ·subst k3;simp [Tn.lay,Tn.len]
  by_cases k7:k=7
  ·subst k7;simp [Tn.lay,Tn.len,h1]
  by_cases k4:k=4
  ·subst k4;simp [Tn.lay,Tn.len,h1]
  by_cases k5:k=5
  ·subst k5;simp [Tn.lay,Tn.len,h2]
  by_cases k6:k=6
  ·subst k6
   by_cases m1:mn=1
   ·simp [Tn.lay,Tn.len,h1,m1]
   by_cases x1:mx=1
   ·simp [Tn.lay,Tn.len,h1,m1,x1]
   simp [Tn.lay,Tn.len,h1,m1,x1]
  simp [Tn.lay,Tn.len,k2,k3,k4,k5,k6,k7]
theorem layL_len:∀ (ts:List Tn) (n:Nat),(layL ts n).length=lenL ts
 | [],_=>rfl
 | t :: ts,n=>by simp only [layL,lenL,List.length_append,lay_len t n,layL_len ts (n + t.len)]
theorem layA_len:∀ (ts:List Tn) (n:Nat) (f:Int),(layA ts n f).length=lenL ts + 2 * (ts.length - 1)
 | [],_,_=>rfl
 | [t],n,_=>by simp only [layA,lenL,lay_len t n,List.length_cons,List.length_nil];omega
 | t :: u :: ts,n,f=>by
  have h:=layA_len (u :: ts) (n + t.len + 2) f
  simp only [layA,lenL,List.length_cons,List.length_append,lay_len t (n + 1),h]
  omega
end
theorem lenL_append (a b:List Tn):lenL (a ++ b)=lenL a + lenL b:=by
 induction a with
 | nil=>simp [lenL]
 | cons t a ih=>simp only [List.cons_append,lenL,ih];omega
theorem layL_append (a b:List Tn) (n:Nat):layL (a ++ b) n=layL a n ++ layL b (n + lenL a):=by
 induction a generalizing n with
 | nil=>simp [layL,lenL]
 | cons t a ih=>simp only [List.cons_append,layL,lenL,ih,List.append_assoc,Nat.add_assoc]
theorem lenL_rep (m:Nat) (l:List Tn):lenL (List.replicate m l).flatten=m * lenL l:=by
 induction m with
 | zero=>simp [lenL]
 | succ m ih=>rw [List.replicate_succ,List.flatten_cons,lenL_append,ih,Nat.add_mul];omega
mutual
def Tn.ln:Tn→Nat
 | .mk k _ _ s mn mx _ _ _=>if k=2∨k=3 then 1 else if k=7 then lnL s 0 + 2 else if k=5 then lnL s 0 + 2 * (s.length - 1) else if k=6 then (if mx≠-1 then mn.toNat * lnL s 0 + (mx - mn).toNat * (1 + lnL s 0) else if mn=0 then lnL s 0 + 2 else mn.toNat * lnL s 0 + 1) else lnL s 0
def lnL:List Tn→Nat→Nat
 | [],a=>a
 | t :: ts,a=>lnL ts (min (a + t.ln) 20001)
end
mutual
def Tn.top:Tn→Int
 | .mk _ _ _ s _ _ _ ix _=>topL s ix
def topL:List Tn→Int→Int
 | [],a=>a
 | t :: ts,a=>topL ts (max a t.top)
end
theorem topL_ge:∀ (ts:List Tn) (a:Int),a≤topL ts a
 | [],a=>Int.le_refl _
 | t :: ts,a=>by have:=topL_ge ts (max a t.top);simp only [topL];omega
theorem fine_ix {k:Int} {R:List (Int × Int)} {a:Int} {n:Nat} {mn mx:Int} {lz:Bool} {ix:Int} {nm:ByteArray} (h:nodeB k R a n mn mx lz ix nm=true):0≤ix∧ix≤500:=by
 have hk:=fine_kind0 h
 have hk':k=1∨k=2∨k=3∨k=4∨k=5∨k=6∨k=7:=by omega
 rcases hk' with rfl | rfl | rfl | rfl | rfl | rfl | rfl <;> simp [nodeB,bareB] at h <;> omega
mutual
theorem top_fine:∀ t:Tn,t.fine=true→0≤t.top∧t.top≤500
 | .mk k R a s mn mx lz ix nm,h=>by
  simp only [Tn.fine,Bool.and_eq_true] at h
  have h1:=fine_ix h.1
  simp only [Tn.top]
  exact topL_fine s h.2 ix h1
theorem topL_fine:∀ ts:List Tn,fineL ts=true→∀ a:Int,0≤a∧a≤500→0≤topL ts a∧topL ts a≤500
 | [],_=>fun a h=>h
 | t :: ts,h=>fun a ha=>by
  simp only [fineL,Bool.and_eq_true] at h
  have h1:=top_fine t h.1
  simp only [topL]
  exact topL_fine ts h.2 _ (by omega)
end
theorem next65c (m ad:Nat) (z1:Option Addr) (n c:Nat) (w:World) (h:w.cell? ⟨m,0,none⟩=some (.slice z1 n c)):Calls Tryz.prog 137 #[pt m] w fun e w'=>e=.returned (.int .i64 (n:Int))∧w'=w:=by
 go_enter Tryz.func137,Tryz.ntmps137
 go_wp2
 all_goals go_ret
 all_goals exact ⟨rfl,rfl⟩
abbrev Iv.rv (N:Iv):Value:=.slice N.r1 N.r2 N.r3
structure IO (w:World) (base:Nat) (z:Value) (N:Iv) (I:In):Prop where
 op:N.op=I.op
 x:N.x=I.x
 y:N.y=I.y
 a:N.a=I.a
 len:N.r2=I.R.length
 sm:N.r2 * 16≤140737488351232
 rr:w.ownsRow base 70 2 N.rv I.R.length (O2 I.R)
 ne:∀ b,N.rv.ownBlock=some b→z.ownBlock≠some b
theorem rowAt_own {w:World} {base n:Nat} {ad:Option Addr} {c:Nat} {R:List (Int × Int)} (h:w.ownsRow base 70 2 (.slice ad n c) R.length (O2 R)) (hn:n=R.length):RowAt w.heap.size w (.slice ad n c) R:=by
 subst hn
 refine ⟨ad,c,rfl,?_⟩
 rcases h.2 with ⟨_,h0⟩ | ⟨b,cap,cur,e,_⟩
 ·exact .inl h0
 ·right
  simp only [Value.slice.injEq] at e
  have hb:=(h.lt b (by rw [e.1];rfl)).2
  rw [e.1] at h
  refine ⟨b,0,e.1,hb,fun k hk=>?_,fun k hk=>?_⟩
  ·rw [Nat.zero_add,h.cellAt (k * 2) (by omega),(O2_at R k hk).1]
   simp [List.getD_eq_getElem?_getD,List.getElem?_eq_getElem hk]
  ·rw [Nat.zero_add,h.cellAt (k * 2 + 1) (by omega),(O2_at R k hk).2]
   simp [List.getD_eq_getElem?_getD,List.getElem?_eq_getElem hk]
theorem RowAt.src {w:World} {B:Nat} {ad:Option Addr} {n c:Nat} {R:List (Int × Int)} (h:RowAt B w (.slice ad n c) R) (hp:0 < n) (hn:n=R.length):∃ b f,ad=some ⟨b,f,none⟩∧∀ j u,(O2 R)[j]?=some u→w.cell? ⟨b,f + j,none⟩=some u:=by
 obtain ⟨ad',cap,e,h1⟩:=h
 simp only [Value.slice.injEq] at e
 obtain ⟨rfl,_,rfl⟩:=e
 rcases h1 with h0 | ⟨b,off,rfl,_,h2,h3⟩
 ·omega
 ·refine ⟨b,off,rfl,fun j u hj=>?_⟩
  have hjl:j < (O2 R).length:=(List.getElem?_eq_some_iff.1 hj).1
  rw [O2_len] at hjl
  have hk:j / 2 < R.length:=by omega
  obtain ⟨o1,o2⟩:=O2_at R (j / 2) hk
  have g:R.getD (j / 2) (0,0)=R[j / 2]:=by simp [List.getD_eq_getElem?_getD,List.getElem?_eq_getElem hk]
  rcases Nat.mod_two_eq_zero_or_one j with h0 | h0
  ·have e:j=j / 2 * 2:=by omega
   rw [e] at hj ⊢
   rw [o1] at hj
   rw [h2 (j / 2) hk,g]
   exact hj
  ·have e:j=j / 2 * 2 + 1:=by omega
   rw [e] at hj ⊢
   rw [o2] at hj
   rw [← Nat.add_assoc,h3 (j / 2) hk,g]
   exact hj
abbrev Z5:Value:=.agg #[.int .i64 0,.int .i64 0,.int .i64 0,.int .i64 0,.slice none 0 0]
abbrev BxM (w:World) (m:Nat) (z1:Option Addr) (n c:Nat):Prop:=w.heap[m]?=some (.cells #[.slice z1 n c] 93 (0,0))
set_option maxRecDepth 100000 in
set_option maxHeartbeats 4000000 in
theorem add42 {w:World} {m:Nat} {z1:Option Addr} {n c base:Nat} {xs:List Value} (N:Iv) (hm:BxM w m z1 n c) (hrow:w.ownsRow base 86 5 (.slice z1 n c) n xs) (hn:n≤20000) (hb:base≤w.heap.size) :
  Calls Tryz.prog 95 #[pt m,N.v] w fun e w'=>e=.returned (.tuple #[])∧∃ z1' c',BxM w' m z1' (n + 1) c'∧w'.ownsRow base 86 5 (.slice z1' (n + 1) c') (n + 1) (xs ++ Iv.cs N)∧(∀ b,(Value.slice z1' (n + 1) c').ownBlock=some b→(Value.slice z1 n c).ownBlock=some b∨w.heap.size≤b)∧Chs (fun b=>b=m∨(Value.slice z1 n c).ownBlock=some b) w w':=by
 obtain ⟨i2,hi2,hz20,hz21,hz22⟩:=info_parts info51
 obtain ⟨op,xx,yy,aa,r1,r2,r3⟩:=N
 have hml:m < w.heap.size:=(Array.getElem?_eq_some_iff.1 hm).1
 have hmz:(Value.slice z1 n c).ownBlock≠some m:=own_ne hrow hm (by decide)
 obtain ⟨U,hU⟩:∃ U,U=w.alloc (.cells #[.int .i64 op,.int .i64 xx,.int .i64 yy,.int .i64 aa,.slice r1 r2 r3] 86):=⟨_,rfl⟩
 have hbU:Below w.heap.size w U:=by rw [hU];exact Joins.below_alloc1 w _
 have hQ:U.heap[w.heap.size]?=some (.cells #[.int .i64 op,.int .i64 xx,.int .i64 yy,.int .i64 aa,.slice r1 r2 r3] 86 (0,0)):=by rw [hU];exact heap_alloc_new w _
 have hmU:U.heap[m]?=some (.cells #[.slice z1 n c] 93 (0,0)):=(hbU.block m hml).trans hm
 have hsU:w.heap.size < U.heap.size:=(Array.getElem?_eq_some_iff.1 hQ).1
 have hmlU:m < U.heap.size:=by omega
 obtain ⟨d0,d1,d2,d3,d4⟩:=five hQ
 have p0:U.cell? ⟨m,0,none⟩=some (.slice z1 n c):=Joins.cell_of_block hmU 0
 have HRU:Hid (U.ownsRow base 86 5 (.slice z1 n c) n xs):=row_kept hrow (fun b hb'=>hbU.block b (hrow.lt b hb').2)
 have HO6:Hid ((U.drew.alloc (.cells #[.int .i64 op,.int .i64 xx,.int .i64 yy,.int .i64 aa,.slice r1 r2 r3] 86)).ownsRow base 86 5 (.slice z1 n c) n xs):=(HRU.out.drew).alloc _
 have HBU:=hid hbU
 have HMU:=hid hmU
 have HROW:=hid hrow
 obtain ⟨p,hp⟩:∃ p,p=w.heap.size:=⟨_,rfl⟩
 clear hbU hQ hmU hm hrow
 go_enter Tryz.func95,Tryz.ntmps95
 go_upto_region 1 with fail
 rw [← hU,← hp]
 rw [← hp] at d0 d1 d2 d3 d4
 have HPE:=hid hp
 have hpU:p < U.heap.size:=by omega
 clear hU hp
 refine wp_region_lex 6 10 (fun W=>W.cell? ⟨m,0,none⟩=some (.slice z1 n c)∧W.cell? ⟨p,0,none⟩=some (.int .i64 op)∧W.cell? ⟨p,1,none⟩=some (.int .i64 xx)∧W.cell? ⟨p,2,none⟩=some (.int .i64 yy)∧W.cell? ⟨p,3,none⟩=some (.int .i64 aa)∧W.cell? ⟨p,4,none⟩=some (.slice r1 r2 r3)) (by kernel_rfl) (by kernel_rfl) (by decide) (by kernel_rfl) (by kernel_rfl) ⟨by simpa using p0,by simpa using d0,by simpa using d1,by simpa using d2,by simpa using d3,by simpa using d4⟩ ?_
 simp only [List.take_succ_cons,List.take_zero,List.drop_succ_cons,List.drop_zero]
 iterate 6
  refine lex_cons ?_ rfl (fun W hW=>?_) (fun _ _ _ h=>h) ?_
  rotate_left
  ·obtain ⟨s0,s1,s2,s3,s4,s5⟩:=hW
   go_simp <;> with_reducible rfl
  simp only [Act.put,List.setIfInBounds_toArray,List.set_cons_zero,List.set_cons_succ]
 refine lex_nil (tail_cons fun K hK=>?_)
 go_simp
 refine hK.out _ _ (fun _=>⟨by simp [p0,hmlU,World.cell?_alloc_lt],by simp [d0,hpU,World.cell?_alloc_lt],by simp [d1,hpU,World.cell?_alloc_lt],by simp [d2,hpU,World.cell?_alloc_lt],by simp [d3,hpU,World.cell?_alloc_lt],by simp [d4,hpU,World.cell?_alloc_lt]⟩) (tail_cons fun K hK=>?_)
 refine step_append_row rfl (.tmp 8) (.tmp 10) 44 rfl base 86 i2 Z5 5 56 Tryz.underlying44 hi2 hz20 hz21 hz22 rfl (by decide) (.slice z1 n c) n xs (by simp [Act.eval,Act.put]) (by exact HO6.out) U.heap.size 1 1 #[.int .i64 op,.int .i64 xx,.int .i64 yy,.int .i64 aa,.slice r1 r2 r3] 86 (by simp [Act.eval,Act.put]) (by exact heap_alloc_new U.drew _) rfl (by decide) (by simp [Value.oneCell']) (by unfold maxLen;omega) (by omega) (by (try simp) <;> omega) ?_
 intro v3 w3 ho3 hf3
 obtain ⟨y1,y3,rfl,_⟩:=row_shape ho3.out
 have hz3:U.heap.size + 1≤w3.heap.size:=(by have:=hf3.out.size;simpa using this)
 have hpz:(Value.slice z1 n c).ownBlock≠some p:=fun e=>by have:=(HROW.out.lt p e).2;have:=HPE.out;omega
 have e1:w3.heap[m]?=U.heap[m]?:=(hf3.out.block m (by (try simp) <;> omega) hmz).trans (heap_alloc_old _ _ (by (try simp) <;> omega))
 have e2:w3.heap[p]?=U.heap[p]?:=(hf3.out.block p (by (try simp) <;> omega) hpz).trans (heap_alloc_old _ _ (by (try simp) <;> omega))
 have q0:=(cell_eq e1 0).trans p0
 have q1:=(frz_eq e1 0).trans (Joins.unfrozen_of_block HMU.out 0)
 have E1:=hid e1
 have t0:=(cell_eq e2 0).trans d0
 have t1:=(cell_eq e2 1).trans d1
 have t2:=(cell_eq e2 2).trans d2
 have t3:=(cell_eq e2 3).trans d3
 have t4:=(cell_eq e2 4).trans d4
 clear e1 e2
 refine hK.out _ _ (fun _=>⟨q0,t0,t1,t2,t3,t4⟩) (tail_cons fun K hK=>?_)
 simp only [Act.put,List.setIfInBounds_toArray,List.set_cons_zero,List.set_cons_succ]
 go_simp
 refine hK.out _ _ (fun _=>⟨q0,t0,t1,t2,t3,t4⟩) (tail_cons fun K hK=>?_)
 simp only [Act.put,List.setIfInBounds_toArray,List.set_cons_zero,List.set_cons_succ]
 go_simp
 refine hK.out _ _ (fun _=>⟨q0,t0,t1,t2,t3,t4⟩) (tail_cons fun K hK=>?_)
 simp only [Act.put,List.setIfInBounds_toArray,List.set_cons_zero,List.set_cons_succ]
 go_simp
 refine hK.out _ _ (fun h=>absurd rfl h) (tail_nil ?_)
 go_wp2_with fail
 go_end0
 have hy1:∀ b,(Value.slice y1 (n + 1) y3).ownBlock=some b→(Value.slice z1 n c).ownBlock=some b∨U.heap.size≤b:=fun b hb=>(hf3.out.own b hb).imp id (fun h=>by (try simp at h) <;> omega)
 have hmy:(Value.slice y1 (n + 1) y3).ownBlock≠some m:=fun e=>by
  rcases hy1 m e with h | h
  ·exact hmz h
  ·omega
 refine ⟨rfl,y1,y3,?_,own_setCell ho3.out hmy,fun b hb=>(hy1 b hb).imp id (fun h=>by omega),⟨?_,?_,?_,?_,fun b hb hn'=>?_⟩⟩
 ·exact Joins.block_setCell (i:=0) (E1.out.trans HMU.out) _
 ·exact hf3.out.os.trans HBU.out.os
 ·exact hf3.out.tape.trans HBU.out.tape
 ·exact hf3.out.output.trans HBU.out.output
 ·simp [World.setCell];omega
 ·exact (Below.heap_setCell _ _ _ _ (fun e=>hn' (.inl e))).trans ((hf3.out.block b (by (try simp) <;> omega) (fun h=>hn' (.inr h))).trans ((heap_alloc_old _ _ (by (try simp) <;> omega)).trans (HBU.out.block b hb)))
def MK (w:World) (m base n:Nat) (xs:List Value):Prop:=∃ z1 c,BxM w m z1 n c∧w.ownsRow base 86 5 (.slice z1 n c) n xs
structure Fr (base:Nat) (w w':World):Prop where
 os:w'.os=w.os
 tape:w'.tape=w.tape
 output:w'.output=w.output
 size:w.heap.size≤w'.heap.size
 blk:∀ (b:Nat) (cs:Array Value) (t:TypeId) (fr:Nat × Nat),w.heap[b]?=some (.cells cs t fr)→t≠86→t≠93→w'.heap[b]?=some (.cells cs t fr)
 low:∀ b,b < base→w'.heap[b]?=w.heap[b]?
theorem Fr.trans {base:Nat} {w w1 w2:World} (h:Fr base w w1) (h':Fr base w1 w2):Fr base w w2:=
 ⟨h'.os.trans h.os,h'.tape.trans h.tape,h'.output.trans h.output,Nat.le_trans h.size h'.size,fun b cs t fr e h1 h2=>h'.blk b cs t fr (h.blk b cs t fr e h1 h2) h1 h2,fun b hb=>(h'.low b hb).trans (h.low b hb)⟩
theorem Fr.of_below {base:Nat} {w w':World} (h:Below w.heap.size w w') (hb:base≤w.heap.size):Fr base w w':=
 ⟨h.os,h.tape,h.output,h.size,fun b cs t fr e _ _=>(h.block b (Array.getElem?_eq_some_iff.1 e).1).trans e,fun b hb'=>h.block b (by omega)⟩
theorem MK.below {w w':World} {m base n:Nat} {xs:List Value} (h:MK w m base n xs) (hb:Below w.heap.size w w'):MK w' m base n xs:=by
 obtain ⟨z1,c,h1,h2⟩:=h
 exact ⟨z1,c,(hb.block m (Array.getElem?_eq_some_iff.1 h1).1).trans h1,row_kept h2 (fun b hb'=>hb.block b (h2.lt b hb').2)⟩
theorem add42' {w:World} {m base n:Nat} {xs:List Value} (N:Iv) (h:MK w m base n xs) (hm:base≤m) (hn:n≤20000) (hb:base≤w.heap.size) :
  Calls Tryz.prog 95 #[pt m,N.v] w fun e w'=>e=.returned (.tuple #[])∧MK w' m base (n + 1) (xs ++ Iv.cs N)∧Fr base w w':=by
 obtain ⟨z1,c,h1,h2⟩:=h
 refine (add42 N h1 h2 hn hb).mono ?_
 rintro e w' ⟨rfl,z1',c',g1,g2,g3,g4⟩
 refine ⟨rfl,⟨z1',c',g1,g2⟩,⟨g4.os,g4.tape,g4.output,g4.size,fun b cs t fr e h51 h64=>(g4.block b (Array.getElem?_eq_some_iff.1 e).1 ?_).trans e,fun b hb'=>g4.block b (by omega) ?_⟩⟩
 ·rintro (rfl | h)
  ·rw [h1] at e;cases e;exact h64 rfl
  ·exact own_ne h2 e h51 h
 ·rintro (rfl | h)
  ·omega
  ·have:=(h2.lt b h).1;omega
set_option maxRecDepth 100000 in
set_option maxHeartbeats 4000000 in
theorem step48 {w:World} {m base n:Nat} {xs:List Value} (op yy aa:Int) (r1:Option Addr) (r2 r3:Nat) (h:MK w m base n xs) (hm:base≤m) (hn:n≤20000) (hb:base≤w.heap.size) :
  Calls Tryz.prog 93 #[pt m,(⟨op,0,yy,aa,r1,r2,r3⟩:Iv).v] w fun e w'=>e=.returned (.tuple #[])∧MK w' m base (n + 1) (xs ++ Iv.cs ⟨op,(n:Int) + 1,yy,aa,r1,r2,r3⟩)∧Fr base w w':=by
 obtain ⟨U,hU⟩:∃ U,U=w.alloc (.cells #[.int .i64 op,.int .i64 0,.int .i64 yy,.int .i64 aa,.slice r1 r2 r3] 86):=⟨_,rfl⟩
 have hbU:Below w.heap.size w U:=by rw [hU];exact Joins.below_alloc1 w _
 have hQ:U.heap[w.heap.size]?=some (.cells #[.int .i64 op,.int .i64 0,.int .i64 yy,.int .i64 aa,.slice r1 r2 r3] 86 (0,0)):=by rw [hU];exact heap_alloc_new w _
 obtain ⟨z1,c,g1,g2⟩:=h.below hbU
 have HN:=next65c m 0 z1 n c U (Joins.cell_of_block g1 0)
 have hmw:m < w.heap.size:=by obtain ⟨_,_,k1,_⟩:=h;exact (Array.getElem?_eq_some_iff.1 k1).1
 have f1:=Joins.unfrozen_of_block hQ 1
 have ad1:IntKind.i64.wrap ((n:Int) + 1)=(n:Int) + 1:=by simp [IntKind.wrap,IntKind.bits,IntKind.signed];omega
 obtain ⟨V,hV⟩:∃ V,V=U.setCell ⟨w.heap.size,1,none⟩ (.int .i64 ((n:Int) + 1)):=⟨_,rfl⟩
 have hbV:Below w.heap.size w V:=by rw [hV];exact hbU.setCell (p:=⟨w.heap.size,1,none⟩) (Nat.le_refl _) _
 have hQV:V.heap[w.heap.size]?=some (.cells #[.int .i64 op,.int .i64 ((n:Int) + 1),.int .i64 yy,.int .i64 aa,.slice r1 r2 r3] 86 (0,0)):=by rw [hV];exact Joins.block_setCell (i:=1) hQ _
 obtain ⟨d0,d1,d2,d3,d4⟩:=five hQV
 have HA:=add42' ⟨op,(n:Int) + 1,yy,aa,r1,r2,r3⟩ (h.below hbV) hm hn (Nat.le_trans hb hbV.size)
 have HF:=hid (Fr.of_below hbV hb)
 obtain ⟨c0,c1,c2,c3,c4⟩:=five hQ
 clear h hbU hQ g1 g2 hbV hQV
 obtain ⟨p,hp⟩:∃ p,p=w.heap.size:=⟨_,rfl⟩
 go_enter Tryz.func93,Tryz.ntmps93
 go_upto_region 1 with fail
 rw [← hU,← hp]
 rw [← hp] at f1 d0 d1 d2 d3 d4 hV c0 c1 c2 c3 c4
 clear hU hp
 go_upto_region 2 with (go_at_call 137;(with_reducible refine HN.mono ?_);rintro e w2 ⟨rfl,hw⟩;have hw':=hw.symm;clear hw;subst hw';clear HN)
 rw [← hV]
 clear hV c0 c1 c2 c3 c4 f1
 go_wp2_with (first | (go_at_call 95;(with_reducible refine HA.mono ?_);rintro e w3 ⟨rfl,hM,hf⟩;have HM:=hid hM;have HF3:=hid hf;clear hM hf HA))
 go_end0
 exact ⟨rfl,HM.out,HF.out.trans HF3.out⟩
theorem make51 (c:Nat) (hc:c * 56≤140737488355328) (w:World):(Instr.makeSlice 44 (.int .i64 0) (.int .i64 (c:Int))).run Tryz.prog w=.ok (.slice (some ⟨w.heap.size,0,none⟩) 0 c) (w.alloc (.cells (madeCells Z5.cells (c * 5)) 86)):=by
 obtain ⟨i0,hi0,hz0,hz1,hz2⟩:=info_parts info51
 have h:=run_make (P:=Tryz.prog) w 44 86 i0 Z5 Tryz.underlying44 hi0 hz0 .i64 .i64 0 c (by omega) (by omega) (by rw [hz2];omega) (by omega)
 simp only [Int.toNat_natCast,hz1,Int.toNat_zero] at h
 exact h
theorem made_own51 (c:Nat) (hc:c≤maxLen) (base:Nat) (w:World) (hb:base≤w.heap.size):(w.alloc (.cells (madeCells Z5.cells (c * 5)) 86)).ownsRow base 86 5 (.slice (some ⟨w.heap.size,0,none⟩) 0 c) 0 []:=
 ⟨rfl,.inr ⟨w.heap.size,c,_,rfl,hb,heap_alloc_new w _,Nat.zero_le _,hc,size_madeCells _ _,by simp⟩⟩
theorem Fr.bel {base:Nat} {A:Nat→Prop} {w w':World} (h:Fr base w w') (hA:∀ b,A b→b < base):∀ b,A b→w'.heap[b]?=w.heap[b]?:=fun b hb=>h.low b (hA b hb)
theorem drew_below (w:World):Below w.heap.size w w.drew:=⟨rfl,rfl,rfl,Nat.le_refl _,fun _ _=>rfl⟩
def In.setX (x:Int) (I:In):In:=⟨I.op,x,I.y,I.a,I.R⟩
def In.setY (y:Int) (I:In):In:=⟨I.op,I.x,y,I.a,I.R⟩
def Iv.setX (x:Int) (N:Iv):Iv:=⟨N.op,x,N.y,N.a,N.r1,N.r2,N.r3⟩
def Iv.setY (y:Int) (N:Iv):Iv:=⟨N.op,N.x,y,N.a,N.r1,N.r2,N.r3⟩
theorem flat5_X:∀ (MS:List Iv) (i:Nat) (x:Int),i < MS.length→(MS.flatMap Iv.cs).set (i * 5 + 1) (.int .i64 x)=(MS.modify i (Iv.setX x)).flatMap Iv.cs
 | [],i,x,h=>by simp at h
 | M :: MS,0,x,h=>by simp [Iv.setX,List.modify]
 | M :: MS,i + 1,x,h=>by
  have ih:=flat5_X MS i x (by simpa using h)
  rw [List.flatMap_cons,show (i + 1) * 5 + 1=(Iv.cs M).length + (i * 5 + 1) by simp;omega,List.set_append_right _ _ (by omega),Nat.add_sub_cancel_left,ih]
  simp [List.modify]
theorem flat5_Y:∀ (MS:List Iv) (i:Nat) (x:Int),i < MS.length→(MS.flatMap Iv.cs).set (i * 5 + 2) (.int .i64 x)=(MS.modify i (Iv.setY x)).flatMap Iv.cs
 | [],i,x,h=>by simp at h
 | M :: MS,0,x,h=>by simp [Iv.setY,List.modify]
 | M :: MS,i + 1,x,h=>by
  have ih:=flat5_Y MS i x (by simpa using h)
  rw [List.flatMap_cons,show (i + 1) * 5 + 2=(Iv.cs M).length + (i * 5 + 2) by simp;omega,List.set_append_right _ _ (by omega),Nat.add_sub_cancel_left,ih]
  simp [List.modify]
theorem row_set1 {w:World} {base e s g n cap j:Nat} {xs:List Value} (h:w.ownsRow base e s (.slice (some ⟨g,0,none⟩) n cap) n xs) (hj:j < xs.length) (v:Value):(w.setCell ⟨g,j,none⟩ v).ownsRow base e s (.slice (some ⟨g,0,none⟩) n cap) n (xs.set j v):=by
 have hlen:=h.1
 refine ⟨by simpa using hlen,.inr ?_⟩
 rcases h.2 with ⟨h,_⟩ | ⟨g',cap',cur,he,hb,hgg,h1,h2,h3,h4⟩
 ·cases h
 ·simp only [Value.slice.injEq,Option.some.injEq,Addr.mk.injEq] at he
  obtain ⟨⟨rfl,_⟩,_,rfl⟩:=he
  refine ⟨g,cap,cur.setIfInBounds j v,rfl,hb,Joins.block_setCell hgg v,h1,h2,by simpa using h3,?_⟩
  rw [← h4,Array.toList_setIfInBounds]
  exact List.take_set
theorem modify_mid (l r:List In) (I:In) (f:In→In):(l ++ I :: r).modify l.length f=l ++ f I :: r:=by
 induction l with
 | nil=>simp [List.modify]
 | cons J l ih=>simp only [List.cons_append,List.length_cons,List.modify_succ_cons,ih]
theorem fork_eq (r q:Nat) (lz:Bool):In.setY (if lz then (r:Int) else (q:Int)) (In.setX (if lz then (q:Int) else (r:Int)) ⟨2,0,0,0,[]⟩)=forkI r q lz:=by
 cases lz <;> rfl
def layB:List Tn→Nat→Int→List In
 | [],_,_=>[]
 | t :: ts,n,f=>⟨2,((n + 1:Nat):Int),((n + t.len + 2:Nat):Int),0,[]⟩ :: (t.lay (n + 1) ++ ⟨7,f,0,0,[]⟩ :: layB ts (n + t.len + 2) f)
def endsB:List Tn→Nat→List Nat
 | [],_=>[]
 | t :: ts,n=>(n + 1 + t.len) :: endsB ts (n + t.len + 2)
theorem layA_B:∀ (s:List Tn) (u:Tn) (n:Nat) (f:Int),layA (s ++ [u]) n f=layB s n f ++ u.lay (n + lenL s + 2 * s.length)
 | [],u,n,f=>by simp [layA,layB,lenL]
 | [t],u,n,f=>by simp [layA,layB,lenL]
 | t :: v :: s,u,n,f=>by
  have ih:=layA_B (v :: s) u (n + t.len + 2) f
  simp only [List.cons_append] at ih
  simp only [List.cons_append,layA,layB,ih,lenL,List.length_cons,List.append_assoc]
  rw [show n + t.len + 2 + (v.len + lenL s) + 2 * (s.length + 1)=n + (t.len + (v.len + lenL s)) + 2 * (s.length + 1 + 1) by omega]
theorem layB_len:∀ (s:List Tn) (n:Nat) (f:Int),(layB s n f).length=lenL s + 2 * s.length
 | [],n,f=>rfl
 | t :: s,n,f=>by simp only [layB,lenL,List.length_cons,List.length_append,lay_len,layB_len s];omega
theorem endsB_len:∀ (s:List Tn) (n:Nat),(endsB s n).length=s.length
 | [],n=>rfl
 | t :: s,n=>by simp only [endsB,List.length_cons,endsB_len s]
theorem layB_app:∀ (s:List Tn) (t:Tn) (n:Nat) (f:Int),layB (s ++ [t]) n f=layB s n f ++ (⟨2,((n + lenL s + 2 * s.length + 1:Nat):Int),((n + lenL s + 2 * s.length + t.len + 2:Nat):Int),0,[]⟩ :: (t.lay (n + lenL s + 2 * s.length + 1) ++ [⟨7,f,0,0,[]⟩]))
 | [],t,n,f=>by simp [layB,lenL]
 | v :: s,t,n,f=>by
  have ih:=layB_app s t (n + v.len + 2) f
  simp only [List.cons_append,layB,ih,lenL,List.length_cons,List.append_assoc]
  rw [show n + v.len + 2 + lenL s + 2 * s.length=n + (v.len + lenL s) + 2 * (s.length + 1) by omega]
theorem endsB_app:∀ (s:List Tn) (t:Tn) (n:Nat),endsB (s ++ [t]) n=endsB s n ++ [n + lenL s + 2 * s.length + 1 + t.len]
 | [],t,n=>by simp [endsB,lenL]
 | v :: s,t,n=>by
  have ih:=endsB_app s t (n + v.len + 2)
  simp only [List.cons_append,endsB,ih,lenL,List.length_cons]
  rw [show n + v.len + 2 + lenL s + 2 * s.length + 1 + t.len=n + (v.len + lenL s) + 2 * (s.length + 1) + 1 + t.len by omega]
def setAll (f:Int) (L:List In) (es:List Nat):List In:=es.foldl (fun L e=>L.modify e (In.setX f)) L
theorem setAll_len (f:Int):∀ (es:List Nat) (L:List In),(setAll f L es).length=L.length
 | [],L=>rfl
 | e :: es,L=>by
  show (setAll f (L.modify e (In.setX f)) es).length=_
  rw [setAll_len f es,List.length_modify]
theorem setAll_B (f:Int):∀ (s:List Tn) (n:Nat) (pre suf:List In),pre.length=n→setAll f (pre ++ (layB s n 0 ++ suf)) (endsB s n)=pre ++ (layB s n f ++ suf)
 | [],n,pre,suf,h=>rfl
 | t :: s,n,pre,suf,h=>by
  show setAll f ((pre ++ (layB (t :: s) n 0 ++ suf)).modify (n + 1 + t.len) (In.setX f)) (endsB s (n + t.len + 2))=_
  have e1:pre ++ (layB (t :: s) n 0 ++ suf)=(pre ++ ⟨2,((n + 1:Nat):Int),((n + t.len + 2:Nat):Int),0,[]⟩ :: t.lay (n + 1)) ++ ⟨7,0,0,0,[]⟩ :: (layB s (n + t.len + 2) 0 ++ suf):=by simp [layB,List.append_assoc]
  have e2:(pre ++ (⟨2,((n + 1:Nat):Int),((n + t.len + 2:Nat):Int),0,[]⟩:In) :: t.lay (n + 1)).length=n + 1 + t.len:=by simp [lay_len,h];omega
  rw [e1,← e2,modify_mid]
  have ih:=setAll_B f s (n + t.len + 2) ((pre ++ ⟨2,((n + 1:Nat):Int),((n + t.len + 2:Nat):Int),0,[]⟩ :: t.lay (n + 1)) ++ [⟨7,f,0,0,[]⟩]) suf (by rw [List.length_append,e2];simp;omega)
  have e3:(pre ++ ⟨2,((n + 1:Nat):Int),((n + t.len + 2:Nat):Int),0,[]⟩ :: t.lay (n + 1)) ++ In.setX f ⟨7,0,0,0,[]⟩ :: (layB s (n + t.len + 2) 0 ++ suf)=((pre ++ ⟨2,((n + 1:Nat):Int),((n + t.len + 2:Nat):Int),0,[]⟩ :: t.lay (n + 1)) ++ [⟨7,f,0,0,[]⟩]) ++ (layB s (n + t.len + 2) 0 ++ suf):=by simp [In.setX,List.append_assoc]
  rw [e3,ih]
  simp [layB,List.append_assoc]
theorem setAll_take (f:Int) (L:List In) (es:List Nat) (j:Nat) (hj:j < es.length):setAll f L (es.take (j + 1))=(setAll f L (es.take j)).modify es[j] (In.setX f):=by
 unfold setAll
 rw [List.take_succ_eq_append_getElem hj,List.foldl_append];rfl
theorem endsB_lt:∀ (s:List Tn) (n:Nat) (e:Nat),e ∈ endsB s n→e < n + lenL s + 2 * s.length
 | [],n,e,h=>by simp [endsB] at h
 | t :: s,n,e,h=>by
  simp only [endsB,List.mem_cons] at h
  simp only [lenL,List.length_cons]
  rcases h with rfl | h
  ·omega
  ·have:=endsB_lt s _ e h;omega
def EB (w:World) (z n:Nat) (es:List Nat):Prop:=∃ arr:Array Value,w.heap[z]?=some (.cells arr 3 (0,0))∧arr.size=n∧∀ j (hj:j < es.length),arr[j]?=some (.int .i64 ((es[j]:Nat):Int))
theorem EB.fr {base:Nat} {w w':World} {z n:Nat} {es:List Nat} (h:EB w z n es) (hf:Fr base w w'):EB w' z n es:=by
 obtain ⟨arr,h1,h2,h3⟩:=h
 exact ⟨arr,hf.blk z _ _ _ h1 (by decide) (by decide),h2,h3⟩
theorem EB.set {w:World} {z n:Nat} {es:List Nat} (h:EB w z n es) (e:Nat) (he:es.length < n):EB (w.setCell ⟨z,es.length,none⟩ (.int .i64 ((e:Nat):Int))) z n (es ++ [e]):=by
 obtain ⟨arr,h1,h2,h3⟩:=h
 refine ⟨arr.setIfInBounds es.length (.int .i64 ((e:Nat):Int)),Joins.block_setCell h1 _,by simpa using h2,fun j hj=>?_⟩
 simp only [List.length_append,List.length_cons,List.length_nil] at hj
 rw [Array.getElem?_setIfInBounds]
 by_cases e':j=es.length
 ·subst e'
  rw [if_pos rfl,if_pos (by omega)]
  simp
 ·rw [if_neg (by omega),List.getElem_append_left (by omega)]
  exact h3 j (by omega)
theorem make3 (c:Nat) (hc:c≤1000000) (w:World):(Instr.makeSlice 26 (.int .i64 (c:Int)) (.int .i64 (c:Int))).run Tryz.prog w=.ok (.slice (some ⟨w.heap.size,0,none⟩) c c) (w.alloc (.cells (madeCells (Value.int .i64 0).cells c) 3)):=by
 obtain ⟨i0,hi0,hz0,hz1,hz2⟩:=info_parts info3
 have h:=run_make (P:=Tryz.prog) w 26 3 i0 (.int .i64 0) Tryz.underlying26 hi0 hz0 .i64 .i64 c c (by omega) (Int.le_refl _) (by rw [hz2];omega) (by omega)
 simp only [Int.toNat_natCast,hz1,Nat.mul_one] at h
 exact h
theorem EB.made (w:World) (c:Nat):EB (w.alloc (.cells (madeCells (Value.int .i64 0).cells c) 3)) w.heap.size c []:=⟨_,heap_alloc_new w _,size_madeCells _ _,fun j hj=>by simp at hj⟩
end Go.Proofs.YtacaanhnlfpbhaaGreat
