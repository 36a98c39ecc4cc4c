/- HELPERS: texts of ours put together. -/
import Derived.Test.YtbdhiichhcihgaaK01
import Derived.Test.YtbdhiichhcihgaaProg
import Derived.WalkKit
import Derived.ProofKit
import Derived.BigQuiet
import Derived.WalkSmall
import Derived.Deep.QuietTactic
import Derived.Deep.RegionWith
import Derived.Lib.SmallJoins
import Derived.Lib.MinMax
import Derived.Maps.AppendAt
import Derived.Laws.AppendOwnNone
import Derived.Lib.Small
import Derived.Deep.SlicePairs
import Derived.RowKit
import Derived.Deep.Cut
import Derived.Deep.CutRange
import Derived.Deep.RegionHeld3
import Derived.Laws.EntriesVeiled
import Derived.OrdersHeld
import Derived.StillTail
import Derived.Tactics
import Derived.Below
import Derived.Deep.MidRow
import Derived.Deep.OwnRows
import Derived.Laws.Rows
import Derived.WalkLawsBesides
import Derived.Deep.RegionLaw
import Derived.Laws.CopyOwn
import Derived.Lib.LazyBuf
import Derived.Deep.WholeRow
namespace Go.Proofs.Ytbdhiichhcihgaa
open Go.RowKit Go.Deep Go.ChangeShapes Go.WideShapes
set_option linter.unusedVariables false
set_option linter.unusedSimpArgs false
theorem smallL_of:∀ {ts:List Tn},(∀ t ∈ ts,t.small = true) → smallL ts = true
 | [],_ => rfl
 | t :: ts,h => by simp only [smallL,Bool.and_eq_true];exact ⟨h t (by simp),smallL_of fun u hu => h u (by simp [hu])⟩
theorem weightsAll_memT {H:Type} {P:Program} {e:TypeId}:∀ {l:List (DataW H)} {d:DataW H},d ∈ l → ∀ n ∈ d.weights P e,n ∈ DataW.weightsAll P e l
 | x :: l,d,hd,n,hn => by
  simp only [DataW.weightsAll,List.mem_append]
  rcases List.mem_cons.1 hd with rfl | h
  ·exact .inl hn
  ·exact .inr (weightsAll_memT h n hn)
section
variable {H:Type} {enc:TypeId × Value → H} {P:Program} {w:World} {base:Nat} {spare:Nat → Bool} {held:Bool} {tn ts tr te ti tb tg:TypeId} {f:Nat → Field} {g0 g1:Field}
theorem ranges_smallT (S:NodeTy P tn ts tr te ti tb tg f g0 g1) (hby:P.bytesOf te = 16) {fuel:Nat} {cs:List Value} {x:DataW H × List MemPlace} (h:DataW.trod enc P w base spare held fuel tr cs = some x) (hw:∀ n ∈ x.1.weights P tr,n ≤ reachBytes) {ad:Option Addr} {n c:Nat} (hc:cs = [.slice ad n c]):n * 16 ≤ 140737488351232:=by
 rcases DataW.trod_slice S.hr h with ⟨e,_⟩ | ⟨a,len,cap,elems,rest,n',_,e,hx,_,_,_,hel,_⟩
 ·rw [hc] at e
  simp at e
  omega
 ·rw [hc] at e
  simp at e
  have:=hw ((elems.length + rest.length) * P.bytesOf te) (by rw [hx];simp [DataW.weights,S.hr])
  rw [hby] at this
  have hr:reachBytes = 140737488351232:=by decide
  omega
theorem open_nodeS (S:NodeTy P tn ts tr te ti tb tg f g0 g1) (hby:P.bytesOf te = 16):∀ (fuel:Nat) (cs:List Value) (x:DataW H × List MemPlace),DataW.trod enc P w base spare held fuel tn cs = some x → (∀ n ∈ x.1.weights P tn,n ≤ reachBytes) → ∃ N t,cs = Nv.cs N ∧ TI w w.heap.size N t ∧ t.small = true:=by
 intro fuel
 induction fuel using Nat.strongRecOn with
 | _ fuel ih =>
 intro cs x h hwt
 obtain ⟨xs,n,hf,rfl,hl,hxl,hfs⟩:=DataW.trod_struct S.hn h
 rw [S.cn] at hl
 simp only [List.size_toArray,List.length_cons,List.length_nil] at hxl
 obtain ⟨t0,t1,t2,t3,t4,t5,t6,t7,t8⟩:=S.ty
 match xs,hxl,cs,hl with
 | [y0,y1,y2,y3,y4,y5,y6,y7,y8],_,[v0,v1,v2,v3,v4,v5,v6,v7,v8],_ =>
 have g0:=hfs 0 (f 0) rfl
 have g1:=hfs 1 (f 1) rfl
 have g2:=hfs 2 (f 2) rfl
 have g3:=hfs 3 (f 3) rfl
 have g4:=hfs 4 (f 4) rfl
 have g5:=hfs 5 (f 5) rfl
 have g6:=hfs 6 (f 6) rfl
 have g7:=hfs 7 (f 7) rfl
 have g8:=hfs 8 (f 8) rfl
 simp [t0,S.of,S.ci] at g0
 simp [t1,S.of,S.cr] at g1
 simp [t2,S.of,S.ci] at g2
 simp [t3,S.of,S.cs] at g3
 simp [t4,S.of,S.ci] at g4
 simp [t5,S.of,S.ci] at g5
 simp [t6,S.of,S.cb] at g6
 simp [t7,S.of,S.ci] at g7
 simp [t8,S.of,S.cg] at g8
 have hw1:∀ n ∈ y1.1.weights P tr,n ≤ reachBytes:=fun n hn => hwt n (by
  simp only [DataW.weights,S.hn]
  exact DataW.weights_mem_each (j:=1) (by simp [t1]) (by simp) n hn)
 have hw3:∀ n ∈ y3.1.weights P ts,n ≤ reachBytes:=fun n hn => hwt n (by
  simp only [DataW.weights,S.hn]
  exact DataW.weights_mem_each (j:=3) (by simp [t3]) (by simp) n hn)
 obtain ⟨k,e0,_,w0⟩:=DataW.trod_int S.hi g0
 obtain ⟨a2,e2,_,w2⟩:=DataW.trod_int S.hi g2
 obtain ⟨a4,e4,_,w4⟩:=DataW.trod_int S.hi g4
 obtain ⟨a5,e5,_,w5⟩:=DataW.trod_int S.hi g5
 obtain ⟨a7,e7,_,w7⟩:=DataW.trod_int S.hi g7
 obtain ⟨a6,e6,_⟩:=DataW.trod_bool S.hb g6
 obtain ⟨a8,e8,_,w8⟩:=DataW.trod_string S.hg g8
 obtain ⟨r1,r2,r3,R,e1,hr,hrc,hrm,hR,hRk⟩:=open_ranges S g1
 have hsr:R.length * 16 ≤ 140737488351232:=by rw [← hr];exact ranges_smallT S hby g1 hw1 e1
 simp only [List.cons.injEq,and_true] at e0 e1 e2 e4 e5 e6 e7 e8
 subst e0 e1 e2 e4 e5 e6 e7 e8
 rcases DataW.trod_slice S.hs g3 with ⟨e3,_⟩ | ⟨a,len,cap,elems,rest,n',hn',e3,hy3,hb,hlc,hcm,hel,hx,_,_⟩
 ·simp only [List.cons.injEq,and_true] at e3
  subst e3
  exact ⟨⟨k,r1,r2,r3,a2,none,0,0,a4,a5,a6,a7,a8⟩,_,rfl,.mk (ts:=[]) (ND:=fun _ => default) ⟨i64ok w0,i64ok w2,i64ok w4,i64ok w5,i64ok w7,w8,⟨hrc,hrm⟩,⟨Nat.le_refl _,by simp [maxLen]⟩⟩ hr hR hRk rfl (fun hp => absurd hp (by simp)) (fun i hi => absurd hi (by simp)),by simp only [Tn.small,smallL,Bool.and_true,decide_eq_true_eq];exact hsr⟩
 ·simp only [List.cons.injEq,and_true] at e3
  subst e3
  rw [S.cn] at hx
  have each:∀ i,i < len → ∃ q:Nv × Tn,(∀ j,j < 9 → w.cell? (a.add (i * 9 + j)) = (Nv.cs q.1)[j]?) ∧ TI w w.heap.size q.1 q.2 ∧ q.2.small = true:=fun i hi => by
   have h1:=hx i hi
   rw [List.getElem?_eq_getElem (by omega)] at h1
   obtain ⟨cs',h2,h3⟩:=Option.bind_eq_some_iff.1 h1
   obtain ⟨N,t,rfl,ht,hts⟩:=ih n' (by omega) cs' _ h3 (fun n hn => hw3 n (by rw [hy3];simp only [DataW.weights,S.hs];exact List.mem_cons_of_mem _ (List.mem_append_left _ (weightsAll_memT (List.mem_map.2 ⟨_,List.getElem_mem _,rfl⟩) n hn))))
   obtain ⟨_,_,hc⟩:=World.cells?_some h2
   exact ⟨(N,t),fun j hj => by have:=hc j hj;rwa [add_add] at this,ht,hts⟩
  obtain ⟨q,hq⟩:=choose_lt each
  refine ⟨⟨k,r1,r2,r3,a2,some a,len,cap,a4,a5,a6,a7,a8⟩,_,rfl,.mk (ts:=(List.range len).map fun i => (q i).2) (ND:=fun i => (q i).1) ⟨i64ok w0,i64ok w2,i64ok w4,i64ok w5,i64ok w7,w8,⟨hrc,hrm⟩,⟨hlc,hcm⟩⟩ hr hR hRk (by simp) (fun hp => ?_) (fun i hi => ?_),?_⟩
  ·simp only [List.length_map,List.length_range] at hp ⊢
   have hc0:=(hq 0 hp).1 0 (by omega)
   simp only [Nv.cs,List.getElem?_cons_zero] at hc0
   have hsp:a.spot = none:=by simpa [Addr.add] using World.cell?_spot hc0
   obtain ⟨b,o,sp⟩:=a
   simp only at hsp
   subst hsp
   refine ⟨b,o,rfl,World.block_lt_of_cell? _ _ hc0,fun i hi => ?_⟩
   have h1:=(hq i hi).1
   simp only [add_plain,← Nat.add_assoc] at h1
   exact ⟨by simpa using h1 0 (by omega),by simpa using h1 1 (by omega),by simpa using h1 2 (by omega),by simpa using h1 3 (by omega),by simpa using h1 4 (by omega),by simpa using h1 5 (by omega),by simpa using h1 6 (by omega),by simpa using h1 7 (by omega),by simpa using h1 8 (by omega)⟩
  ·simp only [List.length_map,List.length_range] at hi
   simpa using (hq i hi).2.1
  ·simp only [Tn.small,Bool.and_eq_true,decide_eq_true_eq]
   refine ⟨hsr,smallL_of fun t ht => ?_⟩
   obtain ⟨i,hi,rfl⟩:=List.mem_map.1 ht
   exact (hq i (List.mem_range.1 hi)).2.2
end
set_option maxRecDepth 100000
section
variable {H:Type} {enc:TypeId × Value → H} {W:World} {base:Nat} {v:Value} {d:DataW H} {p:List MemPlace}
theorem node_argS (hok:Value.okWide Try.prog W .any base 25 v) (h0:DataW.Trod enc Try.prog W 0 (fun _ => true) true 25 v d p) (hsz:∀ n ∈ d.weights Try.prog 25,n ≤ reachBytes):∃ N t,v = Nv.v N ∧ TI W W.heap.size N t ∧ t.small = true:=by
 obtain ⟨cs,rfl,hs⟩:=okWide_struct Try.underlying25 hok
 obtain ⟨fuel,hf⟩:=h0
 obtain ⟨N,t,h1,h2,h3⟩:=open_nodeS nodeTy (by kernel_rfl) fuel _ _ hf hsz
 have h1':cs.toList = Nv.cs N:=h1
 refine ⟨N,t,?_,h2,h3⟩
 have:cs = (Nv.cs N).toArray:=by rw [← h1']
 rw [this]
end
end Go.Proofs.Ytbdhiichhcihgaa
namespace Go.Proofs.Ytbdhiichhcihgaa
open Go.RowKit
set_option linter.unusedVariables false
set_option linter.unusedSimpArgs false
abbrev I64 (l:List Int):List Value:=l.map (Value.int .i64)
theorem one_cell_ints (l:List Int):∀ u ∈ I64 l,u.oneCell' = true:=by
 intro u hu
 obtain ⟨x,_,rfl⟩:=List.mem_map.1 hu
 rfl
theorem run_append_move {P:Program} (w:World) (base:Nat) (t ty e:TypeId) (i:TypeInfo) (z:Value) (bytes:Nat) (ht:P.underlying t = some (.slice e)) (hi:P.info? e = some i) (hz:i.zero = some z)
  (hsize:i.size = 1) (hby:i.bytes = bytes) (hzs:z.cells.size = 1)
  (v:Value) (n:Nat) (xs:List Value) (hown:w.ownsRow base e 1 v n xs)
  (a:Addr) (m c:Nat) (news:List Value) (hl:news.length = m) (hm:0 < m) (hnews:∀ j u,news[j]? = some u → w.cell? (a.add j) = some u) (h1:∀ u ∈ news,u.oneCell' = true)
  (h63:n + m ≤ maxLen) (hbytes:(n + m) * bytes ≤ 140737488355328) (hbase:base ≤ w.heap.size) :
  ∃ v' w',(Builtin.append_ #[t,t] ty #[v,.slice (some a) m c]).run P w = .ok v' w' ∧ w'.ownsRow base e 1 v' (n + m) (xs ++ news) ∧ Moved w w' v v':=by
 obtain ⟨v',w',hrun,h2,h3,h4,h5⟩:=run_append_own_at (P:=P) w base t ty e i z 1 bytes ht hi hz hsize hby hzs (by decide) v n xs hown a m c news (by omega) hnews h1 h63 hbytes hbase
 refine ⟨v',w',hrun,h2,?_⟩
 rcases hown.2 with ⟨rfl,rfl⟩ | ⟨g,cap,cur,rfl,hbg,hg,hnc,hcm,hcs,htake⟩
 ·rcases h5 with h5 | h5
  ·exact .inl ⟨h5,h3⟩
  ·exact .inr ⟨h5,h3⟩
 ·by_cases hroom:n + m ≤ cap
  ·have hr:=run_append_room (P:=P) w t ty e i ht hi g n cap cur hg a m c news (by rw [hsize];omega) hnews h1 hroom (by rw [hsize,hcs];omega)
   have he:=hrun.symm.trans hr
   injection he with e1 e2
   left
   exact ⟨by rw [e1];rfl,h3⟩
  ·have holds:∀ j u,xs[j]? = some u → w.cell? ((⟨g,0,none⟩:Addr).add j) = some u:=hown.cells (g:=g) rfl
   have hr:=run_append_grow (P:=P) w t ty e i z ht hi hz ⟨g,0,none⟩ n cap xs (by rw [hsize];exact hown.1) holds a m c news (by rw [hsize];omega) hnews (by omega) (by unfold maxLen at h63;omega) (growslice_fits (by omega) (by rw [hby];exact hbytes))
   have he:=hrun.symm.trans hr
   injection he with e1 e2
   right
   refine ⟨by rw [e1];rfl,?_⟩
   rw [e2]
   exact ⟨rfl,rfl,rfl,by simp,fun k hk _ => heap_alloc_old w.drew _ hk⟩
theorem wpList_append_move {P:Program} {w:World} {ops:Array Oper} {rest:List Oper} {o:Oper} {a:Act} {Q:Exit → Act → World → Prop} (hgd:o.guard = none) (s x:Operand) (t:TypeId)
  (ho:o.op = .call { callee:=.builtin .append,args:=#[s,x],argTypes:=#[t,t] })
  (base:Nat) (e:TypeId) (i:TypeInfo) (z:Value) (bytes:Nat) (ht:P.underlying t = some (.slice e)) (hi:P.info? e = some i) (hz:i.zero = some z)
  (hsize:i.size = 1) (hby:i.bytes = bytes) (hzs:z.cells.size = 1)
  (v:Value) (n:Nat) (xs:List Value) (hs:a.eval s = v) (hown:w.ownsRow base e 1 v n xs)
  (ad:Addr) (m c:Nat) (news:List Value) (hx:a.eval x = .slice (some ad) m c) (hl:news.length = m) (hm:0 < m) (hnews:∀ j u,news[j]? = some u → w.cell? (ad.add j) = some u) (h1:∀ u ∈ news,u.oneCell' = true)
  (h63:n + m ≤ maxLen) (hbytes:(n + m) * bytes ≤ 140737488355328) (hbase:base ≤ w.heap.size)
  (h:∀ v' w',Hid (w'.ownsRow base e 1 v' (n + m) (xs ++ news)) → Hid (Moved w w' v v') → wpList P ops Q rest (a.put o.dst v') w'):wpList P ops Q (o :: rest) a w:=by
 refine wpList_plain hgd fun K hK => ?_
 obtain ⟨v',w',hr,h2,h3⟩:=run_append_move (P:=P) w base t o.type e i z bytes ht hi hz hsize hby hzs v n xs hown ad m c news hl hm hnews h1 h63 hbytes hbase
 unfold Oper.wp execOp
 simp only [ho,resolve,invoke,builtin,Sem.run_bind,Sem.run_pure,Result.andThen_ok,List.map_toArray,List.map_cons,List.map_nil,hs,hx,hr]
 exact hK _ _ (h v' w' h2 h3)
end Go.Proofs.Ytbdhiichhcihgaa
namespace Go.Proofs.Ytbdhiichhcihgaa
open Go.RowKit Go.Lib
set_option linter.unusedVariables false
set_option linter.unusedSimpArgs false
def hasB (L:List (Int × Int)) (r:Int):Bool:=L.any fun g => decide (g.1 ≤ r) && decide (r ≤ g.2)
end Go.Proofs.Ytbdhiichhcihgaa
namespace Go.Proofs.Ytbdhiichhcihgaa
open Go.RowKit
set_option linter.unusedVariables false
set_option linter.unusedSimpArgs false
theorem below_drewN' {B:Nat} {a w:World} (h:Below B a w) (n:Nat):Below B a (w.drewN n):=h.trans ⟨rfl,rfl,rfl,Nat.le_refl _,fun _ _ => rfl⟩
def inB (R:List (Int × Int)) (r:Int):Bool:=R.any fun x => decide (x.1 ≤ r) && decide (r ≤ x.2)
def hsB (R:List (Int × Int)) (r:Int):Bool:=rightB R && inB R r
end Go.Proofs.Ytbdhiichhcihgaa
namespace Go.Proofs.Ytbdhiichhcihgaa.Look
open Go.RowKit
set_option linter.unusedVariables false
set_option linter.unusedSimpArgs false
def wordR (r:Int):Bool:=decide (48 ≤ r ∧ r ≤ 57 ∨ 65 ≤ r ∧ r ≤ 90 ∨ 97 ≤ r ∧ r ≤ 122 ∨ r = 95)
def TextAt (N:Nat) (w:World) (ad:Option Addr) (n:Nat) (l:List Int):Prop:=
 n = l.length ∧ n ≤ 35184372088832 ∧ (n = 0 ∨ ∃ b off,ad = some ⟨b,off,none⟩ ∧ b < N ∧ ∀ k,k < n → w.cell? ⟨b,off + k,none⟩ = some (.int .i64 (l.getD k 0)))
theorem TextAt.below {N:Nat} {w w':World} {ad:Option Addr} {n:Nat} {l:List Int} (h:TextAt N w ad n l) (hb:Below N w w'):TextAt N w' ad n l:=by
 obtain ⟨h1,h2,h | ⟨b,off,ha,hbN,hc⟩⟩:=h
 ·exact ⟨h1,h2,.inl h⟩
 ·exact ⟨h1,h2,.inr ⟨b,off,ha,hbN,fun k hk => (hb.cell (p:=⟨b,off + k,none⟩) hbN).trans (hc k hk)⟩⟩
theorem TextAt.mono {N M:Nat} {w:World} {ad:Option Addr} {n:Nat} {l:List Int} (h:TextAt N w ad n l) (hNM:N ≤ M):TextAt M w ad n l:=by
 obtain ⟨h1,h2,h | ⟨b,off,ha,hbN,hc⟩⟩:=h
 ·exact ⟨h1,h2,.inl h⟩
 ·exact ⟨h1,h2,.inr ⟨b,off,ha,by omega,hc⟩⟩
def begB (p:Nat):Bool:=decide (p = 0)
def endB (l:List Int) (p:Nat):Bool:=decide (p = l.length)
def blB (l:List Int) (p:Nat):Bool:=decide (p = 0) || decide (l.getD (p - 1) 0 = 10)
def elB (l:List Int) (p:Nat):Bool:=decide (p = l.length) || decide (l.getD p 0 = 10)
def waB (l:List Int) (p:Nat):Bool:=decide (0 < p) && wordR (l.getD (p - 1) 0)
def wbB (l:List Int) (p:Nat):Bool:=decide (p < l.length) && wordR (l.getD p 0)
def edgeB (l:List Int) (p:Nat):Bool:=waB l p != wbB l p
def bI (b:Bool) (x:Int):Int:=if b then x else 0
def sumB (b1 b2 b3 b4 b5:Bool):Nat → Int
 | 0 => 0
 | 1 => bI b1 1
 | 2 => bI b1 1 + bI b2 2
 | 3 => bI b1 1 + bI b2 2 + bI b3 4
 | 4 => bI b1 1 + bI b2 2 + bI b3 4 + bI b4 8
 | 5 => bI b1 1 + bI b2 2 + bI b3 4 + bI b4 8 + bI b5 16
 | _ => bI b1 1 + bI b2 2 + bI b3 4 + bI b4 8 + bI b5 16 + bI (!b5) 32
def atP (l:List Int) (p:Nat):Int:=sumB (begB p) (endB l p) (blB l p) (elB l p) (edgeB l p) 6
def atN (l:List Int) (p:Int):Int:=if p < 0 ∨ (l.length:Int) < p then 0 else atP l p.toNat
end Go.Proofs.Ytbdhiichhcihgaa.Look
namespace Go.Proofs.Ytbdhiichhcihgaa
open Go.RowKit
set_option linter.unusedVariables false
set_option linter.unusedSimpArgs false
def wordR (r:Int):Bool:=decide (48 ≤ r ∧ r ≤ 57 ∨ 65 ≤ r ∧ r ≤ 90 ∨ 97 ≤ r ∧ r ≤ 122 ∨ r = 95)
def TextAt (N:Nat) (w:World) (ad:Option Addr) (n:Nat) (l:List Int):Prop:=
 n = l.length ∧ n ≤ 35184372088832 ∧ (n = 0 ∨ ∃ b off,ad = some ⟨b,off,none⟩ ∧ b < N ∧ ∀ k,k < n → w.cell? ⟨b,off + k,none⟩ = some (.int .i64 (l.getD k 0)))
theorem TextAt.below {N:Nat} {w w':World} {ad:Option Addr} {n:Nat} {l:List Int} (h:TextAt N w ad n l) (hb:Below N w w'):TextAt N w' ad n l:=by
 obtain ⟨h1,h2,h | ⟨b,off,ha,hbN,hc⟩⟩:=h
 ·exact ⟨h1,h2,.inl h⟩
 ·exact ⟨h1,h2,.inr ⟨b,off,ha,hbN,fun k hk => (hb.cell (p:=⟨b,off + k,none⟩) hbN).trans (hc k hk)⟩⟩
theorem TextAt.mono {N M:Nat} {w:World} {ad:Option Addr} {n:Nat} {l:List Int} (h:TextAt N w ad n l) (hNM:N ≤ M):TextAt M w ad n l:=by
 obtain ⟨h1,h2,h | ⟨b,off,ha,hbN,hc⟩⟩:=h
 ·exact ⟨h1,h2,.inl h⟩
 ·exact ⟨h1,h2,.inr ⟨b,off,ha,by omega,hc⟩⟩
def begB (p:Nat):Bool:=decide (p = 0)
def endB (l:List Int) (p:Nat):Bool:=decide (p = l.length)
def blB (l:List Int) (p:Nat):Bool:=decide (p = 0) || decide (l.getD (p - 1) 0 = 10)
def elB (l:List Int) (p:Nat):Bool:=decide (p = l.length) || decide (l.getD p 0 = 10)
def waB (l:List Int) (p:Nat):Bool:=decide (0 < p) && wordR (l.getD (p - 1) 0)
def wbB (l:List Int) (p:Nat):Bool:=decide (p < l.length) && wordR (l.getD p 0)
def edgeB (l:List Int) (p:Nat):Bool:=waB l p != wbB l p
def bI (b:Bool) (x:Int):Int:=if b then x else 0
def sumB (b1 b2 b3 b4 b5:Bool):Nat → Int
 | 0 => 0
 | 1 => bI b1 1
 | 2 => bI b1 1 + bI b2 2
 | 3 => bI b1 1 + bI b2 2 + bI b3 4
 | 4 => bI b1 1 + bI b2 2 + bI b3 4 + bI b4 8
 | 5 => bI b1 1 + bI b2 2 + bI b3 4 + bI b4 8 + bI b5 16
 | _ => bI b1 1 + bI b2 2 + bI b3 4 + bI b4 8 + bI b5 16 + bI (!b5) 32
def atP (l:List Int) (p:Nat):Int:=sumB (begB p) (endB l p) (blB l p) (elB l p) (edgeB l p) 6
def atN (l:List Int) (p:Int):Int:=if p < 0 ∨ (l.length:Int) < p then 0 else atP l p.toNat
set_option maxRecDepth 100000 in
set_option maxHeartbeats 4000000 in
theorem bareE (N:Nv) (w:World):Calls Try.prog 55 #[N.v,.bool false,.bool false,.bool false,.bool false,.bool false] w fun e w' => e = .returned (.bool (bareB N.r2 N.a2 N.s2 N.a4 N.a5 N.a6 N.a7 N.a8 false false false false false)) ∧ Below w.heap.size w w':=by
 obtain ⟨k,r1,r2,r3,a2,s1,s2,s3,a4,a5,a6,a7,a8⟩:=N
 go_enter Try.func55,Try.ntmps55
 go_wp2
 all_goals go_ret
 all_goals exact ⟨ret_bool (by simp_all [bareB]),Joins.below_alloc1 w _⟩
set_option maxRecDepth 100000 in
set_option maxHeartbeats 4000000 in
theorem bareC (N:Nv) (w:World):Calls Try.prog 55 #[N.v,.bool true,.bool false,.bool false,.bool false,.bool false] w fun e w' => e = .returned (.bool (bareB N.r2 N.a2 N.s2 N.a4 N.a5 N.a6 N.a7 N.a8 true false false false false)) ∧ Below w.heap.size w w':=by
 obtain ⟨k,r1,r2,r3,a2,s1,s2,s3,a4,a5,a6,a7,a8⟩:=N
 go_enter Try.func55,Try.ntmps55
 go_wp2
 all_goals go_ret
 all_goals exact ⟨ret_bool (by simp_all [bareB]),Joins.below_alloc1 w _⟩
set_option maxRecDepth 100000 in
set_option maxHeartbeats 4000000 in
theorem bareA (N:Nv) (w:World):Calls Try.prog 55 #[N.v,.bool false,.bool true,.bool false,.bool false,.bool false] w fun e w' => e = .returned (.bool (bareB N.r2 N.a2 N.s2 N.a4 N.a5 N.a6 N.a7 N.a8 false true false false false)) ∧ Below w.heap.size w w':=by
 obtain ⟨k,r1,r2,r3,a2,s1,s2,s3,a4,a5,a6,a7,a8⟩:=N
 go_enter Try.func55,Try.ntmps55
 go_wp2
 all_goals go_ret
 all_goals exact ⟨ret_bool (by simp_all [bareB]),Joins.below_alloc1 w _⟩
set_option maxRecDepth 100000 in
set_option maxHeartbeats 4000000 in
theorem bareS (N:Nv) (w:World):Calls Try.prog 55 #[N.v,.bool false,.bool false,.bool true,.bool false,.bool false] w fun e w' => e = .returned (.bool (bareB N.r2 N.a2 N.s2 N.a4 N.a5 N.a6 N.a7 N.a8 false false true false false)) ∧ Below w.heap.size w w':=by
 obtain ⟨k,r1,r2,r3,a2,s1,s2,s3,a4,a5,a6,a7,a8⟩:=N
 go_enter Try.func55,Try.ntmps55
 go_wp2
 all_goals go_ret
 all_goals exact ⟨ret_bool (by simp_all [bareB]),Joins.below_alloc1 w _⟩
set_option maxRecDepth 100000 in
set_option maxHeartbeats 4000000 in
theorem bareR (N:Nv) (w:World):Calls Try.prog 55 #[N.v,.bool false,.bool false,.bool true,.bool true,.bool false] w fun e w' => e = .returned (.bool (bareB N.r2 N.a2 N.s2 N.a4 N.a5 N.a6 N.a7 N.a8 false false true true false)) ∧ Below w.heap.size w w':=by
 obtain ⟨k,r1,r2,r3,a2,s1,s2,s3,a4,a5,a6,a7,a8⟩:=N
 go_enter Try.func55,Try.ntmps55
 go_wp2
 all_goals go_ret
 all_goals exact ⟨ret_bool (by simp_all [bareB]),Joins.below_alloc1 w _⟩
set_option maxRecDepth 100000 in
set_option maxHeartbeats 4000000 in
theorem bareG (N:Nv) (w:World):Calls Try.prog 55 #[N.v,.bool false,.bool false,.bool true,.bool false,.bool true] w fun e w' => e = .returned (.bool (bareB N.r2 N.a2 N.s2 N.a4 N.a5 N.a6 N.a7 N.a8 false false true false true)) ∧ Below w.heap.size w w':=by
 obtain ⟨k,r1,r2,r3,a2,s1,s2,s3,a4,a5,a6,a7,a8⟩:=N
 go_enter Try.func55,Try.ntmps55
 go_wp2
 all_goals go_ret
 all_goals exact ⟨ret_bool (by simp_all [bareB]),Joins.below_alloc1 w _⟩
theorem assertion74 (n:Int) (w:World):Calls Try.prog 56 #[.int .i64 n] w fun e w' => e = .returned (.bool (assertB n)) ∧ w' = w:=by
 go_enter Try.func56,Try.ntmps56
 go_wp2
 all_goals go_ret
 all_goals exact ⟨ret_bool (by simp_all [assertB]),rfl⟩
set_option maxRecDepth 100000 in
set_option maxHeartbeats 4000000 in
theorem name75s (s:ByteArray) (w:World) (h1:1 ≤ s.size) (h2:s.size ≤ 32):Calls Try.prog 57 #[.string s] w fun e w' => e = .returned (.bool (nameB s)) ∧ w' = w:=by
 have b1:decide ((s.size:Int) < 1) = false:=by simp;omega
 have b2:decide ((s.size:Int) > 32) = false:=by simp;omega
 have b2':decide (32 < (s.size:Int)) = false:=by simp;omega
 obtain ⟨r,hr⟩:∃ r,r = nameB s:=⟨_,rfl⟩
 rw [← hr]
 have HR:=hid' hr
 clear hr
 go_enter Try.func57,Try.ntmps57
 go_wp2_with fail
 go_loopw [3] (fun y wq => ∃ i:Nat,y = .int .i64 (i:Int) ∧ i ≤ s.size ∧ Hid (∀ j,j < i → okAt s j = true) ∧ wq = w) (fun y _ => s.size - (intOf y).toNat)
 case atStart => exact ⟨0,rfl,by omega,fun j hj => by omega,rfl⟩
 case round =>
  obtain ⟨i,rfl,hi,HJ,rfl⟩:=hrel
  by_cases hil:i < s.size
  ·have b1:decide ((i:Int) < (s.size:Int)) = true:=by simp;omega
   have b2:(i:Int) < (s.size:Int):=by omega
   have ad1:IntKind.i64.wrap ((i:Int) + 1) = (i:Int) + 1:=by simp [IntKind.wrap,IntKind.bits,IntKind.signed];omega
   have HC:Hid (∀ (c:Int),c = (s[i].toNat:Int) → okC c i = true → ∀ j,j < i + 1 → okAt s j = true):=fun c hc h j hj => by
    by_cases e:j = i
    ·subst e;rw [okAt_eq hil,← hc];exact h
    ·exact HJ.out j (by omega)
   have HD:Hid (∀ (c:Int),c = (s[i].toNat:Int) → okC c i = false → r = false):=fun c hc h => by rw [HR.out];exact name_false i hil (by rw [← hc];exact h)
   go_wp2
   all_goals first
    | (refine ⟨⟨i + 1,by push_cast;rfl,by omega,HC.out _ rfl (by simp_all [okC] <;> omega),by trivial⟩,?_⟩;(simp [intOf];omega))
    | (go_ret;refine ⟨ret_bool ?_,rfl⟩;exact (HD.out _ rfl (by simp_all [okC] <;> omega)).symm)
  ·have b1:decide ((i:Int) < (s.size:Int)) = false:=by simp;omega
   have e:r = true:=by rw [HR.out];exact name_true h1 h2 fun j hj => HJ.out j (by omega)
   subst e
   go_wp2
   go_ret
   exact ⟨rfl,rfl⟩
theorem name75 (s:ByteArray) (w:World) (hs:s.size ≤ 9223372036854775807):Calls Try.prog 57 #[.string s] w fun e w' => e = .returned (.bool (nameB s)) ∧ w' = w:=by
 by_cases h:1 ≤ s.size ∧ s.size ≤ 32
 ·exact name75s s w h.1 h.2
 ·rw [name_long h]
  by_cases h1:1 ≤ s.size
  ·have b1:decide ((s.size:Int) < 1) = false:=by simp;omega
   have b2:decide ((s.size:Int) > 32) = true:=by simp;omega
   have b2':decide (32 < (s.size:Int)) = true:=by simp;omega
   go_enter Try.func57,Try.ntmps57
   go_wp2
   go_ret
   exact ⟨rfl,rfl⟩
  ·have b1:decide ((s.size:Int) < 1) = true:=by simp;omega
   go_enter Try.func57,Try.ntmps57
   go_wp2
   go_ret
   exact ⟨rfl,rfl⟩
theorem dom_bd {r:Int} (h:dom r = true):0 ≤ r ∧ r < 1114112:=by simp [dom] at h;omega
theorem dom99 (r:Int) (w:World):Calls Try.prog 58 #[.int .i64 r] w fun e w' => e = .returned (.bool (dom r)) ∧ w' = w:=by
 go_enter Try.func58,Try.ntmps58
 go_wp2
 all_goals go_ret
 all_goals exact ⟨ret_bool (by rw [Bool.eq_iff_iff];simp [dom];omega),rfl⟩
theorem ok_of {ls gl gh ph:Int} {k:Nat} (h8:(!dom gl || !dom gh || decide (gh < gl) || gapB (gl,gh)) = false) (hls:k = 0 ∧ ls = 0 ∨ 0 < k ∧ ls = ph + 2)
  (h10:(decide (0 < k) && decide (gl < ph + 2) && !(decide (gl = 57344) && decide (ph = 55295))) = false):okG ls (gl,gh) = true:=by
 simp only [Bool.or_eq_false_iff,Bool.not_eq_false',decide_eq_false_iff_not] at h8
 obtain ⟨⟨⟨h1,h2⟩,h3⟩,h4⟩:=h8
 have hl:ls ≤ gl:=by
  rcases hls with ⟨_,rfl⟩ | ⟨hk,rfl⟩
  ·exact (dom_bd h1).1
  ·rw [decide_eq_true hk] at h10
   by_cases h:gl < ph + 2
   ·rw [decide_eq_true h] at h10
    simp at h10
    omega
   ·omega
 simp only [okG,h1,h2,h4,decide_eq_true hl,decide_eq_true (show gl ≤ gh by omega)]
 rfl
theorem bad_8 {ls gl gh:Int} (h8:(!dom gl || !dom gh || decide (gh < gl) || gapB (gl,gh)) = true):okG ls (gl,gh) = false:=by
 cases h:okG ls (gl,gh)
 ·rfl
 ·simp only [okG,Bool.and_eq_true,decide_eq_true_eq,Bool.not_eq_true'] at h
  obtain ⟨⟨⟨⟨h0,h1⟩,h2⟩,h3⟩,h4⟩:=h
  rw [h2,h3,h4,decide_eq_false (show ¬ gh < gl by omega)] at h8
  exact absurd h8 (by decide)
theorem bad_10 {ls gl gh ph:Int} {k:Nat} (hls:k = 0 ∧ ls = 0 ∨ 0 < k ∧ ls = ph + 2)
  (h10:(decide (0 < k) && decide (gl < ph + 2) && !(decide (gl = 57344) && decide (ph = 55295))) = true):okG ls (gl,gh) = false:=by
 simp only [Bool.and_eq_true,decide_eq_true_eq] at h10
 have:¬ ls ≤ gl:=by omega
 simp only [okG,decide_eq_false this,Bool.false_and]
set_option maxHeartbeats 8000000 in
set_option maxRecDepth 1000000 in
theorem rright_short (L:List (Int × Int)) (ad:Option Addr) (n cap:Nat) (w:World) (hn:Hid (L.length = n)) (hS:n ≤ 5000) (hl:Hid (RowAt w.heap.size w (.slice ad n cap) L)) :
  Calls Try.prog 41 #[.slice ad n cap] w fun e w' => e = .returned (.bool (rightFrom 0 L)) ∧ Below w.heap.size w w':=by
 go_enter Try.func41,Try.ntmps41
 go_wp2
 go_loopw [3] (fun i wr => ∃ (k:Nat) (ls ph:Int),k ≤ n ∧ i = .int .i64 k ∧ Below w.heap.size w wr ∧ Hid (rightFrom 0 L = rightFrom ls (L.drop k)) ∧ Hid (0 < k → ph = (L.getD (k - 1) (0,0)).2 ∧ 0 ≤ ph ∧ ph ≤ 1114111) ∧ Hid (k = 0 ∧ ls = 0 ∨ 0 < k ∧ ls = ph + 2)) (fun i _ => n - (intOf i).toNat)
 case atStart => exact ⟨0,0,0,by omega,rfl,Below.refl _ _,by exact rfl,fun h => by omega,by exact .inl ⟨rfl,rfl⟩⟩
 case round =>
  obtain ⟨k,ls,ph,hk,rfl,hbw,HK,HP,HL⟩:=hrel
  have hsz:=hbw.size
  by_cases hlt:k < n
  ·obtain ⟨ad',cap',he,h | ⟨b,off,rfl,hbN,hc0,hc1⟩⟩:=hl.out
   ·exact absurd h (by rw [hn.out];omega)
   ·simp only [Value.slice.injEq] at he
    obtain ⟨rfl,-,rfl⟩:=he
    have hn':=hn.out
    have HC0:Hid (w.cell? ⟨b,off + k * 2,none⟩ = some (.int .i64 (L.getD k (0,0)).1)):=hc0 k (by omega)
    have HC1:Hid (w.cell? ⟨b,off + k * 2 + 1,none⟩ = some (.int .i64 (L.getD k (0,0)).2)):=hc1 k (by omega)
    have HC2:Hid (0 < k → w.cell? ⟨b,off + (k - 1) * 2 + 1,none⟩ = some (.int .i64 ph)):=fun h => by rw [(HP.out h).1];exact hc1 (k - 1) (by omega)
    have HPB:Hid (0 < k → 0 ≤ ph ∧ ph ≤ 1114111):=fun h => (HP.out h).2
    have HR:Hid (rightFrom 0 L = (okG ls (L.getD k (0,0)) && rightFrom ((L.getD k (0,0)).2 + 2) (L.drop (k + 1)))):=by
     show _ = _
     rw [HK.out,drop_consR L k (by omega)]
     rfl
    have HG:Hid ((L.getD (k + 1 - 1) (0,0)).2 = (L.getD k (0,0)).2):=by rw [Nat.add_sub_cancel];exact rfl
    have hgk:∃ g,L.getD k (0,0) = g:=⟨_,rfl⟩
    obtain ⟨⟨gl,gh⟩,hgk⟩:=hgk
    rw [hgk] at HC0 HC1 HR HG
    clear hgk hc0 hc1 hn' HK HP
    have HB8:Hid (∃ B,B = (!dom gl || !dom gh || decide (gh < gl) || gapB (gl,gh))):=⟨_,rfl⟩
    obtain ⟨B8,hB8⟩:=HB8.out
    have HB8:Hid (B8 = (!dom gl || !dom gh || decide (gh < gl) || gapB (gl,gh))):=hB8
    have d0:=(hbw.cell (p:=⟨b,off + k * 2,none⟩) hbN).trans HC0.out
    have d1:=(hbw.cell (p:=⟨b,off + k * 2 + 1,none⟩) hbN).trans HC1.out
    have hkn:(k:Int) < (n:Int):=by omega
    have hdl:=dom99 gl
    have hdh:=dom99 gh
    generalize dom gl = e3 at hdl hB8
    generalize dom gh = e4 at hdh hB8
    have HB8':Hid (B8 = (!e3 || !e4 || decide (gh < gl) || gapB (gl,gh))):=hB8
    simp only at d0 d1
    clear hB8
    go_wp2_with (first | (go_at_call_of 58 (Value.int .i64 gl);refine (hdl _).mono ?_;rintro e w' ⟨rfl,rfl⟩) | (go_at_call 58;refine (hdh _).mono ?_;rintro e w' ⟨rfl,rfl⟩))
    go_cut [61] from 9 to 96 (fun s wx => s = .bool B8 ∧ Below w.heap.size w wx)
    case first =>
     cases e3
     ·go_quiet (fail)
      go_wp2
      go_meet
      exact ⟨by rw [HB8'.out];rfl,below_drewN' hbw _⟩
     ·cases e4
      ·go_quiet (fail)
       go_wp2
       go_meet
       exact ⟨by rw [HB8'.out];rfl,below_drewN' hbw _⟩
      ·by_cases h1:gh < gl
       ·have x0:decide (gl > gh) = true:=decide_eq_true h1
        have x0':decide (gh < gl) = true:=decide_eq_true h1
        go_quiet (fail)
        go_wp2
        go_meet
        exact ⟨by rw [HB8'.out,x0'];rfl,below_drewN' hbw _⟩
       ·have x0:decide (gl > gh) = false:=decide_eq_false h1
        have x0':decide (gh < gl) = false:=decide_eq_false h1
        by_cases h2:gl ≤ 55295
        ·have y1:decide (gl ≤ 55295) = true:=decide_eq_true h2
         by_cases h3:57344 ≤ gh
         ·have y2:decide (gh ≥ 57344) = true:=decide_eq_true h3
          have y2':decide (57344 ≤ gh) = true:=decide_eq_true h3
          have hg:Hid (gapB (gl,gh) = true):=by show _ = _;simp [gapB];omega
          go_quiet (fail)
          go_wp2
          go_meet
          exact ⟨by rw [HB8'.out,hg.out,x0'];rfl,below_drewN' hbw _⟩
         ·have y2:decide (gh ≥ 57344) = false:=decide_eq_false h3
          have y2':decide (57344 ≤ gh) = false:=decide_eq_false h3
          have hg:Hid (gapB (gl,gh) = false):=by show _ = _;simp [gapB];omega
          go_quiet (fail)
          go_wp2
          go_meet
          exact ⟨by rw [HB8'.out,hg.out,x0'];rfl,below_drewN' hbw _⟩
        ·have y1:decide (gl ≤ 55295) = false:=decide_eq_false h2
         have hg:Hid (gapB (gl,gh) = false):=by show _ = _;simp [gapB];omega
         go_quiet (fail)
         go_wp2
         go_meet
         exact ⟨by rw [HB8'.out,hg.out,x0'];rfl,below_drewN' hbw _⟩
    clear hdl hdh HB8' d0 d1 hbw hsz
    obtain ⟨w2,hw2⟩:∃ w2,w2 = wc:=⟨_,rfl⟩
    rw [← hw2] at hcut ⊢
    clear hw2 wc
    obtain ⟨rfl,hb2⟩:=hcut
    cases B8
    ·have h8:(!dom gl || !dom gh || decide (gh < gl) || gapB (gl,gh)) = false:=HB8.out.symm
     have hdg:dom gl = true ∧ dom gh = true:=by
      simp only [Bool.or_eq_false_iff,Bool.not_eq_false'] at h8
      exact ⟨h8.1.1.1,h8.1.1.2⟩
     have hgl:=dom_bd hdg.1
     have hgh:=dom_bd hdg.2
     have H8:Hid ((!dom gl || !dom gh || decide (gh < gl) || gapB (gl,gh)) = false):=h8
     clear h8 hdg HB8
     obtain ⟨B10,hB10⟩:∃ B,B = (decide (0 < k) && decide (gl < ph + 2) && !(decide (gl = 57344) && decide (ph = 55295))):=⟨_,rfl⟩
     have HB10:Hid (B10 = (decide (0 < k) && decide (gl < ph + 2) && !(decide (gl = 57344) && decide (ph = 55295)))):=hB10
     clear hB10
     have d0:=(hb2.cell (p:=⟨b,off + k * 2,none⟩) hbN).trans HC0.out
     have d1:=(hb2.cell (p:=⟨b,off + k * 2 + 1,none⟩) hbN).trans HC1.out
     go_wp2_with fail
     go_cut [96] from 9 to 96 (fun s wx => s = .bool B10 ∧ Below w.heap.size w wx)
     case first =>
      by_cases hk0:0 < k
      ·have x1:decide ((k:Int) > 0) = true:=decide_eq_true (by omega)
       have x1':decide (0 < (k:Int)) = true:=decide_eq_true (by omega)
       have z1:decide (0 < k) = true:=decide_eq_true hk0
       have d2:=(hb2.cell (p:=⟨b,off + (k - 1) * 2 + 1,none⟩) hbN).trans (HC2.out hk0)
       obtain ⟨hp0,hp1⟩:=HPB.out hk0
       have hwr:IntKind.i64.wrap ((k:Int) - 1) = (k:Int) - 1:=IntWalk.i64_in _ ⟨by omega,by omega⟩
       have hwp:IntKind.i64.wrap (ph + 2) = ph + 2:=IntWalk.i64_in _ ⟨by omega,by omega⟩
       have hk1:((k:Int) - 1).toNat = k - 1:=by omega
       have hk6:(1:Int) ≤ (k:Int):=by omega
       have hk2:(0:Int) ≤ (k:Int) - 1:=by omega
       have hk3:(k:Int) - 1 < (n:Int):=by omega
       by_cases h5:gl < ph + 2
       ·have x2:decide (gl < ph + 2) = true:=decide_eq_true h5
        by_cases h6:gl = 57344
        ·subst h6
         have x3':decide ((57344:Int) = 57344) = true:=by simp
         have x5:(57344:Int) < ph + 2:=h5
         by_cases h7:ph = 55295
         ·omega
         ·have x4:(ph == 55295) = false:=by simp [h7]
          have x4':decide (ph = 55295) = false:=decide_eq_false h7
          go_quiet (fail)
          go_wp2
          go_meet
          exact ⟨by rw [HB10.out,z1,x2,x3',x4'];rfl,below_drewN' hb2 _⟩
        ·have x3:(gl == 57344) = false:=by simp [h6]
         have x3':decide (gl = 57344) = false:=decide_eq_false h6
         go_quiet (fail)
         go_wp2
         go_meet
         exact ⟨by rw [HB10.out,z1,x2,x3'];rfl,below_drewN' hb2 _⟩
       ·have x2:decide (gl < ph + 2) = false:=decide_eq_false h5
        go_quiet (fail)
        go_wp2
        go_meet
        exact ⟨by rw [HB10.out,z1,x2];rfl,below_drewN' hb2 _⟩
      ·have x1:decide ((k:Int) > 0) = false:=decide_eq_false (by omega)
       have x1':decide (0 < (k:Int)) = false:=decide_eq_false (by omega)
       have z1:decide (0 < k) = false:=decide_eq_false hk0
       go_quiet (fail)
       go_wp2
       go_meet
       exact ⟨by rw [HB10.out,z1];rfl,below_drewN' hb2 _⟩
     clear d0 d1
     obtain ⟨w3,hw3⟩:∃ w3,w3 = wc:=⟨_,rfl⟩
     rw [← hw3] at hcut ⊢
     clear hw3 wc
     obtain ⟨rfl,hb3⟩:=hcut
     cases B10
     ·have HE:Hid (rightFrom 0 L = rightFrom (gh + 2) (L.drop (k + 1))):=by
       show _ = _
       rw [HR.out,ok_of H8.out HL.out HB10.out.symm]
       rfl
      clear HR HB10 H8 HC0 HC1 HC2 HPB
      go_wp2
      go_roundw
      case rel => exact ⟨k + 1,gh + 2,gh,by omega,by go_num,hb3,HE,by exact fun _ => ⟨HG.out.symm,by omega,by omega⟩,by exact .inr ⟨by omega,rfl⟩⟩
      case measure => simp [intOf];omega
     ·have HE:Hid (rightFrom 0 L = false):=by
       show _ = _
       rw [HR.out,bad_10 HL.out HB10.out.symm]
       rfl
      clear HR HB10 H8 HC0 HC1 HC2 HPB HG HL
      go_wp2
      go_ret
      exact ⟨ret_bool HE.out.symm,hb3⟩
    ·have HE:Hid (rightFrom 0 L = false):=by
      show _ = _
      rw [HR.out,bad_8 HB8.out.symm]
      rfl
     clear HR HB8 HC0 HC1 HC2 HPB HG HL
     go_wp2
     go_ret
     exact ⟨ret_bool HE.out.symm,hb2⟩
  ·have HA:Hid (rightFrom 0 L = true):=by
    show _ = _
    rw [HK.out,List.drop_of_length_le (by rw [hn.out];omega)]
    rfl
   clear HK HP HL
   go_wp2
   go_ret
   exact ⟨ret_bool HA.out.symm,hbw⟩
set_option maxHeartbeats 1000000 in
theorem rright33 (L:List (Int × Int)) (ad:Option Addr) (n cap:Nat) (w:World) (hn:Hid (L.length = n)) (hS:n ≤ 9223372036854775807) (hl:Hid (RowAt w.heap.size w (.slice ad n cap) L)) :
  Calls Try.prog 41 #[.slice ad n cap] w fun e w' => e = .returned (.bool (rightB L)) ∧ Below w.heap.size w w':=by
 by_cases h50:5000 < n
 ·have HBD:Hid (rightB L = false):=by show _ = _;unfold rightB;rw [hn.out];simp;omega
  go_enter Try.func41,Try.ntmps41
  go_wp2
  go_ret
  exact ⟨by rw [HBD.out];rfl,Below.refl _ _⟩
 ·have hRB:rightB L = rightFrom 0 L:=by unfold rightB;rw [hn.out,decide_eq_true (show n ≤ 5000 by omega)];rfl
  rw [hRB]
  exact rright_short L ad n cap w hn (by omega) hl
end Go.Proofs.Ytbdhiichhcihgaa
