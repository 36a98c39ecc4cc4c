/- HELPERS: texts of ours put together. -/
import Derived.Test.YtacaanhnlfpbhaaGreatK25
import Derived.Test.YtacaanhnlfpbhaaGreatK11
import Derived.Test.YtacaanhnlfpbhaaGreatK17
import Derived.Test.YtacaanhnlfpbhaaGreatK09
import Derived.Test.YtacaanhnlfpbhaaGreatK16
import Derived.Test.YtacaanhnlfpbhaaGreatK08
import Derived.Test.YtacaanhnlfpbhaaGreatK07
import Derived.Test.YtacaanhnlfpbhaaGreatK04
import Derived.Test.YtacaanhnlfpbhaaGreatK06
import Derived.Test.YtacaanhnlfpbhaaGreatK05
import Derived.Test.YtacaanhnlfpbhaaGreatK01
import Derived.Deep.SlicePairs
import Derived.RowKit
import Derived.Test.YtacaanhnlfpbhaaGreatK03
import Derived.Test.YtacaanhnlfpbhaaGreatK20
import Derived.Laws.EntriesVeiled
import Derived.WalkLawsBesides
import Derived.Lib.LazyBuf
import Derived.Deep.Cut
import Derived.Laws.Rows
import Derived.Deep.MidRow
import Derived.Deep.OwnRows
import Derived.Test.YtacaanhnlfpbhaaGreatK02
import Derived.WalkKit
import Derived.Laws.BitsLemmas
import Derived.Deep.RegionHeld2
import Derived.Lib.MinMax
import Derived.BigQuiet
import Derived.Laws.StructEq
import Derived.Deep.DrawnRows
namespace Go.Proofs.YtacaanhnlfpbhaaGreat
open Go.RowKit
set_option linter.unusedVariables false
set_option linter.unusedSimpArgs false
def sumOf (c:Nat) (t:Tn):S4:=⟨t.kind,min t.nodes c,min t.subs.length c,t.depth⟩
structure RowOf (lid:Nat) (us:List Tn) (r:R7):Prop where
 s:r.s=min us.length lid
 n:r.n≤lid∧min (r.n + 1) lid=min (nodesL us + 1) lid
 d:r.d=depthL us
 l:us.length=1→∃ u,us=[u]∧r.l=sumOf lid u
theorem row_none (lid:Nat):RowOf lid [] r0:=⟨by simp,⟨Nat.zero_le _,rfl⟩,rfl,fun h=>by simp at h⟩
def addR (lid:Nat) (r:R7) (x:S4) (m:Nat) (k:Int):R7:=if m=0 then r else if x.k=k then ⟨min (r.s + m * x.s) lid,min (r.n + m * (x.n - 1)) lid,max r.d (x.d - 1),r.l⟩ else ⟨min (r.s + m) lid,min (r.n + m * x.n) lid,max r.d x.d,x⟩
theorem add_row {lid:Nat} (h2l:2≤lid) {us:List Tn} {r:R7} (h:RowOf lid us r) {t:Tn} (ht:Nf t) (m:Nat) {k:Int} (hk:k=4∨k=5):RowOf lid (us ++ (List.replicate m (within k t)).flatten) (addR lid r (sumOf lid t) m k):=by
 unfold addR
 by_cases h0:m=0
 ·subst h0;simpa using h
 rw [if_neg h0]
 have hm:1≤m:=by omega
 have hw:=within_nodes k t
 have hd:=within_depth k t
 have hpos:=t.pos
 by_cases hkk:t.kind=k
 ·rw [if_pos (show (sumOf lid t).k=k from hkk)]
  rw [if_pos hkk] at hw hd
  have h2:=nf_subs ht (by omega)
  have hwl:(within k t).length=t.subs.length:=by unfold within;rw [if_pos hkk]
  refine ⟨?_,⟨by simp only;omega,?_⟩,?_,fun h1=>?_⟩
  ·simp only [sumOf,List.length_append,flat_rep_len,hwl,h.s]
   by_cases hb:t.subs.length≤lid
   ·rw [Nat.min_eq_left hb];omega
   ·have h3:lid≤m * t.subs.length:=Nat.le_trans (by omega) (Nat.le_mul_of_pos_left _ hm)
    have h4:lid≤m * min t.subs.length lid:=by rw [Nat.min_eq_right (by omega)];exact Nat.le_mul_of_pos_left _ hm
    omega
  ·simp only [sumOf,nodesL_append,nodesL_rep,hw]
   have hn:=h.n
   by_cases hb:t.nodes≤lid
   ·rw [Nat.min_eq_left hb];omega
   ·have h3:lid≤m * (t.nodes - 1):=Nat.le_trans (by omega) (Nat.le_mul_of_pos_left _ hm)
    have h4:lid - 1≤m * (min t.nodes lid - 1):=by rw [Nat.min_eq_right (by omega)];exact Nat.le_mul_of_pos_left _ hm
    omega
  ·simp only [sumOf,depthL_append,depthL_rep _ _ hm,hd,h.d]
  ·exfalso
   rw [List.length_append,flat_rep_len,hwl] at h1
   have:=Nat.le_mul_of_pos_left t.subs.length hm
   omega
 ·rw [if_neg (show ¬ (sumOf lid t).k=k from hkk)]
  rw [if_neg hkk] at hw hd
  have hwl:within k t=[t]:=by unfold within;rw [if_neg hkk]
  refine ⟨?_,⟨by simp only;omega,?_⟩,?_,fun h1=>?_⟩
  ·simp only [List.length_append,flat_rep_len,hwl,h.s,List.length_cons,List.length_nil];omega
  ·simp only [sumOf,nodesL_append,nodesL_rep,hw]
   have hn:=h.n
   by_cases hb:t.nodes≤lid
   ·rw [Nat.min_eq_left hb];omega
   ·have h3:lid≤m * t.nodes:=Nat.le_trans (by omega) (Nat.le_mul_of_pos_left _ hm)
    have h4:lid≤m * min t.nodes lid:=by rw [Nat.min_eq_right (by omega)];exact Nat.le_mul_of_pos_left _ hm
    omega
  ·simp only [sumOf,depthL_append,depthL_rep _ _ hm,hd,h.d]
  ·rw [List.length_append,flat_rep_len,hwl] at h1
   simp only [List.length_cons,List.length_nil] at h1
   have e1:m=1:=by omega
   have e2:us=[]:=List.length_eq_zero_iff.1 (by omega)
   subst e1 e2
   exact ⟨t,by simp [hwl],rfl⟩
def joinR (lid:Nat) (r:R7) (x:S4) (m:Nat):R7:=if x.k=1 then r else addR lid r x m 4
theorem join_row {lid:Nat} (h2l:2≤lid) {l:List (Tn × Nat)} {r:R7} (h:RowOf lid (rowS 4 (l.filter keep)) r) {t:Tn} (ht:Nf t) (m:Nat):RowOf lid (rowS 4 ((l ++ [(t,m)]).filter keep)) (joinR lid r (sumOf lid t) m):=by
 rw [List.filter_append,rowS_append]
 unfold joinR
 by_cases h1:t.kind=1
 ·have hk:keep (t,m)=false:=by simp [keep,h1]
  rw [if_pos (show (sumOf lid t).k=1 from h1)]
  simpa [List.filter,hk,rowS] using h
 ·rw [if_neg (show ¬ (sumOf lid t).k=1 from h1)]
  by_cases h0:m=0
  ·have hk:keep (t,m)=false:=by simp [keep,h0]
   have:addR lid r (sumOf lid t) m 4=r:=by unfold addR;rw [if_pos h0]
   rw [this]
   simpa [List.filter,hk,rowS] using h
  ·have hk:keep (t,m)=true:=by simp [keep,h1];omega
   have e:rowS 4 ([(t,m)].filter keep)=(List.replicate m (within 4 t)).flatten:=by simp [List.filter,hk,rowS]
   rw [e]
   exact add_row h2l h ht m (.inl rfl)
def joinedR (lid:Nat) (r:R7):S4:=if r.s=0 then ⟨1,1,0,1⟩ else if r.s=1 then r.l else ⟨4,min (r.n + 1) lid,r.s,r.d + 1⟩
theorem joined_sum {lid:Nat} (h2l:2≤lid) {l:List (Tn × Nat)} (hl:∀ x ∈ l,Nf x.1) {r:R7} (h:RowOf lid (rowS 4 (l.filter keep)) r):joinedR lid r=sumOf lid (joinT l):=by
 rw [joinT_us hl]
 unfold joinedR
 generalize rowS 4 (l.filter keep)=us at h ⊢
 match us,h with
 | [],h =>
  have hs:=h.s
  simp at hs
  rw [if_pos hs]
  simp only [sumOf,Tn.kind,Tn.subs,Tn.nodes,Tn.depth,nodesL,depthL,List.length_nil]
  congr 1 <;> omega
 | [u],h =>
  have hs:=h.s
  simp at hs
  have hs1:r.s=1:=by omega
  rw [if_neg (by omega),if_pos hs1]
  obtain ⟨u',e,hl⟩:=h.l rfl
  simp at e
  rw [hl,e]
 | a :: b :: us,h =>
  have hs:=h.s
  have hlen:(a :: b :: us).length=us.length + 2:=rfl
  rw [hlen] at hs
  rw [if_neg (by omega),if_neg (by omega)]
  have hn:=h.n.2
  have hd:=h.d
  simp only [sumOf,Tn.kind,Tn.subs,Tn.nodes,Tn.depth,hlen]
  rw [hs,hd]
  congr 1 <;> omega
set_option maxRecDepth 100000 in
set_option maxHeartbeats 4000000 in
theorem empty96 (w:World):Calls Tryz.prog 211 #[] w fun e w'=>e=.returned (S4.v ⟨1,1,0,1⟩)∧Below w.heap.size w w':=by
 go_enter Tryz.func211,Tryz.ntmps211
 go_wp2
 all_goals refine bodyPost_ret (results_cell_row rfl _ _ w.heap.size 156 _ (0,0) _ rfl (heap_alloc_new w _) Tryz.underlying156 rfl (by kernel_rfl)) rfl ⟨rfl,Joins.below_alloc1 w _⟩
set_option maxRecDepth 100000 in
set_option maxHeartbeats 4000000 in
theorem over69 (k:Int) (S:S4) (w:World) (hn:S.n≤1099511627776) (hd:S.d≤4000000000):Calls Tryz.prog 139 #[.int .i64 k,S.v] w fun e w'=>e=.returned (S4.v ⟨k,min (S.n + 1) 1099511627776,1,S.d + 1⟩)∧Below w.heap.size w w':=by
 obtain ⟨sk,n,s,d⟩:=S
 dsimp only at hn hd ⊢
 have e1:((min (n + 1) 1099511627776:Nat):Int)=min ((n:Int) + 1) 1099511627776:=by omega
 have a1:IntKind.i64.wrap ((n:Int) + 1)=(n:Int) + 1:=by simp [IntKind.wrap,IntKind.bits,IntKind.signed];omega
 have a2:IntKind.i64.wrap ((d:Int) + 1)=(d:Int) + 1:=by simp [IntKind.wrap,IntKind.bits,IntKind.signed];omega
 show Calls Tryz.prog 139 _ w fun e w'=>e=.returned (.agg #[.int .i64 k,.int .i64 ((min (n + 1) 1099511627776:Nat):Int),.int .i64 ((1:Nat):Int),.int .i64 ((d + 1:Nat):Int)])∧_
 rw [e1]
 go_enter Tryz.func139,Tryz.ntmps139
 go_wp2
 all_goals
  refine bodyPost_ret (results_cell_row rfl _ _ (w.heap.size + 1) 156 _ (0,0) _ rfl (two_new w _ _ _) Tryz.underlying156 rfl (by kernel_rfl)) rfl ⟨?_,below_two' w _ _⟩
  have e2:((d + 1:Nat):Int)=(d:Int) + 1:=by omega
  rw [e2]
  rfl
abbrev BRs (w:World) (r:Nat) (x:R7):Prop:=w.heap[r]?=some (.cells x.c 205 (0,0))
structure OkR (x:R7):Prop where
 s:x.s≤1099511627776
 n:x.n≤1099511627776
 d:x.d≤4000000000
structure OkS (S:S4):Prop where
 n1:1≤S.n
 n:S.n≤1099511627776
 s:S.s≤1099511627776
 d1:1≤S.d
 d:S.d≤4000000000
theorem chg_set {w W:World} {r:Nat} (h:Chg w W [r] [r]) (o:Nat) (v:Value):Chg w (W.setCell ⟨r,o,none⟩ v) [r] [r]:=
 ⟨h.os,h.tape,h.output,by have:=h.size;simp [World.setCell];omega,fun k hk hn=>(Below.heap_setCell _ _ _ _ (fun e=>hn (by simp at e;simp [e]))).trans (h.block k hk hn),fun k hk=>.inl hk⟩
theorem chg_setd {w W:World} {r:Nat} (h:Chg w W [r] [r]) (o:Nat) (v:Value):Chg w (W.setCell ⟨r,o,none⟩ v).drew [r] [r]:=by
 have h':=chg_set h o v
 exact ⟨h'.os,h'.tape,h'.output,h'.size,h'.block,h'.new⟩
set_option maxRecDepth 100000 in
set_option maxHeartbeats 8000000 in
theorem add72 (r:Nat) (x:R7) (S:S4) (m:Nat) (k:Int) (w:World) (hr:BRs w r x) (hx:OkR x) (hS:OkS S) (hm:m≤1000) :
  Calls Tryz.prog 142 #[pt r,S.v,.int .i64 (m:Int),.int .i64 k] w fun e w'=>e=.returned (.tuple #[])∧BRs w' r (addR 1099511627776 x S m k)∧Chg w w' [r] [r]:=by
 obtain ⟨xs,xn,xd,⟨lk,ln,ls,ld⟩⟩:=x
 obtain ⟨sk,n,s,d⟩:=S
 obtain ⟨hx1,hx2,hx3⟩:=hx
 obtain ⟨hS1,hS2,hS3,hS4,hS5⟩:=hS
 dsimp only at hx1 hx2 hx3 hS1 hS2 hS3 hS4 hS5 hr
 obtain ⟨W,hW⟩:∃ W,W=w.alloc (.cells #[.int .i64 sk,.int .i64 (n:Int),.int .i64 (s:Int),.int .i64 (d:Int)] 156):=⟨_,rfl⟩
 have hrl:r < w.heap.size:=(Array.getElem?_eq_some_iff.1 hr).1
 have hbW:Below w.heap.size w W:=by rw [hW];exact Joins.below_alloc1 w _
 have hcW:Chg w W [r] [r]:=by rw [hW];exact (Chg.refl w _).alloc _
 have hrW:BRs W r ⟨xs,xn,xd,⟨lk,ln,ls,ld⟩⟩:=(hbW.block r hrl).trans hr
 have hzW:W.heap[w.heap.size]?=some (.cells #[.int .i64 sk,.int .i64 (n:Int),.int .i64 (s:Int),.int .i64 (d:Int)] 156 (0,0)):=by rw [hW];exact heap_alloc_new w _
 obtain ⟨z,hz⟩:∃ z,z=w.heap.size:=⟨_,rfl⟩
 rw [← hz] at hzW hrl
 have z0:=Joins.cell_of_block hzW 0
 have z1:=Joins.cell_of_block hzW 1
 have z2:=Joins.cell_of_block hzW 2
 have z3:=Joins.cell_of_block hzW 3
 have c0:=Joins.cell_of_block hrW 0
 have c1:=Joins.cell_of_block hrW 1
 have c2:=Joins.cell_of_block hrW 2
 have c3:=Joins.cell_of_block hrW 3
 have c4:=Joins.cell_of_block hrW 4
 have c5:=Joins.cell_of_block hrW 5
 have c6:=Joins.cell_of_block hrW 6
 have f0:=Joins.unfrozen_of_block hrW 0
 have f1:=Joins.unfrozen_of_block hrW 1
 have f2:=Joins.unfrozen_of_block hrW 2
 have f3:=Joins.unfrozen_of_block hrW 3
 have f4:=Joins.unfrozen_of_block hrW 4
 have f5:=Joins.unfrozen_of_block hrW 5
 have f6:=Joins.unfrozen_of_block hrW 6
 have HRW:=hid hrW
 have HCW:=hid hcW
 have HZW:=hid hzW
 clear hr hbW hcW hrW hzW
 by_cases h0:m=0
 ·have g0:((m:Int) == 0)=true:=by simp [h0]
  have H0:=hid h0
  clear h0
  go_enter Tryz.func142,Tryz.ntmps142
  go_upto_region 1 with fail
  rw [← hz,← hW]
  clear hW hz
  go_wp2
  all_goals first | go_end0 | (refine bodyPost_ret (results_none rfl _ _ _) rfl ?_)
  all_goals exact ⟨rfl,by unfold addR;rw [if_pos H0.out];exact HRW.out,HCW.out⟩
 have g0:((m:Int) == 0)=false:=by simp;omega
 by_cases hk:sk=k
 ·have gk:(sk == k)=true:=by simpa using hk
  have hms:m * s≤1000 * 1099511627776:=Nat.mul_le_mul hm hS3
  have hmn:m * (n - 1)≤1000 * 1099511627776:=Nat.mul_le_mul hm (by omega)
  have p1:(m:Int) * (s:Int)=((m * s:Nat):Int):=by push_cast;rfl
  have p2:(m:Int) * ((n:Int) - 1)=((m * (n - 1):Nat):Int):=by push_cast [hS1];rfl
  have a1:IntKind.i64.wrap ((m:Int) * (s:Int))=(m:Int) * (s:Int):=by rw [p1];exact wrapN _ (by omega)
  have a2:IntKind.i64.wrap ((xs:Int) + (m:Int) * (s:Int))=(xs:Int) + (m:Int) * (s:Int):=by rw [p1];exact wrapNN _ _ (by omega)
  have a3:IntKind.i64.wrap ((n:Int) - 1)=(n:Int) - 1:=by simp [IntKind.wrap,IntKind.bits,IntKind.signed];omega
  have a4:IntKind.i64.wrap ((m:Int) * ((n:Int) - 1))=(m:Int) * ((n:Int) - 1):=by rw [p2];exact wrapN _ (by omega)
  have a5:IntKind.i64.wrap ((xn:Int) + (m:Int) * ((n:Int) - 1))=(xn:Int) + (m:Int) * ((n:Int) - 1):=by rw [p2];exact wrapNN _ _ (by omega)
  have a6:IntKind.i64.wrap ((d:Int) - 1)=(d:Int) - 1:=by simp [IntKind.wrap,IntKind.bits,IntKind.signed];omega
  have HF:Hid (addR 1099511627776 ⟨xs,xn,xd,⟨lk,ln,ls,ld⟩⟩ ⟨sk,n,s,d⟩ m k=⟨min (xs + m * s) 1099511627776,min (xn + m * (n - 1)) 1099511627776,max xd (d - 1),⟨lk,ln,ls,ld⟩⟩):=by unfold addR;rw [if_neg h0,if_pos hk];exact rfl
  have e1:((min (xs + m * s) 1099511627776:Nat):Int)=min ((xs:Int) + (m:Int) * (s:Int)) 1099511627776:=by rw [p1];omega
  have e2:((min (xn + m * (n - 1)) 1099511627776:Nat):Int)=min ((xn:Int) + (m:Int) * ((n:Int) - 1)) 1099511627776:=by rw [p2];omega
  have e3:((max xd (d - 1):Nat):Int)=max (xd:Int) ((d:Int) - 1):=by omega
  have E1:=hid e1
  have E2:=hid e2
  have E3:=hid e3
  clear e1 e2 e3 p1 p2 hms hmn hk
  go_enter Tryz.func142,Tryz.ntmps142
  go_upto_region 1 with fail
  rw [← hz,← hW]
  clear hW hz
  go_upto_region 3 with fail
  go_region
  obtain ⟨V1,hV1⟩:∃ V1,V1=(W.setCell ⟨r,0,none⟩ (.int .i64 (min ((xs:Int) + (m:Int) * (s:Int)) 1099511627776))).drew:=⟨_,rfl⟩
  rw [← hV1]
  have hrV1:V1.heap[r]?=some (.cells #[.int .i64 (min ((xs:Int) + (m:Int) * (s:Int)) 1099511627776),.int .i64 (xn:Int),.int .i64 (xd:Int),.int .i64 lk,.int .i64 (ln:Int),.int .i64 (ls:Int),.int .i64 (ld:Int)] 205 (0,0)):=by rw [hV1];exact Joins.block_setCell (w:=W) (i:=0) HRW.out _
  have hzV1:V1.heap[z]?=some (.cells #[.int .i64 sk,.int .i64 (n:Int),.int .i64 (s:Int),.int .i64 (d:Int)] 156 (0,0)):=by rw [hV1];exact (Below.heap_setCell _ _ _ _ (fun e=>by simp only at e;omega)).trans HZW.out
  have hcV1:Chg w V1 [r] [r]:=by rw [hV1];exact chg_setd HCW.out 0 _
  clear z0 z1 z2 z3 c0 c1 c2 c3 c4 c5 c6 f0 f1 f2 f3 f4 f5 f6
  have z0:=Joins.cell_of_block hzV1 0
  have z1:=Joins.cell_of_block hzV1 1
  have z2:=Joins.cell_of_block hzV1 2
  have z3:=Joins.cell_of_block hzV1 3
  have c0:=Joins.cell_of_block hrV1 0
  have c1:=Joins.cell_of_block hrV1 1
  have c2:=Joins.cell_of_block hrV1 2
  have c3:=Joins.cell_of_block hrV1 3
  have c4:=Joins.cell_of_block hrV1 4
  have c5:=Joins.cell_of_block hrV1 5
  have c6:=Joins.cell_of_block hrV1 6
  have f0:=Joins.unfrozen_of_block hrV1 0
  have f1:=Joins.unfrozen_of_block hrV1 1
  have f2:=Joins.unfrozen_of_block hrV1 2
  have f3:=Joins.unfrozen_of_block hrV1 3
  have f4:=Joins.unfrozen_of_block hrV1 4
  have f5:=Joins.unfrozen_of_block hrV1 5
  have f6:=Joins.unfrozen_of_block hrV1 6
  have HRV1:=hid hrV1
  have HZV1:=hid hzV1
  have HCV1:=hid hcV1
  clear hV1 hrV1 hzV1 hcV1
  go_upto_region 4 with fail
  go_region
  obtain ⟨V2,hV2⟩:∃ V2,V2=(V1.setCell ⟨r,1,none⟩ (.int .i64 (min ((xn:Int) + (m:Int) * ((n:Int) - 1)) 1099511627776))).drew:=⟨_,rfl⟩
  rw [← hV2]
  have hrV2:V2.heap[r]?=some (.cells #[.int .i64 (min ((xs:Int) + (m:Int) * (s:Int)) 1099511627776),.int .i64 (min ((xn:Int) + (m:Int) * ((n:Int) - 1)) 1099511627776),.int .i64 (xd:Int),.int .i64 lk,.int .i64 (ln:Int),.int .i64 (ls:Int),.int .i64 (ld:Int)] 205 (0,0)):=by rw [hV2];exact Joins.block_setCell (w:=V1) (i:=1) HRV1.out _
  have hzV2:V2.heap[z]?=some (.cells #[.int .i64 sk,.int .i64 (n:Int),.int .i64 (s:Int),.int .i64 (d:Int)] 156 (0,0)):=by rw [hV2];exact (Below.heap_setCell _ _ _ _ (fun e=>by simp only at e;omega)).trans HZV1.out
  have hcV2:Chg w V2 [r] [r]:=by rw [hV2];exact chg_setd HCV1.out 1 _
  clear z0 z1 z2 z3 c0 c1 c2 c3 c4 c5 c6 f0 f1 f2 f3 f4 f5 f6
  have z0:=Joins.cell_of_block hzV2 0
  have z1:=Joins.cell_of_block hzV2 1
  have z2:=Joins.cell_of_block hzV2 2
  have z3:=Joins.cell_of_block hzV2 3
  have c0:=Joins.cell_of_block hrV2 0
  have c1:=Joins.cell_of_block hrV2 1
  have c2:=Joins.cell_of_block hrV2 2
  have c3:=Joins.cell_of_block hrV2 3
  have c4:=Joins.cell_of_block hrV2 4
  have c5:=Joins.cell_of_block hrV2 5
  have c6:=Joins.cell_of_block hrV2 6
  have f0:=Joins.unfrozen_of_block hrV2 0
  have f1:=Joins.unfrozen_of_block hrV2 1
  have f2:=Joins.unfrozen_of_block hrV2 2
  have f3:=Joins.unfrozen_of_block hrV2 3
  have f4:=Joins.unfrozen_of_block hrV2 4
  have f5:=Joins.unfrozen_of_block hrV2 5
  have f6:=Joins.unfrozen_of_block hrV2 6
  have HRV2:=hid hrV2
  have HZV2:=hid hzV2
  have HCV2:=hid hcV2
  clear hV2 hrV2 hzV2 hcV2
  go_upto_region 5 with fail
  go_region
  obtain ⟨V3,hV3⟩:∃ V3,V3=(V2.setCell ⟨r,2,none⟩ (.int .i64 (max (xd:Int) ((d:Int) - 1)))).drew:=⟨_,rfl⟩
  rw [← hV3]
  have hrV3:V3.heap[r]?=some (.cells #[.int .i64 (min ((xs:Int) + (m:Int) * (s:Int)) 1099511627776),.int .i64 (min ((xn:Int) + (m:Int) * ((n:Int) - 1)) 1099511627776),.int .i64 (max (xd:Int) ((d:Int) - 1)),.int .i64 lk,.int .i64 (ln:Int),.int .i64 (ls:Int),.int .i64 (ld:Int)] 205 (0,0)):=by rw [hV3];exact Joins.block_setCell (w:=V2) (i:=2) HRV2.out _
  have hzV3:V3.heap[z]?=some (.cells #[.int .i64 sk,.int .i64 (n:Int),.int .i64 (s:Int),.int .i64 (d:Int)] 156 (0,0)):=by rw [hV3];exact (Below.heap_setCell _ _ _ _ (fun e=>by simp only at e;omega)).trans HZV2.out
  have hcV3:Chg w V3 [r] [r]:=by rw [hV3];exact chg_setd HCV2.out 2 _
  clear z0 z1 z2 z3 c0 c1 c2 c3 c4 c5 c6 f0 f1 f2 f3 f4 f5 f6
  have z0:=Joins.cell_of_block hzV3 0
  have z1:=Joins.cell_of_block hzV3 1
  have z2:=Joins.cell_of_block hzV3 2
  have z3:=Joins.cell_of_block hzV3 3
  have c0:=Joins.cell_of_block hrV3 0
  have c1:=Joins.cell_of_block hrV3 1
  have c2:=Joins.cell_of_block hrV3 2
  have c3:=Joins.cell_of_block hrV3 3
  have c4:=Joins.cell_of_block hrV3 4
  have c5:=Joins.cell_of_block hrV3 5
  have c6:=Joins.cell_of_block hrV3 6
  have f0:=Joins.unfrozen_of_block hrV3 0
  have f1:=Joins.unfrozen_of_block hrV3 1
  have f2:=Joins.unfrozen_of_block hrV3 2
  have f3:=Joins.unfrozen_of_block hrV3 3
  have f4:=Joins.unfrozen_of_block hrV3 4
  have f5:=Joins.unfrozen_of_block hrV3 5
  have f6:=Joins.unfrozen_of_block hrV3 6
  have HRV3:=hid hrV3
  have HZV3:=hid hzV3
  have HCV3:=hid hcV3
  clear hV3 hrV3 hzV3 hcV3
  go_wp2
  all_goals first | go_end0 | (refine bodyPost_ret (results_none rfl _ _ _) rfl ?_)
  all_goals
   refine ⟨rfl,?_,HCV3.out⟩
   rw [HF.out]
   show _=some (Obj.cells #[.int .i64 ((min (xs + m * s) 1099511627776:Nat):Int),.int .i64 ((min (xn + m * (n - 1)) 1099511627776:Nat):Int),.int .i64 ((max xd (d - 1):Nat):Int),.int .i64 lk,.int .i64 (ln:Int),.int .i64 (ls:Int),.int .i64 (ld:Int)] 205 (0,0))
   rw [E1.out,E2.out,E3.out]
   exact HRV3.out
 ·have gk:(sk == k)=false:=by simpa using hk
  have hmn:m * n≤1000 * 1099511627776:=Nat.mul_le_mul hm hS2
  have p2:(m:Int) * (n:Int)=((m * n:Nat):Int):=by push_cast;rfl
  have a2:IntKind.i64.wrap ((xs:Int) + (m:Int))=(xs:Int) + (m:Int):=by simp [IntKind.wrap,IntKind.bits,IntKind.signed];omega
  have a4:IntKind.i64.wrap ((m:Int) * (n:Int))=(m:Int) * (n:Int):=by rw [p2];exact wrapN _ (by omega)
  have a5:IntKind.i64.wrap ((xn:Int) + (m:Int) * (n:Int))=(xn:Int) + (m:Int) * (n:Int):=by rw [p2];exact wrapNN _ _ (by omega)
  have HF:Hid (addR 1099511627776 ⟨xs,xn,xd,⟨lk,ln,ls,ld⟩⟩ ⟨sk,n,s,d⟩ m k=⟨min (xs + m) 1099511627776,min (xn + m * n) 1099511627776,max xd d,⟨sk,n,s,d⟩⟩):=by unfold addR;rw [if_neg h0,if_neg hk];exact rfl
  have e1:((min (xs + m) 1099511627776:Nat):Int)=min ((xs:Int) + (m:Int)) 1099511627776:=by omega
  have e2:((min (xn + m * n) 1099511627776:Nat):Int)=min ((xn:Int) + (m:Int) * (n:Int)) 1099511627776:=by rw [p2];omega
  have e3:((max xd d:Nat):Int)=max (xd:Int) (d:Int):=by omega
  have E1:=hid e1
  have E2:=hid e2
  have E3:=hid e3
  clear e1 e2 e3 p2 hmn hk
  go_enter Tryz.func142,Tryz.ntmps142
  go_upto_region 1 with fail
  rw [← hz,← hW]
  clear hW hz
  go_upto_region 7 with fail
  obtain ⟨V1,hV1⟩:∃ V1,V1=(W.setCell ⟨r,0,none⟩ (.int .i64 (min ((xs:Int) + (m:Int)) 1099511627776))):=⟨_,rfl⟩
  rw [← hV1]
  have hrV1:V1.heap[r]?=some (.cells #[.int .i64 (min ((xs:Int) + (m:Int)) 1099511627776),.int .i64 (xn:Int),.int .i64 (xd:Int),.int .i64 lk,.int .i64 (ln:Int),.int .i64 (ls:Int),.int .i64 (ld:Int)] 205 (0,0)):=by rw [hV1];exact Joins.block_setCell (w:=W) (i:=0) HRW.out _
  have hzV1:V1.heap[z]?=some (.cells #[.int .i64 sk,.int .i64 (n:Int),.int .i64 (s:Int),.int .i64 (d:Int)] 156 (0,0)):=by rw [hV1];exact (Below.heap_setCell _ _ _ _ (fun e=>by simp only at e;omega)).trans HZW.out
  have hcV1:Chg w V1 [r] [r]:=by rw [hV1];exact chg_set HCW.out 0 _
  clear z0 z1 z2 z3 c0 c1 c2 c3 c4 c5 c6 f0 f1 f2 f3 f4 f5 f6
  have z0:=Joins.cell_of_block hzV1 0
  have z1:=Joins.cell_of_block hzV1 1
  have z2:=Joins.cell_of_block hzV1 2
  have z3:=Joins.cell_of_block hzV1 3
  have c0:=Joins.cell_of_block hrV1 0
  have c1:=Joins.cell_of_block hrV1 1
  have c2:=Joins.cell_of_block hrV1 2
  have c3:=Joins.cell_of_block hrV1 3
  have c4:=Joins.cell_of_block hrV1 4
  have c5:=Joins.cell_of_block hrV1 5
  have c6:=Joins.cell_of_block hrV1 6
  have f0:=Joins.unfrozen_of_block hrV1 0
  have f1:=Joins.unfrozen_of_block hrV1 1
  have f2:=Joins.unfrozen_of_block hrV1 2
  have f3:=Joins.unfrozen_of_block hrV1 3
  have f4:=Joins.unfrozen_of_block hrV1 4
  have f5:=Joins.unfrozen_of_block hrV1 5
  have f6:=Joins.unfrozen_of_block hrV1 6
  have HRV1:=hid hrV1
  have HZV1:=hid hzV1
  have HCV1:=hid hcV1
  clear hV1 hrV1 hzV1 hcV1
  go_region
  obtain ⟨V2,hV2⟩:∃ V2,V2=(V1.setCell ⟨r,1,none⟩ (.int .i64 (min ((xn:Int) + (m:Int) * (n:Int)) 1099511627776))).drew:=⟨_,rfl⟩
  rw [← hV2]
  have hrV2:V2.heap[r]?=some (.cells #[.int .i64 (min ((xs:Int) + (m:Int)) 1099511627776),.int .i64 (min ((xn:Int) + (m:Int) * (n:Int)) 1099511627776),.int .i64 (xd:Int),.int .i64 lk,.int .i64 (ln:Int),.int .i64 (ls:Int),.int .i64 (ld:Int)] 205 (0,0)):=by rw [hV2];exact Joins.block_setCell (w:=V1) (i:=1) HRV1.out _
  have hzV2:V2.heap[z]?=some (.cells #[.int .i64 sk,.int .i64 (n:Int),.int .i64 (s:Int),.int .i64 (d:Int)] 156 (0,0)):=by rw [hV2];exact (Below.heap_setCell _ _ _ _ (fun e=>by simp only at e;omega)).trans HZV1.out
  have hcV2:Chg w V2 [r] [r]:=by rw [hV2];exact chg_setd HCV1.out 1 _
  clear z0 z1 z2 z3 c0 c1 c2 c3 c4 c5 c6 f0 f1 f2 f3 f4 f5 f6
  have z0:=Joins.cell_of_block hzV2 0
  have z1:=Joins.cell_of_block hzV2 1
  have z2:=Joins.cell_of_block hzV2 2
  have z3:=Joins.cell_of_block hzV2 3
  have c0:=Joins.cell_of_block hrV2 0
  have c1:=Joins.cell_of_block hrV2 1
  have c2:=Joins.cell_of_block hrV2 2
  have c3:=Joins.cell_of_block hrV2 3
  have c4:=Joins.cell_of_block hrV2 4
  have c5:=Joins.cell_of_block hrV2 5
  have c6:=Joins.cell_of_block hrV2 6
  have f0:=Joins.unfrozen_of_block hrV2 0
  have f1:=Joins.unfrozen_of_block hrV2 1
  have f2:=Joins.unfrozen_of_block hrV2 2
  have f3:=Joins.unfrozen_of_block hrV2 3
  have f4:=Joins.unfrozen_of_block hrV2 4
  have f5:=Joins.unfrozen_of_block hrV2 5
  have f6:=Joins.unfrozen_of_block hrV2 6
  have HRV2:=hid hrV2
  have HZV2:=hid hzV2
  have HCV2:=hid hcV2
  clear hV2 hrV2 hzV2 hcV2
  go_upto_region 8 with fail
  go_region
  obtain ⟨V3,hV3⟩:∃ V3,V3=(V2.setCell ⟨r,2,none⟩ (.int .i64 (max (xd:Int) (d:Int)))).drew:=⟨_,rfl⟩
  rw [← hV3]
  have hrV3:V3.heap[r]?=some (.cells #[.int .i64 (min ((xs:Int) + (m:Int)) 1099511627776),.int .i64 (min ((xn:Int) + (m:Int) * (n:Int)) 1099511627776),.int .i64 (max (xd:Int) (d:Int)),.int .i64 lk,.int .i64 (ln:Int),.int .i64 (ls:Int),.int .i64 (ld:Int)] 205 (0,0)):=by rw [hV3];exact Joins.block_setCell (w:=V2) (i:=2) HRV2.out _
  have hzV3:V3.heap[z]?=some (.cells #[.int .i64 sk,.int .i64 (n:Int),.int .i64 (s:Int),.int .i64 (d:Int)] 156 (0,0)):=by rw [hV3];exact (Below.heap_setCell _ _ _ _ (fun e=>by simp only at e;omega)).trans HZV2.out
  have hcV3:Chg w V3 [r] [r]:=by rw [hV3];exact chg_setd HCV2.out 2 _
  clear z0 z1 z2 z3 c0 c1 c2 c3 c4 c5 c6 f0 f1 f2 f3 f4 f5 f6
  have z0:=Joins.cell_of_block hzV3 0
  have z1:=Joins.cell_of_block hzV3 1
  have z2:=Joins.cell_of_block hzV3 2
  have z3:=Joins.cell_of_block hzV3 3
  have c0:=Joins.cell_of_block hrV3 0
  have c1:=Joins.cell_of_block hrV3 1
  have c2:=Joins.cell_of_block hrV3 2
  have c3:=Joins.cell_of_block hrV3 3
  have c4:=Joins.cell_of_block hrV3 4
  have c5:=Joins.cell_of_block hrV3 5
  have c6:=Joins.cell_of_block hrV3 6
  have f0:=Joins.unfrozen_of_block hrV3 0
  have f1:=Joins.unfrozen_of_block hrV3 1
  have f2:=Joins.unfrozen_of_block hrV3 2
  have f3:=Joins.unfrozen_of_block hrV3 3
  have f4:=Joins.unfrozen_of_block hrV3 4
  have f5:=Joins.unfrozen_of_block hrV3 5
  have f6:=Joins.unfrozen_of_block hrV3 6
  have HRV3:=hid hrV3
  have HZV3:=hid hzV3
  have HCV3:=hid hcV3
  clear hV3 hrV3 hzV3 hcV3
  go_wp2
  all_goals first | go_end0 | (refine bodyPost_ret (results_none rfl _ _ _) rfl ?_)
  all_goals
   refine ⟨rfl,?_,chg_set (chg_set (chg_set (chg_set HCV3.out 3 _) 4 _) 5 _) 6 _⟩
   rw [HF.out]
   show _=some (Obj.cells #[.int .i64 ((min (xs + m) 1099511627776:Nat):Int),.int .i64 ((min (xn + m * n) 1099511627776:Nat):Int),.int .i64 ((max xd d:Nat):Int),.int .i64 sk,.int .i64 (n:Int),.int .i64 (s:Int),.int .i64 (d:Int)] 205 (0,0))
   rw [E1.out,E2.out,E3.out]
   have h3:=Joins.block_setCell (i:=3) HRV3.out (.int .i64 sk)
   have h4:=Joins.block_setCell (i:=4) h3 (.int .i64 (n:Int))
   have h5:=Joins.block_setCell (i:=5) h4 (.int .i64 (s:Int))
   have h6:=Joins.block_setCell (i:=6) h5 (.int .i64 (d:Int))
   exact h6
def jn (t:Tn):List Tn:=if t.kind=1 then [] else within 4 t
def joinU:List Tn→Tn
 | []=>emptyT
 | [u]=>u
 | a :: b :: s=>zN 4 (a :: b :: s)
theorem rowS_keep (l:List (Tn × Nat)):rowS 4 (l.filter keep)=l.flatMap fun x=>(List.replicate x.2 (jn x.1)).flatten:=by
 induction l with
 | nil=>rfl
 | cons x l ih =>
  rw [List.filter_cons,List.flatMap_cons,← ih]
  by_cases h1:x.1.kind=1
  ·have hk:keep x=false:=by simp [keep,h1]
   simp [hk,jn,h1]
  ·by_cases h0:x.2=0
   ·have hk:keep x=false:=by simp [keep,h0]
    simp [hk,h0]
   ·have hk:keep x=true:=by simp [keep,h1];omega
    rw [if_pos hk,rowS_cons]
    simp [jn,h1]
theorem rowS_keep_ones (l:List Tn):rowS 4 ((ones l).filter keep)=l.flatMap jn:=by
 rw [rowS_keep]
 simp [ones,List.flatMap_map]
theorem joinT_U {l:List (Tn × Nat)} (hl:∀ x ∈ l,Nf x.1):joinT l=joinU (rowS 4 (l.filter keep)):=by
 rw [joinT_us hl]
 generalize rowS 4 (l.filter keep)=us
 match us with
 | []=>rfl
 | [u]=>rfl
 | a :: b :: s=>rfl
theorem joinT_jn {l:List Tn} (h:∀ x ∈ l,Nf x):joinT (ones l)=joinU (l.flatMap jn):=by
 rw [joinT_U (fun x hx=>by obtain ⟨u,hu,rfl⟩:=List.mem_map.1 hx;exact h u hu),rowS_keep_ones]
theorem joinT_runs {y o:Tn} (n:Nat) (hy:Nf y) (ho:Nf o):joinT (ones (List.replicate n y ++ [o]))=joinT [(y,n),(o,1)]:=by
 rw [joinT_jn fun x hx=>by
  rw [List.mem_append,List.mem_replicate] at hx
  rcases hx with h | h
  ·rw [h.2];exact hy
  ·rw [List.mem_singleton] at h;rw [h];exact ho]
 rw [joinT_U fun x hx=>by
  simp at hx
  rcases hx with rfl | rfl
  ·exact hy
  ·exact ho]
 rw [rowS_keep]
 congr 1
 simp [List.flatMap_append,List.flatMap_replicate]
def LTr (w:World) (A:Nat→Prop) (ad:Option Addr) (ts:List Tn):Prop:=
 ∃ ND:Nat→Nv,(0 < ts.length→∃ b o,ad=some ⟨b,o,none⟩∧A b∧∀ i,i < ts.length→N9 w b o i (ND i))∧∀ i (hi:i < ts.length),TP w A (ND i) ts[i]
theorem LTr.kept {w w':World} {A A':Nat→Prop} {ad:Option Addr} {ts:List Tn} (h:LTr w A ad ts) (hk:∀ b,A b→w'.heap[b]?=w.heap[b]?) (hA:∀ b,A b→A' b):LTr w' A' ad ts:=by
 obtain ⟨ND,h1,h2⟩:=h
 refine ⟨ND,fun hp=>?_,fun i hi=>(h2 i hi).kept hk hA⟩
 obtain ⟨b,o,e,hb,h3⟩:=h1 hp
 exact ⟨b,o,e,hA b hb,fun i hi=>(h3 i hi).kept (hk b hb)⟩
theorem LTr.node {w:World} {A:Nat→Prop} {N:Nv} {ts:List Tn} {R:List (Int × Int)} (h:LTr w A N.s1 ts) (ok:N.ok) (hr:N.r2=R.length) (hR:RP w A N.r1 R) (hRk:∀ x ∈ R,I64ok x.1∧I64ok x.2) (hs:N.s2=ts.length):TP w A N (.mk N.k R N.a2 ts N.a4 N.a5 N.a6 N.a7 N.a8):=by
 obtain ⟨ND,h1,h2⟩:=h
 exact .mk ok hr hR hRk hs h1 h2
theorem TP.subs {w:World} {A:Nat→Prop} {N:Nv} {t:Tn} (h:TP w A N t):LTr w A N.s1 t.subs∧N.s2=t.subs.length∧N.s2≤N.s3∧N.k=t.kind:=by
 cases h with
 | mk ok hr hR hRk hs hS hk=>exact ⟨⟨_,hS,hk⟩,hs,ok.s.1,rfl⟩
structure RX (A A':Nat→Prop) (w0 w:World) (uv:Value) (MS:List Nv) (us:List Tn):Prop where
 row:w.ownsRow w0.heap.size 25 9 uv us.length (MS.flatMap Nv.cs)
 len:MS.length=us.length
 tp:∀ j (h:j < us.length) (h':j < MS.length),TP w A' MS[j] us[j]
 inA:∀ b,A b→A' b
 ofA:∀ b,A' b→A b∨w0.heap.size≤b
 low:∀ b,A' b→b < w.heap.size
 out:∀ b,uv.ownBlock=some b→¬ A' b
 bel:Below w0.heap.size w0 w
def RG (A:Nat→Prop) (w0 w:World) (uv:Value) (us:List Tn):Prop:=∃ MS A',RX A A' w0 w uv MS us
theorem RG.start {A:Nat→Prop} {w0 w:World} (hA:∀ b,A b→b < w0.heap.size) (hb:Below w0.heap.size w0 w):RG A w0 w (.slice none 0 0) []:=
 ⟨[],A,World.ownsRow_nil _ _ _ _,rfl,fun j h=>by simp at h,fun b hb=>hb,fun b hb=>.inl hb,fun b h=>by have:=hA b h;have:=hb.size;omega,fun b hb=>(by cases hb),hb⟩
theorem RX.rowAt {A A':Nat→Prop} {w0 w X:World} {uv:Value} {MS:List Nv} {us:List Tn} (h:RX A A' w0 w uv MS us) (hX:Below w.heap.size w X):X.ownsRow w0.heap.size 25 9 uv us.length (MS.flatMap Nv.cs):=row_kept h.row fun b hb=>hX.block b (h.row.lt b hb).2
theorem RX.app {A A' A2:Nat→Prop} {w0 w W X w3:World} {uv v':Value} {MS news:List Nv} {us ts:List Tn} (h:RX A A' w0 w uv MS us) (hW:Below w.heap.size w W) (hnl:news.length=ts.length) (hN:∀ j (h:j < ts.length) (h':j < news.length),TP W A2 news[j] ts[j]) (hA2:∀ b,A2 b→A b∨w.heap.size≤b∧b < W.heap.size) (hX:Below W.heap.size W X)
  (ho:w3.ownsRow w0.heap.size 25 9 v' (us.length + ts.length) (MS.flatMap Nv.cs ++ news.flatMap Nv.cs)) (hm:Moved X w3 uv v'):RG A w0 w3 v' (us ++ ts):=by
 have hub:∀ k,uv.ownBlock=some k→k < w.heap.size:=fun k hk=>(h.row.lt k hk).2
 have hx0:=h.bel.size
 have s2:=hW.size
 have s3:=hX.size
 have hWX:Below w.heap.size w X:=hW.trans (Joins.below_le hX s2)
 have hbX:Below w0.heap.size w0 X:=h.bel.trans (Joins.below_le hWX hx0)
 obtain ⟨hb3,hs3⟩:=moved_below hbX (by omega) (fun k hk=>(h.row.lt k hk).1) hm
 have e3:∀ k,k < W.heap.size→uv.ownBlock≠some k→w3.heap[k]?=W.heap[k]?:=fun k hk hn=>(moved_old' hm (by omega) hn).trans (hX.block k hk)
 have hlow:∀ b,(A' b∨w.heap.size≤b∧b < W.heap.size)→b < W.heap.size:=fun b hA=>by
  rcases hA with hA | hA
  ·have:=h.low b hA;omega
  ·omega
 have hout:∀ b,(A' b∨w.heap.size≤b∧b < W.heap.size)→uv.ownBlock≠some b:=fun b hA e=>by
  rcases hA with hA | hA
  ·exact h.out b e hA
  ·have:=hub b e;omega
 have hl:=h.len
 refine ⟨MS ++ news,fun b=>A' b∨w.heap.size≤b∧b < W.heap.size,?_,by simp [hl,hnl],fun j hj hj'=>?_,fun b hb=>.inl (h.inA b hb),fun b hb=>?_,fun b hA=>by have:=hlow b hA;omega,fun b hb hA=>?_,hb3⟩
 ·rw [List.length_append,List.flatMap_append];exact ho
 ·by_cases hjl:j < us.length
  ·rw [List.getElem_append_left (by omega),List.getElem_append_left hjl]
   exact (h.tp j hjl (by omega)).kept (fun b hA=>(e3 b (hlow b (.inl hA)) (hout b (.inl hA))).trans (hW.block b (h.low b hA))) (fun b hA=>.inl hA)
  ·simp only [List.length_append] at hj hj'
   rw [List.getElem_append_right (by omega),List.getElem_append_right (by omega)]
   have hN':=hN (j - us.length) (by omega) (by omega)
   have e:j - MS.length=j - us.length:=by omega
   simp only [e]
   have hin:∀ b,A2 b→A' b∨w.heap.size≤b∧b < W.heap.size:=fun b hb=>by
    rcases hA2 b hb with h1 | h1
    ·exact .inl (h.inA b h1)
    ·exact .inr h1
   exact hN'.kept (fun b hb=>e3 b (hlow b (hin b hb)) (hout b (hin b hb))) hin
 ·rcases hb with hb | hb
  ·exact h.ofA b hb
  ·right;omega
 ·rcases hm with ⟨h0,_⟩ | ⟨h0,_⟩
  ·rw [h0] at hb;exact hout b hA hb
  ·rw [h0] at hb
   simp at hb
   have:=hlow b hA
   omega
end Go.Proofs.YtacaanhnlfpbhaaGreat
