/- HELPERS: texts of ours put together. -/
import Derived.Test.YtacaanhnlfpbhaaGreatK26
import Derived.Test.YtacaanhnlfpbhaaGreatK16
namespace Go.Proofs.YtacaanhnlfpbhaaGreat
open Go.RowKit
set_option linter.unusedVariables false
set_option linter.unusedSimpArgs false
theorem oks {t:Tn} (h:t.depth≤4000000000):OkS (sumOf 1099511627776 t):=by
 have:=t.pos
 have:=t.depth_subs
 exact ⟨by simp only [sumOf];omega,by simp only [sumOf];omega,by simp only [sumOf];omega,by simp only [sumOf];omega,h⟩
theorem okr {us:List Tn} {x:R7} (h:RowOf 1099511627776 us x) (hd:depthL us≤4000000000):OkR x:=⟨by rw [h.s];omega,h.n.1,by rw [h.d];exact hd⟩
set_option maxRecDepth 100000 in
set_option maxHeartbeats 4000000 in
theorem join71 (r:Nat) (x:R7) (S:S4) (m:Nat) (w:World) (hr:BRs w r x) (hx:OkR x) (hS:OkS S) (hm:m≤1000) :
  Calls Tryz.prog 141 #[pt r,S.v,.int .i64 (m:Int)] w fun e w'=>e=.returned (.tuple #[])∧BRs w' r (joinR 1099511627776 x S m)∧Chg w w' [r] [r]:=by
 have hrl:r < w.heap.size:=(Array.getElem?_eq_some_iff.1 hr).1
 obtain ⟨sk,n,s,d⟩:=S
 obtain ⟨W,hW⟩:∃ W,W=w.alloc (.cells #[.int .i64 sk,.int .i64 (n:Int),.int .i64 (s:Int),.int .i64 (d:Int)] 156):=⟨_,rfl⟩
 have hcW:Chg w W [r] [r]:=by rw [hW];exact (Chg.refl w _).alloc _
 have hrW:BRs W r x:=by rw [hW];exact (heap_alloc_old w _ hrl).trans hr
 have hzW:W.heap[w.heap.size]?=some (.cells #[.int .i64 sk,.int .i64 (n:Int),.int .i64 (s:Int),.int .i64 (d:Int)] 156 (0,0)):=by rw [hW];exact heap_alloc_new w _
 obtain ⟨z,hz⟩:∃ z,z=w.heap.size:=⟨_,rfl⟩
 rw [← hz] at hzW
 have z0:=Joins.cell_of_block hzW 0
 have z1:=Joins.cell_of_block hzW 1
 have z2:=Joins.cell_of_block hzW 2
 have z3:=Joins.cell_of_block hzW 3
 have HC:=add72 r x ⟨sk,n,s,d⟩ m 4 W hrW hx hS hm
 have HRW:=hid hrW
 have HCW:=hid hcW
 clear hr hrW hcW hzW
 by_cases hk:sk=1
 ·have gk:(sk != 1)=false:=by simp [hk]
  have HJ:Hid (joinR 1099511627776 x ⟨sk,n,s,d⟩ m=x):=by unfold joinR;rw [if_pos hk];exact rfl
  clear hk
  go_enter Tryz.func141,Tryz.ntmps141
  go_upto_region 1 with fail
  rw [← hz,← hW]
  clear hW hz
  go_wp2
  all_goals first | go_end0 | (refine bodyPost_ret (results_none rfl _ _ _) rfl ?_)
  all_goals exact ⟨rfl,by rw [HJ.out];exact HRW.out,HCW.out⟩
 ·have gk:(sk != 1)=true:=by simp [hk]
  have HJ:Hid (joinR 1099511627776 x ⟨sk,n,s,d⟩ m=addR 1099511627776 x ⟨sk,n,s,d⟩ m 4):=by unfold joinR;rw [if_neg hk];exact rfl
  clear hk
  go_enter Tryz.func141,Tryz.ntmps141
  go_upto_region 1 with fail
  rw [← hz,← hW]
  clear hW hz
  go_wp2_with (first | (go_at_call 142;(with_reducible refine HC.mono ?_);rintro e w2 ⟨rfl,hr2,hc2⟩;have HR2:=hid hr2;have HC2:=hid hc2;clear hr2 hc2 HC))
  all_goals first | go_end0 | (refine bodyPost_ret (results_none rfl _ _ _) rfl ?_)
  all_goals exact ⟨rfl,by rw [HJ.out];exact HR2.out,HCW.out.trans HC2.out⟩
theorem four_set (X:World) (b:Nat) {c0 c1 c2 c3:Value} {t:TypeId} (v0 v1 v2 v3:Value) (h:X.heap[b]?=some (.cells #[c0,c1,c2,c3] t (0,0))):((((X.setCell ⟨b,0,none⟩ v0).setCell ⟨b,1,none⟩ v1).setCell ⟨b,2,none⟩ v2).setCell ⟨b,3,none⟩ v3).heap[b]?=some (.cells #[v0,v1,v2,v3] t (0,0))∧(∀ c,c≠b→((((X.setCell ⟨b,0,none⟩ v0).setCell ⟨b,1,none⟩ v1).setCell ⟨b,2,none⟩ v2).setCell ⟨b,3,none⟩ v3).heap[c]?=X.heap[c]?)∧(∀ B0 W0,Below B0 W0 X→B0≤b→Below B0 W0 ((((X.setCell ⟨b,0,none⟩ v0).setCell ⟨b,1,none⟩ v1).setCell ⟨b,2,none⟩ v2).setCell ⟨b,3,none⟩ v3)):=by
 have h0:(X.setCell ⟨b,0,none⟩ v0).heap[b]?=some (.cells #[v0,c1,c2,c3] t (0,0)):=Joins.block_setCell (i:=0) h v0
 have h1:((X.setCell ⟨b,0,none⟩ v0).setCell ⟨b,1,none⟩ v1).heap[b]?=some (.cells #[v0,v1,c2,c3] t (0,0)):=Joins.block_setCell (i:=1) h0 v1
 have h2:(((X.setCell ⟨b,0,none⟩ v0).setCell ⟨b,1,none⟩ v1).setCell ⟨b,2,none⟩ v2).heap[b]?=some (.cells #[v0,v1,v2,c3] t (0,0)):=Joins.block_setCell (i:=2) h1 v2
 refine ⟨Joins.block_setCell (i:=3) h2 v3,fun c hc=>?_,fun B0 W0 hB hb=>?_⟩
 ·exact (Below.heap_setCell _ _ _ _ hc).trans ((Below.heap_setCell _ _ _ _ hc).trans ((Below.heap_setCell _ _ _ _ hc).trans (Below.heap_setCell _ _ _ _ hc)))
 ·exact (((hB.setCell (by exact hb) _).setCell (by exact hb) _).setCell (by exact hb) _).setCell (by exact hb) _
set_option maxRecDepth 100000 in
set_option maxHeartbeats 4000000 in
theorem joined73 (r:Nat) (x:R7) (w:World) (hr:BRs w r x) (hx:OkR x):Calls Tryz.prog 143 #[pt r] w fun e w'=>e=.returned (S4.v (joinedR 1099511627776 x))∧Below w.heap.size w w':=by
 have hrl:r < w.heap.size:=(Array.getElem?_eq_some_iff.1 hr).1
 obtain ⟨xs,xn,xd,⟨lk,ln,ls,ld⟩⟩:=x
 obtain ⟨hx1,hx2,hx3⟩:=hx
 dsimp only at hx1 hx2 hx3 hr
 obtain ⟨W,hW⟩:∃ W,W=w.alloc (.cells #[.int .i64 0,.int .i64 0,.int .i64 0,.int .i64 0] 156):=⟨_,rfl⟩
 have hbW:Below w.heap.size w W:=by rw [hW];exact Joins.below_alloc1 w _
 have hsW:W.heap.size=w.heap.size + 1:=by rw [hW];simp
 have hrW:BRs W r ⟨xs,xn,xd,⟨lk,ln,ls,ld⟩⟩:=(hbW.block r hrl).trans hr
 have hzW:W.heap[w.heap.size]?=some (.cells #[.int .i64 0,.int .i64 0,.int .i64 0,.int .i64 0] 156 (0,0)):=by rw [hW];exact heap_alloc_new w _
 obtain ⟨z,hz⟩:∃ z,z=w.heap.size:=⟨_,rfl⟩
 rw [← hz] at hzW hsW hrl
 have c0:=Joins.cell_of_block hrW 0
 have c1:=Joins.cell_of_block hrW 1
 have c2:=Joins.cell_of_block hrW 2
 have c3:=Joins.cell_of_block hrW 3
 have c4:=Joins.cell_of_block hrW 4
 have c5:=Joins.cell_of_block hrW 5
 have c6:=Joins.cell_of_block hrW 6
 have HZW:=hid hzW
 have HBW:=hid hbW
 have HZ:=hid hz
 have HSW:=hid hsW
 have HCE:=empty96 W
 have z0:=Joins.cell_of_block hzW 0
 have z1:=Joins.cell_of_block hzW 1
 have z2:=Joins.cell_of_block hzW 2
 have z3:=Joins.cell_of_block hzW 3
 have f0:=Joins.unfrozen_of_block hzW 0
 have f1:=Joins.unfrozen_of_block hzW 1
 have f2:=Joins.unfrozen_of_block hzW 2
 have f3:=Joins.unfrozen_of_block hzW 3
 clear hr hbW hrW hzW hsW
 by_cases h0:xs=0
 ·have g0:((xs:Int) == 0)=true:=by simp [h0]
  have HJ:Hid (joinedR 1099511627776 ⟨xs,xn,xd,⟨lk,ln,ls,ld⟩⟩=⟨1,1,0,1⟩):=by unfold joinedR;rw [if_pos h0];exact rfl
  rw [HJ.out]
  clear h0
  go_enter Tryz.func143,Tryz.ntmps143
  go_upto_region 1 with fail
  rw [← hz,← hW]
  clear hW hz
  go_wp2_with (first | (go_at_call 211;(with_reducible refine HCE.mono ?_);rintro e w2 ⟨rfl,hb2⟩;have hz2:=(hb2.block z (by have:=HSW.out;omega)).trans HZW.out;clear z0 z1 z2 z3 f0 f1 f2 f3;have z0:=Joins.cell_of_block hz2 0;have z1:=Joins.cell_of_block hz2 1;have z2:=Joins.cell_of_block hz2 2;have z3:=Joins.cell_of_block hz2 3;have f0:=Joins.unfrozen_of_block hz2 0;have f1:=Joins.unfrozen_of_block hz2 1;have f2:=Joins.unfrozen_of_block hz2 2;have f3:=Joins.unfrozen_of_block hz2 3;have HZ2:=hid hz2;have HB2:=hid hb2;clear hb2 hz2 HCE))
  all_goals
   obtain ⟨y1,y2,y3⟩:=four_set w2 z (.int .i64 1) (.int .i64 1) (.int .i64 0) (.int .i64 1) HZ2.out
   refine bodyPost_ret (results_cell_row rfl _ _ z 156 _ (0,0) _ rfl y1 Tryz.underlying156 rfl (by kernel_rfl)) rfl ⟨rfl,?_⟩
   exact y3 _ _ (HBW.out.trans (Joins.below_le HB2.out HBW.out.size)) (by have:=HZ.out;omega)
 have g0:((xs:Int) == 0)=false:=by simp;omega
 by_cases h1:xs=1
 ·have g1:((xs:Int) == 1)=true:=by simp [h1]
  have HJ:Hid (joinedR 1099511627776 ⟨xs,xn,xd,⟨lk,ln,ls,ld⟩⟩=⟨lk,ln,ls,ld⟩):=by unfold joinedR;rw [if_neg h0,if_pos h1];exact rfl
  rw [HJ.out]
  clear h0 h1
  go_enter Tryz.func143,Tryz.ntmps143
  go_upto_region 1 with fail
  rw [← hz,← hW]
  clear hW hz
  go_wp2
  all_goals
   obtain ⟨y1,y2,y3⟩:=four_set W z (.int .i64 lk) (.int .i64 (ln:Int)) (.int .i64 (ls:Int)) (.int .i64 (ld:Int)) HZW.out
   refine bodyPost_ret (results_cell_row rfl _ _ z 156 _ (0,0) _ rfl y1 Tryz.underlying156 rfl (by kernel_rfl)) rfl ⟨rfl,?_⟩
   exact y3 _ _ HBW.out (by have:=HZ.out;omega)
 have g1:((xs:Int) == 1)=false:=by simp;omega
 have HJ:Hid (joinedR 1099511627776 ⟨xs,xn,xd,⟨lk,ln,ls,ld⟩⟩=⟨4,min (xn + 1) 1099511627776,xs,xd + 1⟩):=by unfold joinedR;rw [if_neg h0,if_neg h1];exact rfl
 rw [HJ.out]
 have a1:IntKind.i64.wrap ((xn:Int) + 1)=(xn:Int) + 1:=by simp [IntKind.wrap,IntKind.bits,IntKind.signed];omega
 have a2:IntKind.i64.wrap ((xd:Int) + 1)=(xd:Int) + 1:=by simp [IntKind.wrap,IntKind.bits,IntKind.signed];omega
 have e1:((min (xn + 1) 1099511627776:Nat):Int)=min ((xn:Int) + 1) 1099511627776:=by omega
 have e2:((xd + 1:Nat):Int)=(xd:Int) + 1:=by omega
 show Calls Tryz.prog 143 _ w fun e w'=>e=.returned (.agg #[.int .i64 4,.int .i64 ((min (xn + 1) 1099511627776:Nat):Int),.int .i64 (xs:Int),.int .i64 ((xd + 1:Nat):Int)])∧_
 rw [e1,e2]
 obtain ⟨mm,hmm⟩:∃ mm,min ((xn:Int) + 1) 1099511627776=mm:=⟨_,rfl⟩
 rw [hmm]
 clear e1 e2 h0 h1
 go_enter Tryz.func143,Tryz.ntmps143
 go_upto_region 1 with fail
 rw [← hz,← hW]
 clear hW hz
 go_upto_region 5 with fail
 go_region
 all_goals go_wp2
 all_goals
  obtain ⟨y1,y2,y3⟩:=four_set W z (.int .i64 4) (.int .i64 mm) (.int .i64 (xs:Int)) (.int .i64 ((xd:Int) + 1)) HZW.out
  have hb:=y3 _ _ HBW.out (by have:=HZ.out;omega)
  have hb2:Below w.heap.size w ((((W.setCell ⟨z,0,none⟩ (.int .i64 4)).setCell ⟨z,1,none⟩ (.int .i64 mm)).setCell ⟨z,2,none⟩ (.int .i64 (xs:Int))).setCell ⟨z,3,none⟩ (.int .i64 ((xd:Int) + 1))).drew:=⟨hb.os,hb.tape,hb.output,hb.size,hb.block⟩
  have y1':((((W.setCell ⟨z,0,none⟩ (.int .i64 4)).setCell ⟨z,1,none⟩ (.int .i64 mm)).setCell ⟨z,2,none⟩ (.int .i64 (xs:Int))).setCell ⟨z,3,none⟩ (.int .i64 ((xd:Int) + 1))).drew.heap[z]?=some (.cells #[.int .i64 4,.int .i64 mm,.int .i64 (xs:Int),.int .i64 ((xd:Int) + 1)] 156 (0,0)):=y1
  generalize ((((W.setCell ⟨z,0,none⟩ (.int .i64 4)).setCell ⟨z,1,none⟩ (.int .i64 mm)).setCell ⟨z,2,none⟩ (.int .i64 (xs:Int))).setCell ⟨z,3,none⟩ (.int .i64 ((xd:Int) + 1))).drew=U at hb2 y1' ⊢
  exact bodyPost_ret (results_cell_row rfl _ _ z 156 _ (0,0) _ rfl y1' Tryz.underlying156 rfl (by kernel_rfl)) rfl ⟨rfl,hb2⟩
abbrev B4 (w:World) (b:Nat) (S:S4):Prop:=w.heap[b]?=some (.cells S.c 156 (0,0))
theorem four {w:World} {b:Nat} {S:S4} (h:B4 w b S):w.cell? ⟨b,0,none⟩=some (.int .i64 S.k)∧w.cell? ⟨b,1,none⟩=some (.int .i64 (S.n:Int))∧w.cell? ⟨b,2,none⟩=some (.int .i64 (S.s:Int))∧w.cell? ⟨b,3,none⟩=some (.int .i64 (S.d:Int)):=
 ⟨Joins.cell_of_block h 0,Joins.cell_of_block h 1,Joins.cell_of_block h 2,Joins.cell_of_block h 3⟩
theorem fourF {w:World} {b:Nat} {S:S4} (h:B4 w b S):w.frozen? ⟨b,0,none⟩=false∧w.frozen? ⟨b,1,none⟩=false∧w.frozen? ⟨b,2,none⟩=false∧w.frozen? ⟨b,3,none⟩=false:=
 ⟨Joins.unfrozen_of_block h 0,Joins.unfrozen_of_block h 1,Joins.unfrozen_of_block h 2,Joins.unfrozen_of_block h 3⟩
theorem sum_loop (mn mx:Int) (lz:Bool) (y:Tn):sumOf 1099511627776 (loopT mn mx lz y)=⟨6,min ((sumOf 1099511627776 y).n + 1) 1099511627776,1,(sumOf 1099511627776 y).d + 1⟩:=by
 have h1:=loopT_nodes mn mx lz y
 have h2:=loopT_depth mn mx lz y
 unfold sumOf
 rw [h1,h2]
 simp only [Tn.kind,Tn.subs,List.length_cons,List.length_nil]
 congr 1 <;> omega
theorem two_row {y o:Tn} (hy:Nf y) (ho:Nf o) (q m:Nat):RowOf 1099511627776 (rowS 4 ([(y,q),(o,m)].filter keep)) (joinR 1099511627776 (joinR 1099511627776 r0 (sumOf 1099511627776 y) q) (sumOf 1099511627776 o) m):=by
 have h1:=join_row (lid:=1099511627776) (by omega) (l:=[]) (r:=r0) (by simpa [rowS] using row_none 1099511627776) hy q
 exact join_row (by omega) (l:=[(y,q)]) h1 ho m
theorem two_okr {y o:Tn} (hy:Nf y) (ho:Nf o) (q m:Nat) (dy:y.depth≤4000000000) (dO:o.depth≤4000000000):OkR (joinR 1099511627776 (joinR 1099511627776 r0 (sumOf 1099511627776 y) q) (sumOf 1099511627776 o) m):=
 okr (two_row hy ho q m) (rowS_dle 4 _ fun x hx=>by
  have:=(List.mem_filter.1 hx).1
  simp at this
  rcases this with rfl | rfl
  ·exact dy
  ·exact dO)
theorem one_okr {y:Tn} (hy:Nf y) (q:Nat) (dy:y.depth≤4000000000):OkR (joinR 1099511627776 r0 (sumOf 1099511627776 y) q):=
 okr (join_row (lid:=1099511627776) (by omega) (l:=[]) (r:=r0) (by simpa [rowS] using row_none 1099511627776) hy q) (rowS_dle 4 _ fun x hx=>by
  have:=(List.mem_filter.1 hx).1
  simp at this
  subst this
  exact dy)
theorem r0_ok:OkR r0:=⟨by simp,by simp,by simp⟩
theorem two_sum {y o:Tn} (hy:Nf y) (ho:Nf o) (q m:Nat):joinedR 1099511627776 (joinR 1099511627776 (joinR 1099511627776 r0 (sumOf 1099511627776 y) q) (sumOf 1099511627776 o) m)=sumOf 1099511627776 (joinT [(y,q),(o,m)]):=
 joined_sum (by omega) (fun x hx=>by simp at hx;rcases hx with rfl | rfl;exact hy;exact ho) (two_row hy ho q m)
theorem rep_star {y:Tn} {mn:Int} (lz:Bool) (h:0≤mn):sumOf 1099511627776 (repT y mn (-1) lz)=sumOf 1099511627776 (joinT [(y,(max (mn - 1) 0).toNat),(loopT 1 (-1) lz y,1)]):=by
 unfold repT
 rw [if_neg (by simp)]
 by_cases h0:mn=0
 ·subst h0
  rw [if_pos rfl]
  have k6:keep (loopT 1 (-1) lz y,1)=true:=by simp [keep,Tn.kind]
  have k0:keep (y,0)=false:=by simp [keep]
  have e:joinT [(y,(max ((0:Int) - 1) 0).toNat),(loopT 1 (-1) lz y,1)]=loopT 1 (-1) lz y:=by
   simp only [show (max ((0:Int) - 1) 0).toNat=0 from rfl,joinT,List.filter_cons,List.filter_nil,k0,k6,if_true,Bool.false_eq_true,if_false]
   rfl
  rw [e,sum_loop,sum_loop]
 ·rw [if_neg h0,show (max (mn - 1) 0).toNat=(mn - 1).toNat by omega]
theorem kept4 {w V V':World} {b x r z:Nat} {So Z:S4} (h:Chg V V' [b] [b]) (hx:B4 V x So) (hr:B4 V r Z) (hxb:x≠b) (hrb:r≠b) (hB:Below z w V) (hb:z≤b) (hzr:z≤r):B4 V' x So∧B4 V' r Z∧V.heap.size≤V'.heap.size∧Below z w V':=by
 have l1:x < V.heap.size:=(Array.getElem?_eq_some_iff.1 hx).1
 have l2:r < V.heap.size:=(Array.getElem?_eq_some_iff.1 hr).1
 exact ⟨(h.block x l1 (by simp;exact hxb)).trans hx,(h.block r l2 (by simp;exact hrb)).trans hr,h.size,hB.trans (h.below (by omega) (by simp;exact hb))⟩
theorem four_end {w w6:World} {z r:Nat} {Z T:S4} (h:B4 w6 r Z) (hB:Below z w w6) (hr:z≤r):B4 ((((w6.setCell ⟨r,0,none⟩ (.int .i64 T.k)).setCell ⟨r,1,none⟩ (.int .i64 (T.n:Int))).setCell ⟨r,2,none⟩ (.int .i64 (T.s:Int))).setCell ⟨r,3,none⟩ (.int .i64 (T.d:Int))) r T∧Below z w ((((w6.setCell ⟨r,0,none⟩ (.int .i64 T.k)).setCell ⟨r,1,none⟩ (.int .i64 (T.n:Int))).setCell ⟨r,2,none⟩ (.int .i64 (T.s:Int))).setCell ⟨r,3,none⟩ (.int .i64 (T.d:Int))):=by
 obtain ⟨y1,y2,y3⟩:=four_set w6 r (.int .i64 T.k) (.int .i64 (T.n:Int)) (.int .i64 (T.s:Int)) (.int .i64 (T.d:Int)) h
 exact ⟨y1,y3 _ _ hB hr⟩
structure RQw (w:World) (z x7:Nat) (S:S4) (R1:R7) (N:Nv) (T:S4) (wq:World):Prop where
 hz:z=w.heap.size
 hx:z + 1 + 1 + 1 < x7
 node:BN wq z N
 sum:B4 wq (z + 1) S
 res:B4 wq (z + 1 + 1) ⟨0,0,0,0⟩
 row:BRs wq (z + 1 + 1 + 1) R1
 opt:B4 wq x7 T
 below:Below z w wq
theorem RQw.size {w:World} {z x7:Nat} {S:S4} {R1:R7} {N:Nv} {T:S4} {wq:World} (h:RQw w z x7 S R1 N T wq):x7 < wq.heap.size:=(Array.getElem?_eq_some_iff.1 h.opt).1
theorem RQw.low {w:World} {z x7:Nat} {S:S4} {R1:R7} {N:Nv} {T:S4} {wq:World} (h:RQw w z x7 S R1 N T wq) {w':World} (hb:Below (x7 + 1) wq w'):RQw w z x7 S R1 N T w':=by
 have hx:=h.hx
 exact ⟨h.hz,h.hx,(hb.block _ (by omega)).trans h.node,(hb.block _ (by omega)).trans h.sum,(hb.block _ (by omega)).trans h.res,(hb.block _ (by omega)).trans h.row,(hb.block _ (by omega)).trans h.opt,h.below.trans (Joins.below_le hb (by omega))⟩
theorem RQw.chg {w:World} {z x7 b:Nat} {S:S4} {R1:R7} {N:Nv} {T:S4} {wq w':World} (h:RQw w z x7 S R1 N T wq) (hc:Chg wq w' [b] [b]) (hb:x7 < b):RQw w z x7 S R1 N T w':=
 h.low (hc.below (by have:=h.size;omega) (by simp;omega))
theorem RQw.set {w:World} {z x7:Nat} {S:S4} {R1:R7} {N:Nv} {T:S4} {wq:World} (h:RQw w z x7 S R1 N T wq) (T':S4):RQw w z x7 S R1 N T' ((((wq.setCell ⟨x7,0,none⟩ (.int .i64 T'.k)).setCell ⟨x7,1,none⟩ (.int .i64 (T'.n:Int))).setCell ⟨x7,2,none⟩ (.int .i64 (T'.s:Int))).setCell ⟨x7,3,none⟩ (.int .i64 (T'.d:Int))):=by
 have hx:=h.hx
 obtain ⟨y1,y2,y3⟩:=four_set wq x7 (.int .i64 T'.k) (.int .i64 (T'.n:Int)) (.int .i64 (T'.s:Int)) (.int .i64 (T'.d:Int)) h.opt
 exact ⟨h.hz,h.hx,(y2 _ (by omega)).trans h.node,(y2 _ (by omega)).trans h.sum,(y2 _ (by omega)).trans h.res,(y2 _ (by omega)).trans h.row,y1,y3 _ _ h.below (by omega)⟩
theorem opt_depth_le (y:Tn) (lz:Bool) (hd:y.depth≤1000000000) {i:Nat} (hi:i≤1000):(optT y lz i).depth≤1000003000:=by
 cases i with
 | zero=>exact by rw [show optT y lz 0=emptyT from rfl,show emptyT.depth=1 from by simp [Tn.depth,depthL]];omega
 | succ i =>
  rw [optT_depth]
  have:(1 + if y.kind=1 then 0 else 1)≤2:=by split <;> omega
  have:=Nat.mul_le_mul_left i this
  omega
theorem join_dle {y o:Tn}:(joinT [(y,1),(o,1)]).depth≤max y.depth o.depth + 1:=joinT_dle _ fun x hx=>by
 simp at hx
 rcases hx with rfl | rfl
 ·exact Nat.le_max_left _ _
 ·exact Nat.le_max_right _ _
theorem opt_next (y:Tn) (lz:Bool) (hy:Nf y) (i:Nat):sumOf 1099511627776 (optT y lz (i + 1))=(let X:=if i=0 then sumOf 1099511627776 y else joinedR 1099511627776 (joinR 1099511627776 (joinR 1099511627776 r0 (sumOf 1099511627776 y) 1) (sumOf 1099511627776 (optT y lz i)) 1);(⟨6,min (X.n + 1) 1099511627776,1,X.d + 1⟩:S4)):=by
 cases i with
 | zero=>rw [if_pos rfl];exact sum_loop 0 1 lz y
 | succ i =>
  rw [if_neg (by omega),two_sum hy (nf_opt lz hy _),optT_step]
  exact sum_loop 0 1 lz _
theorem sum_empty:sumOf 1099511627776 emptyT=⟨1,1,0,1⟩:=by simp [sumOf,Tn.nodes,nodesL,Tn.depth,depthL,Tn.kind,Tn.subs]
set_option maxRecDepth 100000 in
set_option maxHeartbeats 8000000 in
theorem repeat70 (N:Nv) (y:Tn) (w:World) (hy:Nf y) (hd:y.depth≤1000000000) (h1:0≤N.a4) (h2:N.a4≤1000) (h3:N.a5=-1∨N.a4≤N.a5∧N.a5≤1000) :
  Calls Tryz.prog 140 #[N.v,S4.v (sumOf 1099511627776 y)] w fun e w'=>e=.returned (S4.v (sumOf 1099511627776 (repT y N.a4 N.a5 N.a6)))∧Below w.heap.size w w':=by
 obtain ⟨k,e1,e2,e3,a2,s1,s2,s3,a4,mx,lz,a7,a8⟩:=N
 dsimp only at h1 h2 h3 ⊢
 obtain ⟨p,rfl⟩:∃ p:Nat,a4=(p:Int):=⟨a4.toNat,by omega⟩
 obtain ⟨S,hS⟩:∃ S,S=sumOf 1099511627776 y:=⟨_,rfl⟩
 rw [← hS]
 have hokS:OkS S:=by rw [hS];exact oks (by omega)
 obtain ⟨A,hA⟩:∃ A,A=(w.alloc (.cells #[.int .i64 k,.slice e1 e2 e3,.int .i64 a2,.slice s1 s2 s3,.int .i64 (p:Int),.int .i64 mx,.bool lz,.int .i64 a7,.string a8] 25)).alloc (.cells S.c 156):=⟨_,rfl⟩
 obtain ⟨W,hW⟩:∃ W,W=(A.alloc (.cells #[.int .i64 0,.int .i64 0,.int .i64 0,.int .i64 0] 156)).alloc (.cells #[.int .i64 0,.int .i64 0,.int .i64 0,.int .i64 0,.int .i64 0,.int .i64 0,.int .i64 0] 205):=⟨_,rfl⟩
 have hAs:A.heap.size=w.heap.size + 1 + 1:=by rw [hA];simp
 have hA0:BN A w.heap.size ⟨k,e1,e2,e3,a2,s1,s2,s3,(p:Int),mx,lz,a7,a8⟩:=by rw [hA];exact (heap_alloc_old _ _ (by simp)).trans (heap_alloc_new w _)
 have hA1:B4 A (w.heap.size + 1) S:=by rw [hA];exact two_new w _ _ _
 have hbA:Below w.heap.size w A:=by rw [hA];exact below_two' w _ _
 have hbW:Below A.heap.size A W:=by rw [hW];exact below_two' A _ _
 have hW2:B4 W A.heap.size ⟨0,0,0,0⟩:=by rw [hW];exact (heap_alloc_old _ _ (by simp)).trans (heap_alloc_new A _)
 have hW3:BRs W (A.heap.size + 1) r0:=by rw [hW];exact two_new A _ _ _
 have hsW:W.heap.size=w.heap.size + 1 + 1 + 1 + 1:=by rw [hW];simp [hAs]
 have hW0:=(hbW.block w.heap.size (by omega)).trans hA0
 have hW1:=(hbW.block (w.heap.size + 1) (by omega)).trans hA1
 have hbw:Below w.heap.size w W:=hbA.trans (Joins.below_le hbW (by omega))
 rw [hAs] at hW2 hW3
 rw [hA] at hW
 obtain ⟨z,hz⟩:∃ z,z=w.heap.size:=⟨_,rfl⟩
 rw [← hz] at hW0 hW1 hW2 hW3 hsW
 have HC:=over69 6 S W hokS.n hokS.d
 obtain ⟨So,hSo⟩:∃ So:S4,So=⟨6,min (S.n + 1) 1099511627776,1,S.d + 1⟩:=⟨_,rfl⟩
 rw [← hSo] at HC
 have HSo:Hid (So=sumOf 1099511627776 (loopT 1 (-1) lz y)):=by rw [hSo,hS];exact (sum_loop 1 (-1) lz y).symm
 have HS:=hid hS
 have W0:=hid hW0
 have W1:=hid hW1
 have W2:=hid hW2
 have W3:=hid hW3
 have HBW:=hid hbw
 have HZ:=hid hz
 have HSW:=hid hsW
 have HOK:=hid hokS
 have HNY:=hid hy
 obtain ⟨z0,z1,z2,z3⟩:=four hW1
 clear hA hAs hA0 hA1 hbA hbW hW0 hW1 hW2 hW3 hbw hsW hSo hokS hS hy
 obtain ⟨RT,hRT⟩:∃ RT,RT=sumOf 1099511627776 (repT y (p:Int) mx lz):=⟨_,rfl⟩
 rw [← hRT]
 have HRT:=hid hRT
 clear hRT
 go_enter Tryz.func140,Tryz.ntmps140
 go_upto_region 2 with fail
 rw [← hz,← hW]
 clear hW hz
 go_upto_region 3 with (first | (go_at_call 139;(with_reducible refine HC.mono ?_);rintro e w1 ⟨rfl,hb1⟩;have HB1:=hid hb1;clear hb1 HC))
 obtain ⟨V,hV⟩:∃ V,V=w1.alloc (.cells So.c 156):=⟨_,rfl⟩
 obtain ⟨x1,hx1⟩:∃ x1,x1=w1.heap.size:=⟨_,rfl⟩
 rw [← hV,← hx1]
 have hbV:Below w1.heap.size w1 V:=by rw [hV];exact Joins.below_alloc1 w1 _
 have hbWV:Below W.heap.size W V:=HB1.out.trans (Joins.below_le hbV HB1.out.size)
 have hx1V:B4 V x1 So:=by rw [hV,hx1];exact heap_alloc_new w1 _
 have hsV:V.heap.size=x1 + 1:=by rw [hV,hx1];simp
 have hx1W:W.heap.size≤x1:=by rw [hx1];exact HB1.out.size
 have VW0:=hid ((hbWV.block z (by have:=HSW.out;omega)).trans W0.out)
 have VW1:=hid ((hbWV.block (z + 1) (by have:=HSW.out;omega)).trans W1.out)
 have VW2:=hid ((hbWV.block (z + 1 + 1) (by have:=HSW.out;omega)).trans W2.out)
 have VW3:=hid ((hbWV.block (z + 1 + 1 + 1) (by have:=HSW.out;omega)).trans W3.out)
 have HBV:=hid (HBW.out.trans (Joins.below_le hbWV HBW.out.size))
 have HX1:=hid hx1V
 have HSV:=hid hsV
 clear z0 z1 z2 z3 hV hx1 hbV hbWV hx1V hsV W0 W1 W2 W3 HB1 HBW
 obtain ⟨z0,z1,z2,z3⟩:=four VW1.out
 obtain ⟨q0,q1,q2,q3,q4,q5,q6,q7,q8⟩:=nine' VW0.out
 by_cases hmx:mx=-1
 ·subst hmx
  obtain ⟨q,hq⟩:∃ q:Nat,max ((p:Int) - 1) 0=(q:Int):=⟨(max ((p:Int) - 1) 0).toNat,by omega⟩
  have hw:IntKind.i64.wrap ((p:Int) - 1)=(p:Int) - 1:=by simp [IntKind.wrap,IntKind.bits,IntKind.signed];omega
  have HQ:=hid hq
  have hqb:q≤1000:=by omega
  have HC4:=join71 (z + 1 + 1 + 1) r0 S q V VW3.out r0_ok HOK.out hqb
  rw [← HQ.out] at HC4
  clear hq
  go_upto_region 5 with (first | (go_at_call 141;(with_reducible refine HC4.mono ?_);rintro e w4 ⟨rfl,hr4,hc4⟩;have HR4:=hid hr4;have HK4:=hid hc4;clear hr4 hc4 HC4))
  obtain ⟨HX4,HZ4,HS4,HB4⟩:=kept4 (b:=z + 1 + 1 + 1) (x:=x1) (r:=z + 1 + 1) HK4.out HX1.out VW2.out (by have:=HSW.out;omega) (by omega) HBV.out (by have:=HZ.out;omega) (by have:=HZ.out;omega)
  have hok4:OkR (joinR 1099511627776 r0 S q):=by rw [HS.out];exact one_okr HNY.out q (by omega)
  have HC5:Calls Tryz.prog 141 #[.pointer (some ⟨z + 1 + 1 + 1,0,none⟩),So.v,.int .i64 1] w4 _:=join71 (z + 1 + 1 + 1) _ So 1 w4 HR4.out hok4 (by rw [HSo.out];exact oks (by rw [loopT_depth];omega)) (by omega)
  have HX4':=hid HX4
  have HZ4':=hid HZ4
  have HB4':=hid HB4
  clear HX4 HZ4 HB4 hok4 z0 z1 z2 z3 q0 q1 q2 q3 q4 q5 q6 q7 q8 HK4 HR4
  obtain ⟨z0,z1,z2,z3⟩:=four HX4'.out
  go_upto_region 6 with (first | (go_at_call 141;(with_reducible refine HC5.mono ?_);rintro e w5 ⟨rfl,hr5,hc5⟩;have HR5:=hid hr5;have HK5:=hid hc5;clear hr5 hc5 HC5))
  obtain ⟨HX5,HZ5,HS5,HB5⟩:=kept4 (b:=z + 1 + 1 + 1) (x:=x1) (r:=z + 1 + 1) HK5.out HX4'.out HZ4'.out (by have:=HSW.out;omega) (by omega) HB4'.out (by have:=HZ.out;omega) (by have:=HZ.out;omega)
  have hok5:OkR (joinR 1099511627776 (joinR 1099511627776 r0 S q) So 1):=by
   rw [HS.out,HSo.out]
   exact two_okr HNY.out (show Nf (loopT 1 (-1) lz y) from .loop (.inr (.inr ⟨rfl,rfl⟩)) HNY.out) q 1 (by omega) (by rw [loopT_depth];omega)
  have HC6:=joined73 (z + 1 + 1 + 1) _ w5 HR5.out hok5
  have HJ:RT=joinedR 1099511627776 (joinR 1099511627776 (joinR 1099511627776 r0 S q) So 1):=by
   rw [HRT.out,rep_star lz (by omega),HS.out,HSo.out,two_sum HNY.out (show Nf (loopT 1 (-1) lz y) from .loop (.inr (.inr ⟨rfl,rfl⟩)) HNY.out),HQ.out]
   rfl
  rw [← HJ] at HC6
  have HZ5':=hid HZ5
  have HB5':=hid HB5
  clear HX5 HZ5 HB5 hok5 HJ z0 z1 z2 z3 HK5 HR5 HS5 HX4' HZ4' HB4' HS4
  go_wp2_with (first | (go_at_call 143;(with_reducible refine HC6.mono ?_);rintro e w6 ⟨rfl,hb6⟩;have hz6:=(hb6.block (z + 1 + 1) (Array.getElem?_eq_some_iff.1 HZ5'.out).1).trans HZ5'.out;obtain ⟨z0,z1,z2,z3⟩:=four hz6;obtain ⟨f0,f1,f2,f3⟩:=fourF hz6;have HZ6:=hid hz6;have HB6:=hid (HB5'.out.trans (Joins.below_le hb6 HB5'.out.size));clear hz6 hb6 HC6))
  all_goals
   obtain ⟨y1,y3⟩:=four_end (T:=RT) HZ6.out HB6.out (by have:=HZ.out;omega)
   exact bodyPost_ret (results_cell_row rfl _ _ (z + 1 + 1) 156 _ (0,0) _ rfl y1 Tryz.underlying156 rfl (by kernel_rfl)) rfl ⟨rfl,y3⟩
 ·obtain ⟨h3,h4⟩:(p:Int)≤mx∧mx≤1000:=by omega
  obtain ⟨n,hm⟩:∃ n:Nat,mx=((p + n:Nat):Int):=⟨(mx - p).toNat,by omega⟩
  have g0:(mx == -1)=false:=by rw [hm];simp;omega
  have hsub:IntKind.i64.wrap (mx - (p:Int))=(n:Int):=by rw [hm];simp [IntKind.wrap,IntKind.bits,IntKind.signed];omega
  have hn:n≤1000:=by omega
  have HM:=hid hm
  have HC4:=join71 (z + 1 + 1 + 1) r0 S p V VW3.out r0_ok HOK.out (by omega)
  clear hm hmx h3 h4
  go_upto_region 8 with (first | (go_at_call 141;(with_reducible refine HC4.mono ?_);rintro e w4 ⟨rfl,hr4,hc4⟩;have HR4:=hid hr4;have HK4:=hid hc4;clear hr4 hc4 HC4))
  obtain ⟨HX4,HZ4,HS4,HB4⟩:=kept4 (b:=z + 1 + 1 + 1) (x:=z + 1) (r:=z + 1 + 1) HK4.out VW1.out VW2.out (by omega) (by omega) HBV.out (by have:=HZ.out;omega) (by have:=HZ.out;omega)
  have hN4:BN w4 z ⟨k,e1,e2,e3,a2,s1,s2,s3,(p:Int),mx,lz,a7,a8⟩:=(HK4.out.block z (by have:=HSV.out;have:=HSW.out;omega) (by simp;omega)).trans VW0.out
  obtain ⟨R1,hR1⟩:∃ R1,R1=joinR 1099511627776 r0 S p:=⟨_,rfl⟩
  have hR4:=HR4.out
  rw [← hR1] at hR4
  have HE:=empty96 w4
  have HR1:=hid hR1
  have HR4':=hid hR4
  have HX4':=hid HX4
  have HZ4':=hid HZ4
  have HB4':=hid HB4
  have HN4:=hid hN4
  clear hR1 hR4 HR4 HX4 HZ4 HB4 hN4 HK4 z0 z1 z2 z3 q0 q1 q2 q3 q4 q5 q6 q7 q8
  go_upto_region 9 with (first | (go_at_call 211;(with_reducible refine HE.mono ?_);rintro e w5 ⟨rfl,hb5⟩;have HB5:=hid hb5;clear hb5 HE))
  obtain ⟨U,hU⟩:∃ U,U=w5.alloc (.cells #[.int .i64 1,.int .i64 1,.int .i64 0,.int .i64 1] 156):=⟨_,rfl⟩
  obtain ⟨x7,hx7⟩:∃ x7,x7=w5.heap.size:=⟨_,rfl⟩
  rw [← hU,← hx7]
  have hx7l:z + 1 + 1 + 1 < x7:=by have:=HSV.out;have:=HSW.out;have:=HB5.out.size;omega
  have hbU:Below w4.heap.size w4 U:=by rw [hU];exact HB5.out.trans (Joins.below_le (Joins.below_alloc1 w5 _) HB5.out.size)
  have l3:z + 1 + 1 + 1 < w4.heap.size:=by have:=HSV.out;have:=HSW.out;omega
  have hQ:RQw w z x7 S R1 ⟨k,e1,e2,e3,a2,s1,s2,s3,(p:Int),mx,lz,a7,a8⟩ (sumOf 1099511627776 (optT y lz 0)) U:=by
   have hz:=HZ.out
   refine ⟨hz,hx7l,(hbU.block z (by omega)).trans HN4.out,(hbU.block _ (by omega)).trans HX4'.out,(hbU.block _ (by omega)).trans HZ4'.out,(hbU.block _ (by omega)).trans HR4'.out,?_,?_⟩
   ·rw [show optT y lz 0=emptyT from rfl,sum_empty,hU,hx7];exact heap_alloc_new w5 _
   ·have:=HB4'.out.trans (Joins.below_le hbU HB4'.out.size);rw [hz];exact this
  have HQ:=hid hQ
  clear hQ hU hx7 hx7l hbU l3 HB5 HN4 HX4' HZ4' HR4' HB4' HS4 HSV HX1 hx1W HBV VW0 VW1 VW2 VW3
  go_wp2_with fail
  go_loopw [8] (fun v wq=>∃ i:Nat,v=.int .i64 ((i:Int) + 1)∧i≤n∧Hid (RQw w z x7 S R1 ⟨k,e1,e2,e3,a2,s1,s2,s3,(p:Int),mx,lz,a7,a8⟩ (sumOf 1099511627776 (optT y lz i)) wq)) (fun v _=>n + 1 - (intOf v).toNat)
  case atStart=>exact ⟨0,rfl,by omega,HQ⟩
  case round =>
   obtain ⟨i,rfl,hi,HQI⟩:=hrel
   obtain ⟨q0,q1,q2,q3,q4,q5,q6,q7,q8⟩:=nine' HQI.out.node
   by_cases hil:i < n
   ·have b1:decide ((i:Int) + 1≤(n:Int))=true:=by simp;omega
    have b2:(i:Int) + 1≤(n:Int):=by omega
    have ad1:IntKind.i64.wrap ((i:Int) + 1 + 1)=(i:Int) + 1 + 1:=by simp [IntKind.wrap,IntKind.bits,IntKind.signed];omega
    go_upto_region 13 with fail
    obtain ⟨I0,hI⟩:∃ I0,I0=wr.alloc (.cells #[.int .i64 0,.int .i64 0,.int .i64 0,.int .i64 0,.int .i64 0,.int .i64 0,.int .i64 0] 205):=⟨_,rfl⟩
    obtain ⟨x9,hx9⟩:∃ x9,x9=wr.heap.size:=⟨_,rfl⟩
    rw [← hI,← hx9]
    have hl9:x7 < x9:=by rw [hx9];exact HQI.out.size
    have hQ1:RQw w z x7 S R1 ⟨k,e1,e2,e3,a2,s1,s2,s3,(p:Int),mx,lz,a7,a8⟩ (sumOf 1099511627776 (optT y lz i)) I0:=HQI.out.low (by rw [hI];exact Joins.below_le (Joins.below_alloc1 wr _) (by omega))
    have hr1:BRs I0 x9 r0:=by rw [hI,hx9];exact heap_alloc_new wr _
    have HC1:Calls Tryz.prog 141 #[.pointer (some ⟨x9,0,none⟩),S.v,.int .i64 1] I0 _:=join71 x9 r0 S 1 I0 hr1 r0_ok HOK.out (by omega)
    obtain ⟨T,hT⟩:∃ T,T=sumOf 1099511627776 (optT y lz i):=⟨_,rfl⟩
    rw [← hT] at hQ1
    have hokT:OkS T:=by rw [hT];exact oks (by have:=opt_depth_le y lz hd (i:=i) (by omega);omega)
    have HT:=hid hT
    have HOT:=hid hokT
    have HQ1:=hid hQ1
    have HL9:=hid hl9
    clear hI hx9 hQ1 hr1 hT hokT hl9 q0 q1 q2 q3 q4 q5 q6 q7 q8 HQI
    obtain ⟨z0,z1,z2,z3⟩:=four HQ1.out.sum
    go_upto_region 14 with (first | (go_at_call 141;(with_reducible refine HC1.mono ?_);rintro e w2 ⟨rfl,hr2,hc2⟩;have HR2:=hid hr2;have HK2:=hid hc2;clear hr2 hc2 HC1))
    have HQ2:=hid (HQ1.out.chg HK2.out HL9.out)
    have HC2:Calls Tryz.prog 141 #[.pointer (some ⟨x9,0,none⟩),T.v,.int .i64 1] w2 _:=join71 x9 _ T 1 w2 HR2.out (by rw [HS.out];exact one_okr HNY.out 1 (by omega)) HOT.out (by omega)
    clear z0 z1 z2 z3 HR2 HK2 HQ1
    obtain ⟨z0,z1,z2,z3⟩:=four HQ2.out.opt
    go_upto_region 15 with (first | (go_at_call 141;(with_reducible refine HC2.mono ?_);rintro e w3 ⟨rfl,hr3,hc3⟩;have HR3:=hid hr3;have HK3:=hid hc3;clear hr3 hc3 HC2))
    have HQ3:=hid (HQ2.out.chg HK3.out HL9.out)
    have HC3:=joined73 x9 _ w3 HR3.out (by rw [HS.out,HT.out];exact two_okr HNY.out (nf_opt lz HNY.out i) 1 1 (by omega) (by have:=opt_depth_le y lz hd (i:=i) (by omega);omega))
    obtain ⟨J,hJ⟩:∃ J,J=joinedR 1099511627776 (joinR 1099511627776 (joinR 1099511627776 r0 S 1) T 1):=⟨_,rfl⟩
    rw [← hJ] at HC3
    have HJ:=hid hJ
    clear z0 z1 z2 z3 HR3 HK3 HQ2 hJ
    go_upto_region 16 with (first | (go_at_call 143;(with_reducible refine HC3.mono ?_);rintro e w5 ⟨rfl,hb5⟩;have HB5:=hid hb5;clear hb5 HC3))
    obtain ⟨X0,hX⟩:∃ X0,X0=w5.alloc (.cells #[.int .i64 J.k,.int .i64 (J.n:Int),.int .i64 (J.s:Int),.int .i64 (J.d:Int)] 156):=⟨_,rfl⟩
    obtain ⟨x10,hx10⟩:∃ x10,x10=w5.heap.size:=⟨_,rfl⟩
    rw [← hX,← hx10]
    have hl10:x7 < x10:=by rw [hx10];have:=HB5.out.size;have:=HQ3.out.size;omega
    have hQX:RQw w z x7 S R1 ⟨k,e1,e2,e3,a2,s1,s2,s3,(p:Int),mx,lz,a7,a8⟩ T X0:=HQ3.out.low (by rw [hX];exact Joins.below_le (HB5.out.trans (Joins.below_le (Joins.below_alloc1 w5 _) HB5.out.size)) (by have:=HQ3.out.size;omega))
    have hX10:B4 X0 x10 J:=by rw [hX,hx10];exact heap_alloc_new w5 _
    have hokJ:OkS J:=by
     rw [HJ.out,HS.out,HT.out,two_sum HNY.out (nf_opt lz HNY.out i)]
     exact oks (by have:=opt_depth_le y lz hd (i:=i) (by omega);have:=join_dle (y:=y) (o:=optT y lz i);omega)
    have HQX:=hid hQX
    have HX10:=hid hX10
    have HL10:=hid hl10
    have HOJ:=hid hokJ
    clear hX hx10 hl10 hQX hX10 hokJ HB5 HQ3
    by_cases hi0:i=0
    ·have gi:((i:Int) + 1 == 1)=true:=by simp;omega
     obtain ⟨z0,z1,z2,z3⟩:=four HQX.out.sum
     obtain ⟨f0,f1,f2,f3⟩:=fourF HX10.out
     obtain ⟨Y0,hY⟩:∃ Y0,Y0=((((X0.setCell ⟨x10,0,none⟩ (.int .i64 S.k)).setCell ⟨x10,1,none⟩ (.int .i64 (S.n:Int))).setCell ⟨x10,2,none⟩ (.int .i64 (S.s:Int))).setCell ⟨x10,3,none⟩ (.int .i64 (S.d:Int))):=⟨_,rfl⟩
     obtain ⟨c0,c1,c2,c3⟩:=four HX10.out
     have HI0:=hid hi0
     clear hi0
     go_upto_region 18 with fail
     rw [← hY]
     obtain ⟨y1,y2,y3⟩:=four_set X0 x10 (.int .i64 S.k) (.int .i64 (S.n:Int)) (.int .i64 (S.s:Int)) (.int .i64 (S.d:Int)) HX10.out
     have hbY:=y3 _ _ (Below.refl (x7 + 1) X0) (by have:=HL10.out;omega)
     rw [← hY] at y1 hbY
     have HQY:=hid (HQX.out.low hbY)
     clear z0 z1 z2 z3 f0 f1 f2 f3 c0 c1 c2 c3 hY y2 y3 hbY
     obtain ⟨z0,z1,z2,z3⟩:=four (S:=S) y1
     clear y1
     have HCO:=over69 6 S Y0 HOK.out.n HOK.out.d
     obtain ⟨O,hO⟩:∃ O:S4,O=⟨6,min (S.n + 1) 1099511627776,1,S.d + 1⟩:=⟨_,rfl⟩
     rw [← hO] at HCO
     have HO:=hid hO
     clear hO
     go_wp2_with (first | (go_at_call 139;(with_reducible refine HCO.mono ?_);rintro e w6 ⟨rfl,hb6⟩;have hQ6:=HQY.out.low (Joins.below_le hb6 (by have:=HQY.out.size;omega));clear z0 z1 z2 z3;obtain ⟨z0,z1,z2,z3⟩:=four hQ6.opt;obtain ⟨f0,f1,f2,f3⟩:=fourF hQ6.opt;have HQ6:=hid hQ6;clear hQ6 hb6 HCO))
     have hfin:=HQ6.out.set O
     have hOe:O=sumOf 1099511627776 (optT y lz (i + 1)):=by
      rw [opt_next y lz HNY.out i,HO.out]
      rw [if_pos HI0.out,← HS.out]
     refine ⟨⟨i + 1,by push_cast;rfl,by omega,?_⟩,by simp [intOf];omega⟩
     rw [← hOe]
     exact hid hfin
    ·have gi:((i:Int) + 1 == 1)=false:=by simp;omega
     obtain ⟨z0,z1,z2,z3⟩:=four HX10.out
     have HI0:=hid hi0
     clear hi0
     go_upto_region 18 with fail
     have HQY:=HQX
     clear HQX
     have HCO:=over69 6 J X0 HOJ.out.n HOJ.out.d
     obtain ⟨O,hO⟩:∃ O:S4,O=⟨6,min (J.n + 1) 1099511627776,1,J.d + 1⟩:=⟨_,rfl⟩
     rw [← hO] at HCO
     have HO:=hid hO
     clear hO
     go_wp2_with (first | (go_at_call 139;(with_reducible refine HCO.mono ?_);rintro e w6 ⟨rfl,hb6⟩;have hQ6:=HQY.out.low (Joins.below_le hb6 (by have:=HQY.out.size;omega));clear z0 z1 z2 z3;obtain ⟨z0,z1,z2,z3⟩:=four hQ6.opt;obtain ⟨f0,f1,f2,f3⟩:=fourF hQ6.opt;have HQ6:=hid hQ6;clear hQ6 hb6 HCO))
     have hfin:=HQ6.out.set O
     have hOe:O=sumOf 1099511627776 (optT y lz (i + 1)):=by
      rw [opt_next y lz HNY.out i,HO.out]
      rw [if_neg HI0.out,← HS.out,← HT.out,← HJ.out]
     refine ⟨⟨i + 1,by push_cast;rfl,by omega,?_⟩,by simp [intOf];omega⟩
     rw [← hOe]
     exact hid hfin
   ·obtain rfl:i=n:=by omega
    have b1:decide ((i:Int) + 1≤(i:Int))=false:=decide_eq_false (by omega)
    have HQ7:=HQI
    obtain ⟨T,hT⟩:∃ T,T=sumOf 1099511627776 (optT y lz i):=⟨_,rfl⟩
    rw [← hT] at HQ7
    have hokT:OkS T:=by rw [hT];exact oks (by have:=opt_depth_le y lz hd (i:=i) (by omega);omega)
    obtain ⟨z0,z1,z2,z3⟩:=four HQ7.out.opt
    have HC1:Calls Tryz.prog 141 #[.pointer (some ⟨z + 1 + 1 + 1,0,none⟩),T.v,.int .i64 1] wr _:=join71 (z + 1 + 1 + 1) R1 T 1 wr HQ7.out.row (by rw [HR1.out,HS.out];exact one_okr HNY.out p (by omega)) hokT (by omega)
    have HT:=hid hT
    clear hT hokT HQI
    go_upto_region 20 with (first | (go_at_call 141;(with_reducible refine HC1.mono ?_);rintro e w3 ⟨rfl,hr3,hc3⟩;have HR3:=hid hr3;have HK3:=hid hc3;clear hr3 hc3 HC1))
    obtain ⟨HX5,HZ5,HS5,HB5⟩:=kept4 (b:=z + 1 + 1 + 1) (x:=x7) (r:=z + 1 + 1) HK3.out HQ7.out.opt HQ7.out.res (by have:=HQ7.out.hx;omega) (by omega) HQ7.out.below (by omega) (by omega)
    have hok5:OkR (joinR 1099511627776 R1 T 1):=by
     rw [HR1.out,HS.out,HT.out]
     exact two_okr HNY.out (nf_opt lz HNY.out i) p 1 (by omega) (by have:=opt_depth_le y lz hd (i:=i) (by omega);omega)
    have HC6:=joined73 (z + 1 + 1 + 1) _ w3 HR3.out hok5
    have HJ:RT=joinedR 1099511627776 (joinR 1099511627776 R1 T 1):=by
     rw [HRT.out,HR1.out,HS.out,HT.out,two_sum HNY.out (nf_opt lz HNY.out i),HM.out]
     unfold repT
     rw [if_pos (by omega),show ((p:Int)).toNat=p by omega,show (((p + i:Nat):Int) - (p:Int)).toNat=i by omega]
    rw [← HJ] at HC6
    have HZ5':=hid HZ5
    have HB5':=hid HB5
    clear HX5 HZ5 HB5 hok5 HJ z0 z1 z2 z3 HK3 HR3 HS5 q0 q1 q2 q3 q4 q5 q6 q7 q8
    go_wp2_with (first | (go_at_call 143;(with_reducible refine HC6.mono ?_);rintro e w6 ⟨rfl,hb6⟩;have hz6:=(hb6.block (z + 1 + 1) (Array.getElem?_eq_some_iff.1 HZ5'.out).1).trans HZ5'.out;obtain ⟨z0,z1,z2,z3⟩:=four hz6;obtain ⟨f0,f1,f2,f3⟩:=fourF hz6;have HZ6:=hid hz6;have HB6:=hid (HB5'.out.trans (Joins.below_le hb6 (by have:=(Array.getElem?_eq_some_iff.1 HZ5'.out).1;omega)));clear hz6 hb6 HC6))
    all_goals
     obtain ⟨y1,y3⟩:=four_end (T:=RT) HZ6.out HB6.out (by omega)
     replace y3:=Joins.below_le y3 (show w.heap.size≤z by have:=HZ.out;omega)
     exact bodyPost_ret (results_cell_row rfl _ _ (z + 1 + 1) 156 _ (0,0) _ rfl y1 Tryz.underlying156 rfl (by kernel_rfl)) rfl ⟨rfl,y3⟩
end Go.Proofs.YtacaanhnlfpbhaaGreat
