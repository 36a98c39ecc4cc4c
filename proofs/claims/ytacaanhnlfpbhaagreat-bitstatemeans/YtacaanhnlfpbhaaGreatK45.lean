/- HELPERS: texts of ours put together. -/
import Derived.Test.YtacaanhnlfpbhaaGreatK44
namespace Go.Proofs.YtacaanhnlfpbhaaGreat
open Go.RowKit Go.Lk
set_option linter.unusedVariables false
set_option linter.unusedSimpArgs false
set_option maxRecDepth 100000 in
set_option maxHeartbeats 8000000 in
theorem run9_long {w:World} {ad tad:Option Addr} {n c tn tc:Nat} {s k a:Int} {anch:Bool} {l:List In} (hP:PI w w.heap.size ad n l) (hl:4194304 < tn) :
  Calls Tryz.prog 37 #[pv ad n c s k,.slice tad tn tc,.int .i64 a,.bool anch] w (FE 2 w):=by
 obtain ⟨U,hU⟩:∃ U,U = (w.alloc (.cells #[.slice ad n c,.int .i64 s,.int .i64 k] 46)).alloc (.cells #[.bool false,.slice none 0 0,.int .i64 0,.int .i64 0] 54):=⟨_,rfl⟩
 have hb:Below w.heap.size w U:=by rw [hU];exact below_two' w _ _
 have hX:U.heap[w.heap.size]? = some (.cells #[.slice ad n c,.int .i64 s,.int .i64 k] 46 (0,0)):=by rw [hU];exact (heap_alloc_old _ _ (by simp)).trans (heap_alloc_new w _)
 have hY:U.heap[w.heap.size + 1]? = some (.cells #[.bool false,.slice none 0 0,.int .i64 0,.int .i64 0] 54 (0,0)):=by rw [hU];exact two_new w _ _ _
 obtain ⟨x,hx⟩:∃ x,x = w.heap.size:=⟨_,rfl⟩
 obtain ⟨y,hy⟩:∃ y,y = w.heap.size + 1:=⟨_,rfl⟩
 have hyU:w.heap.size + 1 < U.heap.size:=(Array.getElem?_eq_some_iff.1 hY).1
 have hPU:=hP.kept hb hb.size
 have HCK:=check10 (c:=c) (s:=s) (k:=k) hPU
 rw [← hx] at hX hb
 rw [← hy] at hY hyU
 obtain ⟨c0,c1,c2⟩:=three_cells hX
 have HB:=hid hb
 have HX:=hid hX
 have HY:=hid hY
 have HXE:=hid hx
 have hxy:x < y:=by omega
 have b1:decide ((4194304:Int) < (tn:Int)) = true:=by simp;omega
 have b1':decide ((tn:Int) > (4194304:Int)) = true:=by simp;omega
 have s0:=Joins.unfrozen_of_block hY 0
 have s1:=Joins.unfrozen_of_block hY 1
 have s2:=Joins.unfrozen_of_block hY 2
 have s3:=Joins.unfrozen_of_block hY 3
 have y0:=Joins.cell_of_block hY 0
 have y1:=Joins.cell_of_block hY 1
 have y2:=Joins.cell_of_block hY 2
 have y3:=Joins.cell_of_block hY 3
 clear hP hPU hb hX hY
 go_enter Tryz.func37,Tryz.ntmps37
 go_upto_region 1 with fail
 rw [← hU,← hy,← hx]
 clear hU hx hy
 go_wp2
 refine bodyPost_ret (results_cell_tmp rfl _ _ y 54 _ (0,0) _ rfl (Joins.block_setCell (i:=3) (Joins.block_setCell (i:=2) (Joins.block_setCell (i:=1) (Joins.block_setCell (i:=0) HY.out _) _) _) _) Tryz.underlying54 rfl (by kernel_rfl)) rfl ?_
 refine ⟨?_,rfl⟩
 rw [← HXE.out]
 exact (((HB.out.setCell (p:=⟨y,0,none⟩) (by show x ≤ y;omega) _).setCell (p:=⟨y,1,none⟩) (by show x ≤ y;omega) _).setCell (p:=⟨y,2,none⟩) (by show x ≤ y;omega) _).setCell (p:=⟨y,3,none⟩) (by show x ≤ y;omega) _
set_option maxRecDepth 100000 in
set_option maxHeartbeats 8000000 in
theorem run9_prog {w:World} {ad tad:Option Addr} {n c tn tc:Nat} {s k a:Int} {anch:Bool} {l:List In} (hP:PI w w.heap.size ad n l) (hl:tn ≤ 4194304) (hmay:mayB l s k = false) :
  Calls Tryz.prog 37 #[pv ad n c s k,.slice tad tn tc,.int .i64 a,.bool anch] w (FE 90 w):=by
 obtain ⟨U,hU⟩:∃ U,U = (w.alloc (.cells #[.slice ad n c,.int .i64 s,.int .i64 k] 46)).alloc (.cells #[.bool false,.slice none 0 0,.int .i64 0,.int .i64 0] 54):=⟨_,rfl⟩
 have hb:Below w.heap.size w U:=by rw [hU];exact below_two' w _ _
 have hX:U.heap[w.heap.size]? = some (.cells #[.slice ad n c,.int .i64 s,.int .i64 k] 46 (0,0)):=by rw [hU];exact (heap_alloc_old _ _ (by simp)).trans (heap_alloc_new w _)
 have hY:U.heap[w.heap.size + 1]? = some (.cells #[.bool false,.slice none 0 0,.int .i64 0,.int .i64 0] 54 (0,0)):=by rw [hU];exact two_new w _ _ _
 obtain ⟨x,hx⟩:∃ x,x = w.heap.size:=⟨_,rfl⟩
 obtain ⟨y,hy⟩:∃ y,y = w.heap.size + 1:=⟨_,rfl⟩
 have hyU:w.heap.size + 1 < U.heap.size:=(Array.getElem?_eq_some_iff.1 hY).1
 have hPU:=hP.kept hb hb.size
 have HCK:=check10 (c:=c) (s:=s) (k:=k) hPU
 rw [← hx] at hX hb
 rw [← hy] at hY hyU
 obtain ⟨c0,c1,c2⟩:=three_cells hX
 have HB:=hid hb
 have HX:=hid hX
 have HY:=hid hY
 have HXE:=hid hx
 have hxy:x < y:=by omega
 have b1:decide ((4194304:Int) < (tn:Int)) = false:=by simp;omega
 have b1':decide ((tn:Int) > (4194304:Int)) = false:=by simp;omega
 rw [hmay] at HCK
 clear hmay
 clear hP hPU hb hX hY
 go_enter Tryz.func37,Tryz.ntmps37
 go_upto_region 1 with fail
 rw [← hU,← hy,← hx]
 clear hU hx hy
 go_upto_region 5 with (go_at_call 50;(with_reducible refine HCK.mono ?_);rintro e w2 ⟨rfl,hb2⟩;have HB2:=hid hb2;have hY2:=(hb2.block y hyU).trans HY.out;have HY2:=hid hY2;clear hb2 HCK c0 c1 c2 hY2)
 have s0:=Joins.unfrozen_of_block HY2.out 0
 have s1:=Joins.unfrozen_of_block HY2.out 1
 have s2:=Joins.unfrozen_of_block HY2.out 2
 have s3:=Joins.unfrozen_of_block HY2.out 3
 have y0:=Joins.cell_of_block HY2.out 0
 have y1:=Joins.cell_of_block HY2.out 1
 have y2:=Joins.cell_of_block HY2.out 2
 have y3:=Joins.cell_of_block HY2.out 3
 have HBW:Hid (Below x w w2):=HB.out.trans (Joins.below_le HB2.out (by omega))
 go_wp2
 refine bodyPost_ret (results_cell_tmp rfl _ _ y 54 _ (0,0) _ rfl (Joins.block_setCell (i:=3) (Joins.block_setCell (i:=2) (Joins.block_setCell (i:=1) (Joins.block_setCell (i:=0) HY2.out _) _) _) _) Tryz.underlying54 rfl (by kernel_rfl)) rfl ?_
 refine ⟨?_,rfl⟩
 rw [← HXE.out]
 exact (((HBW.out.setCell (p:=⟨y,0,none⟩) (by show x ≤ y;omega) _).setCell (p:=⟨y,1,none⟩) (by show x ≤ y;omega) _).setCell (p:=⟨y,2,none⟩) (by show x ≤ y;omega) _).setCell (p:=⟨y,3,none⟩) (by show x ≤ y;omega) _
set_option maxRecDepth 100000 in
set_option maxHeartbeats 8000000 in
theorem run9_neg {w:World} {ad tad:Option Addr} {n c tn tc:Nat} {s k a:Int} {anch:Bool} {l:List In} (hP:PI w w.heap.size ad n l) (hl:tn ≤ 4194304) (hmay:mayB l s k = true) (ha:a < 0) :
  Calls Tryz.prog 37 #[pv ad n c s k,.slice tad tn tc,.int .i64 a,.bool anch] w (FE 1 w):=by
 obtain ⟨U,hU⟩:∃ U,U = (w.alloc (.cells #[.slice ad n c,.int .i64 s,.int .i64 k] 46)).alloc (.cells #[.bool false,.slice none 0 0,.int .i64 0,.int .i64 0] 54):=⟨_,rfl⟩
 have hb:Below w.heap.size w U:=by rw [hU];exact below_two' w _ _
 have hX:U.heap[w.heap.size]? = some (.cells #[.slice ad n c,.int .i64 s,.int .i64 k] 46 (0,0)):=by rw [hU];exact (heap_alloc_old _ _ (by simp)).trans (heap_alloc_new w _)
 have hY:U.heap[w.heap.size + 1]? = some (.cells #[.bool false,.slice none 0 0,.int .i64 0,.int .i64 0] 54 (0,0)):=by rw [hU];exact two_new w _ _ _
 obtain ⟨x,hx⟩:∃ x,x = w.heap.size:=⟨_,rfl⟩
 obtain ⟨y,hy⟩:∃ y,y = w.heap.size + 1:=⟨_,rfl⟩
 have hyU:w.heap.size + 1 < U.heap.size:=(Array.getElem?_eq_some_iff.1 hY).1
 have hPU:=hP.kept hb hb.size
 have HCK:=check10 (c:=c) (s:=s) (k:=k) hPU
 rw [← hx] at hX hb
 rw [← hy] at hY hyU
 obtain ⟨c0,c1,c2⟩:=three_cells hX
 have HB:=hid hb
 have HX:=hid hX
 have HY:=hid hY
 have HXE:=hid hx
 have hxy:x < y:=by omega
 have b1:decide ((4194304:Int) < (tn:Int)) = false:=by simp;omega
 have b1':decide ((tn:Int) > (4194304:Int)) = false:=by simp;omega
 rw [hmay] at HCK
 clear hmay
 have b2:decide (a < 0) = true:=by simp [ha]
 clear hP hPU hb hX hY
 go_enter Tryz.func37,Tryz.ntmps37
 go_upto_region 1 with fail
 rw [← hU,← hy,← hx]
 clear hU hx hy
 go_upto_region 7 with (go_at_call 50;(with_reducible refine HCK.mono ?_);rintro e w2 ⟨rfl,hb2⟩;have HB2:=hid hb2;have hY2:=(hb2.block y hyU).trans HY.out;have HY2:=hid hY2;clear hb2 HCK c0 c1 c2 hY2)
 have s0:=Joins.unfrozen_of_block HY2.out 0
 have s1:=Joins.unfrozen_of_block HY2.out 1
 have s2:=Joins.unfrozen_of_block HY2.out 2
 have s3:=Joins.unfrozen_of_block HY2.out 3
 have y0:=Joins.cell_of_block HY2.out 0
 have y1:=Joins.cell_of_block HY2.out 1
 have y2:=Joins.cell_of_block HY2.out 2
 have y3:=Joins.cell_of_block HY2.out 3
 have HBW:Hid (Below x w w2):=HB.out.trans (Joins.below_le HB2.out (by omega))
 go_wp2
 refine bodyPost_ret (results_cell_tmp rfl _ _ y 54 _ (0,0) _ rfl (Joins.block_setCell (i:=3) (Joins.block_setCell (i:=2) (Joins.block_setCell (i:=1) (Joins.block_setCell (i:=0) HY2.out _) _) _) _) Tryz.underlying54 rfl (by kernel_rfl)) rfl ?_
 refine ⟨?_,rfl⟩
 rw [← HXE.out]
 exact (((HBW.out.setCell (p:=⟨y,0,none⟩) (by show x ≤ y;omega) _).setCell (p:=⟨y,1,none⟩) (by show x ≤ y;omega) _).setCell (p:=⟨y,2,none⟩) (by show x ≤ y;omega) _).setCell (p:=⟨y,3,none⟩) (by show x ≤ y;omega) _
set_option maxRecDepth 100000 in
set_option maxHeartbeats 8000000 in
theorem run9_far {w:World} {ad tad:Option Addr} {n c tn tc:Nat} {s k a:Int} {anch:Bool} {l:List In} (hP:PI w w.heap.size ad n l) (hl:tn ≤ 4194304) (hmay:mayB l s k = true) (ha0:¬ a < 0) (ha:(tn:Int) < a) :
  Calls Tryz.prog 37 #[pv ad n c s k,.slice tad tn tc,.int .i64 a,.bool anch] w (FE 1 w):=by
 obtain ⟨U,hU⟩:∃ U,U = (w.alloc (.cells #[.slice ad n c,.int .i64 s,.int .i64 k] 46)).alloc (.cells #[.bool false,.slice none 0 0,.int .i64 0,.int .i64 0] 54):=⟨_,rfl⟩
 have hb:Below w.heap.size w U:=by rw [hU];exact below_two' w _ _
 have hX:U.heap[w.heap.size]? = some (.cells #[.slice ad n c,.int .i64 s,.int .i64 k] 46 (0,0)):=by rw [hU];exact (heap_alloc_old _ _ (by simp)).trans (heap_alloc_new w _)
 have hY:U.heap[w.heap.size + 1]? = some (.cells #[.bool false,.slice none 0 0,.int .i64 0,.int .i64 0] 54 (0,0)):=by rw [hU];exact two_new w _ _ _
 obtain ⟨x,hx⟩:∃ x,x = w.heap.size:=⟨_,rfl⟩
 obtain ⟨y,hy⟩:∃ y,y = w.heap.size + 1:=⟨_,rfl⟩
 have hyU:w.heap.size + 1 < U.heap.size:=(Array.getElem?_eq_some_iff.1 hY).1
 have hPU:=hP.kept hb hb.size
 have HCK:=check10 (c:=c) (s:=s) (k:=k) hPU
 rw [← hx] at hX hb
 rw [← hy] at hY hyU
 obtain ⟨c0,c1,c2⟩:=three_cells hX
 have HB:=hid hb
 have HX:=hid hX
 have HY:=hid hY
 have HXE:=hid hx
 have hxy:x < y:=by omega
 have b1:decide ((4194304:Int) < (tn:Int)) = false:=by simp;omega
 have b1':decide ((tn:Int) > (4194304:Int)) = false:=by simp;omega
 rw [hmay] at HCK
 clear hmay
 have b2:decide (a < 0) = false:=by simp [ha0]
 have b3:decide (a > (tn:Int)) = true:=by simp;omega
 have b3':decide ((tn:Int) < a) = true:=by simp;omega
 clear hP hPU hb hX hY
 go_enter Tryz.func37,Tryz.ntmps37
 go_upto_region 1 with fail
 rw [← hU,← hy,← hx]
 clear hU hx hy
 go_upto_region 7 with (go_at_call 50;(with_reducible refine HCK.mono ?_);rintro e w2 ⟨rfl,hb2⟩;have HB2:=hid hb2;have hY2:=(hb2.block y hyU).trans HY.out;have HY2:=hid hY2;clear hb2 HCK c0 c1 c2 hY2)
 have s0:=Joins.unfrozen_of_block HY2.out 0
 have s1:=Joins.unfrozen_of_block HY2.out 1
 have s2:=Joins.unfrozen_of_block HY2.out 2
 have s3:=Joins.unfrozen_of_block HY2.out 3
 have y0:=Joins.cell_of_block HY2.out 0
 have y1:=Joins.cell_of_block HY2.out 1
 have y2:=Joins.cell_of_block HY2.out 2
 have y3:=Joins.cell_of_block HY2.out 3
 have HBW:Hid (Below x w w2):=HB.out.trans (Joins.below_le HB2.out (by omega))
 go_wp2
 refine bodyPost_ret (results_cell_tmp rfl _ _ y 54 _ (0,0) _ rfl (Joins.block_setCell (i:=3) (Joins.block_setCell (i:=2) (Joins.block_setCell (i:=1) (Joins.block_setCell (i:=0) HY2.out _) _) _) _) Tryz.underlying54 rfl (by kernel_rfl)) rfl ?_
 refine ⟨?_,rfl⟩
 rw [← HXE.out]
 exact (((HBW.out.setCell (p:=⟨y,0,none⟩) (by show x ≤ y;omega) _).setCell (p:=⟨y,1,none⟩) (by show x ≤ y;omega) _).setCell (p:=⟨y,2,none⟩) (by show x ≤ y;omega) _).setCell (p:=⟨y,3,none⟩) (by show x ≤ y;omega) _
set_option maxRecDepth 100000 in
set_option maxHeartbeats 8000000 in
theorem run9_big {w:World} {ad tad:Option Addr} {n c tn tc a:Nat} {s k:Int} {anch:Bool} {l:List In} (hP:PI w w.heap.size ad n l) (hl:tn ≤ 4194304) (hmay:mayB l s k = true) (ha:a ≤ tn) (hbig:16777216 < n * (tn - a + 1)) :
  Calls Tryz.prog 37 #[pv ad n c s k,.slice tad tn tc,  .int .i64 (a:Int),.bool anch] w (FE 3 w):=by
 obtain ⟨U,hU⟩:∃ U,U = (w.alloc (.cells #[.slice ad n c,.int .i64 s,.int .i64 k] 46)).alloc (.cells #[.bool false,.slice none 0 0,.int .i64 0,.int .i64 0] 54):=⟨_,rfl⟩
 have hb:Below w.heap.size w U:=by rw [hU];exact below_two' w _ _
 have hX:U.heap[w.heap.size]? = some (.cells #[.slice ad n c,.int .i64 s,.int .i64 k] 46 (0,0)):=by rw [hU];exact (heap_alloc_old _ _ (by simp)).trans (heap_alloc_new w _)
 have hY:U.heap[w.heap.size + 1]? = some (.cells #[.bool false,.slice none 0 0,.int .i64 0,.int .i64 0] 54 (0,0)):=by rw [hU];exact two_new w _ _ _
 obtain ⟨x,hx⟩:∃ x,x = w.heap.size:=⟨_,rfl⟩
 obtain ⟨y,hy⟩:∃ y,y = w.heap.size + 1:=⟨_,rfl⟩
 have hyU:w.heap.size + 1 < U.heap.size:=(Array.getElem?_eq_some_iff.1 hY).1
 have hPU:=hP.kept hb hb.size
 have HCK:=check10 (c:=c) (s:=s) (k:=k) hPU
 rw [← hx] at hX hb
 rw [← hy] at hY hyU
 obtain ⟨c0,c1,c2⟩:=three_cells hX
 have HB:=hid hb
 have HX:=hid hX
 have HY:=hid hY
 have HXE:=hid hx
 have hxy:x < y:=by omega
 have b1:decide ((4194304:Int) < (tn:Int)) = false:=by simp;omega
 have b1':decide ((tn:Int) > (4194304:Int)) = false:=by simp;omega
 rw [hmay] at HCK
 have hmo:=may_ok hmay
 have hln:=hP.len
 have hnp:0 < n:=by omega
 have hn2:n ≤ 20000:=by omega
 clear hmay hmo hln
 have b2:decide ((a:Int) < 0) = false:=by simp
 have b3:decide ((a:Int) > (tn:Int)) = false:=by simp;omega
 have b3':decide ((tn:Int) < (a:Int)) = false:=by simp;omega
 obtain ⟨q,hq⟩:∃ q,q = tn - a + 1:=⟨_,rfl⟩
 have a1:IntKind.i64.wrap ((tn:Int) - (a:Int)) = ((tn - a:Nat):Int):=by rw [wrap_ok _ (by omega) (by omega)];omega
 have a2:IntKind.i64.wrap (((tn - a:Nat):Int) + 1) = (q:Int):=by rw [wrap_ok _ (by omega) (by omega)];omega
 obtain ⟨d,hd⟩:∃ d,d = tn - a:=⟨_,rfl⟩
 rw [← hd] at a1 a2
 have HTB:Hid (∀ W,Calls Tryz.prog 68 #[.int .i64 (n:Int),.int .i64 (q:Int)] W fun e w' => e = .returned (.bool true) ∧ w' = W):=fun W => by
  have h1:=tooBig20 n q W hnp hn2 (by omega)
  rw [show decide (16777216 < n * q) = true by simp;rw [hq];exact hbig] at h1
  exact h1
 clear hd hq
 clear hP hPU hb hX hY
 go_enter Tryz.func37,Tryz.ntmps37
 go_upto_region 1 with fail
 rw [← hU,← hy,← hx]
 clear hU hx hy
 go_upto_region 9 with (first | (go_at_call 50;(with_reducible refine HCK.mono ?_);rintro e w2 ⟨rfl,hb2⟩;have HB2:=hid hb2;have hY2:=(hb2.block y hyU).trans HY.out;have HY2:=hid hY2;have hx2:=(hb2.block x (by omega)).trans HX.out;obtain ⟨e0,e1,e2⟩:=three_cells hx2;clear hb2 HCK c0 c1 c2 hY2 hx2) | (go_at_call 68;(with_reducible refine (HTB.out _).mono ?_);rintro e wz ⟨rfl,hwz⟩;have hwz':=hwz.symm;subst hwz';clear HTB e0 e1 e2 hwz))
 have s0:=Joins.unfrozen_of_block HY2.out 0
 have s1:=Joins.unfrozen_of_block HY2.out 1
 have s2:=Joins.unfrozen_of_block HY2.out 2
 have s3:=Joins.unfrozen_of_block HY2.out 3
 have y0:=Joins.cell_of_block HY2.out 0
 have y1:=Joins.cell_of_block HY2.out 1
 have y2:=Joins.cell_of_block HY2.out 2
 have y3:=Joins.cell_of_block HY2.out 3
 have HBW:Hid (Below x w w2):=HB.out.trans (Joins.below_le HB2.out (by omega))
 go_wp2
 refine bodyPost_ret (results_cell_tmp rfl _ _ y 54 _ (0,0) _ rfl (Joins.block_setCell (i:=3) (Joins.block_setCell (i:=2) (Joins.block_setCell (i:=1) (Joins.block_setCell (i:=0) HY2.out _) _) _) _) Tryz.underlying54 rfl (by kernel_rfl)) rfl ?_
 refine ⟨?_,rfl⟩
 rw [← HXE.out]
 exact (((HBW.out.setCell (p:=⟨y,0,none⟩) (by show x ≤ y;omega) _).setCell (p:=⟨y,1,none⟩) (by show x ≤ y;omega) _).setCell (p:=⟨y,2,none⟩) (by show x ≤ y;omega) _).setCell (p:=⟨y,3,none⟩) (by show x ≤ y;omega) _
set_option maxRecDepth 100000 in
set_option maxHeartbeats 8000000 in
theorem run9_ok {w:World} {ad tad:Option Addr} {n c S K tn tc a:Nat} {anch:Bool} {l:List In} {tx:List Int} (hP:PI w w.heap.size ad n l) (hmay:mayB l (S:Int) (K:Int) = true) (hT:TextAt w.heap.size w tad tn tx) (hl:tn ≤ 4194304) (ha:a ≤ tn) (hbig:n * (tn - a + 1) ≤ 16777216) {r:Fd} {m':List Pt} (hda:Da (act l tx) [] (bgs (prOf l tx S K) a anch none (tn + 1 - a) a) m' r) :
  Calls Tryz.prog 37 #[pv ad n c (S:Int) (K:Int),.slice tad tn tc,.int .i64 (a:Int),.bool anch] w (FR K (r,m'.length) w):=by
 obtain ⟨U,hU⟩:∃ U,U = (w.alloc (.cells #[.slice ad n c,.int .i64 (S:Int),.int .i64 (K:Int)] 46)).alloc (.cells #[.bool false,.slice none 0 0,.int .i64 0,.int .i64 0] 54):=⟨_,rfl⟩
 have hb:Below w.heap.size w U:=by rw [hU];exact below_two' w _ _
 have hX:U.heap[w.heap.size]? = some (.cells #[.slice ad n c,.int .i64 (S:Int),.int .i64 (K:Int)] 46 (0,0)):=by rw [hU];exact (heap_alloc_old _ _ (by simp)).trans (heap_alloc_new w _)
 have hY:U.heap[w.heap.size + 1]? = some (.cells #[.bool false,.slice none 0 0,.int .i64 0,.int .i64 0] 54 (0,0)):=by rw [hU];exact two_new w _ _ _
 obtain ⟨x,hx⟩:∃ x,x = w.heap.size:=⟨_,rfl⟩
 obtain ⟨y,hy⟩:∃ y,y = w.heap.size + 1:=⟨_,rfl⟩
 have hyU:w.heap.size + 1 < U.heap.size:=(Array.getElem?_eq_some_iff.1 hY).1
 have hPU:=hP.kept hb hb.size
 have hTU:TextAt U.heap.size U tad tn tx:=(hT.below hb).mono hb.size
 have HCK:=check10 (c:=c) (s:=(S:Int)) (k:=(K:Int)) hPU
 rw [hmay] at HCK
 have htl:tn = tx.length:=hT.1
 rw [← hx] at hX hb
 rw [← hy] at hY hyU
 obtain ⟨c0,c1,c2⟩:=three_cells hX
 have HB:=hid hb
 have HX:=hid hX
 have HY:=hid hY
 have HXE:=hid hx
 have hxy:x < y:=by omega
 have HNM:Hid (∀ W,Below U.heap.size U W → Calls Tryz.prog 69 #[pv ad n c (S:Int) (K:Int),.slice tad tn tc,.int .i64 (a:Int)] W fun e w' => ∃ b ub,e = .returned (.pointer (some ⟨b,0,none⟩)) ∧ BI w' W.heap.size b l tx (cst ad n c S K tad tn tc ub a) var0 [] [] (List.replicate K (-1)) [] ∧ Below W.heap.size W w'):=fun W h => newMachine21 (hPU.kept h h.size) hmay ((hTU.below h).mono h.size)
 have hmo:=may_ok hmay
 have hln:=hP.len
 have HC:Hid (∀ ub,BC l tx (cst ad n c S K tad tn tc ub a)):=fun ub => ⟨hln,hmay,htl,hl,ha,hbig⟩
 have HDA:=hid hda
 obtain ⟨q,hq⟩:∃ q,q = tn - a + 1:=⟨_,rfl⟩
 obtain ⟨d,hd⟩:∃ d,d = tn - a:=⟨_,rfl⟩
 have a1:IntKind.i64.wrap ((tn:Int) - (a:Int)) = (d:Int):=by rw [wrap_ok _ (by omega) (by omega)];omega
 have a2:IntKind.i64.wrap ((d:Int) + 1) = (q:Int):=by rw [wrap_ok _ (by omega) (by omega)];omega
 have HTB:Hid (∀ W,Calls Tryz.prog 68 #[.int .i64 (n:Int),.int .i64 (q:Int)] W fun e w' => e = .returned (.bool false) ∧ w' = W):=fun W => by
  have h1:=tooBig20 n q W (by omega) (by omega) (by omega)
  rw [show decide (16777216 < n * q) = false by simp;rw [hq];exact hbig] at h1
  exact h1
 clear hq hd hmo hln hda
 have HMAY:=hid hmay
 have HTL:=hid htl
 have b1:decide ((4194304:Int) < (tn:Int)) = false:=by simp;omega
 have b1':decide ((tn:Int) > (4194304:Int)) = false:=by simp;omega
 have b2:decide ((a:Int) < 0) = false:=by simp
 have b3:decide ((a:Int) > (tn:Int)) = false:=by simp;omega
 have b3':decide ((tn:Int) < (a:Int)) = false:=by simp;omega
 clear hP hT hPU hTU hb hX hY hmay htl
 go_enter Tryz.func37,Tryz.ntmps37
 go_upto_region 1 with fail
 rw [← hU,← hy,← hx]
 clear hU hx hy
 go_upto_region 12 with (first | (go_at_call 50;(with_reducible refine HCK.mono ?_);rintro e w2 ⟨rfl,hb2⟩;have HB2:=hid hb2;have hx2:=(hb2.block x (by omega)).trans HX.out;obtain ⟨e0,e1,e2⟩:=three_cells hx2;have HNM2:=HNM.out w2 hb2;clear hb2 hx2 HCK c0 c1 c2) | (go_at_call 68;(with_reducible refine (HTB.out _).mono ?_);rintro e wz ⟨rfl,hwz⟩;have hwz':=hwz.symm;subst hwz';clear HTB hwz) | (go_at_call 69;(with_reducible refine HNM2.mono ?_);rintro e w3 ⟨b,ub,rfl,hg,hb3⟩;have HG:=hid hg;have HB3:=hid hb3;have HRUN:=run22 (anch:=anch) hg (HC.out ub) rfl ⟨rfl,rfl,rfl,rfl,rfl⟩ HDA.out;dsimp only [cst] at HRUN;clear hg hb3 HNM2) | (go_at_call 70;(with_reducible refine HRUN.mono ?_);rintro e w4 ⟨rfl,V',st,cp',W',hm4,hfs4,hf4,hb4⟩;have HM4:=hid hm4;have HF4:=hid hf4;have HFS4:=hid hfs4;have HB4:=hid hb4;clear hm4 hf4 hfs4 hb4 HRUN))
 have hY2:=(HB2.out.block y hyU).trans HY.out
 have hU2:U.heap.size ≤ w2.heap.size:=HB2.out.size
 have hY3:=(HB3.out.block y (by omega)).trans hY2
 have hY4:=(HB4.out.block y (by omega)).trans hY3
 have s0:=Joins.unfrozen_of_block hY4 0
 have s1:=Joins.unfrozen_of_block hY4 1
 have s2:=Joins.unfrozen_of_block hY4 2
 have s3:=Joins.unfrozen_of_block hY4 3
 have y0:=Joins.cell_of_block hY4 0
 have y1:=Joins.cell_of_block hY4 1
 have y2:=Joins.cell_of_block hY4 2
 have y3:=Joins.cell_of_block hY4 3
 have k13:=HM4.out.mb.c 10
 have k14:=HM4.out.mb.c 11
 have k15:=HM4.out.mb.c 12
 have k16:=HM4.out.mb.c 13
 simp at k13 k14 k15 k16
 rw [HFS4.out] at k16
 have HY4:=hid hY4
 clear hY2 hY3 hY4 e0 e1 e2
 have hbw:Below x w w4:=HB.out.trans (Joins.below_le (HB2.out.trans (Joins.below_le (HB3.out.trans HB4.out) hU2)) (by omega))
 have HBW:=hid hbw
 clear hbw
 cases hr1:r with
 | none =>
  have hf:=HF4.out
  rw [hr1] at hf
  obtain ⟨-,-,g1,g2,g3,g4,g5⟩:=hf
  rw [g1] at k13
  rw [g2,g3,g4] at k14
  rw [g5] at k15
  clear g1 g2 g3 g4 g5
  have HR1:=hid hr1
  clear hr1
  go_wp2
  refine bodyPost_ret (results_cell_tmp rfl _ _ y 54 _ (0,0) _ rfl (Joins.block_setCell (i:=3) (Joins.block_setCell (i:=2) (Joins.block_setCell (i:=1) (Joins.block_setCell (i:=0) HY4.out _) _) _) _) Tryz.underlying54 rfl (by kernel_rfl)) rfl ?_
  refine ⟨?_,?_⟩
  ·rw [← HXE.out]
   exact (((HBW.out.setCell (p:=⟨y,0,none⟩) (by show x ≤ y;omega) _).setCell (p:=⟨y,1,none⟩) (by show x ≤ y;omega) _).setCell (p:=⟨y,2,none⟩) (by show x ≤ y;omega) _).setCell (p:=⟨y,3,none⟩) (by show x ≤ y;omega) _
  ·rw [HR1.out];rfl
 | some v =>
  have hf:=HF4.out
  rw [hr1] at hf
  obtain ⟨g1,g2,g3,g4,g5,g6⟩:=hf
  have g7:=HM4.out.cap
  dsimp only [cst] at g2 g3 g4 g7
  obtain ⟨g,hg⟩:∃ g,g = ub:=⟨_,rfl⟩
  rw [← hg] at g2 g7
  rw [g6] at g7
  rw [g1] at k13
  rw [g2,g3,g4] at k14
  rw [g5] at k15
  have HROW:=hid g7
  clear g1 g2 g3 g4 g5 g6 g7 hg
  have HR1:=hid hr1
  clear hr1
  go_wp2
  refine bodyPost_ret (results_cell_tmp rfl _ _ y 54 _ (0,0) _ rfl (Joins.block_setCell (i:=3) (Joins.block_setCell (i:=2) (Joins.block_setCell (i:=1) (Joins.block_setCell (i:=0) HY4.out _) _) _) _) Tryz.underlying54 rfl (by kernel_rfl)) rfl ?_
  refine ⟨?_,?_⟩
  ·rw [← HXE.out]
   exact (((HBW.out.setCell (p:=⟨y,0,none⟩) (by show x ≤ y;omega) _).setCell (p:=⟨y,1,none⟩) (by show x ≤ y;omega) _).setCell (p:=⟨y,2,none⟩) (by show x ≤ y;omega) _).setCell (p:=⟨y,3,none⟩) (by show x ≤ y;omega) _
  ·rw [HR1.out]
   have hgy:(Value.slice (some ⟨g,0,none⟩) K K).ownBlock ≠ some y:=own_ne HROW.out HY4.out (by decide)
   refine ⟨g,rfl,?_⟩
   have t:=own_setCell (a:=⟨y,3,none⟩) (u:=.int .i64 (m'.length:Int)) (own_setCell (a:=⟨y,2,none⟩) (u:=.int .i64 v.1) (own_setCell (a:=⟨y,1,none⟩) (u:=.slice (some ⟨g,0,none⟩) K K) (own_setCell (a:=⟨y,0,none⟩) (u:=.bool true) HROW.out hgy) hgy) hgy) hgy
   exact t.mono (by have:=HXE.out;have:=HB2.out.size;omega)
def errB (l:List In) (s k:Int) (n:Nat) (a:Int):Int:=if errR l s k n a ≠ 0 then errR l s k n a else if 16777216 < l.length * (n - a.toNat + 1) then 3 else 0
def BitA (l:List In) (tx:List Int) (s k a:Int) (anch:Bool) (r:Fd) (m':List Pt):Prop:=Da (act l tx) [] (bgs (prOf l tx s.toNat k.toNat) a.toNat anch none (tx.length + 1 - a.toNat) a.toNat) m' r
theorem errR_ok {l:List In} {s k:Int} {n:Nat} {a:Int} (h:errR l s k n a = 0):n ≤ 4194304 ∧ mayB l s k = true ∧ 0 ≤ a ∧ a ≤ n:=by
 unfold errR at h
 split at h
 ·cases h
 ·split at h
  ·cases h
  ·split at h
   ·cases h
   ·rename_i h1 h2 h3
    exact ⟨by omega,by simpa using h2,by omega,by omega⟩
theorem bit_ex {l:List In} {tx:List Int} {s k a:Int} (anch:Bool) (h:errR l s k tx.length a = 0):∃ r m',BitA l tx s k a anch r m' ∧ (lockRun (prOf l tx s.toNat k.toNat) tx.length a.toNat anch).1 = r:=by
 obtain ⟨h1,h2,h3,h4⟩:=errR_ok h
 have hmo:=may_ok h2
 obtain ⟨S,rfl⟩:=Int.eq_ofNat_of_zero_le hmo.2.1
 obtain ⟨K,rfl⟩:=Int.eq_ofNat_of_zero_le (show 0 ≤ k by omega)
 have hP:=pr_ok (tx:=tx) h2
 have hl:∀ i x,(prOf l tx S K).A tx.length i ≠ .rune x:=fun i x => act_end l tx i x
 obtain ⟨m',r,hd⟩:=da_total (a:=a.toNat) hP hl (bgs (prOf l tx S K) a.toNat anch none (tx.length + 1 - a.toNat) a.toNat) [] (fun t ht => by
  obtain ⟨g1,g2,g3,g4⟩:=bgs_from _ _ _ _ _ _ t ht
  exact ⟨by rw [g1];exact hP.S,g2,by omega,by rw [g4];simp⟩) (OkP.nil _ _ _)
 refine ⟨r,m',hd,?_⟩
 refine lock_da hP hl (by omega) (m':=m') ?_
 rw [show tx.length - a.toNat + 1 = tx.length + 1 - a.toNat by omega]
 exact hd
def RunC (l:List In) (tx:List Int) (s k a:Int) (r:Fd) (m':List Pt) (w:World) (e:Ending) (w':World):Prop:=
 (errB l s k tx.length a = 0 ∧ FR k.toNat (r,m'.length) w e w') ∨ (errB l s k tx.length a ≠ 0 ∧ FE (errB l s k tx.length a) w e w')
theorem run9 {w:World} {ad tad:Option Addr} {n c tn tc:Nat} {s k a:Int} {anch:Bool} {l:List In} {tx:List Int} {r:Fd} {m':List Pt} (hP:PI w w.heap.size ad n l) (hT:TextAt w.heap.size w tad tn tx) (hda:errR l s k tx.length a = 0 → BitA l tx s k a anch r m') :
  Calls Tryz.prog 37 #[pv ad n c s k,.slice tad tn tc,.int .i64 a,.bool anch] w (RunC l tx s k a r m' w):=by
 have htl:tn = tx.length:=hT.1
 have hln:=hP.len
 have hE:∀ c:Int,errR l s k tx.length a = c → c ≠ 0 → errB l s k tx.length a = c:=fun c h h0 => by unfold errB;rw [if_pos (by rw [h];exact h0)];exact h
 by_cases h1:4194304 < tn
 ·have e:=hE 2 (by unfold errR;rw [if_pos (by omega)]) (by decide)
  refine (run9_long hP h1).mono fun e' w' h => ?_
  exact .inr (by rw [e];exact ⟨by decide,h⟩)
 ·cases hm:mayB l s k
  ·have e:=hE 90 (by unfold errR;rw [if_neg (by omega),if_pos hm]) (by decide)
   refine (run9_prog hP (by omega) hm).mono fun e' w' h => ?_
   exact .inr (by rw [e];exact ⟨by decide,h⟩)
  ·by_cases h2:a < 0
   ·have e:=hE 1 (by unfold errR;rw [if_neg (by omega),if_neg (by rw [hm];decide),if_pos (.inl h2)]) (by decide)
    refine (run9_neg hP (by omega) hm h2).mono fun e' w' h => ?_
    exact .inr (by rw [e];exact ⟨by decide,h⟩)
   ·by_cases h3:(tn:Int) < a
    ·have e:=hE 1 (by unfold errR;rw [if_neg (by omega),if_neg (by rw [hm];decide),if_pos (.inr (by omega))]) (by decide)
     refine (run9_far hP (by omega) hm h2 h3).mono fun e' w' h => ?_
     exact .inr (by rw [e];exact ⟨by decide,h⟩)
    ·have e0:errR l s k tx.length a = 0:=by unfold errR;rw [if_neg (by omega),if_neg (by rw [hm];decide),if_neg (by omega)]
     have hmo:=may_ok hm
     have hd:=hda e0
     obtain ⟨S,rfl⟩:=Int.eq_ofNat_of_zero_le hmo.2.1
     obtain ⟨K,rfl⟩:=Int.eq_ofNat_of_zero_le (show 0 ≤ k by omega)
     obtain ⟨A,rfl⟩:=Int.eq_ofNat_of_zero_le (show 0 ≤ a by omega)
     by_cases h4:16777216 < l.length * (tx.length - A + 1)
     ·have e:errB l (S:Int) (K:Int) tx.length (A:Int) = 3:=by unfold errB;rw [if_neg (by simp [e0]),if_pos (by simpa using h4)]
      refine (run9_big hP (by omega) hm (by omega) (by rw [hln,htl];exact h4)).mono fun e' w' h => ?_
      exact .inr (by rw [e];exact ⟨by decide,h⟩)
     ·have e:errB l (S:Int) (K:Int) tx.length (A:Int) = 0:=by unfold errB;rw [if_neg (by simp [e0]),if_neg (by simpa using h4)]
      refine (run9_ok hP hm hT (by omega) (by omega) (by rw [hln,htl];omega) (r:=r) (m':=m') (by rw [htl];exact hd)).mono fun e' w' h => ?_
      exact .inl ⟨e,h⟩
end Go.Proofs.YtacaanhnlfpbhaaGreat
