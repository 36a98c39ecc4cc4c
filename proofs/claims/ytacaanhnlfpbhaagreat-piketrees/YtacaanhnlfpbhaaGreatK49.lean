/- HELPERS: texts of ours put together. -/
import Derived.Test.YtacaanhnlfpbhaaGreatK48
import Derived.Test.YtacaanhnlfpbhaaGreatK28
import Derived.Test.YtacaanhnlfpbhaaGreatK30
namespace Go.Proofs.YtacaanhnlfpbhaaGreat
open Go.RowKit Go.Lk
set_option linter.unusedVariables false
set_option linter.unusedSimpArgs false
set_option maxRecDepth 100000 in
set_option maxHeartbeats 8000000 in
theorem run10_long {w:World} {ad tad:Option Addr} {n c tn tc:Nat} {s k a:Int} {anch:Bool} {l:List In} (hP:PI w w.heap.size ad n l) (hl:4194304 < tn) :
  Calls Tryz.prog 34 #[pv ad n c s k,.slice tad tn tc,.int .i64 a,.bool anch] w (FE 2 w):=by
 obtain ⟨U,hU⟩:∃ U,U=(w.alloc (.cells #[.slice ad n c,.int .i64 s,.int .i64 k] 46)).alloc (.cells #[.bool false,.slice none 0 0,.int .i64 0,.int .i64 0] 54):=⟨_,rfl⟩
 have hb:Below w.heap.size w U:=by rw [hU];exact below_two' w _ _
 have hX:U.heap[w.heap.size]?=some (.cells #[.slice ad n c,.int .i64 s,.int .i64 k] 46 (0,0)):=by rw [hU];exact (heap_alloc_old _ _ (by simp)).trans (heap_alloc_new w _)
 have hY:U.heap[w.heap.size + 1]?=some (.cells #[.bool false,.slice none 0 0,.int .i64 0,.int .i64 0] 54 (0,0)):=by rw [hU];exact two_new w _ _ _
 obtain ⟨x,hx⟩:∃ x,x=w.heap.size:=⟨_,rfl⟩
 obtain ⟨y,hy⟩:∃ y,y=w.heap.size + 1:=⟨_,rfl⟩
 have hyU:w.heap.size + 1 < U.heap.size:=(Array.getElem?_eq_some_iff.1 hY).1
 have hPU:=hP.kept hb hb.size
 have HCK:=check10 (c:=c) (s:=s) (k:=k) hPU
 rw [← hx] at hX hb
 rw [← hy] at hY hyU
 obtain ⟨c0,c1,c2⟩:=three_cells hX
 have HB:=hid hb
 have HX:=hid hX
 have HY:=hid hY
 have HXE:=hid hx
 have hxy:x < y:=by omega
 have b1:decide ((4194304:Int) < (tn:Int))=true:=by simp;omega
 have b1':decide ((tn:Int) > (4194304:Int))=true:=by simp;omega
 have s0:=Joins.unfrozen_of_block hY 0
 have s1:=Joins.unfrozen_of_block hY 1
 have s2:=Joins.unfrozen_of_block hY 2
 have s3:=Joins.unfrozen_of_block hY 3
 have y0:=Joins.cell_of_block hY 0
 have y1:=Joins.cell_of_block hY 1
 have y2:=Joins.cell_of_block hY 2
 have y3:=Joins.cell_of_block hY 3
 clear hP hPU hb hX hY
 go_enter Tryz.func34,Tryz.ntmps34
 go_upto_region 1 with fail
 rw [← hU,← hy,← hx]
 clear hU hx hy
 go_wp2
 refine bodyPost_ret (results_cell_tmp rfl _ _ y 54 _ (0,0) _ rfl (Joins.block_setCell (i:=3) (Joins.block_setCell (i:=2) (Joins.block_setCell (i:=1) (Joins.block_setCell (i:=0) HY.out _) _) _) _) Tryz.underlying54 rfl (by kernel_rfl)) rfl ?_
 refine ⟨?_,rfl⟩
 rw [← HXE.out]
 exact (((HB.out.setCell (p:=⟨y,0,none⟩) (by show x≤y;omega) _).setCell (p:=⟨y,1,none⟩) (by show x≤y;omega) _).setCell (p:=⟨y,2,none⟩) (by show x≤y;omega) _).setCell (p:=⟨y,3,none⟩) (by show x≤y;omega) _
set_option maxRecDepth 100000 in
set_option maxHeartbeats 8000000 in
theorem run10_prog {w:World} {ad tad:Option Addr} {n c tn tc:Nat} {s k a:Int} {anch:Bool} {l:List In} (hP:PI w w.heap.size ad n l) (hl:tn≤4194304) (hmay:mayB l s k=false) :
  Calls Tryz.prog 34 #[pv ad n c s k,.slice tad tn tc,.int .i64 a,.bool anch] w (FE 90 w):=by
 obtain ⟨U,hU⟩:∃ U,U=(w.alloc (.cells #[.slice ad n c,.int .i64 s,.int .i64 k] 46)).alloc (.cells #[.bool false,.slice none 0 0,.int .i64 0,.int .i64 0] 54):=⟨_,rfl⟩
 have hb:Below w.heap.size w U:=by rw [hU];exact below_two' w _ _
 have hX:U.heap[w.heap.size]?=some (.cells #[.slice ad n c,.int .i64 s,.int .i64 k] 46 (0,0)):=by rw [hU];exact (heap_alloc_old _ _ (by simp)).trans (heap_alloc_new w _)
 have hY:U.heap[w.heap.size + 1]?=some (.cells #[.bool false,.slice none 0 0,.int .i64 0,.int .i64 0] 54 (0,0)):=by rw [hU];exact two_new w _ _ _
 obtain ⟨x,hx⟩:∃ x,x=w.heap.size:=⟨_,rfl⟩
 obtain ⟨y,hy⟩:∃ y,y=w.heap.size + 1:=⟨_,rfl⟩
 have hyU:w.heap.size + 1 < U.heap.size:=(Array.getElem?_eq_some_iff.1 hY).1
 have hPU:=hP.kept hb hb.size
 have HCK:=check10 (c:=c) (s:=s) (k:=k) hPU
 rw [← hx] at hX hb
 rw [← hy] at hY hyU
 obtain ⟨c0,c1,c2⟩:=three_cells hX
 have HB:=hid hb
 have HX:=hid hX
 have HY:=hid hY
 have HXE:=hid hx
 have hxy:x < y:=by omega
 have b1:decide ((4194304:Int) < (tn:Int))=false:=by simp;omega
 have b1':decide ((tn:Int) > (4194304:Int))=false:=by simp;omega
 rw [hmay] at HCK
 clear hmay
 clear hP hPU hb hX hY
 go_enter Tryz.func34,Tryz.ntmps34
 go_upto_region 1 with fail
 rw [← hU,← hy,← hx]
 clear hU hx hy
 go_upto_region 5 with (go_at_call 50;(with_reducible refine HCK.mono ?_);rintro e w2 ⟨rfl,hb2⟩;have HB2:=hid hb2;have hY2:=(hb2.block y hyU).trans HY.out;have HY2:=hid hY2;clear hb2 HCK c0 c1 c2 hY2)
 have s0:=Joins.unfrozen_of_block HY2.out 0
 have s1:=Joins.unfrozen_of_block HY2.out 1
 have s2:=Joins.unfrozen_of_block HY2.out 2
 have s3:=Joins.unfrozen_of_block HY2.out 3
 have y0:=Joins.cell_of_block HY2.out 0
 have y1:=Joins.cell_of_block HY2.out 1
 have y2:=Joins.cell_of_block HY2.out 2
 have y3:=Joins.cell_of_block HY2.out 3
 have HBW:Hid (Below x w w2):=HB.out.trans (Joins.below_le HB2.out (by omega))
 go_wp2
 refine bodyPost_ret (results_cell_tmp rfl _ _ y 54 _ (0,0) _ rfl (Joins.block_setCell (i:=3) (Joins.block_setCell (i:=2) (Joins.block_setCell (i:=1) (Joins.block_setCell (i:=0) HY2.out _) _) _) _) Tryz.underlying54 rfl (by kernel_rfl)) rfl ?_
 refine ⟨?_,rfl⟩
 rw [← HXE.out]
 exact (((HBW.out.setCell (p:=⟨y,0,none⟩) (by show x≤y;omega) _).setCell (p:=⟨y,1,none⟩) (by show x≤y;omega) _).setCell (p:=⟨y,2,none⟩) (by show x≤y;omega) _).setCell (p:=⟨y,3,none⟩) (by show x≤y;omega) _
set_option maxRecDepth 100000 in
set_option maxHeartbeats 8000000 in
theorem run10_neg {w:World} {ad tad:Option Addr} {n c tn tc:Nat} {s k a:Int} {anch:Bool} {l:List In} (hP:PI w w.heap.size ad n l) (hl:tn≤4194304) (hmay:mayB l s k=true) (ha:a < 0) :
  Calls Tryz.prog 34 #[pv ad n c s k,.slice tad tn tc,.int .i64 a,.bool anch] w (FE 1 w):=by
 obtain ⟨U,hU⟩:∃ U,U=(w.alloc (.cells #[.slice ad n c,.int .i64 s,.int .i64 k] 46)).alloc (.cells #[.bool false,.slice none 0 0,.int .i64 0,.int .i64 0] 54):=⟨_,rfl⟩
 have hb:Below w.heap.size w U:=by rw [hU];exact below_two' w _ _
 have hX:U.heap[w.heap.size]?=some (.cells #[.slice ad n c,.int .i64 s,.int .i64 k] 46 (0,0)):=by rw [hU];exact (heap_alloc_old _ _ (by simp)).trans (heap_alloc_new w _)
 have hY:U.heap[w.heap.size + 1]?=some (.cells #[.bool false,.slice none 0 0,.int .i64 0,.int .i64 0] 54 (0,0)):=by rw [hU];exact two_new w _ _ _
 obtain ⟨x,hx⟩:∃ x,x=w.heap.size:=⟨_,rfl⟩
 obtain ⟨y,hy⟩:∃ y,y=w.heap.size + 1:=⟨_,rfl⟩
 have hyU:w.heap.size + 1 < U.heap.size:=(Array.getElem?_eq_some_iff.1 hY).1
 have hPU:=hP.kept hb hb.size
 have HCK:=check10 (c:=c) (s:=s) (k:=k) hPU
 rw [← hx] at hX hb
 rw [← hy] at hY hyU
 obtain ⟨c0,c1,c2⟩:=three_cells hX
 have HB:=hid hb
 have HX:=hid hX
 have HY:=hid hY
 have HXE:=hid hx
 have hxy:x < y:=by omega
 have b1:decide ((4194304:Int) < (tn:Int))=false:=by simp;omega
 have b1':decide ((tn:Int) > (4194304:Int))=false:=by simp;omega
 rw [hmay] at HCK
 clear hmay
 have b2:decide (a < 0)=true:=by simp [ha]
 clear hP hPU hb hX hY
 go_enter Tryz.func34,Tryz.ntmps34
 go_upto_region 1 with fail
 rw [← hU,← hy,← hx]
 clear hU hx hy
 go_upto_region 7 with (go_at_call 50;(with_reducible refine HCK.mono ?_);rintro e w2 ⟨rfl,hb2⟩;have HB2:=hid hb2;have hY2:=(hb2.block y hyU).trans HY.out;have HY2:=hid hY2;clear hb2 HCK c0 c1 c2 hY2)
 have s0:=Joins.unfrozen_of_block HY2.out 0
 have s1:=Joins.unfrozen_of_block HY2.out 1
 have s2:=Joins.unfrozen_of_block HY2.out 2
 have s3:=Joins.unfrozen_of_block HY2.out 3
 have y0:=Joins.cell_of_block HY2.out 0
 have y1:=Joins.cell_of_block HY2.out 1
 have y2:=Joins.cell_of_block HY2.out 2
 have y3:=Joins.cell_of_block HY2.out 3
 have HBW:Hid (Below x w w2):=HB.out.trans (Joins.below_le HB2.out (by omega))
 go_wp2
 refine bodyPost_ret (results_cell_tmp rfl _ _ y 54 _ (0,0) _ rfl (Joins.block_setCell (i:=3) (Joins.block_setCell (i:=2) (Joins.block_setCell (i:=1) (Joins.block_setCell (i:=0) HY2.out _) _) _) _) Tryz.underlying54 rfl (by kernel_rfl)) rfl ?_
 refine ⟨?_,rfl⟩
 rw [← HXE.out]
 exact (((HBW.out.setCell (p:=⟨y,0,none⟩) (by show x≤y;omega) _).setCell (p:=⟨y,1,none⟩) (by show x≤y;omega) _).setCell (p:=⟨y,2,none⟩) (by show x≤y;omega) _).setCell (p:=⟨y,3,none⟩) (by show x≤y;omega) _
set_option maxRecDepth 100000 in
set_option maxHeartbeats 8000000 in
theorem run10_far {w:World} {ad tad:Option Addr} {n c tn tc:Nat} {s k a:Int} {anch:Bool} {l:List In} (hP:PI w w.heap.size ad n l) (hl:tn≤4194304) (hmay:mayB l s k=true) (ha0:¬ a < 0) (ha:(tn:Int) < a) :
  Calls Tryz.prog 34 #[pv ad n c s k,.slice tad tn tc,.int .i64 a,.bool anch] w (FE 1 w):=by
 obtain ⟨U,hU⟩:∃ U,U=(w.alloc (.cells #[.slice ad n c,.int .i64 s,.int .i64 k] 46)).alloc (.cells #[.bool false,.slice none 0 0,.int .i64 0,.int .i64 0] 54):=⟨_,rfl⟩
 have hb:Below w.heap.size w U:=by rw [hU];exact below_two' w _ _
 have hX:U.heap[w.heap.size]?=some (.cells #[.slice ad n c,.int .i64 s,.int .i64 k] 46 (0,0)):=by rw [hU];exact (heap_alloc_old _ _ (by simp)).trans (heap_alloc_new w _)
 have hY:U.heap[w.heap.size + 1]?=some (.cells #[.bool false,.slice none 0 0,.int .i64 0,.int .i64 0] 54 (0,0)):=by rw [hU];exact two_new w _ _ _
 obtain ⟨x,hx⟩:∃ x,x=w.heap.size:=⟨_,rfl⟩
 obtain ⟨y,hy⟩:∃ y,y=w.heap.size + 1:=⟨_,rfl⟩
 have hyU:w.heap.size + 1 < U.heap.size:=(Array.getElem?_eq_some_iff.1 hY).1
 have hPU:=hP.kept hb hb.size
 have HCK:=check10 (c:=c) (s:=s) (k:=k) hPU
 rw [← hx] at hX hb
 rw [← hy] at hY hyU
 obtain ⟨c0,c1,c2⟩:=three_cells hX
 have HB:=hid hb
 have HX:=hid hX
 have HY:=hid hY
 have HXE:=hid hx
 have hxy:x < y:=by omega
 have b1:decide ((4194304:Int) < (tn:Int))=false:=by simp;omega
 have b1':decide ((tn:Int) > (4194304:Int))=false:=by simp;omega
 rw [hmay] at HCK
 clear hmay
 have b2:decide (a < 0)=false:=by simp [ha0]
 have b3:decide (a > (tn:Int))=true:=by simp;omega
 have b3':decide ((tn:Int) < a)=true:=by simp;omega
 clear hP hPU hb hX hY
 go_enter Tryz.func34,Tryz.ntmps34
 go_upto_region 1 with fail
 rw [← hU,← hy,← hx]
 clear hU hx hy
 go_upto_region 7 with (go_at_call 50;(with_reducible refine HCK.mono ?_);rintro e w2 ⟨rfl,hb2⟩;have HB2:=hid hb2;have hY2:=(hb2.block y hyU).trans HY.out;have HY2:=hid hY2;clear hb2 HCK c0 c1 c2 hY2)
 have s0:=Joins.unfrozen_of_block HY2.out 0
 have s1:=Joins.unfrozen_of_block HY2.out 1
 have s2:=Joins.unfrozen_of_block HY2.out 2
 have s3:=Joins.unfrozen_of_block HY2.out 3
 have y0:=Joins.cell_of_block HY2.out 0
 have y1:=Joins.cell_of_block HY2.out 1
 have y2:=Joins.cell_of_block HY2.out 2
 have y3:=Joins.cell_of_block HY2.out 3
 have HBW:Hid (Below x w w2):=HB.out.trans (Joins.below_le HB2.out (by omega))
 go_wp2
 refine bodyPost_ret (results_cell_tmp rfl _ _ y 54 _ (0,0) _ rfl (Joins.block_setCell (i:=3) (Joins.block_setCell (i:=2) (Joins.block_setCell (i:=1) (Joins.block_setCell (i:=0) HY2.out _) _) _) _) Tryz.underlying54 rfl (by kernel_rfl)) rfl ?_
 refine ⟨?_,rfl⟩
 rw [← HXE.out]
 exact (((HBW.out.setCell (p:=⟨y,0,none⟩) (by show x≤y;omega) _).setCell (p:=⟨y,1,none⟩) (by show x≤y;omega) _).setCell (p:=⟨y,2,none⟩) (by show x≤y;omega) _).setCell (p:=⟨y,3,none⟩) (by show x≤y;omega) _
def RunA (l:List In) (tx:List Int) (s k a:Int) (anch:Bool) (w:World) (e:Ending) (w':World):Prop:=
 (errR l s k tx.length a=0∧FR k.toNat (lockRun (prOf l tx s.toNat k.toNat) tx.length a.toNat anch) w e w')∨(errR l s k tx.length a≠0∧FE (errR l s k tx.length a) w e w')
theorem run10 {w:World} {ad tad:Option Addr} {n c tn tc:Nat} {s k a:Int} {anch:Bool} {l:List In} {tx:List Int} (hP:PI w w.heap.size ad n l) (hT:TextAt w.heap.size w tad tn tx) :
  Calls Tryz.prog 34 #[pv ad n c s k,.slice tad tn tc,.int .i64 a,.bool anch] w (RunA l tx s k a anch w):=by
 have htl:tn=tx.length:=hT.1
 by_cases h1:4194304 < tn
 ·have e:errR l s k tx.length a=2:=by unfold errR;rw [if_pos (by omega)]
  refine (run10_long hP h1).mono fun e' w' h=>?_
  exact .inr (by rw [e];exact ⟨by decide,h⟩)
 ·cases hm:mayB l s k
  ·have e:errR l s k tx.length a=90:=by unfold errR;rw [if_neg (by omega),if_pos hm]
   refine (run10_prog hP (by omega) hm).mono fun e' w' h=>?_
   exact .inr (by rw [e];exact ⟨by decide,h⟩)
  ·by_cases h2:a < 0
   ·have e:errR l s k tx.length a=1:=by unfold errR;rw [if_neg (by omega),if_neg (by rw [hm];decide),if_pos (.inl h2)]
    refine (run10_neg hP (by omega) hm h2).mono fun e' w' h=>?_
    exact .inr (by rw [e];exact ⟨by decide,h⟩)
   ·by_cases h3:(tn:Int) < a
    ·have e:errR l s k tx.length a=1:=by unfold errR;rw [if_neg (by omega),if_neg (by rw [hm];decide),if_pos (.inr (by omega))]
     refine (run10_far hP (by omega) hm h2 h3).mono fun e' w' h=>?_
     exact .inr (by rw [e];exact ⟨by decide,h⟩)
    ·have e:errR l s k tx.length a=0:=by unfold errR;rw [if_neg (by omega),if_neg (by rw [hm];decide),if_neg (by omega)]
     have hmo:=may_ok hm
     obtain ⟨S,rfl⟩:=Int.eq_ofNat_of_zero_le hmo.2.1
     obtain ⟨K,rfl⟩:=Int.eq_ofNat_of_zero_le (show 0≤k by omega)
     obtain ⟨A,rfl⟩:=Int.eq_ofNat_of_zero_le (show 0≤a by omega)
     refine (run10_ok hP hm hT (by omega) (by omega)).mono fun e' w' h=>?_
     exact .inl ⟨e,h⟩
set_option maxRecDepth 100000 in
set_option maxHeartbeats 8000000 in
theorem letter20 (w:World):Calls Tryz.prog 63 #[.int .i64 97] w fun e w'=>∃ g,e=.returned (pv (some ⟨g,0,none⟩) 4 4 0 2)∧PI w' w'.heap.size (some ⟨g,0,none⟩) 4 L4∧Below w.heap.size w w':=by
 go_enter Tryz.func63,Tryz.ntmps63
 go_wp2
 obtain ⟨U,hU⟩:∃ U,U=(((w.alloc (.cells #[.slice (some ⟨w.heap.size + 1 + 1,0,none⟩) 4 4,.int .i64 0,.int .i64 2] 46)).alloc (.cells #[.int .i64 97,.int .i64 97] 70)).alloc (.cells (A4 (w.heap.size + 1)) 86)):=⟨_,rfl⟩
 rw [← hU]
 obtain ⟨h0,h1,h2,h3⟩:=three_new w (.cells #[.slice (some ⟨w.heap.size + 1 + 1,0,none⟩) 4 4,.int .i64 0,.int .i64 2] 46) (.cells #[.int .i64 97,.int .i64 97] 70) (.cells (A4 (w.heap.size + 1)) 86)
 rw [← hU] at h0 h1 h2 h3
 refine bodyPost_ret (results_cell_row rfl _ _ w.heap.size 46 _ (0,0) _ rfl h0 Tryz.underlying46 rfl (by kernel_rfl)) rfl ?_
 have hb:Below w.heap.size w U:=⟨by rw [hU];rfl,by rw [hU];rfl,by rw [hU];rfl,by rw [hU];simp;omega,h3⟩
 have hrow:U.ownsRow 0 86 5 (.slice (some ⟨w.heap.size + 1 + 1,0,none⟩) 4 4) 4 (F4 (some ⟨w.heap.size + 1,0,none⟩) 1):=by
  have h4:=World.ownsRow_lit (base:=0) (e:=86) (size:=5) ((w.alloc (.cells #[.slice (some ⟨w.heap.size + 1 + 1,0,none⟩) 4 4,.int .i64 0,.int .i64 2] 46)).alloc (.cells #[.int .i64 97,.int .i64 97] 70)) (A4 (w.heap.size + 1)) 4 (Nat.zero_le _) (by unfold maxLen;omega) rfl
  rw [← hU] at h4
  rw [show ((w.alloc (.cells #[.slice (some ⟨w.heap.size + 1 + 1,0,none⟩) 4 4,.int .i64 0,.int .i64 2] 46)).alloc (.cells #[.int .i64 97,.int .i64 97] 70)).heap.size=w.heap.size + 1 + 1 by simp] at h4
  exact h4
 have hlt:w.heap.size + 1 < U.heap.size:=(Array.getElem?_eq_some_iff.1 h1).1
 have hr:RowAt U.heap.size U (.slice (some ⟨w.heap.size + 1,0,none⟩) 1 1) [(97,97)]:=
  ⟨some ⟨w.heap.size + 1,0,none⟩,1,rfl,.inr ⟨w.heap.size + 1,0,rfl,hlt,fun k hk=>by have:k=0:=(by simpa using hk);subst this;exact Joins.cell_of_block h1 0,fun k hk=>by have:k=0:=(by simpa using hk);subst this;exact Joins.cell_of_block h1 1⟩⟩
 exact ⟨w.heap.size + 1 + 1,rfl,pi4 hrow hr,hb⟩
theorem lock4:lockRun (prOf L4 [98,97] 0 2) 2 0 false=(some (0,[1,2]),6):=by kernel_rfl
theorem awake_run {w2:World} {g:Nat} (hp:PI w2 w2.heap.size (some ⟨g,0,none⟩) 4 L4):Calls Tryz.prog 34 #[pv (some ⟨g,0,none⟩) 4 4 0 2,.slice (some ⟨w2.heap.size,0,none⟩) 2 2,.int .i64 0,.bool false] (w2.alloc (.cells #[.int .i64 98,.int .i64 97] 3)) fun e w'=>∃ q,e=.returned (.tuple #[.agg #[.bool true,.slice (some ⟨q,0,none⟩) 2 2,.int .i64 0,.int .i64 6],.int .i64 0])∧w'.cell? ⟨q,0,none⟩=some (.int .i64 1)∧w'.cell? ⟨q,1,none⟩=some (.int .i64 2)∧q < w'.heap.size∧Below w2.heap.size w2 w':=by
 have hb:=Joins.below_alloc1 w2 (.cells #[.int .i64 98,.int .i64 97] 3)
 have hn:(w2.alloc (.cells #[.int .i64 98,.int .i64 97] 3)).heap[w2.heap.size]?=some (.cells #[.int .i64 98,.int .i64 97] 3 (0,0)):=heap_alloc_new w2 _
 have hT:TextAt (w2.alloc (.cells #[.int .i64 98,.int .i64 97] 3)).heap.size (w2.alloc (.cells #[.int .i64 98,.int .i64 97] 3)) (some ⟨w2.heap.size,0,none⟩) 2 [98,97]:=⟨rfl,by omega,.inr ⟨w2.heap.size,0,rfl,(Array.getElem?_eq_some_iff.1 hn).1,fun k hk=>by
  match k,hk with
  | 0,_=>exact Joins.cell_of_block hn 0
  | 1,_=>exact Joins.cell_of_block hn 1⟩⟩
 have hr:=run10_ok (c:=4) (S:=0) (K:=2) (tc:=2) (a:=0) (anch:=false) (hp.kept hb hb.size) may4 hT (by omega) (by omega)
 rw [show ([98,97]:List Int).length=2 from rfl,lock4] at hr
 refine hr.mono ?_
 rintro e w' ⟨h1,q,rfl,h2⟩
 refine ⟨q,rfl,?_,?_,(h2.lt q rfl).2,hb.trans (Joins.below_le h1 hb.size)⟩
 ·exact h2.cellAt 0 (by omega)
 ·exact h2.cellAt 1 (by omega)
set_option maxRecDepth 100000 in
set_option maxHeartbeats 8000000 in
theorem awake7P (w:World):Calls Tryz.prog 31 #[] w fun e w'=>e=.returned (.bool true)∧Below w.heap.size w w':=by
 have HL:=letter20 w
 go_enter Tryz.func31,Tryz.ntmps31
 go_wp2_with (first | (go_at_call 63;(with_reducible refine HL.mono ?_);rintro e w2 ⟨g,rfl,hp,hb⟩;have HB:=hid hb;have HR:=awake_run hp;clear hp hb HL) | (go_at_call 34;(with_reducible refine HR.mono ?_);rintro e w3 ⟨q,rfl,q0,q1,hq,hb3⟩;have HB3:=hid hb3;clear hb3 HR))
 all_goals go_ret
 all_goals refine ⟨rfl,HB.out.trans (Joins.below_le ?_ HB.out.size)⟩
 all_goals exact HB3.out.trans (Joins.below_le (Joins.below_alloc1 w3 _) HB3.out.size)
end Go.Proofs.YtacaanhnlfpbhaaGreat
