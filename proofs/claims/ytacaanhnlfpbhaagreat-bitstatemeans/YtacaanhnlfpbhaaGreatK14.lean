/- HELPERS: texts of ours put together. -/
import Derived.Test.YtacaanhnlfpbhaaGreatK04
import Derived.Test.YtacaanhnlfpbhaaGreatK13
import Derived.Deep.RegionHeld3
import Derived.Deep.Cut
import Derived.Deep.CutRange
import Derived.Deep.QuietTactic
import Derived.BigQuiet
import Derived.Test.YtacaanhnlfpbhaaGreatK05
import Derived.Test.YtacaanhnlfpbhaaGreatK03
import Derived.Test.YtacaanhnlfpbhaaGreatK02
import Derived.Laws.EntriesVeiled
import Derived.OrdersHeld
import Derived.StillTail
import Derived.Tactics
import Derived.RowKit
import Derived.Below
import Derived.Deep.MidRow
import Derived.Deep.OwnRows
import Derived.Laws.Rows
import Derived.WalkLawsBesides
import Derived.Maps.AppendAt
import Derived.Deep.RegionLaw
import Derived.Laws.CopyOwn
import Derived.Lib.LazyBuf
import Derived.Test.YtacaanhnlfpbhaaGreatK01
import Derived.Lib.Small
import Derived.Test.YtacaanhnlfpbhaaGreatProg
import Derived.WalkKit
import Derived.ProofKit
import Derived.WalkSmall
import Derived.Deep.RegionWith
import Derived.Deep.WholeRow
namespace Go.Proofs.YtacaanhnlfpbhaaGreat
open Go.RowKit
set_option linter.unusedVariables false
set_option linter.unusedSimpArgs false
set_option maxRecDepth 100000 in
set_option maxHeartbeats 4000000 in
theorem inst40 (N:Iv) (R:List (Int × Int)) (n caps:Int) (w:World) (hn:N.r2 = R.length) (hS:N.r2 * 16 ≤ 140737488351232) (hl:RowAt w.heap.size w (.slice N.r1 N.r2 N.r3) R) :
  Calls Tryz.prog 128 #[N.v,.int .i64 n,.int .i64 caps] w fun e w' => e = .returned (.bool (In.okB ⟨N.op,N.x,N.y,N.a,R⟩ n caps)) ∧ Below w.heap.size w w':=by
 obtain ⟨op,x,y,a,r1,r2,r3⟩:=N
 dsimp only at hn hS hl ⊢
 obtain ⟨U,hU⟩:∃ U,U = w.alloc (.cells #[.int .i64 op,.int .i64 x,.int .i64 y,.int .i64 a,.slice r1 r2 r3] 86):=⟨_,rfl⟩
 have hb:Below w.heap.size w U:=by rw [hU];exact Joins.below_alloc1 w _
 have hX:U.heap[w.heap.size]? = some (.cells #[.int .i64 op,.int .i64 x,.int .i64 y,.int .i64 a,.slice r1 r2 r3] 86 (0,0)):=by rw [hU];exact heap_alloc_new w _
 obtain ⟨c0,c1,c2,c3,c4⟩:=five hX
 have HR:∀ W,W.heap = U.heap → W.os = U.os → W.tape = U.tape → W.output = U.output → Calls Tryz.prog 195 #[.int .i64 op,.slice r1 r2 r3] W fun e w' => e = .returned (.bool (isRangesB op R)) ∧ Below U.heap.size U w':=by
  intro W e1 e2 e3 e4
  have hbW:Below U.heap.size U W:=⟨e2,e3,e4,by rw [e1];exact Nat.le_refl _,fun k hk => by rw [e1]⟩
  have hbw:Below w.heap.size w W:=hb.trans (Joins.below_le hbW hb.size)
  refine (ranges64 op R r1 r2 r3 W hn hS (hl.below hbw (Nat.le_refl _) hbw.size)).mono ?_
  rintro e w' ⟨h1,h2⟩
  exact ⟨h1,hbW.trans (Joins.below_le h2 hbW.size)⟩
 have HRR:=hid' HR
 have HB:=hid' hb
 have HX:=hid' hX
 have hsz:w.heap.size < U.heap.size:=(Array.getElem?_eq_some_iff.1 hX).1
 clear HR hn hS hl hb hX
 have T1:=fun W => target60 x (hasXB op) n W
 have T2:=fun W => target60 y (hasYB op) n W
 have T3:=fun W => arg63 op a caps W
 have X1:=fun W => hasX61 op W
 have X2:=fun W => hasY62 op W
 obtain ⟨b,hbe⟩:∃ b,b = w.heap.size:=⟨_,rfl⟩
 go_enter Tryz.func128,Tryz.ntmps128
 go_upto_region 1 with fail
 rw [← hU,← hbe]
 rw [← hbe] at c0 c1 c2 c3 c4 hsz HX HB
 have HBE:=hid' hbe
 clear hU hbe
 cases g1:isTargetB x (hasXB op) n
 ·simp only [g1] at T1
  go_quiet (first | (go_at_call 192;with_reducible refine Calls.quiet_of_same (X1 _)) | (go_at_call 191;first | (with_reducible refine Calls.quiet_of_same (T1 _)) | (with_reducible refine Calls.quiet_of_same (T2 _))) | (go_at_call 193;with_reducible refine Calls.quiet_of_same (X2 _)) | (go_at_call 194;with_reducible refine Calls.quiet_of_same (T3 _)))
  go_wp2
  all_goals go_ret
  all_goals refine ⟨ret_bool (by simp [In.okB,g1]),?_⟩
  all_goals rw [← HBE.out]
  all_goals exact below_drewN' HB.out _
 ·simp only [g1] at T1
  cases g2:isTargetB y (hasYB op) n
  ·simp only [g2] at T2
   go_quiet (first | (go_at_call 192;with_reducible refine Calls.quiet_of_same (X1 _)) | (go_at_call 191;first | (with_reducible refine Calls.quiet_of_same (T1 _)) | (with_reducible refine Calls.quiet_of_same (T2 _))) | (go_at_call 193;with_reducible refine Calls.quiet_of_same (X2 _)) | (go_at_call 194;with_reducible refine Calls.quiet_of_same (T3 _)))
   go_wp2
   all_goals go_ret
   all_goals refine ⟨ret_bool (by simp [In.okB,g1,g2]),?_⟩
   all_goals rw [← HBE.out]
   all_goals exact below_drewN' HB.out _
  ·simp only [g2] at T2
   cases g3:isArgB op a caps
   ·simp only [g3] at T3
    go_quiet (first | (go_at_call 192;with_reducible refine Calls.quiet_of_same (X1 _)) | (go_at_call 191;first | (with_reducible refine Calls.quiet_of_same (T1 _)) | (with_reducible refine Calls.quiet_of_same (T2 _))) | (go_at_call 193;with_reducible refine Calls.quiet_of_same (X2 _)) | (go_at_call 194;with_reducible refine Calls.quiet_of_same (T3 _)))
    go_wp2
    all_goals go_ret
    all_goals refine ⟨ret_bool (by simp [In.okB,g1,g2,g3]),?_⟩
    all_goals rw [← HBE.out]
    all_goals exact below_drewN' HB.out _
   ·simp only [g3] at T3
    go_region_held3 (fun W => W.cell? ⟨b,0,none⟩ = some (.int .i64 op) ∧ W.cell? ⟨b,1,none⟩ = some (.int .i64 x) ∧ W.cell? ⟨b,2,none⟩ = some (.int .i64 y) ∧ W.cell? ⟨b,3,none⟩ = some (.int .i64 a) ∧ W.cell? ⟨b,4,none⟩ = some (.slice r1 r2 r3)) (first | (exact ⟨d0,d1,d2,d3,d4⟩) | (simp [*];done)) (first | (go_at_call 192;(with_reducible refine (X1 _).mono ?_);rintro e w2 ⟨rfl,rfl⟩) | (go_at_call 191;(first | (with_reducible refine (T1 _).mono ?_) | (with_reducible refine (T2 _).mono ?_));rintro e w2 ⟨rfl,rfl⟩) | (go_at_call 193;(with_reducible refine (X2 _).mono ?_);rintro e w2 ⟨rfl,rfl⟩) | (go_at_call 194;(with_reducible refine (T3 _).mono ?_);rintro e w2 ⟨rfl,rfl⟩) | (go_at_call 195;(with_reducible refine (HRR.out _ ?_ ?_ ?_ ?_).mono ?_);(rfl);(rfl);(rfl);(rfl);rintro e w2 ⟨rfl,hb2⟩;obtain ⟨d0,d1,d2,d3,d4⟩:=five ((hb2.block b hsz).trans HX.out);have HB2:=hid' hb2;clear hb2))
    all_goals go_wp2
    all_goals go_ret
    all_goals refine ⟨ret_bool (by simp [In.okB,g1,g2,g3]),?_⟩
    all_goals rw [← HBE.out]
    all_goals first | exact HB.out.drew | exact HB.out | exact HB.out.trans (Joins.below_le HB2.out (by omega))
theorem head_no {l:List In} {s k:Int} (h:(decide (l.length ≤ 20000) && belowB s l.length && capsB k) = false):mayB l s k = false:=by
 unfold mayB
 rw [h]
 rfl
set_option maxRecDepth 100000 in
set_option maxHeartbeats 4000000 in
theorem maybe24_no {w:World} {ad:Option Addr} {n c:Nat} {l:List In} {s k:Int} (hl:n = l.length) (hno:(decide (l.length ≤ 20000) && belowB s l.length && capsB k) = false) :
  Calls Tryz.prog 89 #[pv ad n c s k] w fun e w' => e = .returned (.bool (mayB l s k)) ∧ Below w.heap.size w w':=by
 rw [head_no hno]
 rw [← hl] at hno
 clear hl
 have T1:=fun W => below38 s n W
 have T2:=fun W => caps39 k W
 by_cases hA:n ≤ 20000
 ·have b1:decide ((n:Int) > 20000) = false:=by simp;omega
  have b1':decide ((20000:Int) < (n:Int)) = false:=by simp;omega
  cases g1:belowB s n
  ·simp only [g1] at T1
   go_enter Tryz.func89,Tryz.ntmps89
   go_wp2_with (first | (go_at_call 126;(with_reducible refine (T1 _).mono ?_);rintro e w2 ⟨rfl,rfl⟩))
   all_goals go_ret
   all_goals exact ⟨rfl,Joins.below_alloc1 w _⟩
  ·simp only [g1] at T1
   have g2:capsB k = false:=by simpa [g1,hA] using hno
   simp only [g2] at T2
   go_enter Tryz.func89,Tryz.ntmps89
   go_wp2_with (first | (go_at_call 126;(with_reducible refine (T1 _).mono ?_);rintro e w2 ⟨rfl,rfl⟩) | (go_at_call 127;(with_reducible refine (T2 _).mono ?_);rintro e w2 ⟨rfl,rfl⟩))
   all_goals go_ret
   all_goals exact ⟨rfl,Joins.below_alloc1 w _⟩
 ·have b1:decide ((n:Int) > 20000) = true:=by simp;omega
  have b1':decide ((20000:Int) < (n:Int)) = true:=by simp;omega
  go_enter Tryz.func89,Tryz.ntmps89
  go_wp2
  all_goals go_ret
  all_goals exact ⟨rfl,Joins.below_alloc1 w _⟩
theorem three_cells {w:World} {b:Nat} {v0 v1 v2:Value} {t:TypeId} {fr:Nat × Nat} (h:w.heap[b]? = some (.cells #[v0,v1,v2] t fr)):w.cell? ⟨b,0,none⟩ = some v0 ∧ w.cell? ⟨b,1,none⟩ = some v1 ∧ w.cell? ⟨b,2,none⟩ = some v2:=
 ⟨Joins.cell_of_block h 0,Joins.cell_of_block h 1,Joins.cell_of_block h 2⟩
set_option maxRecDepth 100000 in
set_option maxHeartbeats 4000000 in
theorem maybe24_ok {w:World} {ad:Option Addr} {n c:Nat} {l:List In} {s k:Int} (h:PI w w.heap.size ad n l) (hyes:(decide (l.length ≤ 20000) && belowB s l.length && capsB k) = true) :
  Calls Tryz.prog 89 #[pv ad n c s k] w fun e w' => e = .returned (.bool (mayB l s k)) ∧ Below w.heap.size w w':=by
 have hm:mayB l s k = l.all fun I => I.okB l.length k:=by unfold mayB;rw [hyes];rfl
 rw [hm]
 have hl:=h.len
 rw [← hl] at hyes ⊢
 simp only [Bool.and_eq_true,decide_eq_true_eq] at hyes
 obtain ⟨⟨hA,g1⟩,g2⟩:=hyes
 have T1:=fun W => below38 s n W
 have T2:=fun W => caps39 k W
 simp only [g1] at T1
 simp only [g2] at T2
 have b1:decide ((n:Int) > 20000) = false:=by simp;omega
 have b1':decide ((20000:Int) < (n:Int)) = false:=by simp;omega
 obtain ⟨U,hU⟩:∃ U,U = w.alloc (.cells #[.slice ad n c,.int .i64 s,.int .i64 k] 46):=⟨_,rfl⟩
 have hb:Below w.heap.size w U:=by rw [hU];exact Joins.below_alloc1 w _
 have hX:U.heap[w.heap.size]? = some (.cells #[.slice ad n c,.int .i64 s,.int .i64 k] 46 (0,0)):=by rw [hU];exact heap_alloc_new w _
 have hsz:w.heap.size < U.heap.size:=(Array.getElem?_eq_some_iff.1 hX).1
 have HP:=hid' (h.kept hb hb.size)
 have HB:=hid' hb
 have HX:=hid' hX
 have HL:=hid' hl
 have hz:w.heap.size ≤ w.heap.size:=Nat.le_refl _
 clear h hl hb hX hm hz
 obtain ⟨b,hbe⟩:∃ b,b = w.heap.size:=⟨_,rfl⟩
 go_enter Tryz.func89,Tryz.ntmps89
 go_upto_region 1 with fail
 rw [← hU,← hbe]
 rw [← hbe] at hsz HX HB
 have HBE:=hid' hbe
 clear hU hbe
 obtain ⟨c0,c1,c2⟩:=three_cells HX.out
 go_wp2_with (first | (go_at_call 126;(with_reducible refine (T1 _).mono ?_);rintro e w2 ⟨rfl,hw⟩;have hw':=hw.symm;clear hw;subst hw') | (go_at_call 127;(with_reducible refine (T2 _).mono ?_);rintro e w2 ⟨rfl,hw⟩;have hw':=hw.symm;clear hw;subst hw'))
 clear c0 c1 c2 T1 T2 b1 b1'
 go_loopw [27] (fun y wq => ∃ i:Nat,y = .int .i64 (i:Int) ∧ i ≤ n ∧ Hid (Below U.heap.size U wq) ∧ Hid (∀ j (hj:j < l.length),j < i → (l[j]).okB n k = true)) (fun y _ => n - (intOf y).toNat)
 case atStart => exact ⟨0,rfl,by omega,Below.refl _ _,fun j hj h0 => by omega⟩
 case round =>
  obtain ⟨i,rfl,hi,BK,HA⟩:=hrel
  by_cases hil:i < n
  ·have b1:decide ((i:Int) < (n:Int)) = true:=by simp;omega
   have b2:(i:Int) < (n:Int):=by omega
   have ad1:IntKind.i64.wrap ((i:Int) + 1) = (i:Int) + 1:=by simp [IntKind.wrap,IntKind.bits,IntKind.signed];omega
   have hlt:i < l.length:=by have:=HL.out;omega
   obtain ⟨q,o,ND,e,hq,hcs⟩:=HP.out.mem (by omega)
   subst e
   obtain ⟨m0,m1,m2,m3,m4⟩:=(hcs i hlt).1.kept (BK.out.block q hq)
   have hIM:=(hcs i hlt).2.kept BK.out BK.out.size
   obtain ⟨M,hM⟩:∃ M,M = ND i:=⟨_,rfl⟩
   rw [← hM] at m0 m1 m2 m3 m4 hIM
   have hbw:b < wr.heap.size:=by have:=BK.out.size;omega
   have hcc:wr.cell? ⟨b,2,none⟩ = some (.int .i64 k):=(three_cells ((BK.out.block b hsz).trans HX.out)).2.2
   obtain ⟨V,hV⟩:∃ V,V = wr.alloc (.cells #[.int .i64 M.op,.int .i64 M.x,.int .i64 M.y,.int .i64 M.a,.slice M.r1 M.r2 M.r3] 86):=⟨_,rfl⟩
   have hbV:Below wr.heap.size wr V:=by rw [hV];exact Joins.below_alloc1 wr _
   have hIV:=hIM.kept hbV hbV.size
   have HC:=inst40 M l[i].R n k V hIV.len hIV.sm hIV.row
   rw [hIV.op,hIV.x,hIV.y,hIV.a] at HC
   have HBV:=hid' hbV
   have hVe:In.okB ⟨l[i].op,l[i].x,l[i].y,l[i].a,l[i].R⟩ n k = l[i].okB n k:=rfl
   rw [hVe] at HC
   rw [hV] at HC HBV
   clear hM hIM hIV hbV hV hVe hcs
   cases g:l[i].okB n k
   ·rw [g] at HC
    go_wp2_with (first | (go_at_call 128;(with_reducible refine HC.mono ?_);rintro e w2 ⟨rfl,hb2⟩;have HB2:=hid' hb2;clear hb2 HC))
    all_goals go_ret
    all_goals refine ⟨ret_bool ?_,?_⟩
    ·symm
     rw [List.all_eq_false]
     exact ⟨l[i],List.getElem_mem hlt,by rw [g];simp⟩
    ·rw [← HBE.out]
     exact HB.out.trans (Joins.below_le (BK.out.trans (Joins.below_le (HBV.out.trans (Joins.below_le HB2.out HBV.out.size)) BK.out.size)) (by omega))
   ·rw [g] at HC
    go_wp2_with (first | (go_at_call 128;(with_reducible refine HC.mono ?_);rintro e w2 ⟨rfl,hb2⟩;have HB2:=hid' hb2;clear hb2 HC))
    refine ⟨⟨i + 1,by push_cast;rfl,by omega,BK.out.trans (Joins.below_le (HBV.out.trans (Joins.below_le HB2.out HBV.out.size)) BK.out.size),fun j hj h1 => ?_⟩,by simp [intOf];omega⟩
    by_cases e:j = i
    ·subst e;exact g
    ·exact HA.out j hj (by omega)
  ·have b1:decide ((i:Int) < (n:Int)) = false:=by simp;omega
   go_wp2
   all_goals go_ret
   all_goals refine ⟨ret_bool ?_,?_⟩
   ·symm
    rw [List.all_eq_true]
    intro I hI
    obtain ⟨j,hj,rfl⟩:=List.getElem_of_mem hI
    exact HA.out j hj (by have:=HL.out;omega)
   ·rw [← HBE.out]
    exact HB.out.trans (Joins.below_le BK.out (by omega))
theorem maybe24 {w:World} {ad:Option Addr} {n c:Nat} {l:List In} {s k:Int} (h:PI w w.heap.size ad n l):Calls Tryz.prog 89 #[pv ad n c s k] w fun e w' => e = .returned (.bool (mayB l s k)) ∧ Below w.heap.size w w':=by
 cases hh:decide (l.length ≤ 20000) && belowB s l.length && capsB k with
 | false => exact maybe24_no h.len hh
 | true => exact maybe24_ok h hh
theorem check10 {w:World} {ad:Option Addr} {n c:Nat} {l:List In} {s k:Int} (h:PI w w.heap.size ad n l):Calls Tryz.prog 50 #[pv ad n c s k] w fun e w' => e = .returned (.int .i64 (if mayB l s k then 0 else 90)) ∧ Below w.heap.size w w':=by
 have hb:=Joins.below_alloc1 w (.cells #[.slice ad n c,.int .i64 s,.int .i64 k] 46)
 have HC:=maybe24 (c:=c) (s:=s) (k:=k) (h.kept hb hb.size)
 have HB:=hid' hb
 clear h hb
 cases g:mayB l s k
 ·rw [g] at HC
  go_enter Tryz.func50,Tryz.ntmps50
  go_wp2_with (first | (go_at_call 89;(with_reducible refine HC.mono ?_);rintro e w2 ⟨rfl,hb2⟩;have HB2:=hid' hb2;clear hb2 HC))
  all_goals go_ret
  all_goals exact ⟨rfl,HB.out.trans (Joins.below_le HB2.out HB.out.size)⟩
 ·rw [g] at HC
  go_enter Tryz.func50,Tryz.ntmps50
  go_wp2_with (first | (go_at_call 89;(with_reducible refine HC.mono ?_);rintro e w2 ⟨rfl,hb2⟩;have HB2:=hid' hb2;clear hb2 HC))
  all_goals go_ret
  all_goals exact ⟨rfl,HB.out.trans (Joins.below_le HB2.out HB.out.size)⟩
theorem row_setC {w:World} {base e size n b c:Nat} {xs:List Value} (h:w.ownsRow base e size (.slice (some ⟨b,0,none⟩) n c) n xs) (j:Nat) (v:Value):(w.setCell ⟨b,j,none⟩ v).ownsRow base e size (.slice (some ⟨b,0,none⟩) n c) n (xs.set j v):=by
 obtain ⟨hl,hr⟩:=h
 rcases hr with ⟨he,_⟩ | ⟨g,cap,cur,he,hb,hgg,h1,h2,h3,h4⟩
 ·cases he
 ·simp only [Value.slice.injEq,Option.some.injEq,Addr.mk.injEq] at he
  obtain ⟨⟨rfl,_⟩,_,rfl⟩:=he
  refine ⟨by simp [hl],.inr ⟨b,c,cur.setIfInBounds j v,rfl,hb,Joins.block_setCell hgg _,h1,h2,by simpa using h3,?_⟩⟩
  simp only [Array.toList_setIfInBounds]
  rw [List.take_set,h4]
def inB (R:List (Int × Int)) (r:Int):Bool:=R.any fun x => decide (x.1 ≤ r) && decide (r ≤ x.2)
def hsB (R:List (Int × Int)) (r:Int):Bool:=rightB R && inB R r
def cmpI (a b:Int):Int:=if a < b then -1 else if b < a then 1 else 0
set_option maxRecDepth 100000 in
theorem nan74 (a:Int) (W:World):Calls Tryz.prog 237 #[.int .i64 a] W fun e w' => e = .returned (.bool false) ∧ w' = W:=by
 go_enter Tryz.func237,Tryz.ntmps237
 go_wp2
 all_goals go_ret
 all_goals exact ⟨rfl,rfl⟩
set_option maxRecDepth 100000 in
set_option maxHeartbeats 1000000 in
theorem compare69 (a b:Int) (W:World):Calls Tryz.prog 218 #[.int .i64 a,.int .i64 b] W fun e w' => e = .returned (.int .i64 (cmpI a b)) ∧ w' = W:=by
 have H1:=fun W => nan74 a W
 have H2:=fun W => nan74 b W
 by_cases h1:a < b
 ·have e:cmpI a b = -1:=by unfold cmpI;rw [if_pos h1]
  rw [e]
  go_enter Tryz.func218,Tryz.ntmps218
  go_wp2_with (go_at_call 237;(first | (with_reducible refine (H1 _).mono ?_) | (with_reducible refine (H2 _).mono ?_));rintro e w' ⟨rfl,rfl⟩)
  all_goals go_ret
  all_goals exact ⟨rfl,rfl⟩
 ·by_cases h2:b < a
  ·have e:cmpI a b = 1:=by unfold cmpI;rw [if_neg h1,if_pos h2]
   rw [e]
   go_enter Tryz.func218,Tryz.ntmps218
   go_wp2_with (go_at_call 237;(first | (with_reducible refine (H1 _).mono ?_) | (with_reducible refine (H2 _).mono ?_));rintro e w' ⟨rfl,rfl⟩)
   all_goals go_ret
   all_goals exact ⟨rfl,rfl⟩
  ·have e:cmpI a b = 0:=by unfold cmpI;rw [if_neg h1,if_neg h2]
   rw [e]
   go_enter Tryz.func218,Tryz.ntmps218
   go_wp2_with (go_at_call 237;(first | (with_reducible refine (H1 _).mono ?_) | (with_reducible refine (H2 _).mono ?_));rintro e w' ⟨rfl,rfl⟩)
   all_goals go_ret
   all_goals exact ⟨rfl,rfl⟩
theorem cmp_lt (a b:Int):cmpI a b < 0 ↔ a < b:=by
 unfold cmpI
 by_cases h1:a < b
 ·simp [h1]
 ·by_cases h2:b < a <;> simp [h1,h2]
theorem right_rise (L:List (Int × Int)):∀ (ls:Int) (k:Nat),rightFrom ls L = true → k + 1 < L.length → (L.getD k (0,0)).2 < (L.getD (k + 1) (0,0)).1 ∧ (L.getD (k + 1) (0,0)).1 ≤ (L.getD (k + 1) (0,0)).2:=by
 induction L with
 | nil => intro ls k _ h;simp at h
 | cons a t ih =>
  intro ls k h hk
  simp only [rightFrom,Bool.and_eq_true] at h
  cases k with
  | zero =>
   cases t with
   | nil => simp at hk
   | cons b t =>
    have h2:=h.2
    simp only [rightFrom,okG,Bool.and_eq_true,decide_eq_true_eq] at h2
    have:=h2.1.1.1.1.1
    have:=h2.1.1.1.1.2
    simp
    omega
  | succ k => simpa using ih _ k h.2 (by simpa using hk)
theorem right_mono (L:List (Int × Int)) (ls:Int) (h:rightFrom ls L = true):∀ (d k:Nat),k + d < L.length → (L.getD k (0,0)).2 ≤ (L.getD (k + d) (0,0)).2:=by
 intro d
 induction d with
 | zero => intro k _;simp
 | succ d ih =>
  intro k hk
  have h1:=ih k (by omega)
  have h2:=right_rise L ls (k + d) h (by omega)
  have e:k + (d + 1) = k + d + 1:=by omega
  rw [e]
  omega
theorem right_lo (L:List (Int × Int)) (ls:Int) (h:rightFrom ls L = true) (a b:Nat) (hab:a < b) (hb:b < L.length):(L.getD a (0,0)).2 < (L.getD b (0,0)).1:=by
 obtain ⟨d,rfl⟩:=Nat.exists_eq_add_of_le (show a + 1 ≤ b by omega)
 have h1:=right_mono L ls h d a (by omega)
 have h2:=right_rise L ls (a + d) h (by omega)
 have e:a + 1 + d = a + d + 1:=by omega
 rw [e]
 omega
theorem has_search (L:List (Int × Int)) (r:Int) (i:Nat) (h:rightB L = true) (hi:i ≤ L.length) (h0:i = 0 ∨ (L.getD (i - 1) (0,0)).2 < r) (h1:i = L.length ∨ r ≤ (L.getD i (0,0)).2) :
  inB L r = (decide (i < L.length) && decide ((L.getD i (0,0)).1 ≤ r)):=by
 have hr:rightFrom 0 L = true:=by unfold rightB at h;rw [Bool.and_eq_true] at h;exact h.2
 have hge:∀ k (hk:k < L.length),L[k] = L.getD k (0,0):=fun k hk => by simp [List.getD,hk]
 rw [Bool.eq_iff_iff]
 unfold inB
 rw [List.any_eq_true]
 simp only [Bool.and_eq_true,decide_eq_true_eq]
 constructor
 ·rintro ⟨g,hg,ha,hb⟩
  obtain ⟨k,hk,rfl⟩:=List.getElem_of_mem hg
  rw [hge k hk] at ha hb
  have hki:¬ k < i:=fun hlt => by
   rcases h0 with h0 | h0
   ·omega
   ·have:=right_mono L 0 hr (i - 1 - k) k (by omega)
    rw [show k + (i - 1 - k) = i - 1 by omega] at this
    omega
  have hik:¬ i < k:=fun hlt => by
   rcases h1 with h1 | h1
   ·omega
   ·have:=right_lo L 0 hr i k hlt hk
    omega
  obtain rfl:k = i:=by omega
  exact ⟨hk,ha⟩
 ·rintro ⟨hk,ha⟩
  refine ⟨L[i],List.getElem_mem hk,?_⟩
  rw [hge i hk]
  rcases h1 with h1 | h1
  ·omega
  ·exact ⟨ha,h1⟩
end Go.Proofs.YtacaanhnlfpbhaaGreat
namespace Go.Proofs.YtacaanhnlfpbhaaGreat
open Go.RowKit Go.Lib
set_option linter.unusedVariables false
set_option linter.unusedSimpArgs false
theorem nan52 (a:Int) (w:World):Calls Tryz.prog 237 #[.int .i64 a] w fun e w' => e = .returned (.bool false) ∧ w' = w:=by
 go_enter Tryz.func237,Tryz.ntmps237
 go_wp2
 go_ret
 exact ⟨ret_bool (by simp),rfl⟩
theorem cmp51 (a b:Int) (w:World):Calls Tryz.prog 218 #[.int .i64 a,.int .i64 b] w fun e w' => e = .returned (.int .i64 (Lib.compareInt a b)) ∧ w' = w:=by
 go_enter Tryz.func218,Tryz.ntmps218
 go_wp2_with (go_at_call 237;(with_reducible refine (nan52 _ _).mono ?_);rintro e w' ⟨rfl,rfl⟩)
 all_goals go_ret
 all_goals exact ⟨ret_int (by unfold Lib.compareInt;(repeat' split) <;> omega),rfl⟩
set_option maxHeartbeats 1000000 in
theorem closure50 (lo hi r:Int) (W:World):Calls Tryz.prog 228 #[.agg #[.int .i64 lo,.int .i64 hi],.int .i64 r] W fun e w' => e = .returned (.int .i64 (Lib.compareInt hi r)) ∧ Below W.heap.size W w':=by
 have hcon:=fun W' => cmp51 hi r W'
 generalize Lib.compareInt hi r = c at hcon ⊢
 go_enter Tryz.func228,Tryz.ntmps228
 go_wp2_with (go_at_call 218;refine (hcon _).mono ?_;rintro e w' ⟨rfl,rfl⟩)
 go_ret
 exact ⟨rfl,(Below.refl _ _).alloc (Nat.le_refl _) _⟩
theorem cmp_ltY (a b:Int):Lib.compareInt a b < 0 ↔ a < b:=by
 unfold Lib.compareInt
 by_cases h1:a < b
 ·simp [h1]
 ·by_cases h2:b < a <;> simp [h1,h2]
set_option maxHeartbeats 3000000 in
set_option maxRecDepth 1000000 in
theorem bs49 (L:List (Int × Int)) (ad:Option Addr) (n cap:Nat) (r:Int) (w:World) (hn:Hid (n = L.length)) (hl:Hid (RowAt w.heap.size w (.slice ad n cap) L)) (hS:n ≤ 5000) :
  Calls Tryz.prog 216 #[.slice ad n cap,.int .i64 r,.func (.func 228) #[] #[]] w fun e w' => ∃ (i:Nat) (f:Bool),e = .returned (.tuple #[.int .i64 i,.bool f]) ∧ Below w.heap.size w w' ∧ i ≤ n ∧ (i = 0 ∨ (L.getD (i - 1) (0,0)).2 < r) ∧ (i = n ∨ r ≤ (L.getD i (0,0)).2):=by
 go_enter Tryz.func216,Tryz.ntmps216
 go_wp2
 go_loopw [9,10] (fun a b wr => ∃ (i j:Nat),a = .int .i64 i ∧ b = .int .i64 j ∧ i ≤ j ∧ j ≤ n ∧ Below w.heap.size w wr ∧ Hid ((i = 0 ∨ (L.getD (i - 1) (0,0)).2 < r) ∧ (j = n ∨ r ≤ (L.getD j (0,0)).2)))
  (fun a b _ => (intOf b).toNat - (intOf a).toNat)
 case atStart => exact ⟨0,n,rfl,rfl,by omega,by omega,Below.refl _ _,by exact ⟨.inl rfl,.inl rfl⟩⟩
 case round =>
  obtain ⟨i,j,rfl,rfl,hij,hjn,hbw,HR⟩:=hrel
  have hsz:=hbw.size
  by_cases hlt:i < j
  ·obtain ⟨ad',cap',he,h | ⟨b,off,rfl,hbN,hc0,hc1⟩⟩:=hl.out
   ·exact absurd h (by rw [← hn.out];omega)
   ·have hn':=hn.out
    simp only [Value.slice.injEq] at he
    obtain ⟨rfl,-,rfl⟩:=he
    have hm1:i ≤ (i + j) / 2:=by omega
    have hm2:(i + j) / 2 < j:=by omega
    have d0:=(hbw.cell (p:=⟨b,off + (i + j) / 2 * 2,none⟩) hbN).trans (hc0 ((i + j) / 2) (by omega))
    have d1:=(hbw.cell (p:=⟨b,off + (i + j) / 2 * 2 + 1,none⟩) hbN).trans (hc1 ((i + j) / 2) (by omega))
    generalize hg:L.getD ((i + j) / 2) (0,0) = g at d0 d1
    obtain ⟨lo,hi⟩:=g
    simp only at d0 d1
    have HG:Hid (L.getD ((i + j) / 2) (0,0) = (lo,hi)):=hg
    clear hg hc0 hc1 hn'
    have hcl:=closure50 lo hi r
    have hcmp:=cmp_ltY hi r
    generalize Lib.compareInt hi r = c at hcl hcmp
    by_cases hc:c < 0
    ·have HX:Hid (hi < r):=hcmp.1 hc
     clear hcmp
     go_wp2_with (go_at_call 228;refine (hcl _).mono ?_;rintro e w2 ⟨rfl,hb2⟩)
     go_roundw
     case rel => exact ⟨(i + j) / 2 + 1,j,by go_num,rfl,by omega,by omega,hbw.trans (hb2.mono hsz),by exact ⟨.inr (by rw [Nat.add_sub_cancel,HG.out];exact HX.out),HR.out.2⟩⟩
     case measure => simp [intOf];omega
    ·have HX:Hid (r ≤ hi):=by show r ≤ hi;have:=mt hcmp.2 hc;omega
     clear hcmp
     go_wp2_with (go_at_call 228;refine (hcl _).mono ?_;rintro e w2 ⟨rfl,hb2⟩)
     go_roundw
     case rel => exact ⟨i,(i + j) / 2,rfl,by go_num,by omega,by omega,hbw.trans (hb2.mono hsz),by exact ⟨HR.out.1,.inr (by rw [HG.out];exact HX.out)⟩⟩
     case measure => simp [intOf];omega
  ·obtain rfl:i = j:=by omega
   by_cases hin:i < n
   ·obtain ⟨ad',cap',he,h | ⟨b,off,rfl,hbN,hc0,hc1⟩⟩:=hl.out
    ·exact absurd h (by rw [← hn.out];omega)
    ·have hn':=hn.out
     simp only [Value.slice.injEq] at he
     obtain ⟨rfl,-,rfl⟩:=he
     have d0:=(hbw.cell (p:=⟨b,off + i * 2,none⟩) hbN).trans (hc0 i (by omega))
     have d1:=(hbw.cell (p:=⟨b,off + i * 2 + 1,none⟩) hbN).trans (hc1 i (by omega))
     generalize L.getD i (0,0) = g at d0 d1
     obtain ⟨lo,hi⟩:=g
     simp only at d0 d1
     clear hc0 hc1 hn'
     have hcl:=closure50 lo hi r
     generalize Lib.compareInt hi r = c at hcl
     go_wp2_with (go_at_call 228;refine (hcl _).mono ?_;rintro e w2 ⟨rfl,hb2⟩)
     go_ret2
     exact ⟨i,_,rfl,hbw.trans (hb2.mono hsz),by omega,HR.out.1,HR.out.2⟩
   ·go_wp2
    go_ret2
    exact ⟨i,_,rfl,hbw,by omega,HR.out.1,HR.out.2⟩
theorem has_searchY (L:List (Int × Int)) (r:Int) (i:Nat) (h:rightB L = true) (hi:i ≤ L.length) (h0:i = 0 ∨ (L.getD (i - 1) (0,0)).2 < r) (h1:i = L.length ∨ r ≤ (L.getD i (0,0)).2) :
  hasB L r = (decide (i < L.length) && decide ((L.getD i (0,0)).1 ≤ r)):=by
 have hr:rightFrom 0 L = true:=by unfold rightB at h;rw [Bool.and_eq_true] at h;exact h.2
 have hge:∀ k (hk:k < L.length),L[k] = L.getD k (0,0):=fun k hk => by simp [List.getD,hk]
 rw [Bool.eq_iff_iff]
 unfold hasB
 rw [List.any_eq_true]
 simp only [Bool.and_eq_true,decide_eq_true_eq]
 constructor
 ·rintro ⟨g,hg,ha,hb⟩
  obtain ⟨k,hk,rfl⟩:=List.getElem_of_mem hg
  rw [hge k hk] at ha hb
  have hki:¬ k < i:=fun hlt => by
   rcases h0 with h0 | h0
   ·omega
   ·have:=right_mono L 0 hr (i - 1 - k) k (by omega)
    rw [show k + (i - 1 - k) = i - 1 by omega] at this
    omega
  have hik:¬ i < k:=fun hlt => by
   rcases h1 with h1 | h1
   ·omega
   ·have:=right_lo L 0 hr i k hlt hk
    omega
  obtain rfl:k = i:=by omega
  exact ⟨hk,ha⟩
 ·rintro ⟨hk,ha⟩
  refine ⟨L[i],List.getElem_mem hk,?_⟩
  rw [hge i hk]
  rcases h1 with h1 | h1
  ·omega
  ·exact ⟨ha,h1⟩
set_option maxHeartbeats 2000000 in
set_option maxRecDepth 1000000 in
theorem has30 (L:List (Int × Int)) (ad:Option Addr) (n cap:Nat) (r:Int) (w:World) (hn:Hid (n = L.length)) (hS2:n ≤ 17592186044416) (hl:Hid (RowAt w.heap.size w (.slice ad n cap) L)) :
  Calls Tryz.prog 183 #[.slice ad n cap,.int .i64 r] w fun e w' => e = .returned (.bool (rightB L && hasB L r)) ∧ Below w.heap.size w w':=by
 have hr1:=right25 L ad n cap w hn.out hS2 hl.out
 cases hr:rightB L
 ·rw [hr] at hr1
  clear hr
  go_enter Tryz.func183,Tryz.ntmps183
  go_wp2_with (go_at_call 169;refine hr1.mono ?_;rintro e w1 ⟨rfl,hb1⟩)
  go_ret
  exact ⟨rfl,hb1⟩
 ·rw [hr] at hr1
  have hlen:=rightB_len hr
  rw [← hn.out] at hlen
  have HRB:Hid (rightB L = true):=hr
  clear hr
  go_enter Tryz.func183,Tryz.ntmps183
  go_wp2_with fail
  refine hr1.mono ?_
  rintro e w1 ⟨rfl,hb1⟩
  have hs1:=hb1.size
  have hb:=bs49 L ad n cap r w1 hn (hl.out.below hb1 (Nat.le_refl _) hs1) hlen
  go_wp2_with fail
  refine hb.mono ?_
  rintro e w2 ⟨i,f,rfl,hb2,hin,h0,h1⟩
  have hbw:=hb1.trans (hb2.mono hs1)
  have HE:Hid (hasB L r = (decide (i < n) && decide ((L.getD i (0,0)).1 ≤ r))):=by
   show hasB L r = _
   have:=has_searchY L r i HRB.out (by rw [← hn.out];exact hin) h0 (by rw [← hn.out];exact h1)
   rw [← hn.out] at this
   exact this
  clear h0 h1
  by_cases hlt:i < n
  ·obtain ⟨ad',cap',he,h | ⟨b,off,rfl,hbN,hc0,hc1⟩⟩:=hl.out
   ·exact absurd h (by rw [← hn.out];omega)
   ·have hn':=hn.out
    simp only [Value.slice.injEq] at he
    obtain ⟨rfl,-,rfl⟩:=he
    have d0:=(hbw.cell (p:=⟨b,off + i * 2,none⟩) hbN).trans (hc0 i (by omega))
    have d1:=(hbw.cell (p:=⟨b,off + i * 2 + 1,none⟩) hbN).trans (hc1 i (by omega))
    have hE:=HE.out
    generalize L.getD i (0,0) = g at d0 d1 hE
    obtain ⟨lo,hi⟩:=g
    simp only at d0 d1 hE
    have HE2:Hid ((true && hasB L r) = decide (lo ≤ r)):=by show _ = _;rw [hE];simp [hlt]
    clear hE HE hc0 hc1 hn'
    go_wp2
    go_ret
    exact ⟨ret_bool HE2.out.symm,hbw⟩
  ·have HE2:Hid ((true && hasB L r) = false):=by show _ = _;rw [HE.out];simp [hlt]
   go_wp2
   go_ret
   exact ⟨ret_bool HE2.out.symm,hbw⟩
end Go.Proofs.YtacaanhnlfpbhaaGreat
namespace Go.Proofs.YtacaanhnlfpbhaaGreat.Look
open Go.RowKit
set_option linter.unusedVariables false
set_option linter.unusedSimpArgs false
theorem wpList_store_new {P:Program} {ops:Array Oper} {rest:List Oper} {op:Oper} {a:Act} {w:World} {Q:Exit → Act → World → Prop} (hgd:op.guard = none) (ty:TypeId) (x y:Operand) (ho:op.op = .store ty x y)
  (c c':Array Value) (hx:a.eval x = .pointer (some ⟨w.heap.size,0,none⟩)) (hy:a.eval y = .agg c') (hi:(P.info? ty).map (·.size) = some c'.size) (hc:c.size = c'.size) (h1:c'.all (·.oneCell') = true)
  (h:wpList P ops Q rest (a.put op.dst undef) (w.alloc (.cells c' ty))):wpList P ops Q (op :: rest) a (w.alloc (.cells c ty)):=
 wpList_plain hgd fun K hK => by
  unfold Oper.wp execOp
  simp only [ho,hx,hy,Sem.run_bind,Sem.run_pure,Result.andThen_ok,run_storeAt_new w ty c c' hi hc h1]
  exact hK _ _ h
theorem results_cell1 {fn:Func} {p:Tmp} {ty:TypeId} (h:fn.results = #[.cell p ty]) (tmps:Array Value) (P:Program) (w:World) :
  (results fn tmps).run P w = ((asAddr (tmps.getD p undef)).run P w).andThen fun a w₁ => ((loadVar ty a).run P w₁).andThen fun v w₂ => .ok v w₂:=by
 simp only [results,h]
 simp [Sem.run_bind,Result.andThen]
 cases (asAddr (tmps[p]?.getD undef)).run P w with
 | halt h w => rfl
 | ok a w => show (loadVar ty a).run P w = _;cases h:(loadVar ty a).run P w <;> simp [h]
def fv (f:Nat):Value:=.func (.func f) #[] #[]
def rowsV:Array Value:=#[.int .i64 1,.int .i64 2,fv 174,.int .i64 2,.int .i64 1,fv 175,.int .i64 4,.int .i64 8,fv 176,.int .i64 8,.int .i64 4,fv 177,.int .i64 16,.int .i64 16,fv 178,.int .i64 32,.int .i64 32,fv 179]
theorem info37:(Tryz.prog.info? 173).map (·.size) = some 18:=by kernel_rfl
theorem one37:(rowsV.all (·.oneCell')) = true:=by simp [rowsV,fv,Value.oneCell']
set_option maxRecDepth 100000 in
theorem rows17 (w:World):Calls Tryz.prog 112 #[] w fun e w' => e = .returned (.agg rowsV) ∧ w' = w.alloc (.cells rowsV 173):=by
 go_enter Tryz.func112,Tryz.ntmps112
 go_wp2_with (refine wpList_store_new rfl 173 (.tmp 0) (.tmp 7) rfl _ rowsV rfl rfl info37 rfl one37 ?_)
 refine bodyPost_ret (v:=.agg rowsV) ?_ rfl ⟨rfl,rfl⟩
 rw [results_cell1 Tryz.results112]
 have h:=run_loadVar_new (P:=Tryz.prog) w 173 rowsV 6 172 Tryz.underlying173 info37
 simp [asAddr,Result.andThen,h,Act.put]
theorem holds13 (x y:Int) (w:World):Calls Tryz.prog 167 #[.int .i64 x,.int .i64 y] w fun e w' => e = .returned (.bool (bits .andNot .i64 x y == 0)) ∧ w' = w:=by
 go_enter Tryz.func167,Tryz.ntmps167
 go_wp2
 go_ret
 exact ⟨rfl,rfl⟩
def wordR (r:Int):Bool:=decide (48 ≤ r ∧ r ≤ 57 ∨ 65 ≤ r ∧ r ≤ 90 ∨ 97 ≤ r ∧ r ≤ 122 ∨ r = 95)
theorem dom28 (r:Int) (w:World):Calls Tryz.prog 222 #[.int .i64 r] w fun e w' => e = .returned (.bool (dom r)) ∧ w' = w:=by
 go_enter Tryz.func222,Tryz.ntmps222
 go_wp2
 all_goals go_ret
 all_goals exact ⟨ret_bool (by rw [Bool.eq_iff_iff];simp [dom];omega),rfl⟩
theorem word27 (r:Int) (w:World):Calls Tryz.prog 225 #[.int .i64 r] w fun e w' => e = .returned (.bool (wordR r)) ∧ w' = w:=by
 have hd:=dom28 r w
 by_cases hD:dom r = true
 ·rw [hD] at hd
  have hr:0 ≤ r ∧ r ≤ 1114111:=by simp [dom] at hD;omega
  have hw:IntKind.i32.wrap r = r:=by simp [IntKind.wrap,IntKind.bits,IntKind.signed];omega
  clear hD
  go_enter Tryz.func225,Tryz.ntmps225
  go_wp2_with (go_at_call 222;refine hd.mono ?_;rintro e w' ⟨rfl,rfl⟩)
  all_goals go_ret
  all_goals exact ⟨ret_bool (by rw [Bool.eq_iff_iff];simp [wordR,hw];omega),rfl⟩
 ·have hD':dom r = false:=by simpa using hD
  rw [hD'] at hd
  have hr:wordR r = false:=by simp [dom] at hD;simp [wordR];omega
  rw [hr]
  go_enter Tryz.func225,Tryz.ntmps225
  go_wp2_with (go_at_call 222;refine hd.mono ?_;rintro e w' ⟨rfl,rfl⟩)
  go_ret
  exact ⟨rfl,rfl⟩
end Go.Proofs.YtacaanhnlfpbhaaGreat.Look
