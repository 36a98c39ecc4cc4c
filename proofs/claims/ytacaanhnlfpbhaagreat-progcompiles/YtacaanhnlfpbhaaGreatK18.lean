/- HELPERS: texts of ours put together. -/
import Derived.Test.YtacaanhnlfpbhaaGreatK03
import Derived.Test.YtacaanhnlfpbhaaGreatK17
import Derived.Deep.RegionHeld3
import Derived.Deep.Cut
import Derived.Deep.CutRange
import Derived.Deep.QuietTactic
import Derived.BigQuiet
import Derived.Test.YtacaanhnlfpbhaaGreatProg
import Derived.WalkKit
import Derived.ProofKit
import Derived.WalkSmall
import Derived.Deep.RegionWith
import Derived.Lib.SmallJoins
import Derived.Lib.MinMax
import Derived.Maps.AppendAt
import Derived.Laws.AppendOwnNone
import Derived.Test.YtacaanhnlfpbhaaGreatK01
import Derived.Lib.Small
import Derived.Deep.SlicePairs
import Derived.RowKit
import Derived.Test.YtacaanhnlfpbhaaGreatK04
import Derived.Test.YtacaanhnlfpbhaaGreatK02
import Derived.Laws.EntriesVeiled
import Derived.OrdersHeld
import Derived.StillTail
import Derived.Tactics
import Derived.Below
import Derived.Deep.MidRow
import Derived.Deep.OwnRows
import Derived.Laws.Rows
import Derived.WalkLawsBesides
import Derived.Deep.RegionLaw
import Derived.Laws.CopyOwn
import Derived.Lib.LazyBuf
import Derived.Deep.WholeRow
import Derived.Laws.BitsLemmas
import Derived.Deep.Onto
import Derived.Test.YtacaanhnlfpbhaaGreatK10
namespace Go.Proofs.YtacaanhnlfpbhaaGreat
open Go.RowKit
set_option linter.unusedVariables false
set_option linter.unusedSimpArgs false
set_option maxRecDepth 100000 in
set_option maxHeartbeats 4000000 in
theorem inst40 (N:Iv) (R:List (Int × Int)) (n caps:Int) (w:World) (hn:N.r2=R.length) (hS:N.r2 * 16≤140737488351232) (hl:RowAt w.heap.size w (.slice N.r1 N.r2 N.r3) R) :
  Calls Tryz.prog 128 #[N.v,.int .i64 n,.int .i64 caps] w fun e w'=>e=.returned (.bool (In.okB ⟨N.op,N.x,N.y,N.a,R⟩ n caps))∧Below w.heap.size w w':=by
 obtain ⟨op,x,y,a,r1,r2,r3⟩:=N
 dsimp only at hn hS hl ⊢
 obtain ⟨U,hU⟩:∃ U,U=w.alloc (.cells #[.int .i64 op,.int .i64 x,.int .i64 y,.int .i64 a,.slice r1 r2 r3] 86):=⟨_,rfl⟩
 have hb:Below w.heap.size w U:=by rw [hU];exact Joins.below_alloc1 w _
 have hX:U.heap[w.heap.size]?=some (.cells #[.int .i64 op,.int .i64 x,.int .i64 y,.int .i64 a,.slice r1 r2 r3] 86 (0,0)):=by rw [hU];exact heap_alloc_new w _
 obtain ⟨c0,c1,c2,c3,c4⟩:=five hX
 have HR:∀ W,W.heap=U.heap→W.os=U.os→W.tape=U.tape→W.output=U.output→Calls Tryz.prog 195 #[.int .i64 op,.slice r1 r2 r3] W fun e w'=>e=.returned (.bool (isRangesB op R))∧Below U.heap.size U w':=by
  intro W e1 e2 e3 e4
  have hbW:Below U.heap.size U W:=⟨e2,e3,e4,by rw [e1];exact Nat.le_refl _,fun k hk=>by rw [e1]⟩
  have hbw:Below w.heap.size w W:=hb.trans (Joins.below_le hbW hb.size)
  refine (ranges64 op R r1 r2 r3 W hn hS (hl.below hbw (Nat.le_refl _) hbw.size)).mono ?_
  rintro e w' ⟨h1,h2⟩
  exact ⟨h1,hbW.trans (Joins.below_le h2 hbW.size)⟩
 have HRR:=hid' HR
 have HB:=hid' hb
 have HX:=hid' hX
 have hsz:w.heap.size < U.heap.size:=(Array.getElem?_eq_some_iff.1 hX).1
 clear HR hn hS hl hb hX
 have T1:=fun W=>target60 x (hasXB op) n W
 have T2:=fun W=>target60 y (hasYB op) n W
 have T3:=fun W=>arg63 op a caps W
 have X1:=fun W=>hasX61 op W
 have X2:=fun W=>hasY62 op W
 obtain ⟨b,hbe⟩:∃ b,b=w.heap.size:=⟨_,rfl⟩
 go_enter Tryz.func128,Tryz.ntmps128
 go_upto_region 1 with fail
 rw [← hU,← hbe]
 rw [← hbe] at c0 c1 c2 c3 c4 hsz HX HB
 have HBE:=hid' hbe
 clear hU hbe
 cases g1:isTargetB x (hasXB op) n
 ·simp only [g1] at T1
  go_quiet (first | (go_at_call 192;with_reducible refine Calls.quiet_of_same (X1 _)) | (go_at_call 191;first | (with_reducible refine Calls.quiet_of_same (T1 _)) | (with_reducible refine Calls.quiet_of_same (T2 _))) | (go_at_call 193;with_reducible refine Calls.quiet_of_same (X2 _)) | (go_at_call 194;with_reducible refine Calls.quiet_of_same (T3 _)))
  go_wp2
  all_goals go_ret
  all_goals refine ⟨ret_bool (by simp [In.okB,g1]),?_⟩
  all_goals rw [← HBE.out]
  all_goals exact below_drewN' HB.out _
 ·simp only [g1] at T1
  cases g2:isTargetB y (hasYB op) n
  ·simp only [g2] at T2
   go_quiet (first | (go_at_call 192;with_reducible refine Calls.quiet_of_same (X1 _)) | (go_at_call 191;first | (with_reducible refine Calls.quiet_of_same (T1 _)) | (with_reducible refine Calls.quiet_of_same (T2 _))) | (go_at_call 193;with_reducible refine Calls.quiet_of_same (X2 _)) | (go_at_call 194;with_reducible refine Calls.quiet_of_same (T3 _)))
   go_wp2
   all_goals go_ret
   all_goals refine ⟨ret_bool (by simp [In.okB,g1,g2]),?_⟩
   all_goals rw [← HBE.out]
   all_goals exact below_drewN' HB.out _
  ·simp only [g2] at T2
   cases g3:isArgB op a caps
   ·simp only [g3] at T3
    go_quiet (first | (go_at_call 192;with_reducible refine Calls.quiet_of_same (X1 _)) | (go_at_call 191;first | (with_reducible refine Calls.quiet_of_same (T1 _)) | (with_reducible refine Calls.quiet_of_same (T2 _))) | (go_at_call 193;with_reducible refine Calls.quiet_of_same (X2 _)) | (go_at_call 194;with_reducible refine Calls.quiet_of_same (T3 _)))
    go_wp2
    all_goals go_ret
    all_goals refine ⟨ret_bool (by simp [In.okB,g1,g2,g3]),?_⟩
    all_goals rw [← HBE.out]
    all_goals exact below_drewN' HB.out _
   ·simp only [g3] at T3
    go_region_held3 (fun W=>W.cell? ⟨b,0,none⟩=some (.int .i64 op)∧W.cell? ⟨b,1,none⟩=some (.int .i64 x)∧W.cell? ⟨b,2,none⟩=some (.int .i64 y)∧W.cell? ⟨b,3,none⟩=some (.int .i64 a)∧W.cell? ⟨b,4,none⟩=some (.slice r1 r2 r3)) (first | (exact ⟨d0,d1,d2,d3,d4⟩) | (simp [*];done)) (first | (go_at_call 192;(with_reducible refine (X1 _).mono ?_);rintro e w2 ⟨rfl,rfl⟩) | (go_at_call 191;(first | (with_reducible refine (T1 _).mono ?_) | (with_reducible refine (T2 _).mono ?_));rintro e w2 ⟨rfl,rfl⟩) | (go_at_call 193;(with_reducible refine (X2 _).mono ?_);rintro e w2 ⟨rfl,rfl⟩) | (go_at_call 194;(with_reducible refine (T3 _).mono ?_);rintro e w2 ⟨rfl,rfl⟩) | (go_at_call 195;(with_reducible refine (HRR.out _ ?_ ?_ ?_ ?_).mono ?_);(rfl);(rfl);(rfl);(rfl);rintro e w2 ⟨rfl,hb2⟩;obtain ⟨d0,d1,d2,d3,d4⟩:=five ((hb2.block b hsz).trans HX.out);have HB2:=hid' hb2;clear hb2))
    all_goals go_wp2
    all_goals go_ret
    all_goals refine ⟨ret_bool (by simp [In.okB,g1,g2,g3]),?_⟩
    all_goals rw [← HBE.out]
    all_goals first | exact HB.out.drew | exact HB.out | exact HB.out.trans (Joins.below_le HB2.out (by omega))
theorem head_no {l:List In} {s k:Int} (h:(decide (l.length≤20000) && belowB s l.length && capsB k)=false):mayB l s k=false:=by
 unfold mayB
 rw [h]
 rfl
set_option maxRecDepth 100000 in
set_option maxHeartbeats 4000000 in
theorem maybe24_no {w:World} {ad:Option Addr} {n c:Nat} {l:List In} {s k:Int} (hl:n=l.length) (hno:(decide (l.length≤20000) && belowB s l.length && capsB k)=false) :
  Calls Tryz.prog 89 #[pv ad n c s k] w fun e w'=>e=.returned (.bool (mayB l s k))∧Below w.heap.size w w':=by
 rw [head_no hno]
 rw [← hl] at hno
 clear hl
 have T1:=fun W=>below38 s n W
 have T2:=fun W=>caps39 k W
 by_cases hA:n≤20000
 ·have b1:decide ((n:Int) > 20000)=false:=by simp;omega
  have b1':decide ((20000:Int) < (n:Int))=false:=by simp;omega
  cases g1:belowB s n
  ·simp only [g1] at T1
   go_enter Tryz.func89,Tryz.ntmps89
   go_wp2_with (first | (go_at_call 126;(with_reducible refine (T1 _).mono ?_);rintro e w2 ⟨rfl,rfl⟩))
   all_goals go_ret
   all_goals exact ⟨rfl,Joins.below_alloc1 w _⟩
  ·simp only [g1] at T1
   have g2:capsB k=false:=by simpa [g1,hA] using hno
   simp only [g2] at T2
   go_enter Tryz.func89,Tryz.ntmps89
   go_wp2_with (first | (go_at_call 126;(with_reducible refine (T1 _).mono ?_);rintro e w2 ⟨rfl,rfl⟩) | (go_at_call 127;(with_reducible refine (T2 _).mono ?_);rintro e w2 ⟨rfl,rfl⟩))
   all_goals go_ret
   all_goals exact ⟨rfl,Joins.below_alloc1 w _⟩
 ·have b1:decide ((n:Int) > 20000)=true:=by simp;omega
  have b1':decide ((20000:Int) < (n:Int))=true:=by simp;omega
  go_enter Tryz.func89,Tryz.ntmps89
  go_wp2
  all_goals go_ret
  all_goals exact ⟨rfl,Joins.below_alloc1 w _⟩
theorem three_cells {w:World} {b:Nat} {v0 v1 v2:Value} {t:TypeId} {fr:Nat × Nat} (h:w.heap[b]?=some (.cells #[v0,v1,v2] t fr)):w.cell? ⟨b,0,none⟩=some v0∧w.cell? ⟨b,1,none⟩=some v1∧w.cell? ⟨b,2,none⟩=some v2:=
 ⟨Joins.cell_of_block h 0,Joins.cell_of_block h 1,Joins.cell_of_block h 2⟩
set_option maxRecDepth 100000 in
set_option maxHeartbeats 4000000 in
theorem maybe24_ok {w:World} {ad:Option Addr} {n c:Nat} {l:List In} {s k:Int} (h:PI w w.heap.size ad n l) (hyes:(decide (l.length≤20000) && belowB s l.length && capsB k)=true) :
  Calls Tryz.prog 89 #[pv ad n c s k] w fun e w'=>e=.returned (.bool (mayB l s k))∧Below w.heap.size w w':=by
 have hm:mayB l s k=l.all fun I=>I.okB l.length k:=by unfold mayB;rw [hyes];rfl
 rw [hm]
 have hl:=h.len
 rw [← hl] at hyes ⊢
 simp only [Bool.and_eq_true,decide_eq_true_eq] at hyes
 obtain ⟨⟨hA,g1⟩,g2⟩:=hyes
 have T1:=fun W=>below38 s n W
 have T2:=fun W=>caps39 k W
 simp only [g1] at T1
 simp only [g2] at T2
 have b1:decide ((n:Int) > 20000)=false:=by simp;omega
 have b1':decide ((20000:Int) < (n:Int))=false:=by simp;omega
 obtain ⟨U,hU⟩:∃ U,U=w.alloc (.cells #[.slice ad n c,.int .i64 s,.int .i64 k] 46):=⟨_,rfl⟩
 have hb:Below w.heap.size w U:=by rw [hU];exact Joins.below_alloc1 w _
 have hX:U.heap[w.heap.size]?=some (.cells #[.slice ad n c,.int .i64 s,.int .i64 k] 46 (0,0)):=by rw [hU];exact heap_alloc_new w _
 have hsz:w.heap.size < U.heap.size:=(Array.getElem?_eq_some_iff.1 hX).1
 have HP:=hid' (h.kept hb hb.size)
 have HB:=hid' hb
 have HX:=hid' hX
 have HL:=hid' hl
 have hz:w.heap.size≤w.heap.size:=Nat.le_refl _
 clear h hl hb hX hm hz
 obtain ⟨b,hbe⟩:∃ b,b=w.heap.size:=⟨_,rfl⟩
 go_enter Tryz.func89,Tryz.ntmps89
 go_upto_region 1 with fail
 rw [← hU,← hbe]
 rw [← hbe] at hsz HX HB
 have HBE:=hid' hbe
 clear hU hbe
 obtain ⟨c0,c1,c2⟩:=three_cells HX.out
 go_wp2_with (first | (go_at_call 126;(with_reducible refine (T1 _).mono ?_);rintro e w2 ⟨rfl,hw⟩;have hw':=hw.symm;clear hw;subst hw') | (go_at_call 127;(with_reducible refine (T2 _).mono ?_);rintro e w2 ⟨rfl,hw⟩;have hw':=hw.symm;clear hw;subst hw'))
 clear c0 c1 c2 T1 T2 b1 b1'
 go_loopw [27] (fun y wq=>∃ i:Nat,y=.int .i64 (i:Int)∧i≤n∧Hid (Below U.heap.size U wq)∧Hid (∀ j (hj:j < l.length),j < i→(l[j]).okB n k=true)) (fun y _=>n - (intOf y).toNat)
 case atStart=>exact ⟨0,rfl,by omega,Below.refl _ _,fun j hj h0=>by omega⟩
 case round =>
  obtain ⟨i,rfl,hi,BK,HA⟩:=hrel
  by_cases hil:i < n
  ·have b1:decide ((i:Int) < (n:Int))=true:=by simp;omega
   have b2:(i:Int) < (n:Int):=by omega
   have ad1:IntKind.i64.wrap ((i:Int) + 1)=(i:Int) + 1:=by simp [IntKind.wrap,IntKind.bits,IntKind.signed];omega
   have hlt:i < l.length:=by have:=HL.out;omega
   obtain ⟨q,o,ND,e,hq,hcs⟩:=HP.out.mem (by omega)
   subst e
   obtain ⟨m0,m1,m2,m3,m4⟩:=(hcs i hlt).1.kept (BK.out.block q hq)
   have hIM:=(hcs i hlt).2.kept BK.out BK.out.size
   obtain ⟨M,hM⟩:∃ M,M=ND i:=⟨_,rfl⟩
   rw [← hM] at m0 m1 m2 m3 m4 hIM
   have hbw:b < wr.heap.size:=by have:=BK.out.size;omega
   have hcc:wr.cell? ⟨b,2,none⟩=some (.int .i64 k):=(three_cells ((BK.out.block b hsz).trans HX.out)).2.2
   obtain ⟨V,hV⟩:∃ V,V=wr.alloc (.cells #[.int .i64 M.op,.int .i64 M.x,.int .i64 M.y,.int .i64 M.a,.slice M.r1 M.r2 M.r3] 86):=⟨_,rfl⟩
   have hbV:Below wr.heap.size wr V:=by rw [hV];exact Joins.below_alloc1 wr _
   have hIV:=hIM.kept hbV hbV.size
   have HC:=inst40 M l[i].R n k V hIV.len hIV.sm hIV.row
   rw [hIV.op,hIV.x,hIV.y,hIV.a] at HC
   have HBV:=hid' hbV
   have hVe:In.okB ⟨l[i].op,l[i].x,l[i].y,l[i].a,l[i].R⟩ n k=l[i].okB n k:=rfl
   rw [hVe] at HC
   rw [hV] at HC HBV
   clear hM hIM hIV hbV hV hVe hcs
   cases g:l[i].okB n k
   ·rw [g] at HC
    go_wp2_with (first | (go_at_call 128;(with_reducible refine HC.mono ?_);rintro e w2 ⟨rfl,hb2⟩;have HB2:=hid' hb2;clear hb2 HC))
    all_goals go_ret
    all_goals refine ⟨ret_bool ?_,?_⟩
    ·symm
     rw [List.all_eq_false]
     exact ⟨l[i],List.getElem_mem hlt,by rw [g];simp⟩
    ·rw [← HBE.out]
     exact HB.out.trans (Joins.below_le (BK.out.trans (Joins.below_le (HBV.out.trans (Joins.below_le HB2.out HBV.out.size)) BK.out.size)) (by omega))
   ·rw [g] at HC
    go_wp2_with (first | (go_at_call 128;(with_reducible refine HC.mono ?_);rintro e w2 ⟨rfl,hb2⟩;have HB2:=hid' hb2;clear hb2 HC))
    refine ⟨⟨i + 1,by push_cast;rfl,by omega,BK.out.trans (Joins.below_le (HBV.out.trans (Joins.below_le HB2.out HBV.out.size)) BK.out.size),fun j hj h1=>?_⟩,by simp [intOf];omega⟩
    by_cases e:j=i
    ·subst e;exact g
    ·exact HA.out j hj (by omega)
  ·have b1:decide ((i:Int) < (n:Int))=false:=by simp;omega
   go_wp2
   all_goals go_ret
   all_goals refine ⟨ret_bool ?_,?_⟩
   ·symm
    rw [List.all_eq_true]
    intro I hI
    obtain ⟨j,hj,rfl⟩:=List.getElem_of_mem hI
    exact HA.out j hj (by have:=HL.out;omega)
   ·rw [← HBE.out]
    exact HB.out.trans (Joins.below_le BK.out (by omega))
theorem maybe24 {w:World} {ad:Option Addr} {n c:Nat} {l:List In} {s k:Int} (h:PI w w.heap.size ad n l):Calls Tryz.prog 89 #[pv ad n c s k] w fun e w'=>e=.returned (.bool (mayB l s k))∧Below w.heap.size w w':=by
 cases hh:decide (l.length≤20000) && belowB s l.length && capsB k with
 | false=>exact maybe24_no h.len hh
 | true=>exact maybe24_ok h hh
theorem check10 {w:World} {ad:Option Addr} {n c:Nat} {l:List In} {s k:Int} (h:PI w w.heap.size ad n l):Calls Tryz.prog 50 #[pv ad n c s k] w fun e w'=>e=.returned (.int .i64 (if mayB l s k then 0 else 90))∧Below w.heap.size w w':=by
 have hb:=Joins.below_alloc1 w (.cells #[.slice ad n c,.int .i64 s,.int .i64 k] 46)
 have HC:=maybe24 (c:=c) (s:=s) (k:=k) (h.kept hb hb.size)
 have HB:=hid' hb
 clear h hb
 cases g:mayB l s k
 ·rw [g] at HC
  go_enter Tryz.func50,Tryz.ntmps50
  go_wp2_with (first | (go_at_call 89;(with_reducible refine HC.mono ?_);rintro e w2 ⟨rfl,hb2⟩;have HB2:=hid' hb2;clear hb2 HC))
  all_goals go_ret
  all_goals exact ⟨rfl,HB.out.trans (Joins.below_le HB2.out HB.out.size)⟩
 ·rw [g] at HC
  go_enter Tryz.func50,Tryz.ntmps50
  go_wp2_with (first | (go_at_call 89;(with_reducible refine HC.mono ?_);rintro e w2 ⟨rfl,hb2⟩;have HB2:=hid' hb2;clear hb2 HC))
  all_goals go_ret
  all_goals exact ⟨rfl,HB.out.trans (Joins.below_le HB2.out HB.out.size)⟩
theorem run_append_move {P:Program} (w:World) (base:Nat) (t ty e:TypeId) (i:TypeInfo) (z:Value) (bytes:Nat) (ht:P.underlying t=some (.slice e)) (hi:P.info? e=some i) (hz:i.zero=some z)
  (hsize:i.size=1) (hby:i.bytes=bytes) (hzs:z.cells.size=1)
  (v:Value) (n:Nat) (xs:List Value) (hown:w.ownsRow base e 1 v n xs)
  (a:Addr) (m c:Nat) (news:List Value) (hl:news.length=m) (hm:0 < m) (hnews:∀ j u,news[j]?=some u→w.cell? (a.add j)=some u) (h1:∀ u ∈ news,u.oneCell'=true)
  (h63:n + m≤maxLen) (hbytes:(n + m) * bytes≤140737488355328) (hbase:base≤w.heap.size) :
  ∃ v' w',(Builtin.append_ #[t,t] ty #[v,.slice (some a) m c]).run P w=.ok v' w'∧w'.ownsRow base e 1 v' (n + m) (xs ++ news)∧Moved w w' v v':=by
 obtain ⟨v',w',hrun,h2,h3,h4,h5⟩:=run_append_own_at (P:=P) w base t ty e i z 1 bytes ht hi hz hsize hby hzs (by decide) v n xs hown a m c news (by omega) hnews h1 h63 hbytes hbase
 refine ⟨v',w',hrun,h2,?_⟩
 rcases hown.2 with ⟨rfl,rfl⟩ | ⟨g,cap,cur,rfl,hbg,hg,hnc,hcm,hcs,htake⟩
 ·rcases h5 with h5 | h5
  ·exact .inl ⟨h5,h3⟩
  ·exact .inr ⟨h5,h3⟩
 ·by_cases hroom:n + m≤cap
  ·have hr:=run_append_room (P:=P) w t ty e i ht hi g n cap cur hg a m c news (by rw [hsize];omega) hnews h1 hroom (by rw [hsize,hcs];omega)
   have he:=hrun.symm.trans hr
   injection he with e1 e2
   left
   exact ⟨by rw [e1];rfl,h3⟩
  ·have holds:∀ j u,xs[j]?=some u→w.cell? ((⟨g,0,none⟩:Addr).add j)=some u:=hown.cells (g:=g) rfl
   have hr:=run_append_grow (P:=P) w t ty e i z ht hi hz ⟨g,0,none⟩ n cap xs (by rw [hsize];exact hown.1) holds a m c news (by rw [hsize];omega) hnews (by omega) (by unfold maxLen at h63;omega) (growslice_fits (by omega) (by rw [hby];exact hbytes))
   have he:=hrun.symm.trans hr
   injection he with e1 e2
   right
   refine ⟨by rw [e1];rfl,?_⟩
   rw [e2]
   exact ⟨rfl,rfl,rfl,by simp,fun k hk _=>heap_alloc_old w.drew _ hk⟩
theorem wpList_append_move {P:Program} {w:World} {ops:Array Oper} {rest:List Oper} {o:Oper} {a:Act} {Q:Exit→Act→World→Prop} (hgd:o.guard=none) (s x:Operand) (t:TypeId)
  (ho:o.op=.call { callee:=.builtin .append,args:=#[s,x],argTypes:=#[t,t] })
  (base:Nat) (e:TypeId) (i:TypeInfo) (z:Value) (bytes:Nat) (ht:P.underlying t=some (.slice e)) (hi:P.info? e=some i) (hz:i.zero=some z)
  (hsize:i.size=1) (hby:i.bytes=bytes) (hzs:z.cells.size=1)
  (v:Value) (n:Nat) (xs:List Value) (hs:a.eval s=v) (hown:w.ownsRow base e 1 v n xs)
  (ad:Addr) (m c:Nat) (news:List Value) (hx:a.eval x=.slice (some ad) m c) (hl:news.length=m) (hm:0 < m) (hnews:∀ j u,news[j]?=some u→w.cell? (ad.add j)=some u) (h1:∀ u ∈ news,u.oneCell'=true)
  (h63:n + m≤maxLen) (hbytes:(n + m) * bytes≤140737488355328) (hbase:base≤w.heap.size)
  (h:∀ v' w',Hid (w'.ownsRow base e 1 v' (n + m) (xs ++ news))→Hid (Moved w w' v v')→wpList P ops Q rest (a.put o.dst v') w'):wpList P ops Q (o :: rest) a w:=by
 refine wpList_plain hgd fun K hK=>?_
 obtain ⟨v',w',hr,h2,h3⟩:=run_append_move (P:=P) w base t o.type e i z bytes ht hi hz hsize hby hzs v n xs hown ad m c news hl hm hnews h1 h63 hbytes hbase
 unfold Oper.wp execOp
 simp only [ho,resolve,invoke,builtin,Sem.run_bind,Sem.run_pure,Result.andThen_ok,List.map_toArray,List.map_cons,List.map_nil,hs,hx,hr]
 exact hK _ _ (h v' w' h2 h3)
end Go.Proofs.YtacaanhnlfpbhaaGreat
namespace Go.Proofs.YtacaanhnlfpbhaaGreat
open Go.RowKit Go.Lib
set_option linter.unusedVariables false
set_option linter.unusedSimpArgs false

end Go.Proofs.YtacaanhnlfpbhaaGreat
namespace Go.Proofs.YtacaanhnlfpbhaaGreat
open Go.RowKit
set_option linter.unusedVariables false
set_option linter.unusedSimpArgs false
set_option maxRecDepth 100000 in
set_option maxHeartbeats 4000000 in
theorem bareE (N:Nv) (w:World):Calls Tryz.prog 147 #[N.v,.bool false,.bool false,.bool false,.bool false,.bool false] w fun e w'=>e=.returned (.bool (bareB N.r2 N.a2 N.s2 N.a4 N.a5 N.a6 N.a7 N.a8 false false false false false))∧Below w.heap.size w w':=by
 obtain ⟨k,r1,r2,r3,a2,s1,s2,s3,a4,a5,a6,a7,a8⟩:=N
 go_enter Tryz.func147,Tryz.ntmps147
 go_wp2
 all_goals go_ret
 all_goals exact ⟨ret_bool (by simp_all [bareB]),Joins.below_alloc1 w _⟩
set_option maxRecDepth 100000 in
set_option maxHeartbeats 4000000 in
theorem bareC (N:Nv) (w:World):Calls Tryz.prog 147 #[N.v,.bool true,.bool false,.bool false,.bool false,.bool false] w fun e w'=>e=.returned (.bool (bareB N.r2 N.a2 N.s2 N.a4 N.a5 N.a6 N.a7 N.a8 true false false false false))∧Below w.heap.size w w':=by
 obtain ⟨k,r1,r2,r3,a2,s1,s2,s3,a4,a5,a6,a7,a8⟩:=N
 go_enter Tryz.func147,Tryz.ntmps147
 go_wp2
 all_goals go_ret
 all_goals exact ⟨ret_bool (by simp_all [bareB]),Joins.below_alloc1 w _⟩
set_option maxRecDepth 100000 in
set_option maxHeartbeats 4000000 in
theorem bareA (N:Nv) (w:World):Calls Tryz.prog 147 #[N.v,.bool false,.bool true,.bool false,.bool false,.bool false] w fun e w'=>e=.returned (.bool (bareB N.r2 N.a2 N.s2 N.a4 N.a5 N.a6 N.a7 N.a8 false true false false false))∧Below w.heap.size w w':=by
 obtain ⟨k,r1,r2,r3,a2,s1,s2,s3,a4,a5,a6,a7,a8⟩:=N
 go_enter Tryz.func147,Tryz.ntmps147
 go_wp2
 all_goals go_ret
 all_goals exact ⟨ret_bool (by simp_all [bareB]),Joins.below_alloc1 w _⟩
set_option maxRecDepth 100000 in
set_option maxHeartbeats 4000000 in
theorem bareS (N:Nv) (w:World):Calls Tryz.prog 147 #[N.v,.bool false,.bool false,.bool true,.bool false,.bool false] w fun e w'=>e=.returned (.bool (bareB N.r2 N.a2 N.s2 N.a4 N.a5 N.a6 N.a7 N.a8 false false true false false))∧Below w.heap.size w w':=by
 obtain ⟨k,r1,r2,r3,a2,s1,s2,s3,a4,a5,a6,a7,a8⟩:=N
 go_enter Tryz.func147,Tryz.ntmps147
 go_wp2
 all_goals go_ret
 all_goals exact ⟨ret_bool (by simp_all [bareB]),Joins.below_alloc1 w _⟩
set_option maxRecDepth 100000 in
set_option maxHeartbeats 4000000 in
theorem bareR (N:Nv) (w:World):Calls Tryz.prog 147 #[N.v,.bool false,.bool false,.bool true,.bool true,.bool false] w fun e w'=>e=.returned (.bool (bareB N.r2 N.a2 N.s2 N.a4 N.a5 N.a6 N.a7 N.a8 false false true true false))∧Below w.heap.size w w':=by
 obtain ⟨k,r1,r2,r3,a2,s1,s2,s3,a4,a5,a6,a7,a8⟩:=N
 go_enter Tryz.func147,Tryz.ntmps147
 go_wp2
 all_goals go_ret
 all_goals exact ⟨ret_bool (by simp_all [bareB]),Joins.below_alloc1 w _⟩
set_option maxRecDepth 100000 in
set_option maxHeartbeats 4000000 in
theorem bareG (N:Nv) (w:World):Calls Tryz.prog 147 #[N.v,.bool false,.bool false,.bool true,.bool false,.bool true] w fun e w'=>e=.returned (.bool (bareB N.r2 N.a2 N.s2 N.a4 N.a5 N.a6 N.a7 N.a8 false false true false true))∧Below w.heap.size w w':=by
 obtain ⟨k,r1,r2,r3,a2,s1,s2,s3,a4,a5,a6,a7,a8⟩:=N
 go_enter Tryz.func147,Tryz.ntmps147
 go_wp2
 all_goals go_ret
 all_goals exact ⟨ret_bool (by simp_all [bareB]),Joins.below_alloc1 w _⟩
theorem assertion74 (n:Int) (w:World):Calls Tryz.prog 148 #[.int .i64 n] w fun e w'=>e=.returned (.bool (assertB n))∧w'=w:=by
 go_enter Tryz.func148,Tryz.ntmps148
 go_wp2
 all_goals go_ret
 all_goals exact ⟨ret_bool (by simp_all [assertB]),rfl⟩
theorem dom_bd {r:Int} (h:dom r=true):0≤r∧r < 1114112:=by simp [dom] at h;omega
theorem dom99 (r:Int) (w:World):Calls Tryz.prog 146 #[.int .i64 r] w fun e w'=>e=.returned (.bool (dom r))∧w'=w:=by
 go_enter Tryz.func146,Tryz.ntmps146
 go_wp2
 all_goals go_ret
 all_goals exact ⟨ret_bool (by rw [Bool.eq_iff_iff];simp [dom];omega),rfl⟩
theorem ok_of {ls gl gh ph:Int} {k:Nat} (h8:(!dom gl || !dom gh || decide (gh < gl) || gapB (gl,gh))=false) (hls:k=0∧ls=0∨0 < k∧ls=ph + 2)
  (h10:(decide (0 < k) && decide (gl < ph + 2) && !(decide (gl=57344) && decide (ph=55295)))=false):okG ls (gl,gh)=true:=by
 simp only [Bool.or_eq_false_iff,Bool.not_eq_false',decide_eq_false_iff_not] at h8
 obtain ⟨⟨⟨h1,h2⟩,h3⟩,h4⟩:=h8
 have hl:ls≤gl:=by
  rcases hls with ⟨_,rfl⟩ | ⟨hk,rfl⟩
  ·exact (dom_bd h1).1
  ·rw [decide_eq_true hk] at h10
   by_cases h:gl < ph + 2
   ·rw [decide_eq_true h] at h10
    simp at h10
    omega
   ·omega
 simp only [okG,h1,h2,h4,decide_eq_true hl,decide_eq_true (show gl≤gh by omega)]
 rfl
theorem bad_8 {ls gl gh:Int} (h8:(!dom gl || !dom gh || decide (gh < gl) || gapB (gl,gh))=true):okG ls (gl,gh)=false:=by
 cases h:okG ls (gl,gh)
 ·rfl
 ·simp only [okG,Bool.and_eq_true,decide_eq_true_eq,Bool.not_eq_true'] at h
  obtain ⟨⟨⟨⟨h0,h1⟩,h2⟩,h3⟩,h4⟩:=h
  rw [h2,h3,h4,decide_eq_false (show ¬ gh < gl by omega)] at h8
  exact absurd h8 (by decide)
theorem bad_10 {ls gl gh ph:Int} {k:Nat} (hls:k=0∧ls=0∨0 < k∧ls=ph + 2)
  (h10:(decide (0 < k) && decide (gl < ph + 2) && !(decide (gl=57344) && decide (ph=55295)))=true):okG ls (gl,gh)=false:=by
 simp only [Bool.and_eq_true,decide_eq_true_eq] at h10
 have:¬ ls≤gl:=by omega
 simp only [okG,decide_eq_false this,Bool.false_and]
set_option maxHeartbeats 8000000 in
set_option maxRecDepth 1000000 in
theorem rright_short (L:List (Int × Int)) (ad:Option Addr) (n cap:Nat) (w:World) (hn:Hid (L.length=n)) (hS:n≤5000) (hl:Hid (RowAt w.heap.size w (.slice ad n cap) L)) :
  Calls Tryz.prog 100 #[.slice ad n cap] w fun e w'=>e=.returned (.bool (rightFrom 0 L))∧Below w.heap.size w w':=by
 go_enter Tryz.func100,Tryz.ntmps100
 go_wp2
 go_loopw [3] (fun i wr=>∃ (k:Nat) (ls ph:Int),k≤n∧i=.int .i64 k∧Below w.heap.size w wr∧Hid (rightFrom 0 L=rightFrom ls (L.drop k))∧Hid (0 < k→ph=(L.getD (k - 1) (0,0)).2∧0≤ph∧ph≤1114111)∧Hid (k=0∧ls=0∨0 < k∧ls=ph + 2)) (fun i _=>n - (intOf i).toNat)
 case atStart=>exact ⟨0,0,0,by omega,rfl,Below.refl _ _,by exact rfl,fun h=>by omega,by exact .inl ⟨rfl,rfl⟩⟩
 case round =>
  obtain ⟨k,ls,ph,hk,rfl,hbw,HK,HP,HL⟩:=hrel
  have hsz:=hbw.size
  by_cases hlt:k < n
  ·obtain ⟨ad',cap',he,h | ⟨b,off,rfl,hbN,hc0,hc1⟩⟩:=hl.out
   ·exact absurd h (by rw [hn.out];omega)
   ·simp only [Value.slice.injEq] at he
    obtain ⟨rfl,-,rfl⟩:=he
    have hn':=hn.out
    have HC0:Hid (w.cell? ⟨b,off + k * 2,none⟩=some (.int .i64 (L.getD k (0,0)).1)):=hc0 k (by omega)
    have HC1:Hid (w.cell? ⟨b,off + k * 2 + 1,none⟩=some (.int .i64 (L.getD k (0,0)).2)):=hc1 k (by omega)
    have HC2:Hid (0 < k→w.cell? ⟨b,off + (k - 1) * 2 + 1,none⟩=some (.int .i64 ph)):=fun h=>by rw [(HP.out h).1];exact hc1 (k - 1) (by omega)
    have HPB:Hid (0 < k→0≤ph∧ph≤1114111):=fun h=>(HP.out h).2
    have HR:Hid (rightFrom 0 L=(okG ls (L.getD k (0,0)) && rightFrom ((L.getD k (0,0)).2 + 2) (L.drop (k + 1)))):=by
     show _=_
     rw [HK.out,drop_consR L k (by omega)]
     rfl
    have HG:Hid ((L.getD (k + 1 - 1) (0,0)).2=(L.getD k (0,0)).2):=by rw [Nat.add_sub_cancel];exact rfl
    have hgk:∃ g,L.getD k (0,0)=g:=⟨_,rfl⟩
    obtain ⟨⟨gl,gh⟩,hgk⟩:=hgk
    rw [hgk] at HC0 HC1 HR HG
    clear hgk hc0 hc1 hn' HK HP
    have HB8:Hid (∃ B,B=(!dom gl || !dom gh || decide (gh < gl) || gapB (gl,gh))):=⟨_,rfl⟩
    obtain ⟨B8,hB8⟩:=HB8.out
    have HB8:Hid (B8=(!dom gl || !dom gh || decide (gh < gl) || gapB (gl,gh))):=hB8
    have d0:=(hbw.cell (p:=⟨b,off + k * 2,none⟩) hbN).trans HC0.out
    have d1:=(hbw.cell (p:=⟨b,off + k * 2 + 1,none⟩) hbN).trans HC1.out
    have hkn:(k:Int) < (n:Int):=by omega
    have hdl:=dom99 gl
    have hdh:=dom99 gh
    generalize dom gl=e3 at hdl hB8
    generalize dom gh=e4 at hdh hB8
    have HB8':Hid (B8=(!e3 || !e4 || decide (gh < gl) || gapB (gl,gh))):=hB8
    simp only at d0 d1
    clear hB8
    go_wp2_with (first | (go_at_call_of 146 (Value.int .i64 gl);refine (hdl _).mono ?_;rintro e w' ⟨rfl,rfl⟩) | (go_at_call 146;refine (hdh _).mono ?_;rintro e w' ⟨rfl,rfl⟩))
    go_cut [61] from 9 to 96 (fun s wx=>s=.bool B8∧Below w.heap.size w wx)
    case first =>
     cases e3
     ·go_quiet (fail)
      go_wp2
      go_meet
      exact ⟨by rw [HB8'.out];rfl,below_drewN' hbw _⟩
     ·cases e4
      ·go_quiet (fail)
       go_wp2
       go_meet
       exact ⟨by rw [HB8'.out];rfl,below_drewN' hbw _⟩
      ·by_cases h1:gh < gl
       ·have x0:decide (gl > gh)=true:=decide_eq_true h1
        have x0':decide (gh < gl)=true:=decide_eq_true h1
        go_quiet (fail)
        go_wp2
        go_meet
        exact ⟨by rw [HB8'.out,x0'];rfl,below_drewN' hbw _⟩
       ·have x0:decide (gl > gh)=false:=decide_eq_false h1
        have x0':decide (gh < gl)=false:=decide_eq_false h1
        by_cases h2:gl≤55295
        ·have y1:decide (gl≤55295)=true:=decide_eq_true h2
         by_cases h3:57344≤gh
         ·have y2:decide (gh ≥ 57344)=true:=decide_eq_true h3
          have y2':decide (57344≤gh)=true:=decide_eq_true h3
          have hg:Hid (gapB (gl,gh)=true):=by show _=_;simp [gapB];omega
          go_quiet (fail)
          go_wp2
          go_meet
          exact ⟨by rw [HB8'.out,hg.out,x0'];rfl,below_drewN' hbw _⟩
         ·have y2:decide (gh ≥ 57344)=false:=decide_eq_false h3
          have y2':decide (57344≤gh)=false:=decide_eq_false h3
          have hg:Hid (gapB (gl,gh)=false):=by show _=_;simp [gapB];omega
          go_quiet (fail)
          go_wp2
          go_meet
          exact ⟨by rw [HB8'.out,hg.out,x0'];rfl,below_drewN' hbw _⟩
        ·have y1:decide (gl≤55295)=false:=decide_eq_false h2
         have hg:Hid (gapB (gl,gh)=false):=by show _=_;simp [gapB];omega
         go_quiet (fail)
         go_wp2
         go_meet
         exact ⟨by rw [HB8'.out,hg.out,x0'];rfl,below_drewN' hbw _⟩
    clear hdl hdh HB8' d0 d1 hbw hsz
    obtain ⟨w2,hw2⟩:∃ w2,w2=wc:=⟨_,rfl⟩
    rw [← hw2] at hcut ⊢
    clear hw2 wc
    obtain ⟨rfl,hb2⟩:=hcut
    cases B8
    ·have h8:(!dom gl || !dom gh || decide (gh < gl) || gapB (gl,gh))=false:=HB8.out.symm
     have hdg:dom gl=true∧dom gh=true:=by
      simp only [Bool.or_eq_false_iff,Bool.not_eq_false'] at h8
      exact ⟨h8.1.1.1,h8.1.1.2⟩
     have hgl:=dom_bd hdg.1
     have hgh:=dom_bd hdg.2
     have H8:Hid ((!dom gl || !dom gh || decide (gh < gl) || gapB (gl,gh))=false):=h8
     clear h8 hdg HB8
     obtain ⟨B10,hB10⟩:∃ B,B=(decide (0 < k) && decide (gl < ph + 2) && !(decide (gl=57344) && decide (ph=55295))):=⟨_,rfl⟩
     have HB10:Hid (B10=(decide (0 < k) && decide (gl < ph + 2) && !(decide (gl=57344) && decide (ph=55295)))):=hB10
     clear hB10
     have d0:=(hb2.cell (p:=⟨b,off + k * 2,none⟩) hbN).trans HC0.out
     have d1:=(hb2.cell (p:=⟨b,off + k * 2 + 1,none⟩) hbN).trans HC1.out
     go_wp2_with fail
     go_cut [96] from 9 to 96 (fun s wx=>s=.bool B10∧Below w.heap.size w wx)
     case first =>
      by_cases hk0:0 < k
      ·have x1:decide ((k:Int) > 0)=true:=decide_eq_true (by omega)
       have x1':decide (0 < (k:Int))=true:=decide_eq_true (by omega)
       have z1:decide (0 < k)=true:=decide_eq_true hk0
       have d2:=(hb2.cell (p:=⟨b,off + (k - 1) * 2 + 1,none⟩) hbN).trans (HC2.out hk0)
       obtain ⟨hp0,hp1⟩:=HPB.out hk0
       have hwr:IntKind.i64.wrap ((k:Int) - 1)=(k:Int) - 1:=IntWalk.i64_in _ ⟨by omega,by omega⟩
       have hwp:IntKind.i64.wrap (ph + 2)=ph + 2:=IntWalk.i64_in _ ⟨by omega,by omega⟩
       have hk1:((k:Int) - 1).toNat=k - 1:=by omega
       have hk6:(1:Int)≤(k:Int):=by omega
       have hk2:(0:Int)≤(k:Int) - 1:=by omega
       have hk3:(k:Int) - 1 < (n:Int):=by omega
       by_cases h5:gl < ph + 2
       ·have x2:decide (gl < ph + 2)=true:=decide_eq_true h5
        by_cases h6:gl=57344
        ·subst h6
         have x3':decide ((57344:Int)=57344)=true:=by simp
         have x5:(57344:Int) < ph + 2:=h5
         by_cases h7:ph=55295
         ·omega
         ·have x4:(ph == 55295)=false:=by simp [h7]
          have x4':decide (ph=55295)=false:=decide_eq_false h7
          go_quiet (fail)
          go_wp2
          go_meet
          exact ⟨by rw [HB10.out,z1,x2,x3',x4'];rfl,below_drewN' hb2 _⟩
        ·have x3:(gl == 57344)=false:=by simp [h6]
         have x3':decide (gl=57344)=false:=decide_eq_false h6
         go_quiet (fail)
         go_wp2
         go_meet
         exact ⟨by rw [HB10.out,z1,x2,x3'];rfl,below_drewN' hb2 _⟩
       ·have x2:decide (gl < ph + 2)=false:=decide_eq_false h5
        go_quiet (fail)
        go_wp2
        go_meet
        exact ⟨by rw [HB10.out,z1,x2];rfl,below_drewN' hb2 _⟩
      ·have x1:decide ((k:Int) > 0)=false:=decide_eq_false (by omega)
       have x1':decide (0 < (k:Int))=false:=decide_eq_false (by omega)
       have z1:decide (0 < k)=false:=decide_eq_false hk0
       go_quiet (fail)
       go_wp2
       go_meet
       exact ⟨by rw [HB10.out,z1];rfl,below_drewN' hb2 _⟩
     clear d0 d1
     obtain ⟨w3,hw3⟩:∃ w3,w3=wc:=⟨_,rfl⟩
     rw [← hw3] at hcut ⊢
     clear hw3 wc
     obtain ⟨rfl,hb3⟩:=hcut
     cases B10
     ·have HE:Hid (rightFrom 0 L=rightFrom (gh + 2) (L.drop (k + 1))):=by
       show _=_
       rw [HR.out,ok_of H8.out HL.out HB10.out.symm]
       rfl
      clear HR HB10 H8 HC0 HC1 HC2 HPB
      go_wp2
      go_roundw
      case rel=>exact ⟨k + 1,gh + 2,gh,by omega,by go_num,hb3,HE,by exact fun _=>⟨HG.out.symm,by omega,by omega⟩,by exact .inr ⟨by omega,rfl⟩⟩
      case measure=>simp [intOf];omega
     ·have HE:Hid (rightFrom 0 L=false):=by
       show _=_
       rw [HR.out,bad_10 HL.out HB10.out.symm]
       rfl
      clear HR HB10 H8 HC0 HC1 HC2 HPB HG HL
      go_wp2
      go_ret
      exact ⟨ret_bool HE.out.symm,hb3⟩
    ·have HE:Hid (rightFrom 0 L=false):=by
      show _=_
      rw [HR.out,bad_8 HB8.out.symm]
      rfl
     clear HR HB8 HC0 HC1 HC2 HPB HG HL
     go_wp2
     go_ret
     exact ⟨ret_bool HE.out.symm,hb2⟩
  ·have HA:Hid (rightFrom 0 L=true):=by
    show _=_
    rw [HK.out,List.drop_of_length_le (by rw [hn.out];omega)]
    rfl
   clear HK HP HL
   go_wp2
   go_ret
   exact ⟨ret_bool HA.out.symm,hbw⟩
set_option maxHeartbeats 1000000 in
theorem rright33 (L:List (Int × Int)) (ad:Option Addr) (n cap:Nat) (w:World) (hn:Hid (L.length=n)) (hS:n≤9223372036854775807) (hl:Hid (RowAt w.heap.size w (.slice ad n cap) L)) :
  Calls Tryz.prog 100 #[.slice ad n cap] w fun e w'=>e=.returned (.bool (rightB L))∧Below w.heap.size w w':=by
 by_cases h50:5000 < n
 ·have HBD:Hid (rightB L=false):=by show _=_;unfold rightB;rw [hn.out];simp;omega
  go_enter Tryz.func100,Tryz.ntmps100
  go_wp2
  go_ret
  exact ⟨by rw [HBD.out];rfl,Below.refl _ _⟩
 ·have hRB:rightB L=rightFrom 0 L:=by unfold rightB;rw [hn.out,decide_eq_true (show n≤5000 by omega)];rfl
  rw [hRB]
  exact rright_short L ad n cap w hn (by omega) hl
end Go.Proofs.YtacaanhnlfpbhaaGreat
namespace Go.Proofs.YtacaanhnlfpbhaaGreat
set_option linter.unusedVariables false
set_option linter.unusedSimpArgs false

end Go.Proofs.YtacaanhnlfpbhaaGreat
namespace Go.Proofs.YtacaanhnlfpbhaaGreat
open Go.RowKit
set_option linter.unusedVariables false
set_option linter.unusedSimpArgs false
theorem row_setC {w:World} {base e size n b c:Nat} {xs:List Value} (h:w.ownsRow base e size (.slice (some ⟨b,0,none⟩) n c) n xs) (j:Nat) (v:Value):(w.setCell ⟨b,j,none⟩ v).ownsRow base e size (.slice (some ⟨b,0,none⟩) n c) n (xs.set j v):=by
 obtain ⟨hl,hr⟩:=h
 rcases hr with ⟨he,_⟩ | ⟨g,cap,cur,he,hb,hgg,h1,h2,h3,h4⟩
 ·cases he
 ·simp only [Value.slice.injEq,Option.some.injEq,Addr.mk.injEq] at he
  obtain ⟨⟨rfl,_⟩,_,rfl⟩:=he
  refine ⟨by simp [hl],.inr ⟨b,c,cur.setIfInBounds j v,rfl,hb,Joins.block_setCell hgg _,h1,h2,by simpa using h3,?_⟩⟩
  simp only [Array.toList_setIfInBounds]
  rw [List.take_set,h4]


end Go.Proofs.YtacaanhnlfpbhaaGreat
namespace Go.Lk
open Go.RowKit
set_option linter.unusedVariables false
set_option linter.unusedSimpArgs false

end Go.Lk
namespace Go.Proofs.YtacaanhnlfpbhaaGreat
open Go.RowKit Go.Lk
set_option linter.unusedVariables false
set_option linter.unusedSimpArgs false
theorem wrap_ok (x:Int) (h:-9223372036854775808≤x) (h2:x < 9223372036854775808):IntKind.i64.wrap x=x:=by simp [IntKind.wrap,IntKind.bits,IntKind.signed];omega
end Go.Proofs.YtacaanhnlfpbhaaGreat
namespace Go.Proofs.YtacaanhnlfpbhaaGreat
open Go.RowKit
set_option linter.unusedVariables false
set_option linter.unusedSimpArgs false
structure Pg where
 l:List In
 s:Int
 k:Int
instance:Inhabited Pg:=⟨⟨[],0,0⟩⟩
theorem wpList_append_row {P:Program} {w:World} {ops:Array Oper} {rest:List Oper} {o:Oper} {a:Act} {Q:Exit→Act→World→Prop} (hgd:o.guard=none) (s x:Operand) (t:TypeId)
  (ho:o.op=.call { callee:=.builtin .append,args:=#[s,x],argTypes:=#[t,t] })
  (base:Nat) (e:TypeId) (i:TypeInfo) (z:Value) (size bytes:Nat) (ht:P.underlying t=some (.slice e)) (hi:P.info? e=some i) (hz:i.zero=some z)
  (hsize:i.size=size) (hby:i.bytes=bytes) (hzs:z.cells.size=size) (hpos:0 < size)
  (v:Value) (n:Nat) (xs:List Value) (hs:a.eval s=v) (hown:w.ownsRow base e size v n xs)
  (sv:Value) (m sb:Nat) (ys:List Value) (hx:a.eval x=sv) (hsrc:w.ownsRow sb e size sv m ys) (h0:m=0→sv=.slice none 0 0) (h1:∀ u ∈ ys,u.oneCell'=true)
  (h63:n + m≤maxLen) (hbytes:(n + m) * bytes≤140737488355328) (hbase:base≤w.heap.size)
  (h:∀ v' w',Hid (w'.ownsRow base e size v' (n + m) (xs ++ ys))→Hid (Frm w w' v v')→Hid (n + m=0→v'=v)→wpList P ops Q rest (a.put o.dst v') w'):wpList P ops Q (o :: rest) a w:=by
 rcases Nat.eq_zero_or_pos m with hm | hm
 ·have:=h0 hm
  subst this hm
  have hy:ys=[]:=List.length_eq_zero_iff.1 (by have:=hsrc.1;omega)
  subst hy
  refine wpList_append_own_none hgd s x t ho base e i size ht hi v n xs hs hown hx (h v w ?_ (Frm.refl _ _) (fun _=>rfl))
  have:w.ownsRow base e size v (n + 0) (xs ++ []):=by simpa using hown
  exact this
 ·rcases hsrc.2 with ⟨_,e0⟩ | ⟨g,cap,cur,rfl,_⟩
  ·omega
  ·refine wpList_append_moveN hgd s x t ho base e i z size bytes ht hi hz hsize hby hzs hpos v n xs hs hown ⟨g,0,none⟩ m cap ys hx hsrc.1 hm (fun j u hj=>hsrc.cells (g:=g) rfl j u hj) h1 h63 hbytes hbase ?_
   intro v' w' ho' hm'
   exact h v' w' ho' hm'.out.frm (fun h=>by omega)
abbrev M2:List (Int × Int):=[(-77,0),(-78,0)]
theorem ob_len (a:Option Addr) (l c l' c':Nat):(Value.slice a l c).ownBlock=(Value.slice a l' c').ownBlock:=by cases a <;> rfl
theorem info49:(Tryz.prog.info? 70).map (fun i=>(i.zero,i.size,i.bytes))=some (some (.agg #[.int .i64 0,.int .i64 0]),2,16):=by kernel_rfl

structure GR (w:World) (base:Nat) (z:Value) (MS:List Iv) (l:List In):Prop where
 lms:MS.length=l.length
 row:w.ownsRow base 86 5 z l.length (MS.flatMap Iv.cs)
 lo:∀ j (hj:j < l.length),IO w base z (MS.getD j default) l[j]
 pw:∀ j j' b,j < l.length→j' < l.length→j≠j'→(MS.getD j default).rv.ownBlock=some b→(MS.getD j' default).rv.ownBlock≠some b
theorem GR.low {w:World} {base:Nat} {z:Value} {MS:List Iv} {l:List In} (h:GR w base z MS l) (j b:Nat) (hj:j < l.length) (hb:(MS.getD j default).rv.ownBlock=some b):base≤b∧b < w.heap.size:=(h.lo j hj).rr.lt b hb
theorem GR.kept {w w':World} {base:Nat} {z:Value} {MS:List Iv} {l:List In} (h:GR w base z MS l) (hk:∀ b,base≤b→b < w.heap.size→(z.ownBlock=some b∨∃ j,j < l.length∧(MS.getD j default).rv.ownBlock=some b)→w'.heap[b]?=w.heap[b]?):GR w' base z MS l:=
 ⟨h.lms,row_kept h.row (fun b hb=>hk b (h.row.lt b hb).1 (h.row.lt b hb).2 (.inl hb)),fun j hj=>by
  have hO:=h.lo j hj
  exact ⟨hO.op,hO.x,hO.y,hO.a,hO.len,hO.sm,row_kept hO.rr (fun b hb=>hk b (hO.rr.lt b hb).1 (hO.rr.lt b hb).2 (.inr ⟨j,hj,hb⟩)),hO.ne⟩,h.pw⟩
theorem GR.below {w w':World} {base:Nat} {z:Value} {MS:List Iv} {l:List In} (h:GR w base z MS l) (hb:Below w.heap.size w w'):GR w' base z MS l:=h.kept (fun b _ hl _=>hb.block b hl)
theorem GR.nil (w:World) (base:Nat) (z:Value) (h:w.ownsRow base 86 5 z 0 []):GR w base z [] []:=⟨rfl,h,fun j hj=>by simp at hj,fun j j' b hj=>by simp at hj⟩
end Go.Proofs.YtacaanhnlfpbhaaGreat
