/- HELPERS: texts of ours put together. -/
import Derived.Test.YtacaanhnlfpbhaaGreatK19
import Derived.Test.YtacaanhnlfpbhaaGreatK32
import Derived.Test.YtacaanhnlfpbhaaGreatK34
import Derived.Test.YtacaanhnlfpbhaaGreatK04
import Derived.Test.YtacaanhnlfpbhaaGreatK03
import Derived.Test.YtacaanhnlfpbhaaGreatK20
import Derived.Test.YtacaanhnlfpbhaaGreatK18
import Derived.Deep.Slices
import Derived.Laws.EntriesVeiled
import Derived.WalkLawsBesides
import Derived.Lib.LazyBuf
import Derived.Deep.Cut
import Derived.Laws.Rows
import Derived.Deep.MidRow
import Derived.Deep.OwnRows
import Derived.Test.YtacaanhnlfpbhaaGreatK02
import Derived.WalkKit
import Derived.Laws.BitsLemmas
import Derived.LoopN
import Derived.Laws.IdiomCopy
import Derived.Test.YtacaanhnlfpbhaaGreatProg
import Derived.ProofKit
import Derived.BigQuiet
import Derived.WalkSmall
import Derived.Deep.QuietTactic
import Derived.Deep.RegionWith
import Derived.Deep.WholeRow
import Derived.Test.YtacaanhnlfpbhaaGreatK01
import Derived.Test.YtacaanhnlfpbhaaGreatK17
import Derived.Lib.SmallJoins
import Derived.Lib.MinMax
import Derived.Maps.AppendAt
import Derived.Laws.AppendOwnNone
import Derived.Test.YtacaanhnlfpbhaaGreatK05
import Derived.Deep.SlicePairs
import Derived.RowKit
import Derived.Test.YtacaanhnlfpbhaaGreatK07
import Derived.Lib.Small
import Derived.Deep.CutRange
import Derived.Test.YtacaanhnlfpbhaaGreatK25
namespace Go.Proofs.YtacaanhnlfpbhaaGreat
open Go.RowKit
set_option linter.unusedVariables false
set_option linter.unusedSimpArgs false
theorem errC_factsQ {t:Tn} (h:errC t=0):t.fine=true∧t.S.nodes≤200000∧t.S.len + 3≤20000:=by
 unfold errC errS at h
 split at h
 ·rename_i hs
  split at h
  ·cases h
  ·rename_i h1
   split at h
   ·cases h
   ·rename_i h2
    simp only [Tn.sound,Bool.and_eq_true,decide_eq_true_eq] at hs
    simp only [Tn.bigS,Bool.or_eq_true,decide_eq_true_eq,not_or] at h2
    have:=ln_len t hs.1.1
    exact ⟨hs.1.1,by omega,by omega⟩
 ·cases h
theorem gr_pi {w:World} {lo n c:Nat} {ad:Option Addr} {is:List Iv} {l:List In} (h:GR w lo (.slice ad n c) is l):PI w w.heap.size ad n l:=by
 have hn:n=l.length:=row_len h.row
 refine ⟨hn,fun hp=>?_⟩
 have hrow:=h.row
 rcases h.row.2 with ⟨_,h0⟩ | ⟨g,cap,cur,e,_⟩
 ·omega
 ·simp only [Value.slice.injEq] at e
  obtain ⟨rfl,rfl,rfl⟩:=e
  refine ⟨g,0,fun i=>is.getD i default,rfl,(hrow.lt g rfl).2,fun i hi=>?_⟩
  have hil:i < is.length:=by have:=h.lms;omega
  have eg:is.getD i default=is[i]:=by rw [List.getD_eq_getElem?_getD,List.getElem?_eq_getElem hil];rfl
  have hO:=h.lo i hi
  show I5 w g 0 i (is.getD i default)∧IM w w.heap.size (is.getD i default) l[i]
  refine ⟨?_,hO.op,hO.x,hO.y,hO.a,hO.len,hO.sm,rowAt_own hO.rr hO.len⟩
  rw [eg]
  have hc:∀ k,k < 5→w.cell? ⟨g,0 + i * 5 + k,none⟩=(Iv.cs is[i])[k]?:=fun k hk5=>by
   rw [Nat.zero_add,hrow.cellAt (i * 5 + k) (by omega),flat5 is i k hil hk5]
  exact ⟨hc 0 (by omega),hc 1 (by omega),hc 2 (by omega),hc 3 (by omega),hc 4 (by omega)⟩
theorem GR.base0 {w:World} {lo:Nat} {z:Value} {is:List Iv} {l:List In} (h:GR w lo z is l):GR w 0 z is l:=⟨h.lms,h.row.mono (Nat.zero_le _),fun j hj=>⟨(h.lo j hj).op,(h.lo j hj).x,(h.lo j hj).y,(h.lo j hj).a,(h.lo j hj).len,(h.lo j hj).sm,(h.lo j hj).rr.mono (Nat.zero_le _),(h.lo j hj).ne⟩,h.pw⟩
theorem progE_small (t:Tn):(progE t).length≤20000∧∀ I ∈ progE t,I.R.length≤20000:=by
 unfold progE
 split
 ·next h0 =>
  obtain ⟨hf,hn,hl⟩:=errC_factsQ h0
  have hm:=prog_may hf hl
  simp only [mayB,Bool.and_eq_true,decide_eq_true_eq,List.all_eq_true] at hm
  refine ⟨hm.1.1.1,fun I hI=>?_⟩
  have:=hm.2 I hI
  simp only [In.okB,Bool.and_eq_true] at this
  have hr:=this.2
  unfold isRangesB at hr
  split at hr
  ·simp only [Bool.and_eq_true] at hr
   have:=rightB_len hr.2
   omega
  ·have:I.R.length=0:=by simpa using hr
   omega
 ·exact ⟨by simp,by simp⟩
abbrev CPostP (w:World) (t:Tn):Ending→World→Prop:=fun e w'=>∃ ad n c,e=.returned (.tuple #[pv ad n c 0 (kE t),.int .i64 (errC t)])∧Below w.heap.size w w'∧∀ W',(∀ b,w.heap.size≤b→b < w'.heap.size→W'.heap[b]?=w'.heap[b]?)→w'.heap.size≤W'.heap.size→PI W' W'.heap.size ad n (progE t)
theorem cpostP_no {w w':World} {t:Tn} {E:Int} (hE:errC t=E) (h0:E≠0) (hb:Below w.heap.size w w'):CPostP w t (.returned (.tuple #[pv none 0 0 0 0,.int .i64 E])) w':=by
 subst hE
 refine ⟨none,0,0,by rw [kE,if_neg h0],hb,fun W' _ _=>?_⟩
 rw [progE,if_neg h0]
 exact ⟨rfl,fun h=>absurd h (by omega)⟩
set_option maxRecDepth 100000 in
set_option maxHeartbeats 16000000 in
theorem compileP {w:World} {N:Nv} {t:Tn} (h:TI w w.heap.size N t):Calls Tryz.prog 25 #[N.v] w (CPostP w t):=by
 obtain ⟨U,hU⟩:∃ U,U=(w.alloc (.cells #[.int .i64 N.k,.slice N.r1 N.r2 N.r3,.int .i64 N.a2,.slice N.s1 N.s2 N.s3,.int .i64 N.a4,.int .i64 N.a5,.bool N.a6,.int .i64 N.a7,.string N.a8] 25)).alloc (.cells #[.slice none 0 0,.int .i64 0,.int .i64 0] 46):=⟨_,rfl⟩
 have hbU:Below w.heap.size w U:=by rw [hU];exact below_two' w _ _
 have hX:BNo U w.heap.size N:=by rw [hU];exact (heap_alloc_old _ _ (by simp)).trans (heap_alloc_new w _)
 have hY:Bz3' U (w.heap.size + 1):=by rw [hU];exact two_new w _ _ _
 have hyU:w.heap.size + 1 < U.heap.size:=(Array.getElem?_eq_some_iff.1 hY).1
 have tiw:∀ (W:World),Below w.heap.size w W→TI W W.heap.size N t:=fun W hW=>(h.kept fun b hb=>hW.block b hb).le hW.size
 have HS:=sound25 (tiw U hbU)
 have TIW:=hid tiw
 obtain ⟨y,hy⟩:∃ y,y=w.heap.size + 1:=⟨_,rfl⟩
 obtain ⟨x,hx⟩:∃ x,x=w.heap.size:=⟨_,rfl⟩
 have HK:Hid (∀ W,Below U.heap.size U W→BNo W x N∧Bz3' W y∧Below w.heap.size w W):=fun W hW=>⟨by rw [hx];exact (hW.block _ (by omega)).trans hX,by rw [hy];exact (hW.block _ hyU).trans hY,hbU.trans (Joins.below_le hW hbU.size)⟩
 have HXE:=hid hx
 have HYE:=hid hy
 have c24:∀ (W:World) (v0 v1 v2:Value),Bz3' W y→((((W.setCell ⟨y,0,none⟩ v0).setCell ⟨y,1,none⟩ v1).setCell ⟨y,2,none⟩ v2).heap[y]?=some (.cells #[v0,v1,v2] 46 (0,0))):=fun W v0 v1 v2 h=>Joins.block_setCell (i:=2) (Joins.block_setCell (i:=1) (Joins.block_setCell (i:=0) h _) _) _
 have b24:∀ (W:World) (v0 v1 v2:Value),Below w.heap.size w W→Below w.heap.size w (((W.setCell ⟨y,0,none⟩ v0).setCell ⟨y,1,none⟩ v1).setCell ⟨y,2,none⟩ v2):=fun W v0 v1 v2 h=>((h.setCell (by show _≤y;omega) _).setCell (by show _≤y;omega) _).setCell (by show _≤y;omega) _
 have C24:=hid c24
 have B24:=hid b24
 have hsU:w.heap.size + 2≤U.heap.size:=by omega
 clear c24 b24 hbU hX hY tiw h
 go_enter Tryz.func25,Tryz.ntmps25
 go_upto_region 1 with fail
 rw [← hU,← hy,← hx]
 clear hU hy hx hyU
 obtain ⟨c0,c1,c2,c3,c4,c5,c6,c7,c8⟩:=nine' (HK.out U (Below.refl _ _)).1
 have HRET:Hid (∀ (W:World) (E:Int),E≠0→errC t=E→Below U.heap.size U W→CPostP w t (.returned (.tuple #[.agg #[.slice none 0 0,.int .i64 0,.int .i64 0],.int .i64 E])) (((W.setCell ⟨y,0,none⟩ (.slice none 0 0)).setCell ⟨y,1,none⟩ (.int .i64 0)).setCell ⟨y,2,none⟩ (.int .i64 0))):=fun W E h0 hE hW=>cpostP_no hE h0 (B24.out _ _ _ _ (HK.out W hW).2.2)
 by_cases hsd':t.sound=false
 ·rw [hsd'] at HS
  simp only [Bool.false_eq_true,if_false] at HS
  have HER:Hid (errC t=50):=by show _=_;unfold errC;rw [hsd'];rfl
  clear hsd'
  go_wp2_with (first | (go_at_call 32;(with_reducible refine HS.mono ?_);rintro e U1 ⟨rfl,hb⟩;have HB1:=hid hb;have hY1:=(HK.out U1 hb).2.1;have y0:=Joins.unfrozen_of_block hY1 0;have y1:=Joins.unfrozen_of_block hY1 1;have y2:=Joins.unfrozen_of_block hY1 2;have s0:=Joins.cell_of_block hY1 0;have s1:=Joins.cell_of_block hY1 1;have s2:=Joins.cell_of_block hY1 2;have HY1:=hid hY1;clear hY1 hb HS))
  all_goals
   refine bodyPost_ret (results_cell_tmp rfl _ _ y 46 _ (0,0) _ rfl (C24.out _ (.slice none 0 0) (.int .i64 0) (.int .i64 0) HY1.out) Tryz.underlying46 rfl (by kernel_rfl)) rfl ?_
   exact HRET.out _ 50 (by decide) HER.out HB1.out
 have hsd:t.sound=true:=by simpa using hsd'
 rw [hsd] at HS
 simp only [if_true] at HS
 have HSO:=hid hsd
 clear hsd' hsd
 go_upto_region 4 with (go_at_call 32;(with_reducible refine HS.mono ?_);rintro e U1 ⟨rfl,hb⟩;have HB1:=hid hb;clear hb HS)
 clear c0 c1 c2 c3 c4 c5 c6 c7 c8
 obtain ⟨hX1,_,hBw1⟩:=HK.out U1 HB1.out
 have HC:=rsimp33 (TIW.out U1 hBw1)
 obtain ⟨E,hE⟩:∃ E,E=errS t:=⟨_,rfl⟩
 rw [← hE] at HC
 have HEE:=hid hE
 obtain ⟨c0,c1,c2,c3,c4,c5,c6,c7,c8⟩:=nine' hX1
 clear hX1 hBw1 hE
 go_upto_region 5 with (go_at_call 56;(with_reducible refine HC.mono ?_);rintro e W3 ⟨M,rfl,hTM,hb⟩;have HTM:=hid hTM;have HB3:=hid (HB1.out.trans (Joins.below_le hb HB1.out.size));clear hTM hb HC)
 clear c0 c1 c2 c3 c4 c5 c6 c7 c8
 obtain ⟨U3,hU3⟩:∃ U3,U3=W3.alloc (.cells #[.int .i64 M.k,.slice M.r1 M.r2 M.r3,.int .i64 M.a2,.slice M.s1 M.s2 M.s3,.int .i64 M.a4,.int .i64 M.a5,.bool M.a6,.int .i64 M.a7,.string M.a8] 25):=⟨_,rfl⟩
 obtain ⟨z,hz⟩:∃ z,z=W3.heap.size:=⟨_,rfl⟩
 rw [← hU3,← hz]
 have hb3:Below W3.heap.size W3 U3:=by rw [hU3];exact Joins.below_alloc1 W3 _
 have hZ:BNo U3 z M:=by rw [hU3,hz];exact heap_alloc_new W3 _
 have HB4:Hid (Below U.heap.size U U3):=HB3.out.trans (Joins.below_le hb3 HB3.out.size)
 have hTI3:TI U3 U3.heap.size M (simT t):=(HTM.out.kept fun b hb=>hb3.block b hb).le hb3.size
 have HZ:=hid hZ
 have HT3:=hid hTI3
 clear hU3 hz hb3 hZ hTI3 HTM HB3
 by_cases hE0:E≠0
 ·have g1:(E != 0)=true:=by simp [hE0]
  have HER:=hid (errC_big HSO.out (by rw [← HEE.out];exact hE0))
  have hY1:=(HK.out U3 HB4.out).2.1
  have y0:=Joins.unfrozen_of_block hY1 0
  have y1:=Joins.unfrozen_of_block hY1 1
  have y2:=Joins.unfrozen_of_block hY1 2
  have s0:=Joins.cell_of_block hY1 0
  have s1:=Joins.cell_of_block hY1 1
  have s2:=Joins.cell_of_block hY1 2
  have HY1:=hid hY1
  clear hY1 hE0
  go_wp2
  all_goals
   refine bodyPost_ret (results_cell_tmp rfl _ _ y 46 _ (0,0) _ rfl (C24.out _ (.slice none 0 0) (.int .i64 0) (.int .i64 0) HY1.out) Tryz.underlying46 rfl (by kernel_rfl)) rfl ?_
   exact HRET.out _ 3 (by decide) HER.out HB4.out
 have hE0:E=0:=by simpa using hE0
 subst hE0
 have hsim:simT t=t.S:=by unfold simT;rw [← HEE.out,if_pos rfl]
 obtain ⟨hf,_,hno⟩:=sound_parts HSO.out
 have hSn:t.S.nodes≤200000:=by
  have h1:=HEE.out
  unfold errS at h1
  rw [if_pos HSO.out] at h1
  split at h1
  ·cases h1
  ·rename_i hb
   simp only [Tn.bigS,Bool.or_eq_true,decide_eq_true_eq,not_or] at hb
   omega
 have HNF:=nf_S t hf
 obtain ⟨m,hm⟩:∃ m,m=U3.heap.size:=⟨_,rfl⟩
 obtain ⟨U4,hU4⟩:∃ U4,U4=U3.alloc (.cells #[.slice none 0 0] 96):=⟨_,rfl⟩
 have hb4:Below U3.heap.size U3 U4:=by rw [hU4];exact Joins.below_alloc1 U3 _
 have hRD:RD U4 m m []:=⟨none,0,[],by rw [hU4,hm];exact heap_alloc_new U3 _,World.ownsRow_nil _ _ _ _,rfl,fun k hk=>by simp at hk⟩
 have hm4:m≤U4.heap.size:=by rw [hm];exact hb4.size
 have hTI4:TI U4 m M t.S:=by rw [hm,← hsim];exact HT3.out.kept fun b hb=>hb4.block b hb
 have HQ:Hid (∀ W,FrD m U4 W→BNo W x N∧Bz3' W y∧Below w.heap.size w W∧BNo W z M∧TI W m M t.S∧m≤W.heap.size):=fun W hW=>by
  have hb0:Below U.heap.size U U4:=HB4.out.trans (Joins.below_le hb4 HB4.out.size)
  obtain ⟨q1,q2,q3⟩:=HK.out U4 hb0
  have hzl:=(Array.getElem?_eq_some_iff.1 HZ.out).1
  refine ⟨hW.blk _ _ _ _ q1 (by decide) (by decide),hW.blk _ _ _ _ q2 (by decide) (by decide),hW.below q3 (by rw [hm];have:=HB4.out.size;omega),hW.blk _ _ _ _ ((hb4.block z hzl).trans HZ.out) (by decide) (by decide),hTI4.kept hW.low,Nat.le_trans hm4 hW.size⟩
 have HWM:=hid (show w.heap.size + 2≤m by rw [hm];have:=HB4.out.size;omega)
 have HP1:=put57 3 0 hRD (Nat.le_refl m) (by simp) hm4
 have HP1':Calls Tryz.prog 57 #[pt m,.int .i64 3,.int .i64 0] U4 fun e w'=>e=.returned (.int .i64 0)∧RD w' m m [⟨3,1,0,0,[]⟩]∧FrD m U4 w':=HP1
 have HHM:=hid hm
 have HF:=hid hf
 have HU4:=hid hU4
 have HSN:=hid hSn
 have HLA:=hid (fun (N:Nv)=>lay_allD (base:=m) HNF N)
 clear hsim HNF hRD hTI4 hm hU4 hb4 HP1 HZ HT3 hno hSn hf HB4
 go_upto_region 8 with fail
 rw [← HU4.out,← HHM.out]
 go_upto_region 9 with (go_at_call 57;(with_reducible refine HP1'.mono ?_);rintro e V1 ⟨rfl,hM1,hf1⟩;have HM1:=hid hM1;have HF1:=hid hf1;clear hM1 hf1 HP1')
 obtain ⟨_,_,_,hZ1,hT1,hm1⟩:=HQ.out V1 HF1.out
 have HS:=HLA.out M V1 m _ HM1.out (Nat.le_refl m) hm1 hT1 (by have:=HSN.out;simp;omega)
 obtain ⟨c0,c1,c2,c3,c4,c5,c6,c7,c8⟩:=nine' hZ1
 clear hZ1 hT1
 go_upto_region 10 with (go_at_call 58;(with_reducible refine HS.mono ?_);rintro e V2 ⟨rfl,⟨l2,hM2,hL2⟩,hf2⟩;have HM2:=hid hM2;have HL2:=hid hL2;have HF2:=hid (HF1.out.trans hf2);clear hM2 hf2 hL2 HS)
 clear c0 c1 c2 c3 c4 c5 c6 c7 c8
 have hl2:l2.length≤1500000:=by have h1:=HL2.out.2.1;have h2:=HSN.out;simp only [List.length_cons,List.length_nil] at h1;omega
 have HP2:=put57 3 1 HM2.out (Nat.le_refl m) (by omega) (HQ.out V2 HF2.out).2.2.2.2.2
 go_upto_region 11 with (go_at_call 57;(with_reducible refine HP2.mono ?_);rintro e V3 ⟨rfl,hM3,hf3⟩;have HM3:=hid hM3;have HF3:=hid (HF2.out.trans hf3);clear hM3 hf3 HP2)
 have HP3:=put57 5 0 HM3.out (Nat.le_refl m) (by rw [List.length_append];simp only [List.length_cons,List.length_nil];omega) (HQ.out V3 HF3.out).2.2.2.2.2
 obtain ⟨l3,hl3⟩:∃ l3,l3=l2 ++ [(⟨3,((l2.length + 1:Nat):Int),0,1,[]⟩:In)]:=⟨_,rfl⟩
 rw [← hl3] at HP3
 obtain ⟨n3,hn3⟩:∃ n3,n3=l3.length:=⟨_,rfl⟩
 rw [← hn3] at HP3
 have hn3b:n3≤1500001:=by rw [hn3,hl3,List.length_append];simp only [List.length_cons,List.length_nil];omega
 have HL3:=hid hl3
 have HN3:=hid hn3
 clear hl3 hn3 hl2
 go_upto_region 12 with (go_at_call 57;(with_reducible refine HP3.mono ?_);rintro e V4 ⟨rfl,hM4,hf4⟩;have HM4:=hid hM4;have HF4:=hid (HF3.out.trans hf4);clear hM4 hf4 HP3)
 obtain ⟨zx,cx,ix,hxx⟩:=HM4.out
 obtain ⟨n4,hn4⟩:∃ n4,n4=(l3 ++ [(⟨5,((n3 + 1:Nat):Int),0,0,[]⟩:In)]).length:=⟨_,rfl⟩
 have hn4e:n4=n3 + 1:=by rw [hn4,List.length_append,HN3.out];rfl
 obtain ⟨gx,rfl⟩:=hxx.form (by omega)
 have kx:=hxx.cell
 rw [← hn4] at kx
 have htx:=hxx.there n3 (by omega)
 obtain ⟨vx,hvx⟩:=Option.isSome_iff_exists.1 (htx 1 (by omega)).1
 have fx:=(htx 1 (by omega)).2
 have bx1:(n3:Int) < (n4:Int):=by omega
 obtain ⟨px,pf⟩:=hxx.setX (Nat.le_refl m) n3 (by omega) (0:Int)
 have el5:(l3 ++ [(⟨5,((n3 + 1:Nat):Int),0,0,[]⟩:In)]).modify n3 (In.setX 0)=l3 ++ [⟨5,0,0,0,[]⟩]:=by rw [HN3.out,modify_mid];rfl
 rw [el5] at px
 obtain ⟨V5,hV5⟩:∃ V5,V5=V4.setCell ⟨gx,n3 * 5 + 1,none⟩ (.int .i64 (0:Int)):=⟨_,rfl⟩
 rw [← hV5] at px pf
 have HPX:=hid px
 have HF5:Hid (FrD m U4 V5):=HF4.out.trans pf
 have HV5:=hid hV5
 clear hxx htx px pf hV5 hn4 el5 HM4
 go_upto_region 13 with fail
 rw [← HV5.out]
 clear kx hvx fx bx1
 have hl5:(l3 ++ [(⟨5,0,0,0,[]⟩:In)]).length=n3 + 1:=by rw [List.length_append,HN3.out];rfl
 have HFU:=full59 (⟨_,_,_,HPX.out⟩:RD V5 m m (l3 ++ [⟨5,0,0,0,[]⟩]))
 rw [hl5] at HFU
 obtain ⟨hX5,hY5,hBw5,_,_,hm5⟩:=HQ.out V5 HF5.out
 have elen:n3=l2.length + 1:=by rw [HN3.out,HL3.out,List.length_append];rfl
 by_cases hfull:20000 < n3 + 1
 ·rw [decide_eq_true hfull] at HFU
  have HER:=hid (errC_full (t:=t) HSO.out (by have h1:=HL2.out.2.1.2;simp only [List.length_cons,List.length_nil] at h1;omega))
  have y0:=Joins.unfrozen_of_block hY5 0
  have y1:=Joins.unfrozen_of_block hY5 1
  have y2:=Joins.unfrozen_of_block hY5 2
  have s0:=Joins.cell_of_block hY5 0
  have s1:=Joins.cell_of_block hY5 1
  have s2:=Joins.cell_of_block hY5 2
  have HY5:=hid hY5
  have HBw5:=hid hBw5
  clear hX5 hY5 hBw5 hl5 elen hfull
  go_wp2_with (first | (go_at_call 59;(with_reducible refine HFU.mono ?_);rintro e w2 ⟨rfl,hw⟩;have hw':=hw.symm;clear hw;subst hw';clear HFU))
  all_goals
   refine bodyPost_ret (results_cell_tmp rfl _ _ y 46 _ (0,0) _ rfl (C24.out _ (.slice none 0 0) (.int .i64 0) (.int .i64 0) HY5.out) Tryz.underlying46 rfl (by kernel_rfl)) rfl ?_
   exact cpostP_no HER.out (by decide) (B24.out _ _ _ _ HBw5.out)
 rw [decide_eq_false hfull] at HFU
 have eprog:l3 ++ [(⟨5,0,0,0,[]⟩:In)]=progT t:=by
  have e2:=HL2.out.2.2 (by omega)
  have e3:l2.length=t.S.len + 1:=by rw [e2];simp [lay_len]
  rw [HL3.out,e3,e2]
  simp [progT]
  omega
 have hSl:t.S.len + 3=n3 + 1:=by rw [← prog_len,← eprog];exact hl5
 have HER:=hid (errC_ok HSO.out HEE.out.symm (by omega))
 have k00:=HPX.out.cell
 rw [hl5] at k00
 have hPX:=HPX.out
 rw [eprog] at hPX
 have HPI:=hid hPX
 have htf:=top_fine t HF.out
 have hx5:x < V5.heap.size:=(Array.getElem?_eq_some_iff.1 hX5).1
 have hy5:y < V5.heap.size:=(Array.getElem?_eq_some_iff.1 hY5).1
 have hml5:=hPX.lt
 have HBw5:=hid hBw5
 have HX5:=hid hX5
 have HY5:=hid hY5
 have HSL:=hid hSl
 have HG:Hid (∀ W,Below V5.heap.size V5 W→Calls Tryz.prog 60 #[N.v] W fun e w'=>e=.returned (.int .i64 t.top)∧Below W.heap.size W w'):=fun W hW=>by rw [top_gi];exact greatest60 (TIW.out W (HBw5.out.trans (Joins.below_le hW HBw5.out.size))) W (Nat.le_refl _) (fun _ _=>rfl)
 obtain ⟨top,htop⟩:∃ top,top=t.top:=⟨_,rfl⟩
 rw [← htop] at HG htf
 have HTOP:=hid htop
 have w1:IntKind.i64.wrap (2 * top)=2 * top:=by rw [wrap_ok _ (by omega) (by omega)]
 have w2:IntKind.i64.wrap (2 + 2 * top)=2 + 2 * top:=by rw [wrap_ok _ (by omega) (by omega)]
 have hyx:y≠x:=by have:=HXE.out;have:=HYE.out;omega
 have hym:y≠m:=by have:=HWM.out;have:=HYE.out;omega
 obtain ⟨c0,c1,c2,c3,c4,c5,c6,c7,c8⟩:=nine' hX5
 clear htop hX5 hY5 hBw5 hPX hSl eprog hl5 elen hfull
 go_upto_region 16 with (first | (go_at_call 59;(with_reducible refine HFU.mono ?_);rintro e w2 ⟨rfl,hw⟩;have hw':=hw.symm;clear hw;subst hw';clear HFU))
 go_region_held3 (fun W=>W.cell? ⟨m,0,none⟩=some (.slice (some ⟨gx,0,none⟩) (n3 + 1) cx)∧W.cell? ⟨x,0,none⟩=some (.int .i64 N.k)∧W.cell? ⟨x,1,none⟩=some (.slice N.r1 N.r2 N.r3)∧W.cell? ⟨x,2,none⟩=some (.int .i64 N.a2)∧W.cell? ⟨x,3,none⟩=some (.slice N.s1 N.s2 N.s3)∧W.cell? ⟨x,4,none⟩=some (.int .i64 N.a4)∧W.cell? ⟨x,5,none⟩=some (.int .i64 N.a5)∧W.cell? ⟨x,6,none⟩=some (.bool N.a6)∧W.cell? ⟨x,7,none⟩=some (.int .i64 N.a7)∧W.cell? ⟨x,8,none⟩=some (.string N.a8)) (first | (exact ⟨k,k0,k1,k2,k3,k4,k5,k6,k7,k8⟩) | (go_keep;done) | (refine ⟨?_,?_,?_,?_,?_,?_,?_,?_,?_,?_⟩ <;> simp [*] <;> done) | (simp [*];done)) (first | (go_at_call 60;(with_reducible refine (HG.out _ ?_).mono ?_);(first | exact drew_below _ | exact ⟨rfl,rfl,rfl,Nat.le_refl _,fun _ _=>rfl⟩);rintro e w6 ⟨rfl,hb6⟩;have hbb:Below V5.heap.size V5 w6:=⟨hb6.os,hb6.tape,hb6.output,hb6.size,hb6.block⟩;obtain ⟨k0,k1,k2,k3,k4,k5,k6,k7,k8⟩:=nine' ((hbb.block x hx5).trans HX5.out);have k:w6.cell? ⟨m,0,none⟩=some (.slice (some ⟨gx,0,none⟩) (n3 + 1) cx):=(cell_eq (hbb.block m hml5) 0).trans k00;have hY6:=(hbb.block y hy5).trans HY5.out;have y0:=Joins.unfrozen_of_block hY6 0;have y1:=Joins.unfrozen_of_block hY6 1;have y2:=Joins.unfrozen_of_block hY6 2;have s0:=Joins.cell_of_block hY6 0;have s1:=Joins.cell_of_block hY6 1;have s2:=Joins.cell_of_block hY6 2;have HY6:=hid hY6;have HBB:=hid hbb;clear hbb hb6 hY6))
 all_goals go_wp2_with fail
 all_goals
  refine bodyPost_ret (results_cell_tmp rfl _ _ y 46 _ (0,0) _ rfl (C24.out _ (.slice (some ⟨gx,0,none⟩) (n3 + 1) cx) (.int .i64 0) (.int .i64 (2 + 2 * top)) HY6.out) Tryz.underlying46 rfl (by kernel_rfl)) rfl ?_
  have hBx6:Below w.heap.size w w6:=HBw5.out.trans (Joins.below_le HBB.out HBw5.out.size)
  have hPI:=(HPI.out.below HBB.out).pi (w':=((w6.setCell ⟨y,0,none⟩ (.slice (some ⟨gx,0,none⟩) (n3 + 1) cx)).setCell ⟨y,1,none⟩ (.int .i64 0)).setCell ⟨y,2,none⟩ (.int .i64 (2 + 2 * top))) (lo:=w.heap.size) y (by have:=HWM.out;omega) (fun arr t fr e=>by rw [HY6.out] at e;cases e;decide) (fun b hb=>(Below.heap_setCell _ _ _ _ hb).trans ((Below.heap_setCell _ _ _ _ hb).trans (Below.heap_setCell _ _ _ _ hb))) (by simp [World.setCell])
  rw [prog_len,HSL.out] at hPI
  refine ⟨some ⟨gx,0,none⟩,n3 + 1,cx,?_,B24.out _ _ _ _ hBx6,?_⟩
  ·rw [kE,if_pos HER.out,HER.out,HTOP.out];rfl
  ·rw [progE,if_pos HER.out]
   exact hPI





theorem great14 {w:World} {N:Nv} {t:Tn} (h:TI w w.heap.size N t):Calls Tryz.prog 11 #[N.v] w fun e w'=>e=.returned (.bool (decide (200000 < t.nodes)))∧Below w.heap.size w w':=by
 have HC:=great27 h 200000 (w.alloc (.cells (Array.mk N.cs) 25)) (by omega) (by simp) (fun b hb=>heap_alloc_old w _ hb)
 have HS:=Tn.gr_spec t 200000 (by omega)
 obtain ⟨k,r1,r2,r3,a2,s1,s2,s3,a4,a5,a6,a7,a8⟩:=N
 obtain ⟨g,hg⟩:∃ g,g=t.gr 200000:=⟨_,rfl⟩
 rw [← hg] at HC HS
 have e1:decide (g < 0)=decide (200000 < t.nodes):=by rw [Bool.eq_iff_iff];simp;omega
 clear hg HS
 go_enter Tryz.func11,Tryz.ntmps11
 go_wp2_with (first | (go_at_call 39;(with_reducible refine HC.mono ?_);rintro e w2 ⟨rfl,hb2⟩;have HB2:=hid' hb2;clear hb2 HC))
 go_ret
 exact ⟨by first | rfl | exact ret_bool e1,(Joins.below_alloc1 w _).trans (Joins.below_le HB2.out (by simp))⟩


end Go.Proofs.YtacaanhnlfpbhaaGreat
namespace Go.Proofs.YtacaanhnlfpbhaaGreat
open Go.RowKit Go.Lk
set_option linter.unusedVariables false
set_option linter.unusedSimpArgs false
set_option maxHeartbeats 1000000 in
theorem nineSetR (X:World) (b:Nat) {c0 c1 c2 c3 c4 c5 c6 c7 c8:Value} {t:TypeId} (v0 v1 v2 v3 v4 v5 v6 v7 v8:Value) (h:X.heap[b]?=some (.cells #[c0,c1,c2,c3,c4,c5,c6,c7,c8] t (0,0))) :
  ((((((((((((((((((X).setCell ⟨b,0,none⟩ v0)).setCell ⟨b,1,none⟩ v1)).setCell ⟨b,2,none⟩ v2)).setCell ⟨b,3,none⟩ v3)).setCell ⟨b,4,none⟩ v4)).setCell ⟨b,5,none⟩ v5)).setCell ⟨b,6,none⟩ v6)).setCell ⟨b,7,none⟩ v7)).setCell ⟨b,8,none⟩ v8).heap[b]?=some (.cells #[v0,v1,v2,v3,v4,v5,v6,v7,v8] t (0,0))∧(∀ k,k≠b→((((((((((((((((((X).setCell ⟨b,0,none⟩ v0)).setCell ⟨b,1,none⟩ v1)).setCell ⟨b,2,none⟩ v2)).setCell ⟨b,3,none⟩ v3)).setCell ⟨b,4,none⟩ v4)).setCell ⟨b,5,none⟩ v5)).setCell ⟨b,6,none⟩ v6)).setCell ⟨b,7,none⟩ v7)).setCell ⟨b,8,none⟩ v8).heap[k]?=X.heap[k]?)∧((((((((((((((((((X).setCell ⟨b,0,none⟩ v0)).setCell ⟨b,1,none⟩ v1)).setCell ⟨b,2,none⟩ v2)).setCell ⟨b,3,none⟩ v3)).setCell ⟨b,4,none⟩ v4)).setCell ⟨b,5,none⟩ v5)).setCell ⟨b,6,none⟩ v6)).setCell ⟨b,7,none⟩ v7)).setCell ⟨b,8,none⟩ v8).heap.size=X.heap.size∧∀ {B0:Nat} {w:World},Below B0 w X→B0≤b→Below B0 w ((((((((((((((((((X).setCell ⟨b,0,none⟩ v0)).setCell ⟨b,1,none⟩ v1)).setCell ⟨b,2,none⟩ v2)).setCell ⟨b,3,none⟩ v3)).setCell ⟨b,4,none⟩ v4)).setCell ⟨b,5,none⟩ v5)).setCell ⟨b,6,none⟩ v6)).setCell ⟨b,7,none⟩ v7)).setCell ⟨b,8,none⟩ v8):=by
 refine ⟨?_,fun k hk=>?_,by simp [World.setCell],fun hB hb=>?_⟩
 ·have h0:(X.setCell ⟨b,0,none⟩ v0).heap[b]?=some (.cells #[v0,c1,c2,c3,c4,c5,c6,c7,c8] t (0,0)):=Joins.block_setCell (i:=0) h v0
  have h1:((X.setCell ⟨b,0,none⟩ v0).setCell ⟨b,1,none⟩ v1).heap[b]?=some (.cells #[v0,v1,c2,c3,c4,c5,c6,c7,c8] t (0,0)):=Joins.block_setCell (i:=1) h0 v1
  have h2:(((X.setCell ⟨b,0,none⟩ v0).setCell ⟨b,1,none⟩ v1).setCell ⟨b,2,none⟩ v2).heap[b]?=some (.cells #[v0,v1,v2,c3,c4,c5,c6,c7,c8] t (0,0)):=Joins.block_setCell (i:=2) h1 v2
  have h3:((((X.setCell ⟨b,0,none⟩ v0).setCell ⟨b,1,none⟩ v1).setCell ⟨b,2,none⟩ v2).setCell ⟨b,3,none⟩ v3).heap[b]?=some (.cells #[v0,v1,v2,v3,c4,c5,c6,c7,c8] t (0,0)):=Joins.block_setCell (i:=3) h2 v3
  have h4:(((((X.setCell ⟨b,0,none⟩ v0).setCell ⟨b,1,none⟩ v1).setCell ⟨b,2,none⟩ v2).setCell ⟨b,3,none⟩ v3).setCell ⟨b,4,none⟩ v4).heap[b]?=some (.cells #[v0,v1,v2,v3,v4,c5,c6,c7,c8] t (0,0)):=Joins.block_setCell (i:=4) h3 v4
  have h5:((((((X.setCell ⟨b,0,none⟩ v0).setCell ⟨b,1,none⟩ v1).setCell ⟨b,2,none⟩ v2).setCell ⟨b,3,none⟩ v3).setCell ⟨b,4,none⟩ v4).setCell ⟨b,5,none⟩ v5).heap[b]?=some (.cells #[v0,v1,v2,v3,v4,v5,c6,c7,c8] t (0,0)):=Joins.block_setCell (i:=5) h4 v5
  have h6:(((((((X.setCell ⟨b,0,none⟩ v0).setCell ⟨b,1,none⟩ v1).setCell ⟨b,2,none⟩ v2).setCell ⟨b,3,none⟩ v3).setCell ⟨b,4,none⟩ v4).setCell ⟨b,5,none⟩ v5).setCell ⟨b,6,none⟩ v6).heap[b]?=some (.cells #[v0,v1,v2,v3,v4,v5,v6,c7,c8] t (0,0)):=Joins.block_setCell (i:=6) h5 v6
  have h7:((((((((X.setCell ⟨b,0,none⟩ v0).setCell ⟨b,1,none⟩ v1).setCell ⟨b,2,none⟩ v2).setCell ⟨b,3,none⟩ v3).setCell ⟨b,4,none⟩ v4).setCell ⟨b,5,none⟩ v5).setCell ⟨b,6,none⟩ v6).setCell ⟨b,7,none⟩ v7).heap[b]?=some (.cells #[v0,v1,v2,v3,v4,v5,v6,v7,c8] t (0,0)):=Joins.block_setCell (i:=7) h6 v7
  have h8:(((((((((X.setCell ⟨b,0,none⟩ v0).setCell ⟨b,1,none⟩ v1).setCell ⟨b,2,none⟩ v2).setCell ⟨b,3,none⟩ v3).setCell ⟨b,4,none⟩ v4).setCell ⟨b,5,none⟩ v5).setCell ⟨b,6,none⟩ v6).setCell ⟨b,7,none⟩ v7).setCell ⟨b,8,none⟩ v8).heap[b]?=some (.cells #[v0,v1,v2,v3,v4,v5,v6,v7,v8] t (0,0)):=Joins.block_setCell (i:=8) h7 v8
  exact h8
 ·have k0:(X.setCell ⟨b,0,none⟩ v0).heap[k]?=X.heap[k]?:=Below.heap_setCell _ _ _ _ hk
  have k1:((X.setCell ⟨b,0,none⟩ v0).setCell ⟨b,1,none⟩ v1).heap[k]?=(X.setCell ⟨b,0,none⟩ v0).heap[k]?:=Below.heap_setCell _ _ _ _ hk
  have k2:(((X.setCell ⟨b,0,none⟩ v0).setCell ⟨b,1,none⟩ v1).setCell ⟨b,2,none⟩ v2).heap[k]?=((X.setCell ⟨b,0,none⟩ v0).setCell ⟨b,1,none⟩ v1).heap[k]?:=Below.heap_setCell _ _ _ _ hk
  have k3:((((X.setCell ⟨b,0,none⟩ v0).setCell ⟨b,1,none⟩ v1).setCell ⟨b,2,none⟩ v2).setCell ⟨b,3,none⟩ v3).heap[k]?=(((X.setCell ⟨b,0,none⟩ v0).setCell ⟨b,1,none⟩ v1).setCell ⟨b,2,none⟩ v2).heap[k]?:=Below.heap_setCell _ _ _ _ hk
  have k4:(((((X.setCell ⟨b,0,none⟩ v0).setCell ⟨b,1,none⟩ v1).setCell ⟨b,2,none⟩ v2).setCell ⟨b,3,none⟩ v3).setCell ⟨b,4,none⟩ v4).heap[k]?=((((X.setCell ⟨b,0,none⟩ v0).setCell ⟨b,1,none⟩ v1).setCell ⟨b,2,none⟩ v2).setCell ⟨b,3,none⟩ v3).heap[k]?:=Below.heap_setCell _ _ _ _ hk
  have k5:((((((X.setCell ⟨b,0,none⟩ v0).setCell ⟨b,1,none⟩ v1).setCell ⟨b,2,none⟩ v2).setCell ⟨b,3,none⟩ v3).setCell ⟨b,4,none⟩ v4).setCell ⟨b,5,none⟩ v5).heap[k]?=(((((X.setCell ⟨b,0,none⟩ v0).setCell ⟨b,1,none⟩ v1).setCell ⟨b,2,none⟩ v2).setCell ⟨b,3,none⟩ v3).setCell ⟨b,4,none⟩ v4).heap[k]?:=Below.heap_setCell _ _ _ _ hk
  have k6:(((((((X.setCell ⟨b,0,none⟩ v0).setCell ⟨b,1,none⟩ v1).setCell ⟨b,2,none⟩ v2).setCell ⟨b,3,none⟩ v3).setCell ⟨b,4,none⟩ v4).setCell ⟨b,5,none⟩ v5).setCell ⟨b,6,none⟩ v6).heap[k]?=((((((X.setCell ⟨b,0,none⟩ v0).setCell ⟨b,1,none⟩ v1).setCell ⟨b,2,none⟩ v2).setCell ⟨b,3,none⟩ v3).setCell ⟨b,4,none⟩ v4).setCell ⟨b,5,none⟩ v5).heap[k]?:=Below.heap_setCell _ _ _ _ hk
  have k7:((((((((X.setCell ⟨b,0,none⟩ v0).setCell ⟨b,1,none⟩ v1).setCell ⟨b,2,none⟩ v2).setCell ⟨b,3,none⟩ v3).setCell ⟨b,4,none⟩ v4).setCell ⟨b,5,none⟩ v5).setCell ⟨b,6,none⟩ v6).setCell ⟨b,7,none⟩ v7).heap[k]?=(((((((X.setCell ⟨b,0,none⟩ v0).setCell ⟨b,1,none⟩ v1).setCell ⟨b,2,none⟩ v2).setCell ⟨b,3,none⟩ v3).setCell ⟨b,4,none⟩ v4).setCell ⟨b,5,none⟩ v5).setCell ⟨b,6,none⟩ v6).heap[k]?:=Below.heap_setCell _ _ _ _ hk
  have k8:(((((((((X.setCell ⟨b,0,none⟩ v0).setCell ⟨b,1,none⟩ v1).setCell ⟨b,2,none⟩ v2).setCell ⟨b,3,none⟩ v3).setCell ⟨b,4,none⟩ v4).setCell ⟨b,5,none⟩ v5).setCell ⟨b,6,none⟩ v6).setCell ⟨b,7,none⟩ v7).setCell ⟨b,8,none⟩ v8).heap[k]?=((((((((X.setCell ⟨b,0,none⟩ v0).setCell ⟨b,1,none⟩ v1).setCell ⟨b,2,none⟩ v2).setCell ⟨b,3,none⟩ v3).setCell ⟨b,4,none⟩ v4).setCell ⟨b,5,none⟩ v5).setCell ⟨b,6,none⟩ v6).setCell ⟨b,7,none⟩ v7).heap[k]?:=Below.heap_setCell _ _ _ _ hk
  exact k8.trans (k7.trans (k6.trans (k5.trans (k4.trans (k3.trans (k2.trans (k1.trans k0)))))))
 ·exact ((((((((hB.setCell (by exact hb) v0).setCell (by exact hb) v1).setCell (by exact hb) v2).setCell (by exact hb) v3).setCell (by exact hb) v4).setCell (by exact hb) v5).setCell (by exact hb) v6).setCell (by exact hb) v7).setCell (by exact hb) v8
theorem row_baseR {w:World} {base base' e size n:Nat} {v:Value} {xs:List Value} (h:w.ownsRow base e size v n xs) (hb:base'≤base):w.ownsRow base' e size v n xs:=by
 refine ⟨h.1,?_⟩
 rcases h.2 with h | ⟨g,cap,cur,h1,h2,h3⟩
 ·exact .inl h
 ·exact .inr ⟨g,cap,cur,h1,by omega,h3⟩
theorem R2.src {w:World} {B:Nat} {ad:Option Addr} {R:List (Int × Int)} (h:R2 w B ad R) (hp:0 < R.length):∃ b f,ad=some ⟨b,f,none⟩∧∀ j u,(O2 R)[j]?=some u→w.cell? ⟨b,f + j,none⟩=some u:=by
 obtain ⟨b,f,h1,_,h3⟩:=h (fun e=>by rw [e] at hp;simp at hp)
 refine ⟨b,f,h1,fun j u hj=>?_⟩
 have hlt:j < R.length * 2:=by rw [← O2_len];exact (List.getElem?_eq_some_iff.1 hj).1
 obtain ⟨i,r,hr,rfl⟩:∃ i r,r < 2∧j=i * 2 + r:=⟨j / 2,j % 2,by omega,by omega⟩
 have h2:=O2_at R i (by omega)
 have h4:=h3 i (by omega)
 have hr':r=0∨r=1:=by omega
 rcases hr' with rfl | rfl
 ·rw [Nat.add_zero] at hj ⊢
  rw [h4.1,← hj,h2.1]
 ·rw [← Nat.add_assoc,h4.2,← hj,h2.2]
theorem getD_lt {ts:List Tn} {i:Nat} (hi:i < ts.length):ts.getD i default=ts[i]:=by simp [List.getD_eq_getElem?_getD,List.getElem?_eq_getElem hi]
abbrev BxN (w:World) (b:Nat) (N:Nv):Prop:=w.heap[b]?=some (.cells #[.int .i64 N.k,.slice N.r1 N.r2 N.r3,.int .i64 N.a2,.slice N.s1 N.s2 N.s3,.int .i64 N.a4,.int .i64 N.a5,.bool N.a6,.int .i64 N.a7,.string N.a8] 25 (0,0))
abbrev BxZ (w:World) (b:Nat):Prop:=w.heap[b]?=some (.cells #[.int .i64 0,.slice none 0 0,.int .i64 0,.slice none 0 0,.int .i64 0,.int .i64 0,.bool false,.int .i64 0,.string ⟨#[]⟩] 25 (0,0))
end Go.Proofs.YtacaanhnlfpbhaaGreat
