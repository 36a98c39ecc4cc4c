/- HELPERS: texts of ours put together. -/
import Derived.Test.YtacaanhnlfpbhaaGreatK45
import Derived.Test.YtacaanhnlfpbhaaGreatK40
import Derived.Test.YtacaanhnlfpbhaaGreatK12
import Derived.Test.YtacaanhnlfpbhaaGreatK35
import Derived.Test.YtacaanhnlfpbhaaGreatK39
import Derived.Test.YtacaanhnlfpbhaaGreatK17
import Derived.Test.YtacaanhnlfpbhaaGreatK16
import Derived.Deep.RegionHeld2
import Derived.Test.YtacaanhnlfpbhaaGreatK04
import Derived.Test.YtacaanhnlfpbhaaGreatK14
import Derived.Test.YtacaanhnlfpbhaaGreatK13
import Derived.Test.YtacaanhnlfpbhaaGreatK02
import Derived.Test.YtacaanhnlfpbhaaGreatK01
import Derived.Deep.SlicePairs
import Derived.RowKit
import Derived.Test.YtacaanhnlfpbhaaGreatProg
import Derived.WalkKit
import Derived.ProofKit
import Derived.BigQuiet
import Derived.WalkSmall
import Derived.Deep.QuietTactic
import Derived.Deep.RegionWith
import Derived.Lib.SmallJoins
import Derived.Lib.MinMax
import Derived.Maps.AppendAt
import Derived.Laws.AppendOwnNone
import Derived.Lib.Small
import Derived.Deep.Cut
import Derived.Deep.CutRange
import Derived.Deep.RegionHeld3
import Derived.Test.YtacaanhnlfpbhaaGreatK26
import Derived.Test.YtacaanhnlfpbhaaGreatK27
import Derived.Test.YtacaanhnlfpbhaaGreatK38
import Derived.Test.YtacaanhnlfpbhaaGreatK05
import Derived.Deep.Onto
import Derived.Test.YtacaanhnlfpbhaaGreatK03
import Derived.Laws.EntriesVeiled
namespace Go.Proofs.YtacaanhnlfpbhaaGreat
open Go.RowKit
set_option linter.unusedVariables false
set_option linter.unusedSimpArgs false
def errC (t:Tn):Int:=if t.sound then (if 20000 < 3 + t.ln then 3 else errS t) else 50
abbrev Bz3' (w:World) (b:Nat):Prop:=w.heap[b]? = some (.cells #[.slice none 0 0,.int .i64 0,.int .i64 0] 46 (0,0))
theorem MKL.pi {w w':World} {m base lo:Nat} {A:Nat → Prop} {l:List In} (h:MKL w m base A l) (y:Nat) (hy:∀ b,A b → b ≠ y) (hA:∀ b,A b → b < base) (hlo:∀ b,A b → lo ≤ b) (hlb:lo ≤ base) (hbs:base ≤ w.heap.size) (hyt:∀ arr fr,w.heap[y]? ≠ some (.cells arr 86 fr)) (hk:∀ b,b ≠ y → w'.heap[b]? = w.heap[b]?) (hs:w'.heap.size = w.heap.size):∃ z1 c,w.cell? ⟨m,0,none⟩ = some (.slice z1 l.length c) ∧ ∀ W',(∀ b,lo ≤ b → b < w'.heap.size → W'.heap[b]? = w'.heap[b]?) → w'.heap.size ≤ W'.heap.size → PI W' W'.heap.size z1 l.length l:=by
 obtain ⟨is,⟨z1,c,h1,h2⟩,h3,h4⟩:=h
 refine ⟨z1,c,Joins.cell_of_block h1 0,fun W' hW hWs => ⟨rfl,fun hp => ?_⟩⟩
 rcases h2.2 with ⟨_,h0⟩ | ⟨g,cap,cur,e,hb,hg,rest⟩
 ·omega
 ·simp only [Value.slice.injEq,true_and] at e
  obtain ⟨rfl,rfl⟩:=e
  have hgy:g ≠ y:=fun e => hyt _ _ (by rw [← e];exact hg)
  have hgl:=h2.lt g rfl
  have hWg:W'.heap[g]? = w.heap[g]?:=(hW g (by have:=hgl.1;omega) (by rw [hs];exact hgl.2)).trans (hk g hgy)
  refine ⟨g,0,fun i => is.getD i default,rfl,by have:=hgl.2;omega,fun i hi => ?_⟩
  have hil:i < is.length:=by omega
  have eg:is.getD i default = is[i]:=by rw [List.getD_eq_getElem?_getD,List.getElem?_eq_getElem hil];rfl
  show I5 W' g 0 i (is.getD i default) ∧ IM W' W'.heap.size (is.getD i default) l[i]
  rw [eg]
  refine ⟨?_,?_⟩
  ·have hc:∀ k,k < 5 → W'.cell? ⟨g,0 + i * 5 + k,none⟩ = (Iv.cs is[i])[k]?:=fun k hk5 => by
    rw [cell_eq hWg,Nat.zero_add,h2.cellAt (i * 5 + k) (by omega),flat5 is i k hil hk5]
   exact ⟨hc 0 (by omega),hc 1 (by omega),hc 2 (by omega),hc 3 (by omega),hc 4 (by omega)⟩
  ·have hI:=h4 i hil hi
   refine ⟨hI.op,hI.x,hI.y,hI.a,hI.len,hI.sm,?_⟩
   refine R2.row (N:=⟨0,is[i].r1,is[i].r2,is[i].r3,0,none,0,0,0,0,false,0,⟨#[]⟩⟩) (fun hR => ?_) hI.len
   obtain ⟨b,o,e1,e2,e3⟩:=hI.rp hR
   have hbb:W'.heap[b]? = w.heap[b]?:=(hW b (hlo b e2) (by have:=hA b e2;omega)).trans (hk b (hy b e2))
   exact ⟨b,o,e1,by have:=hA b e2;omega,fun j hj => ⟨(cell_eq hbb _).trans (e3 j hj).1,(cell_eq hbb _).trans (e3 j hj).2⟩⟩
abbrev CPost (w:World) (t:Tn):Ending → World → Prop:=fun e w' => ∃ ad n c s k,e = .returned (.tuple #[pv ad n c s k,.int .i64 (errC t)]) ∧ Below w.heap.size w w' ∧ (errC t = 0 → s = 0 ∧ k = 2 + 2 * t.top ∧ ∀ W',(∀ b,w.heap.size ≤ b → b < w'.heap.size → W'.heap[b]? = w'.heap[b]?) → w'.heap.size ≤ W'.heap.size → PI W' W'.heap.size ad n (progT t))
set_option maxRecDepth 100000 in
set_option maxHeartbeats 16000000 in
theorem compileT {w:World} {N:Nv} {t:Tn} (h:TI w w.heap.size N t):Calls Tryz.prog 24 #[N.v] w (CPost w t):=by
 obtain ⟨U,hU⟩:∃ U,U = (w.alloc (.cells #[.int .i64 N.k,.slice N.r1 N.r2 N.r3,.int .i64 N.a2,.slice N.s1 N.s2 N.s3,.int .i64 N.a4,.int .i64 N.a5,.bool N.a6,.int .i64 N.a7,.string N.a8] 25)).alloc (.cells #[.slice none 0 0,.int .i64 0,.int .i64 0] 46):=⟨_,rfl⟩
 have hbU:Below w.heap.size w U:=by rw [hU];exact below_two' w _ _
 have hX:BNo U w.heap.size N:=by rw [hU];exact (heap_alloc_old _ _ (by simp)).trans (heap_alloc_new w _)
 have hY:Bz3' U (w.heap.size + 1):=by rw [hU];exact two_new w _ _ _
 have hyU:w.heap.size + 1 < U.heap.size:=(Array.getElem?_eq_some_iff.1 hY).1
 have hTU:TI U w.heap.size N t:=h.kept fun b hb => hbU.block b hb
 have HS:=sound29g (hTU.le hbU.size)
 have HB0:=hid hbU
 have HX0:=hid hX
 have HY0:=hid hY
 have HT0:=hid h
 obtain ⟨y,hy⟩:∃ y,y = w.heap.size + 1:=⟨_,rfl⟩
 obtain ⟨x,hx⟩:∃ x,x = w.heap.size:=⟨_,rfl⟩
 clear hbU hX hY hTU h
 have c24:∀ (W:World) (v0 v1 v2:Value),Bz3' W y → ((((W.setCell ⟨y,0,none⟩ v0).setCell ⟨y,1,none⟩ v1).setCell ⟨y,2,none⟩ v2).heap[y]? = some (.cells #[v0,v1,v2] 46 (0,0))):=fun W v0 v1 v2 h => Joins.block_setCell (i:=2) (Joins.block_setCell (i:=1) (Joins.block_setCell (i:=0) h _) _) _
 have b24:∀ (W:World) (v0 v1 v2:Value),Below w.heap.size w W → Below w.heap.size w (((W.setCell ⟨y,0,none⟩ v0).setCell ⟨y,1,none⟩ v1).setCell ⟨y,2,none⟩ v2):=fun W v0 v1 v2 h => ((h.setCell (by show _ ≤ y;omega) _).setCell (by show _ ≤ y;omega) _).setCell (by show _ ≤ y;omega) _
 have C24:=hid c24
 have B24:=hid b24
 clear c24 b24
 by_cases hsd':t.sound = false
 ·rw [hsd'] at HS
  simp only [Bool.false_eq_true,if_false] at HS
  have HER:Hid (errC t = 50):=by show _ = _;unfold errC;rw [hsd'];rfl
  clear hsd'
  go_enter Tryz.func24,Tryz.ntmps24
  go_upto_region 1 with fail
  rw [← hU,← hy,← hx]
  rw [← hy] at HY0 hyU
  rw [← hx] at HX0
  clear hU hx hy
  obtain ⟨c0,c1,c2,c3,c4,c5,c6,c7,c8⟩:=nine' HX0.out
  go_wp2_with (first | (go_at_call 42;(with_reducible refine HS.mono ?_);rintro e U1 ⟨rfl,hb⟩;have HB1:=hid hb;have hY1:=(hb.block y hyU).trans HY0.out;have y0:=Joins.unfrozen_of_block hY1 0;have y1:=Joins.unfrozen_of_block hY1 1;have y2:=Joins.unfrozen_of_block hY1 2;have s0:=Joins.cell_of_block hY1 0;have s1:=Joins.cell_of_block hY1 1;have s2:=Joins.cell_of_block hY1 2;have HY1:=hid hY1;clear hb HS hY1))
  all_goals
   refine bodyPost_ret (results_cell_tmp rfl _ _ y 46 _ (0,0) _ rfl (C24.out _ (.slice none 0 0) (.int .i64 0) (.int .i64 0) HY1.out) Tryz.underlying46 rfl (by kernel_rfl)) rfl ?_
   exact ⟨none,0,0,0,0,by rw [HER.out];rfl,B24.out _ _ _ _ (HB0.out.trans (Joins.below_le HB1.out HB0.out.size)),fun h => by rw [HER.out] at h;cases h⟩
 have hsd:t.sound = true:=by simpa using hsd'
 rw [hsd] at HS
 simp only [if_true] at HS
 clear hsd'
 have HSO:=hid hsd
 simp only [Tn.sound,Bool.and_eq_true,decide_eq_true_eq] at hsd
 obtain ⟨⟨hf,hdp⟩,hno⟩:=hsd
 have hle:=ln_le t hf hno
 go_enter Tryz.func24,Tryz.ntmps24
 go_upto_region 1 with fail
 rw [← hU,← hy,← hx]
 rw [← hy] at HY0 hyU
 rw [← hx] at HX0
 have HXE:=hid hx
 have hxy:x < y:=by omega
 clear hU hy hx
 obtain ⟨c0,c1,c2,c3,c4,c5,c6,c7,c8⟩:=nine' HX0.out
 go_upto_region 3 with (go_at_call 42;(with_reducible refine HS.mono ?_);rintro e U1 ⟨rfl,hb⟩;have HB1:=hid hb;clear hb HS)
 clear c0 c1 c2 c3 c4 c5 c6 c7 c8
 have HX1:Hid (BNo U1 x N):=(HB1.out.block x (by omega)).trans HX0.out
 have HY1:Hid (Bz3' U1 y):=(HB1.out.block y hyU).trans HY0.out
 have hy1:y < U1.heap.size:=Nat.lt_of_lt_of_le hyU HB1.out.size
 have HBw1:=hid (HB0.out.trans (Joins.below_le HB1.out HB0.out.size))
 have HW:=whole29 ((HT0.out.kept fun b hb => HBw1.out.block b hb).le HBw1.out.size) hf hno
 obtain ⟨ln,hln⟩:∃ ln,ln = t.ln:=⟨_,rfl⟩
 rw [← hln] at HW hle
 have HLN:=hid hln
 obtain ⟨c0,c1,c2,c3,c4,c5,c6,c7,c8⟩:=nine' HX1.out
 clear hln HX0 HY0 HB0 HB1 hyU
 by_cases hbg:20000 < 3 + ln
 ·have g1:decide ((20000:Int) < 3 + (ln:Int)) = true:=by simp;omega
  have HER:Hid (errC t = 3):=by show _ = _;unfold errC;rw [HSO.out,← HLN.out,if_pos hbg];rfl
  go_wp2_with (first | (go_at_call 51;(with_reducible refine HW.mono ?_);rintro e U2 ⟨rfl,hb⟩;have HB2:=hid hb;have hY1:=(hb.block y hy1).trans HY1.out;have y0:=Joins.unfrozen_of_block hY1 0;have y1:=Joins.unfrozen_of_block hY1 1;have y2:=Joins.unfrozen_of_block hY1 2;have s0:=Joins.cell_of_block hY1 0;have s1:=Joins.cell_of_block hY1 1;have s2:=Joins.cell_of_block hY1 2;have HY2:=hid hY1;clear hb HW hY1))
  all_goals
   refine bodyPost_ret (results_cell_tmp rfl _ _ y 46 _ (0,0) _ rfl (C24.out _ (.slice none 0 0) (.int .i64 0) (.int .i64 0) HY2.out) Tryz.underlying46 rfl (by kernel_rfl)) rfl ?_
   exact ⟨none,0,0,0,0,by rw [HER.out];rfl,B24.out _ _ _ _ (HBw1.out.trans (Joins.below_le HB2.out HBw1.out.size)),fun h => by rw [HER.out] at h;cases h⟩
 have g1:decide ((20000:Int) < 3 + (ln:Int)) = false:=by simp;omega
 have hEC:errC t = errS t:=by unfold errC;rw [HSO.out,← HLN.out,if_neg hbg];rfl
 go_upto_region 6 with (go_at_call 51;(with_reducible refine HW.mono ?_);rintro e U2 ⟨rfl,hb⟩;have HB2:=hid hb;clear hb HW)
 clear c0 c1 c2 c3 c4 c5 c6 c7 c8
 have HX2:Hid (BNo U2 x N):=(HB2.out.block x (by omega)).trans HX1.out
 have HY2:Hid (Bz3' U2 y):=(HB2.out.block y hy1).trans HY1.out
 have hy2:y < U2.heap.size:=Nat.lt_of_lt_of_le hy1 HB2.out.size
 have HBw2:=hid (HBw1.out.trans (Joins.below_le HB2.out HBw1.out.size))
 have HC:=simplify11 ((HT0.out.kept fun b hb => HBw2.out.block b hb).le HBw2.out.size)
 obtain ⟨E,hE⟩:∃ E,E = errS t:=⟨_,rfl⟩
 rw [← hE] at HC hEC
 have HEE:=hid hE
 have HEC:=hid hEC
 obtain ⟨c0,c1,c2,c3,c4,c5,c6,c7,c8⟩:=nine' HX2.out
 clear HX1 HY1 HB2 HBw1 hE hEC g1
 go_upto_region 7 with (go_at_call 52;(with_reducible refine HC.mono ?_);rintro e W3 ⟨M,rfl,AA,hTO,hAA,hb⟩;have HTO:=hid hTO;have HAA:=hid hAA;have HB3:=hid hb;clear hTO hAA hb HC)
 clear c0 c1 c2 c3 c4 c5 c6 c7 c8
 obtain ⟨U3,hU3⟩:∃ U3,U3 = W3.alloc (.cells #[.int .i64 M.k,.slice M.r1 M.r2 M.r3,.int .i64 M.a2,.slice M.s1 M.s2 M.s3,.int .i64 M.a4,.int .i64 M.a5,.bool M.a6,.int .i64 M.a7,.string M.a8] 25):=⟨_,rfl⟩
 rw [← hU3]
 have HB23:Hid (Below U2.heap.size U2 U3):=by rw [hU3];exact HB3.out.alloc HB3.out.size _
 have hZ:BNo U3 W3.heap.size M:=by rw [hU3];exact heap_alloc_new W3 _
 have hU3s:U3.heap.size = W3.heap.size + 1:=by rw [hU3];simp
 have HT3:Hid (TP U3 AA M (simT t)):=by rw [hU3];exact HTO.out.tp.kept (fun b hb => heap_alloc_old _ _ (HTO.out.low b hb)) (fun _ h => h)
 have HAl:Hid (∀ b,AA b → U2.heap.size ≤ b ∧ b < W3.heap.size):=fun b hb => ⟨HAA.out b hb,HTO.out.low b hb⟩
 obtain ⟨z,hz⟩:∃ z,z = W3.heap.size:=⟨_,rfl⟩
 rw [← hz] at hZ hU3s HAl ⊢
 have HZ:=hid hZ
 have HX3:Hid (BNo U3 x N):=(HB23.out.block x (by omega)).trans HX2.out
 have HY3:Hid (Bz3' U3 y):=(HB23.out.block y hy2).trans HY2.out
 have hy3:y < U3.heap.size:=Nat.lt_of_lt_of_le hy2 HB23.out.size
 have HBw3:=hid (HBw2.out.trans (Joins.below_le HB23.out HBw2.out.size))
 have hwU2:w.heap.size ≤ U2.heap.size:=HBw2.out.size
 clear hU3 hz hZ HB3 HX2 HY2 HBw2 HTO HAA HB23
 by_cases hE0:E ≠ 0
 ·have g1:(E == 0) = false:=by simp [hE0]
  have hY1:=HY3.out
  have y0:=Joins.unfrozen_of_block hY1 0
  have y1:=Joins.unfrozen_of_block hY1 1
  have y2:=Joins.unfrozen_of_block hY1 2
  have s0:=Joins.cell_of_block hY1 0
  have s1:=Joins.cell_of_block hY1 1
  have s2:=Joins.cell_of_block hY1 2
  clear hY1
  go_wp2
  all_goals
   refine bodyPost_ret (results_cell_tmp rfl _ _ y 46 _ (0,0) _ rfl (C24.out _ (.slice none 0 0) (.int .i64 0) (.int .i64 0) HY3.out) Tryz.underlying46 rfl (by kernel_rfl)) rfl ?_
   exact ⟨none,0,0,0,0,by rw [HEC.out];rfl,B24.out _ _ _ _ HBw3.out,fun h => by rw [HEC.out] at h;exact absurd h hE0⟩
 have hE0:E = 0:=by simpa using hE0
 subst hE0
 have hsim:simT t = t.S:=by unfold simT;rw [← HEE.out,if_pos rfl]
 have hlen:t.S.len = ln:=by
  have:=ln_len t hf
  rw [← HLN.out] at this
  omega
 have HT3':Hid (TP U3 AA M t.S):=by rw [← hsim];exact HT3.out
 have HNF:=hid (nf_S t hf)
 have hk3:(3:Int) + (ln:Int) = ((3 + ln:Nat):Int):=by push_cast;rfl
 have HN:=newRow31g (3 + ln) (by omega) U3
 rw [← hk3] at HN
 clear hsim HT3 hk3
 go_upto_region 10 with (go_at_call 53;(with_reducible refine HN.mono ?_);rintro e W4 ⟨z1,cc,rfl,hrow,hb⟩;have HR4:=hid hrow;have HB4:=hid hb;clear hrow hb HN)
 obtain ⟨U4,hU4⟩:∃ U4,U4 = W4.alloc (.cells #[.slice z1 0 cc] 93):=⟨_,rfl⟩
 rw [← hU4]
 have HB34:Hid (Below U3.heap.size U3 U4):=by rw [hU4];exact HB4.out.alloc HB4.out.size _
 have hA4:∀ b,AA b → b < U3.heap.size:=fun b hb => by have:=(HAl.out b hb).2;omega
 have hM4:MKL U4 W4.heap.size U3.heap.size AA []:=⟨[],⟨z1,cc,by rw [hU4];exact heap_alloc_new W4 _,by rw [hU4];exact HR4.out.alloc _⟩,rfl,fun k hk => by simp at hk⟩
 have hm4:U3.heap.size ≤ W4.heap.size:=HB4.out.size
 obtain ⟨m,hm⟩:∃ m,m = W4.heap.size:=⟨_,rfl⟩
 rw [← hm] at hM4 hm4 ⊢
 have HX4:Hid (BNo U4 x N):=(HB34.out.block x (by omega)).trans HX3.out
 have HY4:Hid (Bz3' U4 y):=(HB34.out.block y hy3).trans HY3.out
 have HZ4:Hid (BNo U4 z M):=(HB34.out.block z (by omega)).trans HZ.out
 have HBw4:=hid (HBw3.out.trans (Joins.below_le HB34.out HBw3.out.size))
 have HL:=whole32g hA4 HNF.out hM4 hm4 HB34.out.size (HT3'.out.kept (fun b hb => HB34.out.block b (hA4 b hb)) (fun _ h => h)) (by omega)
 have HA4:=hid hA4
 clear hU4 hm hM4 HR4 HB4 HX3 HY3 HZ hA4 HT3'
 obtain ⟨c0,c1,c2,c3,c4,c5,c6,c7,c8⟩:=nine' HZ4.out
 go_upto_region 11 with (go_at_call 54;(with_reducible refine HL.mono ?_);rintro e U5 ⟨rfl,hM,hf5⟩;have HM5:=hid hM;have HF5:=hid hf5;clear hM hf5 HL)
 clear c0 c1 c2 c3 c4 c5 c6 c7 c8
 have HX5:Hid (BNo U5 x N):=HF5.out.blk x _ _ _ HX4.out (by decide) (by decide)
 have HY5:Hid (Bz3' U5 y):=HF5.out.blk y _ _ _ HY4.out (by decide) (by decide)
 have hx5:x < U5.heap.size:=(Array.getElem?_eq_some_iff.1 HX5.out).1
 have hy5:y < U5.heap.size:=(Array.getElem?_eq_some_iff.1 HY5.out).1
 have hm5:=HM5.out.lt
 have HB5x:Hid (Below w.heap.size w U5):=⟨HF5.out.os.trans HBw4.out.os,HF5.out.tape.trans HBw4.out.tape,HF5.out.output.trans HBw4.out.output,Nat.le_trans HBw4.out.size HF5.out.size,fun b hb => (HF5.out.low b (by have:=HBw3.out.size;omega)).trans (HBw4.out.block b hb)⟩
 obtain ⟨n1,nc,p0⟩:=HM5.out.cell
 have hpl:((⟨3,1,0,0,[]⟩:In) :: (t.S.lay 1 ++ [⟨3,((t.S.len + 2:Nat):Int),0,1,[]⟩,⟨5,0,0,0,[]⟩])).length = ln + 3:=by simp [lay_len];omega
 rw [hpl] at p0
 have HMP:Hid (MKL U5 m U3.heap.size AA (progT t)):=HM5.out
 have htf:=top_fine t hf
 have HG:Hid (∀ W,Below U5.heap.size U5 W → Calls Tryz.prog 55 #[N.v] W fun e w' => e = .returned (.int .i64 t.top) ∧ Below W.heap.size W w'):=fun W hW => great33 (HT0.out.kept (w':=W) fun b hb => (hW.block b (by have:=HB5x.out.size;omega)).trans (HB5x.out.block b hb)) hf hno W (by have:=HB5x.out.size;have:=hW.size;omega) (fun _ _ => rfl)
 obtain ⟨top,htop⟩:∃ top,top = t.top:=⟨_,rfl⟩
 rw [← htop] at HG htf
 have HTOP:=hid htop
 have w1:IntKind.i64.wrap (2 * top) = 2 * top:=by simp [IntKind.wrap,IntKind.bits,IntKind.signed];omega
 have w2:IntKind.i64.wrap (2 + 2 * top) = 2 + 2 * top:=by simp [IntKind.wrap,IntKind.bits,IntKind.signed];omega
 have hyx:y ≠ x:=by omega
 have hym:y ≠ m:=by omega
 obtain ⟨c0,c1,c2,c3,c4,c5,c6,c7,c8⟩:=nine' HX5.out
 clear htop hpl HM5
 go_region_held3 (fun W => W.cell? ⟨m,0,none⟩ = some (.slice n1 (ln + 3) nc) ∧ W.cell? ⟨x,0,none⟩ = some (.int .i64 N.k) ∧ W.cell? ⟨x,1,none⟩ = some (.slice N.r1 N.r2 N.r3) ∧ W.cell? ⟨x,2,none⟩ = some (.int .i64 N.a2) ∧ W.cell? ⟨x,3,none⟩ = some (.slice N.s1 N.s2 N.s3) ∧ W.cell? ⟨x,4,none⟩ = some (.int .i64 N.a4) ∧ W.cell? ⟨x,5,none⟩ = some (.int .i64 N.a5) ∧ W.cell? ⟨x,6,none⟩ = some (.bool N.a6) ∧ W.cell? ⟨x,7,none⟩ = some (.int .i64 N.a7) ∧ W.cell? ⟨x,8,none⟩ = some (.string N.a8)) (first | (exact ⟨k,k0,k1,k2,k3,k4,k5,k6,k7,k8⟩) | (go_keep;done) | (refine ⟨?_,?_,?_,?_,?_,?_,?_,?_,?_,?_⟩ <;> simp [*] <;> done) | (simp [*];done)) (first | (go_at_call 55;(with_reducible refine (HG.out _ ?_).mono ?_);(first | exact drew_below _ | exact ⟨rfl,rfl,rfl,Nat.le_refl _,fun _ _ => rfl⟩);rintro e w6 ⟨rfl,hb6⟩;have hbb:Below U5.heap.size U5 w6:=⟨hb6.os,hb6.tape,hb6.output,hb6.size,hb6.block⟩;obtain ⟨k0,k1,k2,k3,k4,k5,k6,k7,k8⟩:=nine' ((hbb.block x hx5).trans HX5.out);have k:w6.cell? ⟨m,0,none⟩ = some (.slice n1 (ln + 3) nc):=(cell_eq (hbb.block m hm5) 0).trans p0;have hY6:=(hbb.block y hy5).trans HY5.out;have y0:=Joins.unfrozen_of_block hY6 0;have y1:=Joins.unfrozen_of_block hY6 1;have y2:=Joins.unfrozen_of_block hY6 2;have s0:=Joins.cell_of_block hY6 0;have s1:=Joins.cell_of_block hY6 1;have s2:=Joins.cell_of_block hY6 2;have HY6:=hid hY6;have HBB:=hid hbb;clear hbb hb6 hY6))
 all_goals go_wp2_with fail
 all_goals
  refine bodyPost_ret (results_cell_tmp rfl _ _ y 46 _ (0,0) _ rfl (C24.out _ (.slice n1 (ln + 3) nc) (.int .i64 0) (.int .i64 (2 + 2 * top)) HY6.out) Tryz.underlying46 rfl (by kernel_rfl)) rfl ?_
  have hBx6:Below w.heap.size w w6:=HB5x.out.trans (Joins.below_le HBB.out HB5x.out.size)
  have hM6:MKL w6 m U3.heap.size AA (progT t):=HMP.out.below HBB.out HA4.out (by have:=HB34.out.size;have:=HF5.out.size;omega)
  obtain ⟨z1',c',e1,hPI⟩:=hM6.pi (w':=((w6.setCell ⟨y,0,none⟩ (.slice n1 (ln + 3) nc)).setCell ⟨y,1,none⟩ (.int .i64 0)).setCell ⟨y,2,none⟩ (.int .i64 (2 + 2 * top))) (lo:=w.heap.size) y (fun b hb => by have:=(HAl.out b hb).1;omega) HA4.out (fun b hb => by have:=(HAl.out b hb).1;omega) (by have:=HBw3.out.size;omega) (by have:=HB34.out.size;have:=HF5.out.size;have:=HBB.out.size;omega) (fun arr fr e => by rw [HY6.out] at e;cases e) (fun b hb => (Below.heap_setCell _ _ _ _ hb).trans ((Below.heap_setCell _ _ _ _ hb).trans (Below.heap_setCell _ _ _ _ hb))) (by simp [World.setCell])
  rw [prog_len,hlen] at e1 hPI
  rw [k] at e1
  simp only [Option.some.injEq,Value.slice.injEq,true_and] at e1
  obtain ⟨rfl,rfl⟩:=e1
  exact ⟨n1,ln + 3,nc,0,2 + 2 * top,by rw [HEC.out];rfl,B24.out _ _ _ _ hBx6,fun _ => ⟨rfl,by rw [HTOP.out],hPI⟩⟩
end Go.Proofs.YtacaanhnlfpbhaaGreat
namespace Go.Proofs.YtacaanhnlfpbhaaGreat
open Go.RowKit Go.Lk
set_option linter.unusedVariables false
set_option linter.unusedSimpArgs false
theorem prog_prg {t:Tn} (hf:t.fine = true):(progT t).getD 0 default = ⟨3,1,0,0,[]⟩ ∧ Ld (progT t) 1 (t.S.lay 1) ∧ (progT t).getD (t.S.len + 1) default = ⟨3,((t.S.len + 2:Nat):Int),0,1,[]⟩ ∧ (progT t).getD (t.S.len + 2) default = ⟨5,0,0,0,[]⟩ ∧ Prg (progT t) (t.S.len + 2):=by
 have hl:=lay_len t.S 1
 have g0:(progT t).getD 0 default = ⟨3,1,0,0,[]⟩:=by simp [progT]
 have g1:Ld (progT t) 1 (t.S.lay 1):=fun j hj => by
  rw [show 1 + j = j + 1 by omega]
  simp [progT,List.getD_eq_getElem?_getD,List.getElem?_append_left hj]
 have g2:(progT t).getD (t.S.len + 1) default = ⟨3,((t.S.len + 2:Nat):Int),0,1,[]⟩:=by
  simp only [progT,List.getD_eq_getElem?_getD,List.getElem?_cons_succ]
  rw [List.getElem?_append_right (by omega),hl]
  simp
 have g3:(progT t).getD (t.S.len + 2) default = ⟨5,0,0,0,[]⟩:=by
  simp only [progT,List.getD_eq_getElem?_getD,List.getElem?_cons_succ]
  rw [List.getElem?_append_right (by omega),hl,show t.S.len + 1 - t.S.len = 1 by omega]
  simp
 refine ⟨g0,g1,g2,g3,fun i h1 h2 => ?_,?_,?_,by omega⟩
 ·have hN:=nf_S t hf
  have hj:i - 1 < (t.S.lay 1).length:=by omega
  have e:=g1 (i - 1) hj
  rw [show 1 + (i - 1) = i by omega] at e
  rw [e]
  refine lay_mid hN (lo:=1) (hi:=t.S.len + 2 - 1) 1 (Nat.le_refl _) (by omega) _ ?_
  rw [List.getD_eq_getElem?_getD,List.getElem?_eq_getElem hj]
  exact List.getElem_mem hj
 ·rw [show t.S.len + 2 - 1 = t.S.len + 1 by omega];exact g2
 ·exact g3
theorem df_first {t:Tn} {K:Nat} {tx:List Int} {p:Nat} {l:List (Int × List Int)} (hf:t.fine = true) (hp:p ≤ tx.length) (h:PS t.S K tx p l) :
  ∃ M' r,Df (act (progT t) tx) [] 0 p (List.replicate K (-1)) M' r ∧ ((r = none ∧ l = []) ∨ ∃ q c rest,r = some (0,c) ∧ l = (q,c) :: rest):=by
 obtain ⟨g0,g1,g2,g3,hP⟩:=prog_prg hf
 obtain ⟨E,W,n1,s',hb,_,_,hx,rfl⟩:=h.ex
 obtain ⟨s1,hx1,e1⟩:=prog_ways (nf_S t hf) g0 g1 g2 g3 hb hx
 have w0:prW (progT t) 0 = .once ((0:Nat):Int) (.again 1):=by rw [prW_at g0];simp [inW]
 rw [w0] at hx1
 rw [← e1]
 cases hx1 with
 | skip h => cases h
 | once _ hd =>
  have ho:¬ EnW (progT t) (t.S.len + 2) (.again 1):=fun e => by have:=en_again.1 e;omega
  obtain ⟨M',r,hw,ho⟩:=ex_df hP hd ⟨by omega,by omega⟩ hp [(0,p)] ((List.replicate K (-1)).set 0 (p:Int)) (fun i j => by simp;omega) ⟨fun e => absurd e ho,fun _ => rfl⟩
  refine ⟨M',r,.cap _ _ _ _ 1 0 _ _ (by simp) (by rw [act_at g0];simp [actI]) hw,?_⟩
  rcases ho with ⟨h1,h2,_⟩ | ⟨c,q,rest,h1,h2⟩
  ·exact .inl ⟨h1,by simpa using h2⟩
  ·exact .inr ⟨q,c,rest,h1,by simpa using h2⟩
mutual
theorem top_gi:∀ t:Tn,t.top = t.gi
 | .mk _ _ _ s _ _ _ ix _ => by simp only [Tn.top,Tn.gi];exact topL_gi s ix
theorem topL_gi:∀ (ts:List Tn) (a:Int),topL ts a = giL ts a
 | [],a => rfl
 | t :: ts,a => by simp only [topL,giL];rw [top_gi t];exact topL_gi ts _
end
theorem errC_facts {t:Tn} (h:errC t = 0):t.fine = true ∧ t.S.nodes ≤ 200000 ∧ t.S.len + 3 ≤ 20000:=by
 unfold errC errS at h
 split at h
 ·rename_i hs
  split at h
  ·cases h
  ·rename_i h1
   split at h
   ·cases h
   ·rename_i h2
    simp only [Tn.sound,Bool.and_eq_true,decide_eq_true_eq] at hs
    simp only [Tn.bigS,Bool.or_eq_true,decide_eq_true_eq,not_or] at h2
    have:=ln_len t hs.1.1
    exact ⟨hs.1.1,by omega,by omega⟩
 ·cases h
theorem errP_parts {t:Tn} {tn:Nat} {at_:Int} (h:errP t tn at_ = 0):tn ≤ 64 ∧ t.sound = true ∧ t.sz ≤ 2000 ∧ 0 ≤ at_ ∧ at_ ≤ (tn:Int):=by
 unfold errP at h
 split at h
 ·cases h
 ·split at h
  ·cases h
  ·split at h
   ·cases h
   ·split at h
    ·cases h
    ·rename_i g1 g2 g3 g4
     exact ⟨by omega,by simpa using g2,by omega,by omega,by omega⟩
end Go.Proofs.YtacaanhnlfpbhaaGreat
namespace Go.Proofs.YtacaanhnlfpbhaaGreat
open Go.RowKit
set_option linter.unusedVariables false
set_option linter.unusedSimpArgs false
structure Pg where
 l:List In
 s:Int
 k:Int
instance:Inhabited Pg:=⟨⟨[],0,0⟩⟩
def sumL (L:List Pg) (i:Nat):Nat:=((L.take i).map fun P => P.l.length).sum
def ahead (L:List Pg) (i:Nat):Nat:=L.length - 1 + sumL L i
theorem ok_xT {I:In} {n k:Int} (h:I.okB n k = true):0 ≤ I.x ∧ (I.x < n ∨ I.x = 0) ∧ 0 ≤ I.y ∧ (I.y < n ∨ I.y = 0):=by
 simp only [In.okB,Bool.and_eq_true,isTargetB] at h
 have h1:=h.1.1.1
 have h2:=h.1.1.2
 split at h1 <;> split at h2 <;> simp [belowB] at h1 h2 <;> omega
end Go.Proofs.YtacaanhnlfpbhaaGreat
namespace Go.Proofs.YtacaanhnlfpbhaaGreat
open Go.RowKit Go.Lk
set_option linter.unusedVariables false
set_option linter.unusedSimpArgs false
inductive TkT where
 | go (i p:Nat)
 | un (a:Nat) (o:Int)
abbrev Met:=Nat → Nat → Bool
def mark (m:Met) (i p:Nat):Met:=fun j q => if j = i ∧ q = p then true else m j q
def nxT (tx:List Int) (I:In) (p:Nat) (caps:List Int):List TkT × List Int:=
 if I.op = 1 then (if (decide (p < tx.length) && hsB I.R (tx.getD p 0)) = true then [.go I.x.toNat (p + 1)] else [],caps)
 else if I.op = 2 then ([.go I.x.toNat p,.go I.y.toNat p],caps)
 else if I.op = 3 then ([.go I.x.toNat p,.un I.a.toNat (caps.getD I.a.toNat 0)],caps.set I.a.toNat (p:Int))
 else if I.op = 4 then (if holdsB I.a (atP tx p) = true then [.go I.x.toNat p] else [],caps)
 else if I.op = 7 then ([.go I.x.toNat p],caps)
 else ([],caps)
inductive EvT (l:List In) (tx:List Int):List TkT → Met → List Int → Option (Int × List Int) → Prop
 | nil (m:Met) (caps:List Int):EvT l tx [] m caps none
 | un (a:Nat) (o:Int) (st:List TkT) (m:Met) (caps:List Int) (r:Option (Int × List Int)):EvT l tx st m (caps.set a o) r → EvT l tx (.un a o :: st) m caps r
 | old (i p:Nat) (st:List TkT) (m:Met) (caps:List Int) (r:Option (Int × List Int)):m i p = true → EvT l tx st m caps r → EvT l tx (.go i p :: st) m caps r
 | fit (i p:Nat) (st:List TkT) (m:Met) (caps:List Int) (I:In):m i p = false → l[i]? = some I → I.op = 5 → EvT l tx (.go i p :: st) m caps (some (I.a,caps))
 | step (i p:Nat) (st:List TkT) (m:Met) (caps:List Int) (r:Option (Int × List Int)) (I:In):m i p = false → l[i]? = some I → I.op ≠ 5 → EvT l tx ((nxT tx I p caps).1 ++ st) (mark m i p) (nxT tx I p caps).2 r → EvT l tx (.go i p :: st) m caps r
def TkT.ok (n:Nat) (tx:List Int) (c:Nat):TkT → Prop
 | .go i p => i < n ∧ p ≤ tx.length
 | .un a _ => a < c
theorem nx_ok {tx:List Int} {I:In} {p n c:Nat} {k:Int} (caps:List Int) (h:I.okB n k = true) (hp:p ≤ tx.length) (hk:k = c):∀ t ∈ (nxT tx I p caps).1,t.ok n tx c:=by
 have hx:hasXB I.op = true → I.x.toNat < n:=fun h' => by
  simp only [In.okB,Bool.and_eq_true,isTargetB,h',if_true,belowB] at h
  have:=h.1.1.1
  simp at this
  omega
 have hy:hasYB I.op = true → I.y.toNat < n:=fun h' => by
  simp only [In.okB,Bool.and_eq_true,isTargetB,h',if_true,belowB] at h
  have:=h.1.1.2
  simp at this
  omega
 have ha:I.op = 3 → I.a.toNat < c:=fun h' => by
  simp only [In.okB,Bool.and_eq_true,isArgB,h'] at h
  have:=h.1.2
  simp [belowB] at this
  omega
 intro t ht
 unfold nxT at ht
 split at ht
 ·rename_i e
  split at ht
  ·rename_i e2
   simp at ht
   subst ht
   simp at e2
   exact ⟨hx (by rw [e];rfl),by omega⟩
  ·simp at ht
 ·split at ht
  ·rename_i e
   simp at ht
   rcases ht with rfl | rfl
   ·exact ⟨hx (by rw [e];rfl),hp⟩
   ·exact ⟨hy (by rw [e];rfl),hp⟩
  ·split at ht
   ·rename_i e
    simp at ht
    rcases ht with rfl | rfl
    ·exact ⟨hx (by rw [e];rfl),hp⟩
    ·exact ha e
   ·split at ht
    ·rename_i e
     split at ht
     ·simp at ht
      subst ht
      exact ⟨hx (by rw [e];rfl),hp⟩
     ·simp at ht
    ·split at ht
     ·rename_i e
      simp at ht
      subst ht
      exact ⟨hx (by rw [e];rfl),hp⟩
     ·simp at ht
theorem countP_ltT {α:Type} (p q:α → Bool) (a:α):∀ (L:List α),a ∈ L → p a = true → q a = false → (∀ x,q x = true → p x = true) → L.countP q < L.countP p
 | [],h,_,_,_ => by cases h
 | x :: L,h,h1,h2,h3 => by
  have hle:L.countP q ≤ L.countP p:=List.countP_mono_left (fun x _ hx => h3 x hx)
  rw [List.countP_cons,List.countP_cons]
  rcases List.mem_cons.1 h with rfl | h
  ·rw [h1,h2];simp;omega
  ·have:=countP_ltT p q a L h h1 h2 h3
   have hx:=h3 x
   cases hq:q x
   ·cases hp:p x <;> simp <;> omega
   ·rw [hx hq];simp;omega
def Tk.t:Tk → TkT
 | .go i j => .go i j
 | .un a o => .un a o
theorem nx_t {l:List In} {tx:List Int} {i:Nat} {I:In} (h:l[i]? = some I) (h5:I.op ≠ 5) (j:Nat) (c:List Int):nxT tx I j c = ((nx (act l tx) i j c).1.map Tk.t,(nx (act l tx) i j c).2):=by
 have e:act l tx j i = actI tx I j:=by simp [act,List.getD_eq_getElem?_getD,h]
 unfold nx nxT
 rw [e]
 unfold actI
 by_cases h1:I.op = 1
 ·rw [h1]
  generalize (decide (j < tx.length) && hsB I.R (tx.getD j 0)) = bb
  cases bb <;> simp [Tk.t]
 ·by_cases h2:I.op = 2
  ·simp [h2,Tk.t]
  ·by_cases h3:I.op = 3
   ·simp [h3,Tk.t]
   ·by_cases h4:I.op = 4
    ·rw [h4]
     generalize holdsB I.a (atP tx j) = bb
     cases bb <;> simp [Tk.t]
    ·by_cases h7:I.op = 7
     ·simp [h7,Tk.t]
     ·simp [h1,h2,h3,h4,h5,h7,Tk.t]
theorem ev_evt {l:List In} {tx:List Int} {K:Nat} (hl:∀ I ∈ l,I.okB l.length (K:Int) = true) {n:Nat} {st:List Tk} {m:List Pt} {c:List Int} {r:Fd} {m':List Pt} (h:Ev (act l tx) n st m c r m'):(∀ t ∈ st.map Tk.t,t.ok l.length tx K) → EvT l tx (st.map Tk.t) (fun i p => decide ((i,p) ∈ m)) c r:=by
 induction h with
 | nil m c => intro _;exact .nil _ _
 | un n a o st m c r m' _ ih => intro hk;exact .un _ _ _ _ _ _ (ih fun t ht => hk t (by simp only [List.map_cons,List.mem_cons];exact .inr ht))
 | old n i j st m c r m' hm _ ih => intro hk;exact .old _ _ _ _ _ _ (by simp [hm]) (ih fun t ht => hk t (by simp only [List.map_cons,List.mem_cons];exact .inr ht))
 | fit i j st m c a hm e =>
  intro hk
  have h1:i < l.length:=(hk (.go i j) (by simp [Tk.t])).1
  have hI:l[i]? = some l[i]:=List.getElem?_eq_getElem h1
  have e2:act l tx j i = actI tx l[i] j:=by simp [act,List.getD_eq_getElem?_getD,hI]
  rw [e2] at e
  have h5:l[i].op = 5 ∧ l[i].a = a:=by
   unfold actI at e
   split at e
   ·cases e
   ·split at e
    ·cases e
    ·split at e
     ·cases e
     ·split at e
      ·split at e <;> cases e
      ·split at e
       ·split at e <;> cases e
       ·split at e
        ·rename_i h
         cases e
         exact ⟨h,rfl⟩
        ·cases e
  have:=EvT.fit (l:=l) (tx:=tx) i j (st.map Tk.t) (fun i p => decide ((i,p) ∈ m)) c l[i] (by simp [hm]) hI h5.1
  rw [h5.2] at this
  exact this
 | step n i j st m c r m' hm hf _ ih =>
  intro hk
  have h0:=hk (.go i j) (by simp [Tk.t])
  have h1:i < l.length:=h0.1
  have hI:l[i]? = some l[i]:=List.getElem?_eq_getElem h1
  have e2:act l tx j i = actI tx l[i] j:=by simp [act,List.getD_eq_getElem?_getD,hI]
  have h5:l[i].op ≠ 5:=fun e => hf l[i].a (by rw [e2];simp [actI,e])
  have hx:=nx_t (tx:=tx) hI h5 j c
  have hok:=nx_ok (k:=(K:Int)) (c:=K) c (hl _ (List.getElem_mem h1)) h0.2 rfl
  have hi:=ih (fun t ht => by
   rw [List.map_append,List.mem_append] at ht
   rcases ht with ht | ht
   ·exact hok t (by rw [hx];exact ht)
   ·exact hk t (by simp only [List.map_cons,List.mem_cons];exact .inr ht))
  refine .step i j _ _ _ _ l[i] (by simp [hm]) hI h5 ?_
  rw [hx]
  rw [List.map_append] at hi
  have em:(fun i' p => decide ((i',p) ∈ m ++ [(i,j)])) = mark (fun i p => decide ((i,p) ∈ m)) i j:=by
   funext i' p
   by_cases e:i' = i ∧ p = j
   ·simp [mark,e]
   ·simp only [mark,if_neg e]
    refine decide_eq_decide.2 ?_
    simp
    intro h1 h2
    exact absurd ⟨h1,h2⟩ e
  rw [← em]
  exact hi
theorem prog_first {t:Tn} {tx:List Int} {i:Nat} {l:List (Int × List Int)} (hc:errC t = 0) (hp:errP t tx.length (i:Int) = 0) (hS:PS t.spread t.notes tx i l):∃ r,EvT (progT t) tx [.go 0 i] (fun _ _ => false) (List.replicate t.notes (-1)) r ∧ ((r = none ∧ l = []) ∨ ∃ q c rest,r = some (0,c) ∧ l = (q,c) :: rest):=by
 obtain ⟨hf,hn,hl⟩:=errC_facts hc
 obtain ⟨p1,p2,p3,p4,p5⟩:=errP_parts hp
 have hK:(t.notes:Int) = 2 + 2 * t.top:=by rw [top_gi];have:=(fine_gi t hf).1;simp only [Tn.notes];omega
 have hN:=nf_S t hf
 have f3:=(spread_ok t.S hN.fine).2
 rw [hN.spread_eq] at f3
 obtain ⟨lb,hb⟩:=PS.of_sf hN.fine f3 (by omega) t.notes tx i (by omega)
 have e2:=PS.simp_eq hf hS hb
 subst e2
 obtain ⟨M',r,hd,ho⟩:=df_first hf (by omega) hb
 obtain ⟨n,hev⟩:=df_ev1 hd
 have hm:=prog_may hf (by omega)
 rw [← hK] at hm
 have hall:∀ I ∈ progT t,I.okB (progT t).length (t.notes:Int) = true:=by
  simp only [mayB,Bool.and_eq_true,List.all_eq_true] at hm
  exact hm.2
 have hpos:0 < (progT t).length:=by simp [progT]
 have h2:=ev_evt hall hev (fun t ht => by simp [Tk.t] at ht;subst ht;exact ⟨hpos,by omega⟩)
 refine ⟨r,?_,ho⟩
 have em:(fun i p => decide ((i,p) ∈ ([]:List Pt))) = (fun (_ _:Nat) => false):=by funext i p;simp
 rw [em] at h2
 exact h2
end Go.Proofs.YtacaanhnlfpbhaaGreat
namespace Go.Proofs.YtacaanhnlfpbhaaGreat
open Go.RowKit
set_option linter.unusedVariables false
set_option linter.unusedSimpArgs false
theorem info3j:(Tryz.prog.info? 3).map (fun i => (i.zero,i.size,i.bytes)) = some (some (.int .i64 0),1,8):=by kernel_rfl
theorem make3T (c:Nat) (hc:c ≤ 1000000) (w:World):(Instr.makeSlice 26 (.int .i64 (c:Int)) (.int .i64 (c:Int))).run Tryz.prog w = .ok (.slice (some ⟨w.heap.size,0,none⟩) c c) (w.alloc (.cells (madeCells #[.int .i64 0] c) 3)):=by
 obtain ⟨i0,hi0,hz0,hz1,hz2⟩:=info_parts info3j
 have h:=run_make (P:=Tryz.prog) w 26 3 i0 (.int .i64 0) Tryz.underlying26 hi0 hz0 .i64 .i64 c c (by omega) (by omega) (by rw [hz2];omega) (by omega)
 simp only [Int.toNat_natCast,hz1,Nat.mul_one] at h
 exact h
end Go.Proofs.YtacaanhnlfpbhaaGreat
