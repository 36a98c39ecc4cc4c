/- HELPERS: texts of ours put together. -/
import Derived.Test.YtacaanhnlfpbhaaGreatK33
import Derived.Test.YtacaanhnlfpbhaaGreatK17
import Derived.Test.YtacaanhnlfpbhaaGreatK38
import Derived.Test.YtacaanhnlfpbhaaGreatK32
import Derived.Test.YtacaanhnlfpbhaaGreatK35
import Derived.Test.YtacaanhnlfpbhaaGreatK09
namespace Go.Proofs.YtacaanhnlfpbhaaGreat
open Go.RowKit
set_option linter.unusedVariables false
set_option linter.unusedSimpArgs false
abbrev F4T (q1:Option Addr) (q3:Nat):List Value:=Iv.cs ⟨3,1,0,0,none,0,0⟩ ++ Iv.cs ⟨1,2,0,0,q1,1,q3⟩ ++ Iv.cs ⟨3,3,0,1,none,0,0⟩ ++ Iv.cs ⟨5,0,0,0,none,0,0⟩
abbrev Bz3 (w:World) (b:Nat):Prop:=w.heap[b]?=some (.cells #[.slice none 0 0,.int .i64 0,.int .i64 0] 46 (0,0))
set_option maxRecDepth 100000 in
set_option maxHeartbeats 8000000 in
theorem compile20 {w:World} {r1:Option Addr} {r3:Nat} (hr:RowAt w.heap.size w (.slice r1 1 r3) [(97,97)]) (h3:1≤r3∧r3≤maxLen) :
  Calls Tryz.prog 24 #[(CN r1 1 r3).v] w fun e w'=>∃ z1 c q1 q3,e=.returned (.tuple #[pv z1 4 c 0 2,.int .i64 0])∧w'.ownsRow w.heap.size 86 5 (.slice z1 4 c) 4 (F4T q1 q3)∧w'.ownsRow w.heap.size 70 2 (.slice q1 1 q3) 1 (O2 [(97,97)])∧Below w.heap.size w w':=by
 obtain ⟨U,hU⟩:∃ U,U=(w.alloc (.cells (Array.mk (CN r1 1 r3).cs) 25)).alloc (.cells #[.slice none 0 0,.int .i64 0,.int .i64 0] 46):=⟨_,rfl⟩
 have hbU:Below w.heap.size w U:=by rw [hU];exact below_two' w _ _
 have hX:BxC U w.heap.size r1 1 r3:=by rw [hU];exact (heap_alloc_old _ _ (by simp)).trans (heap_alloc_new w _)
 have hY:Bz3 U (w.heap.size + 1):=by rw [hU];exact two_new w _ _ _
 have hyU:w.heap.size + 1 < U.heap.size:=(Array.getElem?_eq_some_iff.1 hY).1
 have HRU:=hid (hr.below hbU (Nat.le_refl _) hbU.size)
 have HS:=sound29g (ct_ti HRU.out h3)
 rw [if_pos ct_sound] at HS
 have HB0:=hid hbU
 have HX0:=hid hX
 have HY0:=hid hY
 obtain ⟨y,hy⟩:∃ y,y=w.heap.size + 1:=⟨_,rfl⟩
 obtain ⟨x,hx⟩:∃ x,x=w.heap.size:=⟨_,rfl⟩
 clear hr hbU hX hY
 go_enter Tryz.func24,Tryz.ntmps24
 go_upto_region 1 with fail
 rw [← hU,← hy,← hx]
 rw [← hy] at HY0 hyU
 rw [← hx] at HX0 HB0 hy
 have HXE:=hid hx
 have hxy:x < y:=by omega
 clear hU hy hx
 obtain ⟨c0,c1,c2,c3,c4,c5,c6,c7,c8⟩:=ninec HX0.out
 go_upto_region 3 with (go_at_call 42;(with_reducible refine HS.mono ?_);rintro e U1 ⟨rfl,hb⟩;have HB1:=hid hb;clear hb HS)
 clear c0 c1 c2 c3 c4 c5 c6 c7 c8
 have HX1:Hid (BxC U1 x r1 1 r3):=(HB1.out.block x (by omega)).trans HX0.out
 have HY1:Hid (Bz3 U1 y):=(HB1.out.block y hyU).trans HY0.out
 have hy1:y < U1.heap.size:=Nat.lt_of_lt_of_le hyU HB1.out.size
 have HW:=whole29c r1 1 r3 U1
 obtain ⟨c0,c1,c2,c3,c4,c5,c6,c7,c8⟩:=ninec HX1.out
 go_upto_region 6 with (go_at_call 51;(with_reducible refine HW.mono ?_);rintro e U2 ⟨rfl,hb⟩;have HB2:=hid hb;clear hb HW)
 clear c0 c1 c2 c3 c4 c5 c6 c7 c8
 have HX2:Hid (BxC U2 x r1 1 r3):=(HB2.out.block x (by omega)).trans HX1.out
 have HY2:Hid (Bz3 U2 y):=(HB2.out.block y hy1).trans HY1.out
 have hy2:y < U2.heap.size:=Nat.lt_of_lt_of_le hy1 HB2.out.size
 have HR2:=hid ((HRU.out.below HB1.out (Nat.le_refl _) HB1.out.size).below HB2.out (Nat.le_refl _) HB2.out.size)
 have HC:=simplify30 HR2.out h3
 have HBx:Hid (Below x w U2):=(HB0.out.trans (Joins.below_le HB1.out (by omega))).trans (Joins.below_le HB2.out (by omega))
 obtain ⟨c0,c1,c2,c3,c4,c5,c6,c7,c8⟩:=ninec HX2.out
 go_upto_region 9 with (go_at_call 52;(with_reducible refine HC.mono ?_);rintro e W3 ⟨q1,q3,rfl,hrow,hb⟩;have HR3:=hid hrow;have HB3:=hid hb;clear hrow hb HC)
 clear c0 c1 c2 c3 c4 c5 c6 c7 c8 HX1 HY1 HX0 HY0 HB0 HRU HR2 HB1 HB2
 obtain ⟨U3,hU3⟩:∃ U3,U3=W3.alloc (.cells (Array.mk (CN q1 1 q3).cs) 25):=⟨_,rfl⟩
 rw [← hU3]
 have HB23:Hid (Below U2.heap.size U2 U3):=by rw [hU3];exact HB3.out.alloc HB3.out.size _
 have hZ:BxC U3 W3.heap.size q1 1 q3:=by rw [hU3];exact heap_alloc_new W3 _
 have HRO:Hid (U3.ownsRow U2.heap.size 70 2 (.slice q1 1 q3) 1 (O2 [(97,97)])):=by rw [hU3];exact HR3.out.alloc _
 obtain ⟨z,hz⟩:∃ z,z=W3.heap.size:=⟨_,rfl⟩
 rw [← hz] at hZ ⊢
 have HZ:=hid hZ
 have HX3:Hid (BxC U3 x r1 1 r3):=(HB23.out.block x (by omega)).trans HX2.out
 have HY3:Hid (Bz3 U3 y):=(HB23.out.block y hy2).trans HY2.out
 have hy3:y < U3.heap.size:=Nat.lt_of_lt_of_le hy2 HB23.out.size
 have hz3:z < U3.heap.size:=(Array.getElem?_eq_some_iff.1 hZ).1
 have HB3x:Hid (Below x w U3):=HBx.out.trans (Joins.below_le HB23.out (by omega))
 clear hU3 hz hZ HB3 HR3 HX2 HY2 HBx
 have HN:=newRow31 U3
 go_upto_region 10 with (go_at_call 53;(with_reducible refine HN.mono ?_);rintro e W4 ⟨z1,cc,rfl,hrow,hb⟩;have HR4:=hid hrow;have HB4:=hid hb;clear hrow hb HN)
 obtain ⟨U4,hU4⟩:∃ U4,U4=W4.alloc (.cells #[.slice z1 0 cc] 93):=⟨_,rfl⟩
 rw [← hU4]
 have HB34:Hid (Below U3.heap.size U3 U4):=by rw [hU4];exact HB4.out.alloc HB4.out.size _
 have hM4:MK U4 W4.heap.size x 0 []:=⟨z1,cc,by rw [hU4];exact heap_alloc_new W4 _,by rw [hU4];exact (HR4.out.mono (base':=x) (by omega)).alloc _⟩
 have hm4:U3.heap.size≤W4.heap.size:=HB4.out.size
 obtain ⟨m,hm⟩:∃ m,m=W4.heap.size:=⟨_,rfl⟩
 rw [← hm] at hM4 hm4 ⊢
 have HX4:Hid (BxC U4 x r1 1 r3):=(HB34.out.block x (by omega)).trans HX3.out
 have HY4:Hid (Bz3 U4 y):=(HB34.out.block y hy3).trans HY3.out
 have HZ4:Hid (BxC U4 z q1 1 q3):=(HB34.out.block z hz3).trans HZ.out
 have HRO4:Hid (U4.ownsRow U2.heap.size 70 2 (.slice q1 1 q3) 1 (O2 [(97,97)])):=row_kept HRO.out (fun b hb=>HB34.out.block b (HRO.out.lt b hb).2)
 have HB4x:Hid (Below x w U4):=HB3x.out.trans (Joins.below_le HB34.out (by omega))
 have hx4:x≤U4.heap.size:=by have:=HB34.out.size;omega
 have HL:=whole32 q1 q3 hM4 (by omega) hx4
 clear hU4 hm hM4 HR4 HB4 HX3 HY3 HZ HRO HB3x
 obtain ⟨c0,c1,c2,c3,c4,c5,c6,c7,c8⟩:=ninec HZ4.out
 go_upto_region 11 with (go_at_call 54;(with_reducible refine HL.mono ?_);rintro e U5 ⟨rfl,hM,hf⟩;have HM5:=hid hM;have HF5:=hid hf;clear hM hf HL)
 clear c0 c1 c2 c3 c4 c5 c6 c7 c8
 obtain ⟨n1,nc,hbm,hrow5⟩:=HM5.out
 have HX5:Hid (BxC U5 x r1 1 r3):=HF5.out.blk x _ _ _ HX4.out (by decide) (by decide)
 have HY5:Hid (Bz3 U5 y):=HF5.out.blk y _ _ _ HY4.out (by decide) (by decide)
 have hrq:U5.ownsRow U2.heap.size 70 2 (.slice q1 1 q3) 1 (O2 [(97,97)]):=by
  rcases HRO4.out.2 with ⟨_,h0⟩ | ⟨b,cap,cur,e,hb,hg,rest⟩
  ·simp at h0
  ·exact row_kept HRO4.out (fun b' hb'=>by rw [e] at hb';cases hb';rw [HF5.out.blk b _ _ _ hg (by decide) (by decide),hg])
 have HRQ:=hid hrq
 have HR5:=hid hrow5
 have HBM:=hid hbm
 have p0:U5.cell? ⟨m,0,none⟩=some (.slice n1 4 nc):=Joins.cell_of_block hbm 0
 have hm5:m < U5.heap.size:=(Array.getElem?_eq_some_iff.1 hbm).1
 have hx5:x < U5.heap.size:=(Array.getElem?_eq_some_iff.1 HX5.out).1
 have hy5:y < U5.heap.size:=(Array.getElem?_eq_some_iff.1 HY5.out).1
 have HB5x:Hid (Below x w U5):=⟨HF5.out.os.trans HB4x.out.os,HF5.out.tape.trans HB4x.out.tape,HF5.out.output.trans HB4x.out.output,Nat.le_trans HB4x.out.size HF5.out.size,fun b hb=>(HF5.out.low b hb).trans (HB4x.out.block b hb)⟩
 have hyx:y≠x:=by omega
 have hym:y≠m:=by omega
 have HG:=fun W=>great33c r1 1 r3 W
 obtain ⟨c0,c1,c2,c3,c4,c5,c6,c7,c8⟩:=ninec HX5.out
 clear hrq hrow5 hbm HM5
 go_region_held3 (fun W=>W.cell? ⟨m,0,none⟩=some (.slice n1 4 nc)∧W.cell? ⟨x,0,none⟩=some (.int .i64 2)∧W.cell? ⟨x,1,none⟩=some (.slice r1 1 r3)∧W.cell? ⟨x,2,none⟩=some (.int .i64 0)∧W.cell? ⟨x,3,none⟩=some (.slice none 0 0)∧W.cell? ⟨x,4,none⟩=some (.int .i64 0)∧W.cell? ⟨x,5,none⟩=some (.int .i64 0)∧W.cell? ⟨x,6,none⟩=some (.bool false)∧W.cell? ⟨x,7,none⟩=some (.int .i64 0)∧W.cell? ⟨x,8,none⟩=some (.string ⟨#[]⟩)) (first | (exact ⟨k,k0,k1,k2,k3,k4,k5,k6,k7,k8⟩) | (go_keep;done) | (refine ⟨?_,?_,?_,?_,?_,?_,?_,?_,?_,?_⟩ <;> simp [*] <;> done) | (simp [*];done)) (first | (go_at_call 55;(with_reducible refine (HG _).mono ?_);rintro e w6 ⟨rfl,hb6⟩;have hbb:Below U5.heap.size U5 w6:=⟨hb6.os,hb6.tape,hb6.output,hb6.size,hb6.block⟩;obtain ⟨k0,k1,k2,k3,k4,k5,k6,k7,k8⟩:=ninec ((hbb.block x hx5).trans HX5.out);have k:w6.cell? ⟨m,0,none⟩=some (.slice n1 4 nc):=(cell_eq (hbb.block m hm5) 0).trans p0;have hY6:=(hbb.block y hy5).trans HY5.out;have y0:=Joins.unfrozen_of_block hY6 0;have y1:=Joins.unfrozen_of_block hY6 1;have y2:=Joins.unfrozen_of_block hY6 2;have s0:=Joins.cell_of_block hY6 0;have s1:=Joins.cell_of_block hY6 1;have s2:=Joins.cell_of_block hY6 2;have HY6:=hid hY6;have HBB:=hid hbb;clear hbb hb6 hY6))
 all_goals go_wp2_with fail
 all_goals
  have hfin:(((w6.setCell ⟨y,0,none⟩ (.slice n1 4 nc)).setCell ⟨y,1,none⟩ (.int .i64 0)).setCell ⟨y,2,none⟩ (.int .i64 2)).heap[y]?=some (.cells #[.slice n1 4 nc,.int .i64 0,.int .i64 2] 46 (0,0)):=Joins.block_setCell (i:=2) (Joins.block_setCell (i:=1) (Joins.block_setCell (i:=0) HY6.out _) _) _
  refine bodyPost_ret (results_cell_tmp rfl _ _ y 46 _ (0,0) _ rfl hfin Tryz.underlying46 rfl (by kernel_rfl)) rfl ?_
  have hBx6:Below x w w6:=HB5x.out.trans (Joins.below_le HBB.out (by omega))
  have hr6:=(row_kept HR5.out (w':=w6) (fun b hb=>HBB.out.block b (HR5.out.lt b hb).2))
  have hq6:=(row_kept HRQ.out (w':=w6) (fun b hb=>HBB.out.block b (HRQ.out.lt b hb).2))
  have hyn:(Value.slice n1 4 nc).ownBlock≠some y:=own_ne hr6 HY6.out (by decide)
  have hyq:(Value.slice q1 1 q3).ownBlock≠some y:=own_ne hq6 HY6.out (by decide)
  refine ⟨n1,nc,q1,q3,rfl,?_,?_,?_⟩
  ·rw [← HXE.out];exact own_setCell (own_setCell (own_setCell hr6 hyn) hyn) hyn
  ·rw [← HXE.out];exact (own_setCell (own_setCell (own_setCell hq6 hyq) hyq) hyq).mono (base':=x) (by omega)
  ·rw [← HXE.out];exact ((hBx6.setCell (p:=⟨y,0,none⟩) (by show x≤y;omega) _).setCell (p:=⟨y,1,none⟩) (by show x≤y;omega) _).setCell (p:=⟨y,2,none⟩) (by show x≤y;omega) _
theorem may4:mayB L4 0 2=true:=by kernel_rfl
theorem may0:mayB [] 0 0=false:=by kernel_rfl
theorem pi4T {w:World} {base:Nat} {z1 q1:Option Addr} {c q3:Nat} (h:w.ownsRow base 86 5 (.slice z1 4 c) 4 (F4T q1 q3)) (hq:RowAt w.heap.size w (.slice q1 1 q3) [(97,97)]):PI w w.heap.size z1 4 L4:=by
 refine ⟨rfl,fun _=>?_⟩
 rcases h.2 with ⟨_,h0⟩ | ⟨b,cap,cur,e,_⟩
 ·omega
 ·simp only [Value.slice.injEq] at e
  have hb:=(h.lt b (by rw [e.1];rfl)).2
  rw [e.1] at h
  have hF:F4T q1 q3=(N4 q1 q3).flatMap Iv.cs:=by simp [F4T,N4]
  refine ⟨b,0,fun i=>(N4 q1 q3).getD i default,e.1,hb,fun i hi=>⟨?_,?_⟩⟩
  ·have hi4:i < (N4 q1 q3).length:=by simpa using hi
   have f:∀ k,k < 5→w.cell? ⟨b,i * 5 + k,none⟩=(Iv.cs (N4 q1 q3)[i])[k]?:=fun k hk=>by
    rw [h.cellAt (i * 5 + k) (by simp at hi;omega),hF,flat5 (N4 q1 q3) i k hi4 hk]
   have f0:=f 0 (by omega)
   rw [Nat.add_zero] at f0
   show I5 w b 0 i ((N4 q1 q3).getD i default)
   rw [show (N4 q1 q3).getD i default=(N4 q1 q3)[i] by simp only [List.getD_eq_getElem?_getD,List.getElem?_eq_getElem hi4,Option.getD_some]]
   unfold I5
   rw [Nat.zero_add]
   exact ⟨f0,f 1 (by omega),f 2 (by omega),f 3 (by omega),f 4 (by omega)⟩
  ·have nil:∀ a b c d:Int,IM w w.heap.size ⟨a,b,c,d,none,0,0⟩ ⟨a,b,c,d,[]⟩:=fun a b c d=>⟨rfl,rfl,rfl,rfl,rfl,by show 0 * 16≤_;omega,⟨none,0,rfl,.inl rfl⟩⟩
   match i,hi with
   | 0,_=>exact nil _ _ _ _
   | 1,_=>exact ⟨rfl,rfl,rfl,rfl,rfl,by show 1 * 16≤_;omega,hq⟩
   | 2,_=>exact nil _ _ _ _
   | 3,_=>exact nil _ _ _ _
set_option maxRecDepth 100000 in
set_option maxHeartbeats 8000000 in
theorem awake7 (w:World):Calls Tryz.prog 23 #[] w fun e w'=>e=.returned (.bool true)∧Below w.heap.size w w':=by
 go_enter Tryz.func23,Tryz.ntmps23
 go_upto_region 2 with fail
 obtain ⟨U,hU⟩:∃ U,U=w.alloc (.cells #[.int .i64 97,.int .i64 97] 70):=⟨_,rfl⟩
 rw [← hU]
 have hbU:Below w.heap.size w U:=by rw [hU];exact Joins.below_alloc1 w _
 have hG:U.heap[w.heap.size]?=some (.cells #[.int .i64 97,.int .i64 97] 70 (0,0)):=by rw [hU];exact heap_alloc_new w _
 have hgU:w.heap.size < U.heap.size:=(Array.getElem?_eq_some_iff.1 hG).1
 obtain ⟨g,hg⟩:∃ g,g=w.heap.size:=⟨_,rfl⟩
 rw [← hg] at hbU hG hgU ⊢
 have HG:=hid hG
 have HB:=hid hbU
 have HGE:=hid hg
 have rowG:∀ W:World,W.heap[g]?=some (.cells #[.int .i64 97,.int .i64 97] 70 (0,0))→RowAt W.heap.size W (.slice (some ⟨g,0,none⟩) 1 1) [(97,97)]:=fun W hW =>
  ⟨some ⟨g,0,none⟩,1,rfl,.inr ⟨g,0,rfl,(Array.getElem?_eq_some_iff.1 hW).1,fun k hk=>by have:k=0:=(by simpa using hk);subst this;exact Joins.cell_of_block hW 0,fun k hk=>by have:k=0:=(by simpa using hk);subst this;exact Joins.cell_of_block hW 1⟩⟩
 have HRG:=hid rowG
 have HC:=compile20 (rowG U hG) ⟨Nat.le_refl _,by unfold maxLen;omega⟩
 clear hU hbU hG hg rowG
 go_upto_region 3 with (go_at_call 24;(with_reducible refine HC.mono ?_);rintro e W1 ⟨z1,c,q1,q3,rfl,hrow,hq,hb⟩;have HR1:=hid hrow;have HQ1:=hid hq;have HB1:=hid hb;clear hrow hq hb HC)
 obtain ⟨U1,hU1⟩:∃ U1,U1=W1.alloc (.cells #[.slice z1 4 c,.int .i64 0,.int .i64 2] 46):=⟨_,rfl⟩
 rw [← hU1]
 have HB01:Hid (Below U.heap.size U U1):=by rw [hU1];exact HB1.out.alloc HB1.out.size _
 have hX1:U1.heap[W1.heap.size]?=some (.cells #[.slice z1 4 c,.int .i64 0,.int .i64 2] 46 (0,0)):=by rw [hU1];exact heap_alloc_new W1 _
 have HR2:Hid (U1.ownsRow U.heap.size 86 5 (.slice z1 4 c) 4 (F4T q1 q3)):=by rw [hU1];exact HR1.out.alloc _
 have HQ2:Hid (U1.ownsRow U.heap.size 70 2 (.slice q1 1 q3) 1 (O2 [(97,97)])):=by rw [hU1];exact HQ1.out.alloc _
 have HP1:Hid (PI U1 U1.heap.size z1 4 L4):=pi4T HR2.out (rowAt_own HQ2.out rfl)
 have hx1:W1.heap.size < U1.heap.size:=(Array.getElem?_eq_some_iff.1 hX1).1
 obtain ⟨x,hx⟩:∃ x,x=W1.heap.size:=⟨_,rfl⟩
 rw [← hx] at hX1 hx1 ⊢
 have HX1:=hid hX1
 clear hU1 hx hX1 HR1 HQ1 HB1 HR2 HQ2
 go_upto_region 4 with fail
 obtain ⟨U2,hU2⟩:∃ U2,U2=(U1.alloc (.cells (A4 g) 86)).alloc (.cells #[.slice (some ⟨U1.heap.size,0,none⟩) 4 4,.int .i64 0,.int .i64 2] 46):=⟨_,rfl⟩
 rw [← hU2]
 have hb2:Below U1.heap.size U1 U2:=by rw [hU2];exact below_two' U1 _ _
 have hY2:U2.heap[U1.heap.size + 1]?=some (.cells #[.slice (some ⟨U1.heap.size,0,none⟩) 4 4,.int .i64 0,.int .i64 2] 46 (0,0)):=by rw [hU2];exact two_new U1 _ _ _
 have HR3:Hid (U2.ownsRow 0 86 5 (.slice (some ⟨U1.heap.size,0,none⟩) 4 4) 4 (F4T (some ⟨g,0,none⟩) 1)):=by rw [hU2];exact (World.ownsRow_lit (base:=0) (e:=86) (size:=5) U1 (A4 g) 4 (Nat.zero_le _) (by unfold maxLen;omega) rfl).alloc _
 have hG2:U2.heap[g]?=some (.cells #[.int .i64 97,.int .i64 97] 70 (0,0)):=(hb2.block g (by have:=HB01.out.size;omega)).trans ((HB01.out.block g hgU).trans HG.out)
 have HQ:Hid (PI U2 U2.heap.size (some ⟨U1.heap.size,0,none⟩) 4 L4):=pi4T HR3.out (HRG.out U2 hG2)
 have HP2:Hid (PI U2 U2.heap.size z1 4 L4):=HP1.out.kept hb2 hb2.size
 have HX2:Hid (U2.heap[x]?=some (.cells #[.slice z1 4 c,.int .i64 0,.int .i64 2] 46 (0,0))):=(hb2.block x hx1).trans HX1.out
 have HB2:Hid (Below g w U2):=(HB.out.trans (Joins.below_le HB01.out (by omega))).trans (Joins.below_le hb2 (by have:=HB01.out.size;omega))
 have hgU2:g < U2.heap.size:=(Array.getElem?_eq_some_iff.1 hG2).1
 obtain ⟨y,hy⟩:∃ y,y=U1.heap.size + 1:=⟨_,rfl⟩
 rw [← hy] at hY2 ⊢
 obtain ⟨q,hq⟩:∃ q,q=U1.heap.size:=⟨_,rfl⟩
 rw [← hq] at hY2 HQ ⊢
 have HY2:=hid hY2
 clear hU2 hb2 hY2 hG2 hy hq HR3 HP1 HX1 HB01 HB HRG HG hx1 hgU
 have HC:=same11 (c:=c) (c':=4) (s:=0) (k:=2) HP2.out HQ.out (by omega)
 obtain ⟨a0,a1,a2⟩:=three_cells HX2.out
 obtain ⟨b0,b1,b2⟩:=three_cells HY2.out
 go_upto_region 5 with (go_at_call 26;(with_reducible refine HC.mono ?_);rintro e U3 ⟨rfl,hb⟩;have HB3:=hid hb;clear hb HC)
 clear a0 a1 a2 b0 b1 b2
 have HY3:Hid (U3.heap[y]?=some (.cells #[.slice (some ⟨q,0,none⟩) 4 4,.int .i64 0,.int .i64 2] 46 (0,0))):=(HB3.out.block y (Array.getElem?_eq_some_iff.1 HY2.out).1).trans HY2.out
 have HQ3:Hid (PI U3 U3.heap.size (some ⟨q,0,none⟩) 4 L4):=HQ.out.kept HB3.out HB3.out.size
 have HBx3:Hid (Below g w U3):=HB2.out.trans (Joins.below_le HB3.out (by omega))
 have hgU3:g < U3.heap.size:=Nat.lt_of_lt_of_le hgU2 HB3.out.size
 have HC:=check10 (c:=4) (s:=0) (k:=2) HQ3.out
 rw [may4,if_pos rfl] at HC
 obtain ⟨b0,b1,b2⟩:=three_cells HY3.out
 go_upto_region 6 with (go_at_call 50;(with_reducible refine HC.mono ?_);rintro e U4 ⟨rfl,hb⟩;have HB4:=hid hb;clear hb HC)
 clear b0 b1 b2
 have HBx4:Hid (Below g w U4):=HBx3.out.trans (Joins.below_le HB4.out (by omega))
 have hgU4:g < U4.heap.size:=Nat.lt_of_lt_of_le hgU3 HB4.out.size
 have hn0:PI U4 U4.heap.size none 0 []:=⟨rfl,fun h=>absurd h (by simp)⟩
 have HC:=check10 (c:=0) (s:=0) (k:=0) hn0
 rw [may0,if_neg (by simp)] at HC
 clear hn0
 go_wp2_with (first | (go_at_call 50;(with_reducible refine HC.mono ?_);rintro e U5 ⟨rfl,hb⟩;have HB5:=hid hb;clear hb HC))
 go_ret
 refine ⟨rfl,?_⟩
 rw [← HGE.out]
 exact HBx4.out.trans (Joins.below_le HB5.out (by omega))
end Go.Proofs.YtacaanhnlfpbhaaGreat
namespace Go.Proofs.YtacaanhnlfpbhaaGreat
open Go.RowKit Go.Lk
set_option linter.unusedVariables false
set_option linter.unusedSimpArgs false
abbrev PBx (W:World) (z:Nat) (ad:Option Addr) (n c:Nat) (K:Int):Prop:=W.heap[z]?=some (.cells #[.slice ad n c,.int .i64 0,.int .i64 K] 46 (0,0))
theorem errC_great {t:Tn} (h:200000 < t.nodes):errC t=50:=by
 unfold errC
 rw [if_neg]
 intro hs
 have:=(sound_parts hs).2.2
 omega
theorem nine_cellsP {w:World} {g:Nat} {v0 v1 v2 v3 v4 v5 v6 v7 v8:Value} {t:TypeId} {fr:Nat × Nat} (h:w.heap[g]?=some (.cells #[v0,v1,v2,v3,v4,v5,v6,v7,v8] t fr)):w.cell? ⟨g,0 * 3,none⟩=some v0∧w.cell? ⟨g,1 * 3,none⟩=some v3∧w.cell? ⟨g,2 * 3,none⟩=some v6:=by
 refine ⟨?_,?_,?_⟩ <;> simp [World.cell?,h]
theorem own27P {w:World} {g o1 h1 o2 h2 o3:Nat} {pa pc pd:Option Addr} {na ca nc cc nd cd:Nat} {ia ic id:List Iv} {L L':List In} (hA:GR w o1 (.slice pa na ca) ia L) (hC:GR w o2 (.slice pc nc cc) ic L) (hD:GR w o3 (.slice pd nd cd) id L')
  (tA:∀ b,((Value.slice pa na ca).ownBlock=some b∨∃ j,j < L.length∧(ia.getD j default).rv.ownBlock=some b)→b < h1) (tC:∀ b,((Value.slice pc nc cc).ownBlock=some b∨∃ j,j < L.length∧(ic.getD j default).rv.ownBlock=some b)→b < h2)
  (h12:h1≤o2) (h22:o2≤h2) (h23:h2≤o3) (h02:o1≤o2) (hgl:g < w.heap.size) (sL:L.length≤20000∧∀ I ∈ L,I.R.length≤20000) (sL':L'.length≤20000∧∀ I ∈ L',I.R.length≤20000)
  (c0:w.cell? ⟨g,0 * 3,none⟩=some (.slice pa na ca)) (c1:w.cell? ⟨g,1 * 3,none⟩=some (.slice pc nc cc)) (c2:w.cell? ⟨g,2 * 3,none⟩=some (.slice pd nd cd)) :
  Calls Tryz.prog 27 #[.slice (some ⟨g,0,none⟩) 3 3] w fun e w'=>e=.returned (.bool true)∧Chs (fun b=>(o1≤b∧b < h1)∨(o2≤b∧b < h2)∨o3≤b) w w':=by
 have nA:na=L.length:=row_len hA.row
 have nC:nc=L.length:=row_len hC.row
 have nD:nd=L'.length:=row_len hD.row
 have loA:∀ b,((Value.slice pa na ca).ownBlock=some b∨∃ j,j < na∧(ia.getD j default).rv.ownBlock=some b)→o1≤b∧b < h1:=fun b hb=>by
  refine ⟨?_,tA b (by rw [← nA];exact hb)⟩
  rcases hb with hb | ⟨j,hj,hb⟩
  ·exact (hA.row.lt b hb).1
  ·exact (hA.low j b (by omega) hb).1
 have loC:∀ b,((Value.slice pc nc cc).ownBlock=some b∨∃ j,j < nc∧(ic.getD j default).rv.ownBlock=some b)→o2≤b∧b < h2:=fun b hb=>by
  refine ⟨?_,tC b (by rw [← nC];exact hb)⟩
  rcases hb with hb | ⟨j,hj,hb⟩
  ·exact (hC.row.lt b hb).1
  ·exact (hC.low j b (by omega) hb).1
 have loD:∀ b,((Value.slice pd nd cd).ownBlock=some b∨∃ j,j < nd∧(id.getD j default).rv.ownBlock=some b)→o3≤b:=fun b hb=>by
  rcases hb with hb | ⟨j,hj,hb⟩
  ·exact (hD.row.lt b hb).1
  ·exact (hD.low j b (by omega) hb).1
 have h:Prs3 w (pick4 pa pc pd pd) (pick4 na nc nd nd) (pick4 ca cc cd cd) (pick4 ia ic id id) (pick4 L L L' L'):=by
  refine ⟨fun i hi=>?_,fun i hi=>?_,fun i hi=>?_,fun i j b hi hj hij hb hb'=>?_⟩
  ·match i,hi with
   | 0,_=>exact hA.base0
   | 1,_=>exact hC.base0
   | 2,_=>exact hD.base0
  ·match i,hi with
   | 0,_=>show na≤20000;omega
   | 1,_=>show nc≤20000;omega
   | 2,_=>show nd≤20000;omega
  ·match i,hi with
   | 0,_=>exact sL.2
   | 1,_=>exact sL.2
   | 2,_=>exact sL'.2
  ·match i,hi,j,hj with
   | 0,_,0,_=>exact hij rfl
   | 0,_,1,_=>have:=loA b hb;have:=loC b hb';omega
   | 0,_,2,_=>have:=loA b hb;have:=loD b hb';have:=loC;omega
   | 1,_,0,_=>have:=loC b hb;have:=loA b hb';omega
   | 1,_,1,_=>exact hij rfl
   | 1,_,2,_=>have:=loC b hb;have:=loD b hb';omega
   | 2,_,0,_=>have:=loD b hb;have:=loA b hb';omega
   | 2,_,1,_=>have:=loD b hb;have:=loC b hb';omega
   | 2,_,2,_=>exact hij rfl
 refine (own27 (SS:=fun _=>0) (KK:=fun _=>0) h (g:=g) (fun i hi=>?_) hgl).mono fun e w' hh=>⟨hh.1,hh.2.os,hh.2.tape,hh.2.output,hh.2.size,fun b hb hn=>hh.2.block b hb (fun ⟨i,hi,hB⟩=>hn ?_)⟩
 ·match i,hi with
  | 0,_=>exact c0
  | 1,_=>exact c1
  | 2,_=>exact c2
 ·match i,hi,hB with
  | 0,_,hB=>exact .inl (loA b hB)
  | 1,_,hB=>exact .inr (.inl (loC b hB))
  | 2,_,hB=>exact .inr (.inr (loD b hB))
end Go.Proofs.YtacaanhnlfpbhaaGreat
