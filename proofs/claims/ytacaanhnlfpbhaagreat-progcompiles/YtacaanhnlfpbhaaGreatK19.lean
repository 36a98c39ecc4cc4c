/- HELPERS: texts of ours put together. -/
import Derived.Test.YtacaanhnlfpbhaaGreatK16
import Derived.Test.YtacaanhnlfpbhaaGreatK17
import Derived.Test.YtacaanhnlfpbhaaGreatK18
import Derived.Test.YtacaanhnlfpbhaaGreatK03
import Derived.Test.YtacaanhnlfpbhaaGreatK01
import Derived.Test.YtacaanhnlfpbhaaGreatProg
import Derived.WalkKit
import Derived.ProofKit
import Derived.BigQuiet
import Derived.WalkSmall
import Derived.Deep.QuietTactic
import Derived.Deep.RegionWith
import Derived.Laws.EntriesVeiled
import Derived.Deep.WholeRow
import Derived.Test.YtacaanhnlfpbhaaGreatK02
namespace Go.Proofs.YtacaanhnlfpbhaaGreat
open Go.RowKit
set_option linter.unusedVariables false
set_option linter.unusedSimpArgs false
theorem nfq_of {f:List (Int × Int)→List (Int × Int)} (hl:∀ L,(f L).length=L.length) {t:Tn} (h:Nf t):∀ t':Tn,t'.mapR f=t→NfQ t':=by
 have nil:∀ L,f L=[]→L=[]:=fun L e=>List.length_eq_zero_iff.1 (by rw [← hl,e];rfl)
 have mem:∀ (s' s:List Tn),mapRL f s'=s→(∀ u ∈ s,∀ t',t'.mapR f=u→NfQ t')→∀ u ∈ s',NfQ u:=fun s' s e h u hu=>h (u.mapR f) (by rw [← e,mapRL_map];exact List.mem_map_of_mem hu) u rfl
 have len:∀ (s' s:List Tn),mapRL f s'=s→s'.length=s.length:=fun s' s e=>by rw [← e,mapRL_map,List.length_map]
 induction h with
 | @leaf k R a mn mx lz ix nm hk hn =>
  rintro ⟨k',R',a',s',mn',mx',lz',ix',nm'⟩ e
  simp only [Tn.mapR,Tn.mk.injEq] at e
  obtain ⟨rfl,rfl,rfl,e4,rfl,rfl,rfl,rfl,rfl⟩:=e
  have h0:s'=[]:=List.length_eq_zero_iff.1 (by rw [len _ _ e4];rfl)
  subst h0
  have h5:=fine_kind0 hn
  refine .leaf hk ?_
  rw [← hl]
  rcases h5 with h5 | h5 | h5 | h5 <;> omega
 | @cat s h2 h hs ih =>
  rintro ⟨k',R',a',s',mn',mx',lz',ix',nm'⟩ e
  simp only [Tn.mapR,zN,Tn.mk.injEq] at e
  obtain ⟨rfl,e2,rfl,e4,rfl,rfl,rfl,rfl,rfl⟩:=e
  obtain rfl:=nil _ e2
  exact .cat (by rw [len _ _ e4];exact h2) trivial (mem s' s e4 ih)
 | @alt s h2 h hs ih =>
  rintro ⟨k',R',a',s',mn',mx',lz',ix',nm'⟩ e
  simp only [Tn.mapR,zN,Tn.mk.injEq] at e
  obtain ⟨rfl,e2,rfl,e4,rfl,rfl,rfl,rfl,rfl⟩:=e
  obtain rfl:=nil _ e2
  exact .alt (by rw [len _ _ e4];exact h2) trivial (mem s' s e4 ih)
 | @loop mn mx lz y h hy ih =>
  rintro ⟨k',R',a',s',mn',mx',lz',ix',nm'⟩ e
  simp only [Tn.mapR,loopT,Tn.mk.injEq] at e
  obtain ⟨rfl,e2,rfl,e4,rfl,rfl,rfl,rfl,rfl⟩:=e
  obtain rfl:=nil _ e2
  match s',e4 with
  | [y'],e4 =>
   simp only [mapRL,List.cons.injEq,and_true] at e4
   exact .loop h (ih y' e4)
 | @grp ix nm y hn hy ih =>
  rintro ⟨k',R',a',s',mn',mx',lz',ix',nm'⟩ e
  simp only [Tn.mapR,Tn.mk.injEq] at e
  obtain ⟨rfl,e2,rfl,e4,rfl,rfl,rfl,rfl,rfl⟩:=e
  obtain rfl:=nil _ e2
  have h5:=fine_kind0 hn
  match s',e4 with
  | [y'],e4 =>
   simp only [mapRL,List.cons.injEq,and_true] at e4
   exact .grp (by rcases h5 with h5 | h5 | h5 | h5 <;> omega) (ih y' e4)
theorem own_raise {w:World} {base lo e size n:Nat} {v:Value} {xs:List Value} (h:w.ownsRow base e size v n xs) (hb:∀ b,v.ownBlock=some b→lo≤b):w.ownsRow lo e size v n xs:=by
 rcases h.2 with ⟨h1,h2⟩ | ⟨g,cap,cur,rfl,h1,h2⟩
 ·exact ⟨h.1,.inl ⟨h1,h2⟩⟩
 ·exact ⟨h.1,.inr ⟨g,cap,cur,rfl,hb g rfl,h2⟩⟩
theorem MKLQ.gr {w0 w w':World} {m base lo:Nat} {A:Nat→Prop} {l:List In} (h:MKLQ w m base (agW w0 A) l) (hd:(l.flatMap (fun I=>hd1 I.R)).Nodup) (y:Nat) (hA:∀ b,A b→b < base) (hlo:∀ b,A b→lo≤b) (hlb:lo≤base) (hk0:∀ b,A b→w'.heap[b]?=w0.heap[b]?) (hyt:∀ arr fr,w.heap[y]?≠some (.cells arr 86 fr)) (hk:∀ b,b≠y→w'.heap[b]?=w.heap[b]?) :
  ∃ z1 c is,w.cell? ⟨m,0,none⟩=some (.slice z1 l.length c)∧GR w' lo (.slice z1 l.length c) is (l.map (In.mapR (decW w0))):=by
 obtain ⟨is,⟨z1,c,h1,h2⟩,h3,h4⟩:=h
 have hrow:w'.ownsRow base 86 5 (.slice z1 l.length c) l.length (is.flatMap Iv.cs):=row_kept h2 (fun b hb=>hk b (fun e=>by
  subst e
  rcases h2.2 with ⟨e,_⟩ | ⟨g,cap,cur,e,_,hg,_⟩
  ·rw [e] at hb;cases hb
  ·rw [e] at hb
   simp only [Value.ownBlock,Option.some.injEq] at hb
   subst hb
   exact hyt _ _ hg))
 have hbk:∀ j (hj:j < is.length) b,is[j].rv.ownBlock=some b→A b∧∃ hj':j < l.length,((b:Nat):Int) ∈ hd1 l[j].R:=fun j hj b hb=>by
  have hI:=(h4 j hj (by omega)).rp
  rcases hI with ⟨_,e,_⟩ | ⟨b',e1,e2,e3,e4,_⟩
  ·simp only [Iv.rv,e,Value.ownBlock] at hb;cases hb
  ·simp only [Iv.rv,e1,Value.ownBlock,Option.some.injEq] at hb
   subst hb
   refine ⟨e2,by omega,?_⟩
   rw [e4]
   obtain ⟨n,hn⟩:∃ n,is[j].r2=n + 1:=⟨is[j].r2 - 1,by omega⟩
   rw [hn]
   simp [lbl,hd1,List.replicate_succ]
 have hget:∀ j (hj:j < is.length),is.getD j default=is[j]:=fun j hj=>by rw [List.getD_eq_getElem?_getD,List.getElem?_eq_getElem hj];rfl
 refine ⟨z1,c,is,Joins.cell_of_block h1 0,by simp [h3],by rw [List.length_map];exact hrow.mono hlb,fun j hj=>?_,fun j j' b hj hj' hne hb hb'=>?_⟩
 ·have hjl:j < l.length:=by simpa using hj
  have hji:j < is.length:=by omega
  rw [hget j hji,List.getElem_map]
  have hI:=h4 j hji hjl
  refine ⟨hI.op,hI.x,hI.y,hI.a,by rw [hI.len];exact (decW_len _ _).symm,hI.sm,?_,fun b hb hz=>?_⟩
  ·have hl:(In.mapR (decW w0) l[j]).R.length=is[j].r2:=by rw [hI.len];exact decW_len _ _
   rw [hl]
   rcases hI.rp with ⟨e0,e1,e2,e3⟩ | ⟨b,e1,e2,e3,e4,e5⟩
   ·simp only [Iv.rv,In.mapR,e0,e1,e2,e3]
    exact ⟨rfl,.inl ⟨rfl,rfl⟩⟩
   ·have:=own_raise (lo:=lo) (row_kept e5 (w':=w') (fun b' hb'=>by cases hb';exact hk0 b e2)) (fun b' hb'=>by cases hb';exact hlo b e2)
    simp only [Iv.rv,In.mapR,e1]
    exact this
  ·have h1':=hA b (hbk j hji b hb).1
   have:=(hrow.lt b hz).1
   omega
 ·have hjl:j < l.length:=by simpa using hj
  have hjl':j' < l.length:=by simpa using hj'
  rw [hget j (by omega)] at hb
  rw [hget j' (by omega)] at hb'
  obtain ⟨_,_,m1⟩:=hbk j (by omega) b hb
  obtain ⟨_,_,m2⟩:=hbk j' (by omega) b hb'
  exact flat_apart _ l hd j j' hjl hjl' hne _ m1 m2
def progE (t:Tn):List In:=if errC t=0 then progT t else []
def kE (t:Tn):Int:=if errC t=0 then 2 + 2 * t.top else 0
abbrev CPostO (w:World) (t:Tn):Ending→World→Prop:=fun e w'=>∃ ad n c is,e=.returned (.tuple #[pv ad n c 0 (kE t),.int .i64 (errC t)])∧Below w.heap.size w w'∧GR w' w.heap.size (.slice ad n c) is (progE t)
theorem cpostO_no {w w':World} {t:Tn} {E:Int} (hE:errC t=E) (h0:E≠0) (hb:Below w.heap.size w w'):CPostO w t (.returned (.tuple #[pv none 0 0 0 0,.int .i64 E])) w':=by
 subst hE
 refine ⟨none,0,0,[],by rw [kE,if_neg h0],hb,?_⟩
 rw [progE,if_neg h0]
 exact GR.nil _ _ _ ⟨rfl,.inl ⟨rfl,rfl⟩⟩
set_option maxRecDepth 100000 in
set_option maxHeartbeats 16000000 in
theorem compileO {w:World} {N:Nv} {t:Tn} (h:TI w w.heap.size N t):Calls Tryz.prog 24 #[N.v] w (CPostO w t):=by
 obtain ⟨U,hU⟩:∃ U,U=(w.alloc (.cells #[.int .i64 N.k,.slice N.r1 N.r2 N.r3,.int .i64 N.a2,.slice N.s1 N.s2 N.s3,.int .i64 N.a4,.int .i64 N.a5,.bool N.a6,.int .i64 N.a7,.string N.a8] 25)).alloc (.cells #[.slice none 0 0,.int .i64 0,.int .i64 0] 46):=⟨_,rfl⟩
 have hbU:Below w.heap.size w U:=by rw [hU];exact below_two' w _ _
 have hX:BNo U w.heap.size N:=by rw [hU];exact (heap_alloc_old _ _ (by simp)).trans (heap_alloc_new w _)
 have hY:Bz3' U (w.heap.size + 1):=by rw [hU];exact two_new w _ _ _
 have hyU:w.heap.size + 1 < U.heap.size:=(Array.getElem?_eq_some_iff.1 hY).1
 have hTU:TI U w.heap.size N t:=h.kept fun b hb=>hbU.block b hb
 have HS:=sound29g (hTU.le hbU.size)
 have HB0:=hid hbU
 have HX0:=hid hX
 have HY0:=hid hY
 have HT0:=hid h
 obtain ⟨y,hy⟩:∃ y,y=w.heap.size + 1:=⟨_,rfl⟩
 obtain ⟨x,hx⟩:∃ x,x=w.heap.size:=⟨_,rfl⟩
 clear hbU hX hY hTU h
 have c24:∀ (W:World) (v0 v1 v2:Value),Bz3' W y→((((W.setCell ⟨y,0,none⟩ v0).setCell ⟨y,1,none⟩ v1).setCell ⟨y,2,none⟩ v2).heap[y]?=some (.cells #[v0,v1,v2] 46 (0,0))):=fun W v0 v1 v2 h=>Joins.block_setCell (i:=2) (Joins.block_setCell (i:=1) (Joins.block_setCell (i:=0) h _) _) _
 have b24:∀ (W:World) (v0 v1 v2:Value),Below w.heap.size w W→Below w.heap.size w (((W.setCell ⟨y,0,none⟩ v0).setCell ⟨y,1,none⟩ v1).setCell ⟨y,2,none⟩ v2):=fun W v0 v1 v2 h=>((h.setCell (by show _≤y;omega) _).setCell (by show _≤y;omega) _).setCell (by show _≤y;omega) _
 have C24:=hid c24
 have B24:=hid b24
 clear c24 b24
 by_cases hsd':t.sound=false
 ·rw [hsd'] at HS
  simp only [Bool.false_eq_true,if_false] at HS
  have HER:Hid (errC t=50):=by show _=_;unfold errC;rw [hsd'];rfl
  clear hsd'
  go_enter Tryz.func24,Tryz.ntmps24
  go_upto_region 1 with fail
  rw [← hU,← hy,← hx]
  rw [← hy] at HY0 hyU
  rw [← hx] at HX0
  clear hU hx hy
  obtain ⟨c0,c1,c2,c3,c4,c5,c6,c7,c8⟩:=nine' HX0.out
  go_wp2_with (first | (go_at_call 42;(with_reducible refine HS.mono ?_);rintro e U1 ⟨rfl,hb⟩;have HB1:=hid hb;have hY1:=(hb.block y hyU).trans HY0.out;have y0:=Joins.unfrozen_of_block hY1 0;have y1:=Joins.unfrozen_of_block hY1 1;have y2:=Joins.unfrozen_of_block hY1 2;have s0:=Joins.cell_of_block hY1 0;have s1:=Joins.cell_of_block hY1 1;have s2:=Joins.cell_of_block hY1 2;have HY1:=hid hY1;clear hb HS hY1))
  all_goals
   refine bodyPost_ret (results_cell_tmp rfl _ _ y 46 _ (0,0) _ rfl (C24.out _ (.slice none 0 0) (.int .i64 0) (.int .i64 0) HY1.out) Tryz.underlying46 rfl (by kernel_rfl)) rfl ?_
   exact cpostO_no HER.out (by decide) (B24.out _ _ _ _ (HB0.out.trans (Joins.below_le HB1.out HB0.out.size)))
 have hsd:t.sound=true:=by simpa using hsd'
 rw [hsd] at HS
 simp only [if_true] at HS
 clear hsd'
 have HSO:=hid hsd
 simp only [Tn.sound,Bool.and_eq_true,decide_eq_true_eq] at hsd
 obtain ⟨⟨hf,hdp⟩,hno⟩:=hsd
 have hle:=ln_le t hf hno
 go_enter Tryz.func24,Tryz.ntmps24
 go_upto_region 1 with fail
 rw [← hU,← hy,← hx]
 rw [← hy] at HY0 hyU
 rw [← hx] at HX0
 have HXE:=hid hx
 have hxy:x < y:=by omega
 clear hU hy hx
 obtain ⟨c0,c1,c2,c3,c4,c5,c6,c7,c8⟩:=nine' HX0.out
 go_upto_region 3 with (go_at_call 42;(with_reducible refine HS.mono ?_);rintro e U1 ⟨rfl,hb⟩;have HB1:=hid hb;clear hb HS)
 clear c0 c1 c2 c3 c4 c5 c6 c7 c8
 have HX1:Hid (BNo U1 x N):=(HB1.out.block x (by omega)).trans HX0.out
 have HY1:Hid (Bz3' U1 y):=(HB1.out.block y hyU).trans HY0.out
 have hy1:y < U1.heap.size:=Nat.lt_of_lt_of_le hyU HB1.out.size
 have HBw1:=hid (HB0.out.trans (Joins.below_le HB1.out HB0.out.size))
 have HW:=whole29 ((HT0.out.kept fun b hb=>HBw1.out.block b hb).le HBw1.out.size) hf hno
 obtain ⟨ln,hln⟩:∃ ln,ln=t.ln:=⟨_,rfl⟩
 rw [← hln] at HW hle
 have HLN:=hid hln
 obtain ⟨c0,c1,c2,c3,c4,c5,c6,c7,c8⟩:=nine' HX1.out
 clear hln HX0 HY0 HB0 HB1 hyU
 by_cases hbg:20000 < 3 + ln
 ·have g1:decide ((20000:Int) < 3 + (ln:Int))=true:=by simp;omega
  have HER:Hid (errC t=3):=by show _=_;unfold errC;rw [HSO.out,← HLN.out,if_pos hbg];rfl
  go_wp2_with (first | (go_at_call 51;(with_reducible refine HW.mono ?_);rintro e U2 ⟨rfl,hb⟩;have HB2:=hid hb;have hY1:=(hb.block y hy1).trans HY1.out;have y0:=Joins.unfrozen_of_block hY1 0;have y1:=Joins.unfrozen_of_block hY1 1;have y2:=Joins.unfrozen_of_block hY1 2;have s0:=Joins.cell_of_block hY1 0;have s1:=Joins.cell_of_block hY1 1;have s2:=Joins.cell_of_block hY1 2;have HY2:=hid hY1;clear hb HW hY1))
  all_goals
   refine bodyPost_ret (results_cell_tmp rfl _ _ y 46 _ (0,0) _ rfl (C24.out _ (.slice none 0 0) (.int .i64 0) (.int .i64 0) HY2.out) Tryz.underlying46 rfl (by kernel_rfl)) rfl ?_
   exact cpostO_no HER.out (by decide) (B24.out _ _ _ _ (HBw1.out.trans (Joins.below_le HB2.out HBw1.out.size)))
 have g1:decide ((20000:Int) < 3 + (ln:Int))=false:=by simp;omega
 have hEC:errC t=errS t:=by unfold errC;rw [HSO.out,← HLN.out,if_neg hbg];rfl
 go_upto_region 6 with (go_at_call 51;(with_reducible refine HW.mono ?_);rintro e U2 ⟨rfl,hb⟩;have HB2:=hid hb;clear hb HW)
 clear c0 c1 c2 c3 c4 c5 c6 c7 c8
 have HX2:Hid (BNo U2 x N):=(HB2.out.block x (by omega)).trans HX1.out
 have HY2:Hid (Bz3' U2 y):=(HB2.out.block y hy1).trans HY1.out
 have hy2:y < U2.heap.size:=Nat.lt_of_lt_of_le hy1 HB2.out.size
 have HBw2:=hid (HBw1.out.trans (Joins.below_le HB2.out HBw1.out.size))
 have HC:=simplify11 ((HT0.out.kept fun b hb=>HBw2.out.block b hb).le HBw2.out.size)
 obtain ⟨E,hE⟩:∃ E,E=errS t:=⟨_,rfl⟩
 rw [← hE] at HC hEC
 have HEE:=hid hE
 have HEC:=hid hEC
 obtain ⟨c0,c1,c2,c3,c4,c5,c6,c7,c8⟩:=nine' HX2.out
 clear HX1 HY1 HB2 HBw1 hE hEC g1
 go_upto_region 7 with (go_at_call 52;(with_reducible refine HC.mono ?_);rintro e W3 ⟨M,rfl,AA,hTO,hAA,hb⟩;have HTO:=hid hTO;have HAA:=hid hAA;have HB3:=hid hb;clear hTO hAA hb HC)
 clear c0 c1 c2 c3 c4 c5 c6 c7 c8
 obtain ⟨U3,hU3⟩:∃ U3,U3=W3.alloc (.cells #[.int .i64 M.k,.slice M.r1 M.r2 M.r3,.int .i64 M.a2,.slice M.s1 M.s2 M.s3,.int .i64 M.a4,.int .i64 M.a5,.bool M.a6,.int .i64 M.a7,.string M.a8] 25):=⟨_,rfl⟩
 rw [← hU3]
 have HB23:Hid (Below U2.heap.size U2 U3):=by rw [hU3];exact HB3.out.alloc HB3.out.size _
 have hZ:BNo U3 W3.heap.size M:=by rw [hU3];exact heap_alloc_new W3 _
 have hU3s:U3.heap.size=W3.heap.size + 1:=by rw [hU3];simp
 have HT3:Hid (TO U3 M (simT t) AA):=by rw [hU3];exact HTO.out.kept (fun b hb=>heap_alloc_old _ _ (HTO.out.low b hb))
 have HAl:Hid (∀ b,AA b→U2.heap.size≤b∧b < W3.heap.size):=fun b hb=>⟨HAA.out b hb,HTO.out.low b hb⟩
 obtain ⟨z,hz⟩:∃ z,z=W3.heap.size:=⟨_,rfl⟩
 rw [← hz] at hZ hU3s HAl ⊢
 have HZ:=hid hZ
 have HX3:Hid (BNo U3 x N):=(HB23.out.block x (by omega)).trans HX2.out
 have HY3:Hid (Bz3' U3 y):=(HB23.out.block y hy2).trans HY2.out
 have hy3:y < U3.heap.size:=Nat.lt_of_lt_of_le hy2 HB23.out.size
 have HBw3:=hid (HBw2.out.trans (Joins.below_le HB23.out HBw2.out.size))
 have hwU2:w.heap.size≤U2.heap.size:=HBw2.out.size
 clear hU3 hz hZ HB3 HX2 HY2 HBw2 HTO HAA HB23
 by_cases hE0:E≠0
 ·have g1:(E == 0)=false:=by simp [hE0]
  have hY1:=HY3.out
  have y0:=Joins.unfrozen_of_block hY1 0
  have y1:=Joins.unfrozen_of_block hY1 1
  have y2:=Joins.unfrozen_of_block hY1 2
  have s0:=Joins.cell_of_block hY1 0
  have s1:=Joins.cell_of_block hY1 1
  have s2:=Joins.cell_of_block hY1 2
  clear hY1
  go_wp2
  all_goals
   refine bodyPost_ret (results_cell_tmp rfl _ _ y 46 _ (0,0) _ rfl (C24.out _ (.slice none 0 0) (.int .i64 0) (.int .i64 0) HY3.out) Tryz.underlying46 rfl (by kernel_rfl)) rfl ?_
   exact cpostO_no HEC.out hE0 (B24.out _ _ _ _ HBw3.out)
 have hE0:E=0:=by simpa using hE0
 subst hE0
 have hsim:simT t=t.S:=by unfold simT;rw [← HEE.out,if_pos rfl]
 have hlen:t.S.len=ln:=by
  have:=ln_len t hf
  rw [← HLN.out] at this
  omega
 have hTL:=HT3.out
 rw [hsim] at hTL
 obtain ⟨t',hmap,hT3',hhd,hhA⟩:=hTL.lab
 have hNQ:=nfq_of (decW_len U3) (nf_S t hf) t' hmap
 have hlen':t'.len=t.S.len:=by rw [← hmap,mapR_len]
 have HT3':=hid hT3'
 have HNF:=hid hNQ
 have HMAP:=hid hmap
 have HHD:=hid hhd
 clear hTL hT3' hNQ hmap hhd hhA
 have hk3:(3:Int) + (ln:Int)=((3 + ln:Nat):Int):=by push_cast;rfl
 have HN:=newRow31g (3 + ln) (by omega) U3
 rw [← hk3] at HN
 clear hsim HT3 hk3
 go_upto_region 10 with (go_at_call 53;(with_reducible refine HN.mono ?_);rintro e W4 ⟨z1,cc,rfl,hrow,hb⟩;have HR4:=hid hrow;have HB4:=hid hb;clear hrow hb HN)
 obtain ⟨U4,hU4⟩:∃ U4,U4=W4.alloc (.cells #[.slice z1 0 cc] 93):=⟨_,rfl⟩
 rw [← hU4]
 have HB34:Hid (Below U3.heap.size U3 U4):=by rw [hU4];exact HB4.out.alloc HB4.out.size _
 have hA4:∀ b,AA b→b < U3.heap.size:=fun b hb=>by have:=(HAl.out b hb).2;omega
 have hM4:MKLQ U4 W4.heap.size U3.heap.size (agW U3 AA) []:=⟨[],⟨z1,cc,by rw [hU4];exact heap_alloc_new W4 _,by rw [hU4];exact HR4.out.alloc _⟩,rfl,fun k hk=>by simp at hk⟩
 have hm4:U3.heap.size≤W4.heap.size:=HB4.out.size
 obtain ⟨m,hm⟩:∃ m,m=W4.heap.size:=⟨_,rfl⟩
 rw [← hm] at hM4 hm4 ⊢
 have HX4:Hid (BNo U4 x N):=(HB34.out.block x (by omega)).trans HX3.out
 have HY4:Hid (Bz3' U4 y):=(HB34.out.block y hy3).trans HY3.out
 have HZ4:Hid (BNo U4 z M):=(HB34.out.block z (by omega)).trans HZ.out
 have HBw4:=hid (HBw3.out.trans (Joins.below_le HB34.out HBw3.out.size))
 have HL:=whole32gQ (A:=agW U3 AA) hA4 HNF.out hM4 hm4 HB34.out.size (HT3'.out.kept (fun b hb=>HB34.out.block b (hA4 b hb)) (fun _ h=>h)) (by omega)
 have HA4:=hid hA4
 clear hU4 hm hM4 HR4 HB4 HX3 HY3 HZ hA4 HT3'
 obtain ⟨c0,c1,c2,c3,c4,c5,c6,c7,c8⟩:=nine' HZ4.out
 go_upto_region 11 with (go_at_call 54;(with_reducible refine HL.mono ?_);rintro e U5 ⟨rfl,hM,hf5⟩;have HM5:=hid hM;have HF5:=hid hf5;clear hM hf5 HL)
 clear c0 c1 c2 c3 c4 c5 c6 c7 c8
 have HX5:Hid (BNo U5 x N):=HF5.out.blk x _ _ _ HX4.out (by decide) (by decide)
 have HY5:Hid (Bz3' U5 y):=HF5.out.blk y _ _ _ HY4.out (by decide) (by decide)
 have hx5:x < U5.heap.size:=(Array.getElem?_eq_some_iff.1 HX5.out).1
 have hy5:y < U5.heap.size:=(Array.getElem?_eq_some_iff.1 HY5.out).1
 have hm5:=HM5.out.lt
 have HB5x:Hid (Below w.heap.size w U5):=⟨HF5.out.os.trans HBw4.out.os,HF5.out.tape.trans HBw4.out.tape,HF5.out.output.trans HBw4.out.output,Nat.le_trans HBw4.out.size HF5.out.size,fun b hb=>(HF5.out.low b (by have:=HBw3.out.size;omega)).trans (HBw4.out.block b hb)⟩
 obtain ⟨n1,nc,p0⟩:=HM5.out.cell
 have hpl:((⟨3,1,0,0,[]⟩:In) :: (t'.lay 1 ++ [⟨3,((t'.len + 2:Nat):Int),0,1,[]⟩,⟨5,0,0,0,[]⟩])).length=ln + 3:=by simp [lay_len];omega
 rw [hpl] at p0
 obtain ⟨lq,hlq⟩:∃ lq,lq=((⟨3,1,0,0,[]⟩:In) :: (t'.lay 1 ++ [⟨3,((t'.len + 2:Nat):Int),0,1,[]⟩,⟨5,0,0,0,[]⟩])):=⟨_,rfl⟩
 have HMP:Hid (MKLQ U5 m U3.heap.size (agW U3 AA) lq):=by rw [hlq];exact HM5.out
 have HLQ:Hid (lq.length=ln + 3∧lq.map (In.mapR (decW U3))=progT t∧(lq.flatMap (fun I=>hd1 I.R)).Nodup):=by
  rw [hlq]
  refine ⟨hpl,?_,?_⟩
  ·unfold progT
   rw [← HMAP.out,mapR_lay (decW_len U3) (decW_nil U3),mapR_len]
   simp [In.mapR,decW_nil]
  ·simp only [List.flatMap_cons,List.flatMap_append,List.flatMap_nil,hd1_nil,heads_lay,List.nil_append,List.append_nil]
   exact HHD.out
 have htf:=top_fine t hf
 have HG:Hid (∀ W,Below U5.heap.size U5 W→Calls Tryz.prog 55 #[N.v] W fun e w'=>e=.returned (.int .i64 t.top)∧Below W.heap.size W w'):=fun W hW=>great33 (HT0.out.kept (w':=W) fun b hb=>(hW.block b (by have:=HB5x.out.size;omega)).trans (HB5x.out.block b hb)) hf hno W (by have:=HB5x.out.size;have:=hW.size;omega) (fun _ _=>rfl)
 obtain ⟨top,htop⟩:∃ top,top=t.top:=⟨_,rfl⟩
 rw [← htop] at HG htf
 have HTOP:=hid htop
 have w1:IntKind.i64.wrap (2 * top)=2 * top:=by simp [IntKind.wrap,IntKind.bits,IntKind.signed];omega
 have w2:IntKind.i64.wrap (2 + 2 * top)=2 + 2 * top:=by simp [IntKind.wrap,IntKind.bits,IntKind.signed];omega
 have hyx:y≠x:=by omega
 have hym:y≠m:=by omega
 obtain ⟨c0,c1,c2,c3,c4,c5,c6,c7,c8⟩:=nine' HX5.out
 clear htop hpl HM5 hlq
 go_region_held3 (fun W=>W.cell? ⟨m,0,none⟩=some (.slice n1 (ln + 3) nc)∧W.cell? ⟨x,0,none⟩=some (.int .i64 N.k)∧W.cell? ⟨x,1,none⟩=some (.slice N.r1 N.r2 N.r3)∧W.cell? ⟨x,2,none⟩=some (.int .i64 N.a2)∧W.cell? ⟨x,3,none⟩=some (.slice N.s1 N.s2 N.s3)∧W.cell? ⟨x,4,none⟩=some (.int .i64 N.a4)∧W.cell? ⟨x,5,none⟩=some (.int .i64 N.a5)∧W.cell? ⟨x,6,none⟩=some (.bool N.a6)∧W.cell? ⟨x,7,none⟩=some (.int .i64 N.a7)∧W.cell? ⟨x,8,none⟩=some (.string N.a8)) (first | (exact ⟨k,k0,k1,k2,k3,k4,k5,k6,k7,k8⟩) | (go_keep;done) | (refine ⟨?_,?_,?_,?_,?_,?_,?_,?_,?_,?_⟩ <;> simp [*] <;> done) | (simp [*];done)) (first | (go_at_call 55;(with_reducible refine (HG.out _ ?_).mono ?_);(first | exact drew_below _ | exact ⟨rfl,rfl,rfl,Nat.le_refl _,fun _ _=>rfl⟩);rintro e w6 ⟨rfl,hb6⟩;have hbb:Below U5.heap.size U5 w6:=⟨hb6.os,hb6.tape,hb6.output,hb6.size,hb6.block⟩;obtain ⟨k0,k1,k2,k3,k4,k5,k6,k7,k8⟩:=nine' ((hbb.block x hx5).trans HX5.out);have k:w6.cell? ⟨m,0,none⟩=some (.slice n1 (ln + 3) nc):=(cell_eq (hbb.block m hm5) 0).trans p0;have hY6:=(hbb.block y hy5).trans HY5.out;have y0:=Joins.unfrozen_of_block hY6 0;have y1:=Joins.unfrozen_of_block hY6 1;have y2:=Joins.unfrozen_of_block hY6 2;have s0:=Joins.cell_of_block hY6 0;have s1:=Joins.cell_of_block hY6 1;have s2:=Joins.cell_of_block hY6 2;have HY6:=hid hY6;have HBB:=hid hbb;clear hbb hb6 hY6))
 all_goals go_wp2_with fail
 all_goals
  refine bodyPost_ret (results_cell_tmp rfl _ _ y 46 _ (0,0) _ rfl (C24.out _ (.slice n1 (ln + 3) nc) (.int .i64 0) (.int .i64 (2 + 2 * top)) HY6.out) Tryz.underlying46 rfl (by kernel_rfl)) rfl ?_
  have hBx6:Below w.heap.size w w6:=HB5x.out.trans (Joins.below_le HBB.out HB5x.out.size)
  have hM6:MKLQ w6 m U3.heap.size (agW U3 AA) lq:=HMP.out.below HBB.out HA4.out (by have:=HB34.out.size;have:=HF5.out.size;omega)
  have hset:∀ b,b≠y→((((w6.setCell ⟨y,0,none⟩ (.slice n1 (ln + 3) nc)).setCell ⟨y,1,none⟩ (.int .i64 0)).setCell ⟨y,2,none⟩ (.int .i64 (2 + 2 * top))).heap[b]?=w6.heap[b]?):=fun b hb=>(Below.heap_setCell _ _ _ _ hb).trans ((Below.heap_setCell _ _ _ _ hb).trans (Below.heap_setCell _ _ _ _ hb))
  obtain ⟨z1',c',is,e1,hG⟩:=hM6.gr (w':=((w6.setCell ⟨y,0,none⟩ (.slice n1 (ln + 3) nc)).setCell ⟨y,1,none⟩ (.int .i64 0)).setCell ⟨y,2,none⟩ (.int .i64 (2 + 2 * top))) (lo:=w.heap.size) HLQ.out.2.2 y HA4.out (fun b hb=>by have:=(HAl.out b hb).1;omega) (by have:=HBw3.out.size;omega) (fun b hb=>by
   have hlt:=HA4.out b hb
   have hge:=(HAl.out b hb).1
   rw [hset b (by omega),HBB.out.block b (by have:=HB34.out.size;have:=HF5.out.size;omega),HF5.out.low b hlt,HB34.out.block b hlt]) (fun arr fr e=>by rw [HY6.out] at e;cases e) hset
  rw [HLQ.out.1] at e1 hG
  rw [HLQ.out.2.1] at hG
  rw [k] at e1
  simp only [Option.some.injEq,Value.slice.injEq,true_and] at e1
  obtain ⟨rfl,rfl⟩:=e1
  refine ⟨n1,ln + 3,nc,is,?_,B24.out _ _ _ _ hBx6,?_⟩
  ·rw [kE,if_pos HEC.out,HEC.out,HTOP.out];rfl
  ·rw [progE,if_pos HEC.out]
   exact hG
end Go.Proofs.YtacaanhnlfpbhaaGreat
namespace Go.Proofs.YtacaanhnlfpbhaaGreat
open Go Go.RowKit
set_option linter.unusedVariables false
section
variable {P:Program} {ops:Array Oper} {Q:Exit→Act→World→Prop} {md:Region.Mode} {S:World→Prop} {L:Nat}
def lexK (md:Region.Mode) (ops:Array Oper) (L:Nat):List Nat→Array Bool→Bool
 | [],_=>true
 | k :: ks,listed=>(Region.ready md ops listed).contains k && Region.free md ops listed k && Region.waitsFor md ops L k && lexK md ops L ks (listed.setIfInBounds k true)
def marksK:List Nat→Array Bool→Array Bool
 | [],listed=>listed
 | k :: ks,listed=>marksK ks (listed.setIfInBounds k true)
def seqK (md:Region.Mode) (ops:Array Oper):List Nat→Array Bool→Bool
 | [],listed=>(Region.ready md ops listed).isEmpty
 | k :: ks,listed=>decide (Region.ready md ops listed=[k]) && seqK md ops ks (listed.setIfInBounds k true)
def opsAt (ops:Array Oper):List Nat→List Oper
 | []=>[]
 | k :: ks=>match ops[k]? with | some o=>o :: opsAt ops ks | none=>opsAt ops ks
def opsNo (ops:Array Oper):List Nat→List (Nat × Oper)
 | []=>[]
 | k :: ks=>match ops[k]? with | some o=>(k,o) :: opsNo ops ks | none=>opsNo ops ks
theorem wpAnyX_lexK {g:Nat} {w:World} (hsel:Region.noSelect ops=true) (hS:S w) :
  ∀ (ks:List Nat) (listed:Array Bool) (a:Act),lexK md ops L ks listed=true →
  wpLex P ops Q S (fun a'=>wpAnyX P md ops Q S L g (marksK ks listed) a' w) (opsAt ops ks) a→wpAnyX P md ops Q S L (ks.length + g) listed a w
 | [],listed,a,_,h=>by simpa [marksK,opsAt,wpLex] using h
 | k :: ks,listed,a,hB,h=>by
  simp only [lexK,Bool.and_eq_true] at hB
  obtain ⟨⟨⟨hr,hf⟩,hL⟩,hB'⟩:=hB
  have hr':k ∈ Region.ready md ops listed:=by simpa using hr
  obtain ⟨_,o,h0,_⟩:=mem_ready.1 hr'
  simp only [opsAt,h0] at h
  obtain ⟨v,hy,hQ,hK⟩:=h
  rw [show (k :: ks).length + g=(ks.length + g) + 1 by simp only [List.length_cons];omega]
  exact wpAnyX_first h0 (Region.noSelect_spec hsel) hQ hL (ks.length + g) listed a w (Region.free_spec h0 hf) hr' hy hS
   (wpAnyX_lexK hsel hS ks _ _ hB' hK)
def wpTailK (P:Program) (ops:Array Oper) (Q:Exit→Act→World→Prop) (S:World→Prop) (L:Nat):List (Nat × Oper)→Act→World→Prop
 | [],a,w=>Q .normal a w
 | (k,o) :: l,a,w=>∀ K:Act→World→Prop,Hid (∀ a' w',(k≠L→S w')→wpTailK P ops Q S L l a' w'→K a' w')→if Region.wanted o (yielded ops a.tmps)=true then Oper.wp P o a w K Q else K (a.put o.dst undef) w
theorem tailK_cons {o:Oper} {l:List (Nat × Oper)} {k:Nat} {a:Act} {w:World} (h:∀ K:Act→World→Prop,Hid (∀ a' w',(k≠L→S w')→wpTailK P ops Q S L l a' w'→K a' w')→if Region.wanted o (yielded ops a.tmps)=true then Oper.wp P o a w K Q else K (a.put o.dst undef) w):wpTailK P ops Q S L ((k,o) :: l) a w:=h
theorem tailK_nil {a:Act} {w:World} (h:Q .normal a w):wpTailK P ops Q S L [] a w:=h
theorem wpAnyX_of_tailK:∀ (js:List Nat) (listed:Array Bool) (a:Act) (w:World),
  seqK md ops js listed=true→wpTailK P ops Q S L (opsNo ops js) a w→wpAnyX P md ops Q S L js.length listed a w
 | [],_,_,_,hB,h=>⟨by simpa [seqK] using hB,h⟩
 | k :: js,listed,a,w,hB,h=>by
  simp only [seqK,Bool.and_eq_true,decide_eq_true_eq] at hB
  have hr:k ∈ Region.ready md ops listed:=by rw [hB.1];simp
  obtain ⟨_,o,h0,_⟩:=mem_ready.1 hr
  simp only [opsNo,h0] at h
  refine ⟨fun h1=>absurd (hB.1.symm.trans h1) (by simp),fun j hj=>?_⟩
  rw [hB.1] at hj
  have:j=k:=by simpa using hj
  subst this
  have h1:=h (fun a' w'=>(j≠L→S w')∧wpAnyX P md ops Q S L js.length (listed.setIfInBounds j true) a' w') ((fun a' w' h1 h2=>⟨h1,wpAnyX_of_tailK js _ a' w' hB.2 h2⟩))
  unfold wpOp
  simp only [h0]
  split
  ·rename_i hw;rw [if_pos hw] at h1;exact .inl h1
  ·rename_i hw;rw [if_neg hw] at h1;exact h1
theorem wp_region_lexK {id:Nat} {a:Act} {w:World} (ks js:List Nat) (L:Nat) (S:World→Prop) (hm:P.follows .mixedOrders=true) (hsel:Region.noSelect ops=true) (hn:ks.length + js.length=ops.size) (hB:lexK .any ops L ks (Array.replicate ops.size false)=true)
  (hT:seqK .any ops js (marksK ks (Array.replicate ops.size false))=true) (hS:S w.drew)
  (h:wpLex P ops Q S (fun a'=>wpTailK P ops Q S L (opsNo ops js) a' w.drew) (opsAt ops ks) a):(Code.region id ops true).wp P Q a w:=by
 have hlex:∀ (l':List Oper) (a:Act),wpLex P ops Q S (fun a'=>wpTailK P ops Q S L (opsNo ops js) a' w.drew) l' a→wpLex P ops Q S (fun a'=>wpAnyX P .any ops Q S L js.length (marksK ks (Array.replicate ops.size false)) a' w.drew) l' a:=by
  intro l'
  induction l' with
  | nil=>intro a h;exact wpAnyX_of_tailK (md:=.any) js _ a w.drew hT h
  | cons o l' ih=>rintro a ⟨v,h1,h2,h3⟩;exact ⟨v,h1,h2,ih _ h3⟩
 have H:=wpAnyX_lexK (md:=.any) (L:=L) (Q:=Q) (g:=js.length) (P:=P) (w:=w.drew) hsel hS ks (Array.replicate ops.size false) a hB (hlex _ _ h)
 rw [hn] at H
 exact wp_region_any hm (by simpa using wpAny_of_X _ _ _ _ H)
end
end Go.Proofs.YtacaanhnlfpbhaaGreat
namespace Go.Proofs.YtacaanhnlfpbhaaGreat.Look
open Go.RowKit
set_option linter.unusedVariables false
set_option linter.unusedSimpArgs false



end Go.Proofs.YtacaanhnlfpbhaaGreat.Look
namespace Go.Proofs.YtacaanhnlfpbhaaGreat
open Go.RowKit
set_option linter.unusedVariables false
set_option linter.unusedSimpArgs false
set_option maxRecDepth 100000 in
set_option maxHeartbeats 4000000 in
theorem name75s (s:ByteArray) (w:World) (h1:1≤s.size) (h2:s.size≤32):Calls Tryz.prog 149 #[.string s] w fun e w'=>e=.returned (.bool (nameB s))∧w'=w:=by
 have b1:decide ((s.size:Int) < 1)=false:=by simp;omega
 have b2:decide ((s.size:Int) > 32)=false:=by simp;omega
 have b2':decide (32 < (s.size:Int))=false:=by simp;omega
 obtain ⟨r,hr⟩:∃ r,r=nameB s:=⟨_,rfl⟩
 rw [← hr]
 have HR:=hid' hr
 clear hr
 go_enter Tryz.func149,Tryz.ntmps149
 go_wp2_with fail
 go_loopw [3] (fun y wq=>∃ i:Nat,y=.int .i64 (i:Int)∧i≤s.size∧Hid (∀ j,j < i→okAt s j=true)∧wq=w) (fun y _=>s.size - (intOf y).toNat)
 case atStart=>exact ⟨0,rfl,by omega,fun j hj=>by omega,rfl⟩
 case round =>
  obtain ⟨i,rfl,hi,HJ,rfl⟩:=hrel
  by_cases hil:i < s.size
  ·have b1:decide ((i:Int) < (s.size:Int))=true:=by simp;omega
   have b2:(i:Int) < (s.size:Int):=by omega
   have ad1:IntKind.i64.wrap ((i:Int) + 1)=(i:Int) + 1:=by simp [IntKind.wrap,IntKind.bits,IntKind.signed];omega
   have HC:Hid (∀ (c:Int),c=(s[i].toNat:Int)→okC c i=true→∀ j,j < i + 1→okAt s j=true):=fun c hc h j hj=>by
    by_cases e:j=i
    ·subst e;rw [okAt_eq hil,← hc];exact h
    ·exact HJ.out j (by omega)
   have HD:Hid (∀ (c:Int),c=(s[i].toNat:Int)→okC c i=false→r=false):=fun c hc h=>by rw [HR.out];exact name_false i hil (by rw [← hc];exact h)
   go_wp2
   all_goals first
    | (refine ⟨⟨i + 1,by push_cast;rfl,by omega,HC.out _ rfl (by simp_all [okC] <;> omega),by trivial⟩,?_⟩;(simp [intOf];omega))
    | (go_ret;refine ⟨ret_bool ?_,rfl⟩;exact (HD.out _ rfl (by simp_all [okC] <;> omega)).symm)
  ·have b1:decide ((i:Int) < (s.size:Int))=false:=by simp;omega
   have e:r=true:=by rw [HR.out];exact name_true h1 h2 fun j hj=>HJ.out j (by omega)
   subst e
   go_wp2
   go_ret
   exact ⟨rfl,rfl⟩
theorem name75 (s:ByteArray) (w:World) (hs:s.size≤9223372036854775807):Calls Tryz.prog 149 #[.string s] w fun e w'=>e=.returned (.bool (nameB s))∧w'=w:=by
 by_cases h:1≤s.size∧s.size≤32
 ·exact name75s s w h.1 h.2
 ·rw [name_long h]
  by_cases h1:1≤s.size
  ·have b1:decide ((s.size:Int) < 1)=false:=by simp;omega
   have b2:decide ((s.size:Int) > 32)=true:=by simp;omega
   have b2':decide (32 < (s.size:Int))=true:=by simp;omega
   go_enter Tryz.func149,Tryz.ntmps149
   go_wp2
   go_ret
   exact ⟨rfl,rfl⟩
  ·have b1:decide ((s.size:Int) < 1)=true:=by simp;omega
   go_enter Tryz.func149,Tryz.ntmps149
   go_wp2
   go_ret
   exact ⟨rfl,rfl⟩
end Go.Proofs.YtacaanhnlfpbhaaGreat
