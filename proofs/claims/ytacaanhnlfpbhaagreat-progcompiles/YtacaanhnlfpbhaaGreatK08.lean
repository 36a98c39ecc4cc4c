/- HELPERS: texts of ours put together. -/
import Derived.Test.YtacaanhnlfpbhaaGreatK07
namespace Go.Proofs.YtacaanhnlfpbhaaGreat
open Go.RowKit
set_option linter.unusedVariables false
set_option linter.unusedSimpArgs false
abbrev Zn:Nv:=⟨0,none,0,0,0,none,0,0,0,0,false,0,⟨#[]⟩⟩
abbrev litO:Obj:=.cells #[.int .i64 0,.slice none 0 0,.int .i64 0,.slice none 0 0,.int .i64 0,.int .i64 0,.bool false,.int .i64 0,.string ⟨#[]⟩] 25
theorem lit_cellsZ {W:World} {p:Nat} (h:W.heap[p]?=some litO):∀ j u,(Nv.cs Zn)[j]?=some u→W.cell? ((⟨p,0,none⟩:Addr).add j)=some u:=fun j u hj=>by
 rw [Addr.add_mid,Nat.zero_add,Joins.cell_of_block h j]
 simpa using hj
def BP (s:Tn) (g:Nat) (W:World):Prop:=Calls Tryz.prog 92 #[pt g] W fun e w'=>∃ M AA,e=.returned (Nv.v M)∧TO w' M s AA∧(∀ c,AA c→W.heap.size≤c)∧Below W.heap.size W w'
theorem row_some {w:World} {base e s n:Nat} {v:Value} {xs:List Value} (h:w.ownsRow base e s v (n + 1) xs):∃ g c,v=.slice (some ⟨g,0,none⟩) (n + 1) c:=by
 rcases h.2 with ⟨_,h0⟩ | ⟨g,cap,cur,h1,_⟩
 ·omega
 ·exact ⟨g,cap,h1⟩
theorem moved_ne {w w':World} {v:Value} {g n c b:Nat} (h:Moved w w' v (.slice (some ⟨g,0,none⟩) n c)) (hb:b < w.heap.size) (hn:v.ownBlock≠some b):g≠b:=fun e=>by
 subst e
 rcases h with ⟨h0,_⟩ | ⟨h0,_⟩
 ·exact hn (h0.symm.trans rfl)
 ·have:some g=some w.heap.size:=h0
  simp at this
  omega
theorem last9 {x g5 n c5:Nat} {w5:World} {xs:List Value} (ho:w5.ownsRow x 25 9 (.slice (some ⟨g5,0,none⟩) (n + 1) c5) (n + 1) (xs ++ Nv.cs Zn)) (hxs:xs.length=n * 9) :
  (w5.cell? ⟨g5,n * 9,none⟩=some (.int .i64 0)∧w5.cell? ⟨g5,n * 9 + 1,none⟩=some (.slice none 0 0)∧w5.cell? ⟨g5,n * 9 + 2,none⟩=some (.int .i64 0)∧w5.cell? ⟨g5,n * 9 + 3,none⟩=some (.slice none 0 0)∧w5.cell? ⟨g5,n * 9 + 4,none⟩=some (.int .i64 0)∧w5.cell? ⟨g5,n * 9 + 5,none⟩=some (.int .i64 0)∧w5.cell? ⟨g5,n * 9 + 6,none⟩=some (.bool false)∧w5.cell? ⟨g5,n * 9 + 7,none⟩=some (.int .i64 0)∧w5.cell? ⟨g5,n * 9 + 8,none⟩=some (.string ⟨#[]⟩))∧(w5.frozen? ⟨g5,n * 9,none⟩=false∧w5.frozen? ⟨g5,n * 9 + 1,none⟩=false∧w5.frozen? ⟨g5,n * 9 + 2,none⟩=false∧w5.frozen? ⟨g5,n * 9 + 3,none⟩=false∧w5.frozen? ⟨g5,n * 9 + 4,none⟩=false∧w5.frozen? ⟨g5,n * 9 + 5,none⟩=false∧w5.frozen? ⟨g5,n * 9 + 6,none⟩=false∧w5.frozen? ⟨g5,n * 9 + 7,none⟩=false∧w5.frozen? ⟨g5,n * 9 + 8,none⟩=false):=by
 have hc:∀ j,j < 9→w5.cell? ⟨g5,n * 9 + j,none⟩=(Nv.cs Zn)[j]?:=fun j hj=>by
  rw [ho.cellAt (n * 9 + j) (by omega),List.getElem?_append_right (by omega),hxs,show n * 9 + j - n * 9=j by omega]
 have hf:∀ j,w5.frozen? ⟨g5,j,none⟩=false:=fun j=>by
  rcases ho.2 with ⟨h,_⟩ | ⟨g',cap',cur,he,hb,hgg,h1,h2,h3,h4⟩
  ·cases h
  ·simp only [Value.slice.injEq,Option.some.injEq,Addr.mk.injEq] at he
   obtain ⟨⟨rfl,_⟩,_,rfl⟩:=he
   exact Joins.unfrozen_of_block hgg _
 exact ⟨⟨hc 0 (by omega),hc 1 (by omega),hc 2 (by omega),hc 3 (by omega),hc 4 (by omega),hc 5 (by omega),hc 6 (by omega),hc 7 (by omega),hc 8 (by omega)⟩,⟨hf _,hf _,hf _,hf _,hf _,hf _,hf _,hf _,hf _⟩⟩
abbrev set9 (W:World) (g q:Nat) (M:Nv):World:=(((((((((W.setCell ⟨g,q,none⟩ (.int .i64 M.k)).setCell ⟨g,q + 1,none⟩ (.slice M.r1 M.r2 M.r3)).setCell ⟨g,q + 2,none⟩ (.int .i64 M.a2)).setCell ⟨g,q + 3,none⟩ (.slice M.s1 M.s2 M.s3)).setCell ⟨g,q + 4,none⟩ (.int .i64 M.a4)).setCell ⟨g,q + 5,none⟩ (.int .i64 M.a5)).setCell ⟨g,q + 6,none⟩ (.bool M.a6)).setCell ⟨g,q + 7,none⟩ (.int .i64 M.a7)).setCell ⟨g,q + 8,none⟩ (.string M.a8))
theorem set9_eq (W:World) (g q:Nat) (M:Nv):set9 W g q M=W.setCells g q (Nv.cs M):=rfl
def FinU (x b g5 n c5:Nat) (w5 U:World) (xs:List Value) (M:Nv):Prop:=Bx U b 23 (.slice (some ⟨g5,0,none⟩) (n + 1) c5)∧U.ownsRow x 25 9 (.slice (some ⟨g5,0,none⟩) (n + 1) c5) (n + 1) (xs ++ Nv.cs M)∧(∀ c,c≠b→c≠g5→U.heap[c]?=w5.heap[c]?)∧∀ B0 W0,Below B0 W0 w5→B0≤b→B0≤g5→Below B0 W0 U
theorem ro_tail {x b g5 n c5:Nat} {w5:World} {xs:List Value} {uv:Value} (ho:w5.ownsRow x 25 9 (.slice (some ⟨g5,0,none⟩) (n + 1) c5) (n + 1) (xs ++ Nv.cs Zn)) (hb:Bx w5 b 23 uv) (hne:g5≠b) (hxs:xs.length=n * 9) (M:Nv) :
  (w5.setCell ⟨b,0,none⟩ (.slice (some ⟨g5,0,none⟩) (n + 1) c5)).ownsRow x 25 9 (.slice (some ⟨g5,0,none⟩) (n + 1) c5) (n + 1) (xs ++ Nv.cs Zn)∧(set9 w5 g5 (n * 9) M).cell? ⟨b,0,none⟩=some uv∧(set9 w5 g5 (n * 9) M).frozen? ⟨b,0,none⟩=false ∧
   FinU x b g5 n c5 w5 (set9 (w5.setCell ⟨b,0,none⟩ (.slice (some ⟨g5,0,none⟩) (n + 1) c5)) g5 (n * 9) M) xs M∧FinU x b g5 n c5 w5 ((set9 w5 g5 (n * 9) M).setCell ⟨b,0,none⟩ (.slice (some ⟨g5,0,none⟩) (n + 1) c5)) xs M:=by
 rw [set9_eq,set9_eq]
 have hob:(Value.slice (some ⟨g5,0,none⟩) (n + 1) c5).ownBlock≠some b:=fun e=>by simp [Value.ownBlock] at e;exact hne e
 have ho1:(w5.setCell ⟨b,0,none⟩ (.slice (some ⟨g5,0,none⟩) (n + 1) c5)).ownsRow x 25 9 (.slice (some ⟨g5,0,none⟩) (n + 1) c5) (n + 1) (xs ++ Nv.cs Zn):=row_kept ho fun c hc=>Below.heap_setCell _ _ _ _ (fun e=>hob (by simp only at e;rw [e] at hc;exact hc))
 have hb2:Bx (w5.setCells g5 (n * 9) (Nv.cs M)) b 23 uv:=(setCells_old g5 _ _ _ b (fun e=>hne e.symm)).trans hb
 have e9:(Nv.cs M).length=(Nv.cs Zn).length:=rfl
 refine ⟨ho1,bx0 hb2,Joins.unfrozen_of_block hb2 0,⟨?_,?_,fun c h1 h2=>?_,fun B0 W0 h h1 h2=>?_⟩,⟨?_,?_,fun c h1 h2=>?_,fun B0 W0 h h1 h2=>?_⟩⟩
 ·exact (setCells_old g5 _ _ _ b (fun e=>hne e.symm)).trans (Joins.block_setCell (i:=0) hb _)
 ·rw [← hxs];exact row_last ho1 e9
 ·exact (setCells_old g5 _ _ _ c h2).trans (Below.heap_setCell _ _ _ _ h1)
 ·exact Below.setCells h2 _ _ _ _ (h.setCell (by exact h1) _)
 ·exact Joins.block_setCell (i:=0) hb2 _
 ·refine row_kept ?_ fun c hc=>Below.heap_setCell _ _ _ _ (fun e=>hob (by simp only at e;rw [e] at hc;exact hc))
  rw [← hxs];exact row_last ho e9
 ·exact (Below.heap_setCell _ _ _ _ h1).trans (setCells_old g5 _ _ _ c h2)
 ·exact (Below.setCells h2 _ _ _ _ h).setCell (by exact h1) _
theorem do_fin {x b n g5 c5 uc:Nat} {w Wa w5 U:World} {ua:Option Addr} {us:List Tn} {MS:List Nv} {AS:Nat→Nat→Prop} {M:Nv} {s:Tn} {AA:Nat→Prop} (hn:n=MS.length) (h:RO x w b (.slice ua MS.length uc) MS us AS) (hx:x≤w.heap.size) (hW:Below w.heap.size w Wa) (hM:TO Wa M s AA) (hAA:∀ c,AA c→w.heap.size≤c)
  (hm:Moved Wa w5 (.slice ua n uc) (.slice (some ⟨g5,0,none⟩) (n + 1) c5)) (hU:FinU x b g5 n c5 w5 U (MS.flatMap Nv.cs) M):∃ uv',ROv x U b uv' (us ++ [s])∧Chg w U (FB b (.slice ua MS.length uc)) (FB b uv'):=by
 subst hn
 obtain ⟨u1,u2,u3,u4⟩:=hU
 have hv:∀ k,(Value.slice ua MS.length uc).ownBlock=some k→x≤k:=fun k hk=>(h.row.lt k hk).1
 have hb5:=moved_below (hW.mono hx) (Nat.le_trans hx hW.size) hv hm
 have hg5:x≤g5:=(u2.lt g5 rfl).1
 have hB:=u4 _ _ hb5.1 h.xb hg5
 have hg:(Value.slice ua MS.length uc).ownBlock=some g5∨Wa.heap.size≤g5:=by
  rcases hm with ⟨h0,_⟩ | ⟨h0,_⟩
  ·left;rw [← h0];rfl
  ·right
   have:some g5=some Wa.heap.size:=h0
   simp at this
   omega
 refine ⟨_,⟨MS ++ [M],_,h.next hW hM hAA hm u1 u2 (fun c h1 h2=>u3 c h1 (fun e=>h2 (by rw [e];rfl))) hx⟩,hB.os,hB.tape,hB.output,hB.size,fun k hk hn=>?_,fun k hk=>?_⟩
 ·simp only [FB,List.mem_cons,Option.mem_toList,not_or] at hn
  have hs:=hW.size
  refine (u3 k hn.1 (fun e=>?_)).trans ((moved_old' hm (by omega) hn.2).trans (hW.block k hk))
  rcases hg with hg | hg
  ·exact hn.2 (by rw [e];exact hg)
  ·omega
 ·simp only [FB,List.mem_cons,Option.mem_toList] at hk ⊢
  rcases hk with hk | hk
  ·exact .inl (.inl hk)
  ·have e:g5=k:=by have:some g5=some k:=hk;simpa using this
   rcases hg with hg | hg
   ·exact .inl (.inr (by rw [← e];exact hg))
   ·right;have:=hW.size;omega
set_option maxRecDepth 100000 in
set_option maxHeartbeats 8000000 in
theorem do49 {x b:Nat} {w:World} {uv:Value} {us:List Tn} (hR:ROv x w b uv us) (hx:x≤w.heap.size) (g:Nat) (s:Tn) (HP:∀ W',Below w.heap.size w W'→BP s g W') (hn:us.length < 200000) :
  Calls Tryz.prog 136 #[pt g,pt b] w (EPost x b w uv (us ++ [s])):=by
 obtain ⟨MS,AS,h⟩:=hR
 obtain ⟨i0,hi0,hz0,hz1,hz2⟩:=info_parts info25
 obtain ⟨ua,uc,rfl,hnc,hcm⟩:=row_shape h.row
 have hbl:b < w.heap.size:=(Array.getElem?_eq_some_iff.1 h.box).1
 have HROW:Hid (∀ W',Below w.heap.size w W'→W'.ownsRow x 25 9 (.slice ua MS.length uc) MS.length (MS.flatMap Nv.cs)):=fun W' hb=>row_kept h.row fun c hc=>hb.block c (h.row.lt c hc).2
 have hl:=h.len
 obtain ⟨n,hnn⟩:∃ n,n=MS.length:=⟨_,rfl⟩
 rw [← hnn] at HROW hl
 have c0:=bx0 h.box
 rw [← hnn] at c0
 have HH:=hid h
 have HPP:=hid HP
 have HNN:=hid hnn
 have HD:=hid (below_drew w)
 have HLB:Hid (Below w.heap.size w (w.alloc litO).drew):=(Joins.below_alloc1 w _).trans (Joins.below_le (below_drew _) (by simp))
 have HLN:Hid ((w.alloc litO).drew.heap[w.heap.size]?=some litO):=heap_alloc_new w _
 have HBX:Hid (Bx w b 23 (.slice ua n uc)):=by rw [hnn];exact h.box
 have HOB:Hid ((Value.slice ua n uc).ownBlock≠some b):=by rw [hnn];exact h.out
 have HLS:Hid ((w.alloc litO).drew.heap.size=w.heap.size + 1):=by show (w.alloc litO).heap.size=_;simp
 have hn2:n < 200000:=by omega
 have HL:=hid hl
 have c0a:(w.alloc litO).cell? ⟨b,0,none⟩=some (.slice ua n uc):=bx0 ((heap_alloc_old w litO hbl).trans HBX.out)
 clear h HP hnn hnc hcm hl hn
 go_enter Tryz.func136,Tryz.ntmps136
 go_region_law (first | (refine step_call1 rfl 92 (.tmp 4) 146 rfl en32 ?_;refine (HPP.out _ (by first | exact HD.out | exact HLB.out)).mono ?_;rintro e w2 ⟨M,AA,rfl,hM,hAA,hb2⟩;refine ⟨_,rfl,?_⟩;have hbb2:Bx w2 b 23 (.slice ua n uc):=((hb2.block b (by first | exact hbl | exact Nat.lt_of_lt_of_le hbl HLB.out.size)).trans (by first | exact HBX.out | exact (HLB.out.block b hbl).trans HBX.out));have c2:=bx0 hbb2;have c2a:=bx0 ((heap_alloc_old w2 litO (Array.getElem?_eq_some_iff.1 hbb2).1).trans hbb2);clear hbb2;have HM:=hid hM;have HAW:Hid (∀ c,AA c→w.heap.size≤c):=(fun c hc=>Nat.le_trans (by first | exact Nat.le_refl _ | exact HLB.out.size) (hAA c hc));have HB2:=hid hb2;clear hM hAA hb2) | (refine step_append_moveN rfl (.tmp 3) (.tmp 7) 23 rfl x 25 i0 Z9 9 112 Tryz.underlying23 hi0 hz0 hz1 hz2 rfl (by decide) (.slice ua n uc) n (MS.flatMap Nv.cs) rfl (HROW.out _ (HD.out.trans (Joins.below_le (HB2.out.trans (Joins.below_le (Joins.below_alloc1 w2 _) HB2.out.size)) HD.out.size))) ⟨w2.heap.size,0,none⟩ 1 1 (Nv.cs Zn) rfl rfl (by decide) (lit_cellsZ (heap_alloc_new w2 _)) (one9 _) (by unfold maxLen;omega) (by omega) (Nat.le_trans hx (Nat.le_trans HB2.out.size (by simp))) ?_;intro v5 w5 ho5 hm5;obtain ⟨g5,c5,rfl⟩:=row_some ho5;have hb5:Bx w5 b 23 (.slice ua n uc):=(moved_old' hm5 (Nat.lt_of_lt_of_le hbl (HD.out.trans (Joins.below_le (HB2.out.trans (Joins.below_le (Joins.below_alloc1 w2 litO) HB2.out.size)) HD.out.size)).size) HOB.out).trans (((HD.out.trans (Joins.below_le (HB2.out.trans (Joins.below_le (Joins.below_alloc1 w2 litO) HB2.out.size)) HD.out.size)).block b hbl).trans HBX.out);have hne5:g5≠b:=moved_ne hm5 (Nat.lt_of_lt_of_le hbl (HD.out.trans (Joins.below_le (HB2.out.trans (Joins.below_le (Joins.below_alloc1 w2 litO) HB2.out.size)) HD.out.size)).size) HOB.out;have HWB:=hid (HD.out.trans (Joins.below_le (HB2.out.trans (Joins.below_le (Joins.below_alloc1 w2 litO) HB2.out.size)) HD.out.size));have HTM:Hid (TO (w2.alloc litO) M s AA):=HM.out.kept (fun c hc=>heap_alloc_old w2 litO (HM.out.low c hc));have hnl:(n:Int) < (n:Int) + 1:=(by omega);obtain ⟨y1,y3,y4,y5,y6⟩:=ro_tail ho5 hb5 hne5 (by rw [flat9_len,HNN.out]) M;obtain ⟨⟨p0,p1,p2,p3,p4,p5,p6,p7,p8⟩,⟨r0,r1,r2,r3,r4,r5,r6,r7,r8⟩⟩:=last9 ho5 (by rw [flat9_len,HNN.out]);obtain ⟨⟨s0,s1,s2,s3,s4,s5,s6,s7,s8⟩,⟨t0,t1,t2,t3,t4,t5,t6,t7,t8⟩⟩:=last9 y1 (by rw [flat9_len,HNN.out]);have cb5:=bx0 hb5;have f5:=Joins.unfrozen_of_block hb5 0;have Y5:=hid y5;have Y6:=hid y6;have HM5:=hid hm5;have HO5:=hid ho5;clear y1 y5 y6 hm5 ho5 hb5) | (refine step_append_moveN rfl (.tmp 3) (.tmp 7) 23 rfl x 25 i0 Z9 9 112 Tryz.underlying23 hi0 hz0 hz1 hz2 rfl (by decide) (.slice ua n uc) n (MS.flatMap Nv.cs) rfl (HROW.out _ (HLB.out.trans (Joins.below_le HB2.out HLB.out.size))) ⟨w.heap.size,0,none⟩ 1 1 (Nv.cs Zn) rfl rfl (by decide) (lit_cellsZ ((HB2.out.block w.heap.size (by rw [HLS.out];omega)).trans HLN.out)) (one9 _) (by unfold maxLen;omega) (by omega) (Nat.le_trans hx (Nat.le_trans HLB.out.size HB2.out.size)) ?_;intro v5 w5 ho5 hm5;obtain ⟨g5,c5,rfl⟩:=row_some ho5;have hb5:Bx w5 b 23 (.slice ua n uc):=(moved_old' hm5 (Nat.lt_of_lt_of_le hbl (HLB.out.trans (Joins.below_le HB2.out HLB.out.size)).size) HOB.out).trans (((HLB.out.trans (Joins.below_le HB2.out HLB.out.size)).block b hbl).trans HBX.out);have hne5:g5≠b:=moved_ne hm5 (Nat.lt_of_lt_of_le hbl (HLB.out.trans (Joins.below_le HB2.out HLB.out.size)).size) HOB.out;have HWB:=hid (HLB.out.trans (Joins.below_le HB2.out HLB.out.size));have HTM:=hid HM.out;have hnl:(n:Int) < (n:Int) + 1:=(by omega);obtain ⟨y1,y3,y4,y5,y6⟩:=ro_tail ho5 hb5 hne5 (by rw [flat9_len,HNN.out]) M;obtain ⟨⟨p0,p1,p2,p3,p4,p5,p6,p7,p8⟩,⟨r0,r1,r2,r3,r4,r5,r6,r7,r8⟩⟩:=last9 ho5 (by rw [flat9_len,HNN.out]);obtain ⟨⟨s0,s1,s2,s3,s4,s5,s6,s7,s8⟩,⟨t0,t1,t2,t3,t4,t5,t6,t7,t8⟩⟩:=last9 y1 (by rw [flat9_len,HNN.out]);have cb5:=bx0 hb5;have f5:=Joins.unfrozen_of_block hb5 0;have Y5:=hid y5;have Y6:=hid y6;have HM5:=hid hm5;have HO5:=hid ho5;clear y1 y5 y6 hm5 ho5 hb5))
 all_goals go_end0
 all_goals refine ⟨rfl,do_fin HNN.out HH.out hx HWB.out HTM.out HAW.out HM5.out ?_⟩
 all_goals first | with_reducible exact Y5.out | with_reducible exact Y6.out
abbrev dv (b:Nat):Value:=.func (.func 136) #[] #[pt b]
def EQ (x:Nat) (l:List Tn) (ev:Value) (w0:World):Prop:=∀ W b uv us,x≤W.heap.size→(∀ c,c < x→W.heap[c]?=w0.heap[c]?)→ROv x W b uv us→us.length + l.length < 200000 →
 ∃ n ca,ev=.func (.func n) #[] ca∧(∀ args w,(callFunc n args).run Tryz.prog w=.ok (.enter n args) w)∧Calls Tryz.prog n (#[dv b] ++ ca) W (EPost x b W uv (us ++ l))
theorem leaf68 (v:Value) (w:World):Calls Tryz.prog 203 #[v] w fun e w'=>e=.returned (.tuple #[])∧w'=w:=by
 go_enter Tryz.func203,Tryz.ntmps203
 go_wp2
 all_goals go_end0
 all_goals exact ⟨rfl,rfl⟩
def BPs (N:Nat):Prop:=∀ (s:Tn) (W:World) (g:Nat) (A:Nat→Prop),s.nodes < N→FA W A g s→(∀ c,A c→c < W.heap.size)→BP s g W
theorem bp_below {N:Nat} (HP:BPs N) {s:Tn} {w:World} {g:Nat} {A:Nat→Prop} (hs:s.nodes < N) (hg:FA w A g s) (hA:∀ c,A c→c < w.heap.size):∀ W',Below w.heap.size w W'→BP s g W':=fun W' hb =>
 HP s W' g A hs (hg.up hA hb (fun _ h=>h)) (fun c hc=>by have:=hA c hc;have:=hb.size;omega)
set_option maxRecDepth 100000 in
set_option maxHeartbeats 4000000 in
theorem over67 {x b bx g:Nat} {w:World} {uv:Value} {us:List Tn} {s:Tn} (hR:ROv x w b uv us) (hx:x≤w.heap.size) (hb:Bx w bx 146 (pt g)) (HP:∀ W',Below w.heap.size w W'→BP s g W') (hn:us.length < 200000) :
  Calls Tryz.prog 202 #[dv b,pt bx] w (EPost x b w uv (us ++ [s])):=by
 have HC:=do49 hR hx g s HP hn
 have c0:=bx0 hb
 clear hR HP hn hb
 go_enter Tryz.func202,Tryz.ntmps202
 go_wp2_with (first | (go_at_call 136;(with_reducible refine HC.mono ?_);rintro e w2 ⟨rfl,hr2⟩;have HR2:=hid hr2;clear hr2 HC))
 all_goals go_end0
 all_goals exact ⟨rfl,HR2.out⟩
set_option maxRecDepth 100000 in
set_option maxHeartbeats 4000000 in
theorem within64 {x b f:Nat} {k:Int} {w:World} {uv:Value} {us:List Tn} {t:Tn} {N0:Nv} {ev:Value} (hR:ROv x w b uv us) (hx:x≤w.heap.size) (hc:FC w f N0 ev t) (hk:N0.k=t.kind) (HE:t.kind=k→EQ x t.subs ev w) (HP:t.kind≠k→∀ W',Below w.heap.size w W'→BP t f W') (hn:us.length + (within k t).length < 200000) :
  Calls Tryz.prog 199 #[pt f,.int .i64 k,dv b] w (EPost x b w uv (us ++ within k t)):=by
 obtain ⟨c0,c9,c10,c11⟩:=hc.num
 rw [hk] at c0
 by_cases h:t.kind=k
 ·have hw:within k t=t.subs:=by unfold within;rw [if_pos h]
  rw [hw] at hn ⊢
  obtain ⟨n,ca,rfl,hen,HC⟩:=HE h w b uv us hx (fun _ _=>rfl) hR hn
  have bk:(t.kind == k)=true:=by simpa using h
  obtain ⟨kd,hkd⟩:∃ kd,kd=t.kind:=⟨_,rfl⟩
  rw [← hkd] at c0 bk
  clear HE HP hR hn hc hk h hw hkd c10 c11
  go_enter Tryz.func199,Tryz.ntmps199
  go_wp2_with (first | (with_reducible refine HC.mono ?_;rintro e w2 ⟨rfl,hr2⟩;have HR2:=hid hr2;clear hr2 HC))
  all_goals first | go_end0 | (refine bodyPost_ret (v:=.tuple #[]) rfl rfl ?_)
  all_goals exact ⟨rfl,HR2.out⟩
 ·have hw:within k t=[t]:=by unfold within;rw [if_neg h]
  rw [hw] at hn ⊢
  have HC:=do49 hR hx f t (HP h) (by simp at hn;omega)
  have bk:(t.kind == k)=false:=by simpa using h
  obtain ⟨kd,hkd⟩:∃ kd,kd=t.kind:=⟨_,rfl⟩
  rw [← hkd] at c0 bk
  clear HE HP hR hn hc hk h hw hkd c10 c11 c9
  go_enter Tryz.func199,Tryz.ntmps199
  go_wp2_with (first | (go_at_call 136;(with_reducible refine HC.mono ?_);rintro e w2 ⟨rfl,hr2⟩;have HR2:=hid hr2;clear hr2 HC))
  all_goals first | go_end0 | (refine bodyPost_ret (v:=.tuple #[]) rfl rfl ?_)
  all_goals exact ⟨rfl,HR2.out⟩
theorem flat_rep_len (n:Nat) (l:List Tn):(List.replicate n l).flatten.length=n * l.length:=by simp
theorem rowS_part (k:Int) (l:List (Tn × Nat)) (i j:Nat) (hi:i < l.length) (hj:j≤l[i].2):(rowS k (l.take i)).length + j * (within k l[i].1).length≤(rowS k l).length:=by
 have h1:rowS k l=rowS k (l.take (i + 1)) ++ rowS k (l.drop (i + 1)):=by rw [← rowS_append,List.take_append_drop]
 rw [h1,rowS_take k l i hi,List.length_append,List.length_append,flat_rep_len]
 have:=Nat.mul_le_mul_right (within k l[i].1).length hj
 omega
theorem rep_succ (j:Nat) (l:List Tn):(List.replicate (j + 1) l).flatten=(List.replicate j l).flatten ++ l:=by
 rw [List.replicate_succ',List.flatten_append];simp
set_option maxRecDepth 100000 in
set_option maxHeartbeats 8000000 in
theorem row63 {x b b1 b2 n c:Nat} {k:Int} {ad:Option Addr} {fs:Nat→Nat} {l:List (Tn × Nat)} {w:World} {uv:Value} {us:List Tn} (hR:ROv x w b uv us) (hx:x≤w.heap.size) (h1:Bx w b1 194 (.slice ad n c)) (h2:Bx w b2 3 (.int .i64 k)) (hb1:b1 < x) (hb2:b2 < x) (hn:n=l.length) (hv:RV w (fun c=>c < x) ad fs l) (ht:∀ y ∈ l,y.2≤1000) (hl:l.length≤200000)
  (HW:Hid (∀ i (hi:i < l.length),∀ W uv us,x≤W.heap.size→(∀ c,c < x→W.heap[c]?=w.heap[c]?)→ROv x W b uv us→us.length + (within k l[i].1).length < 200000→Calls Tryz.prog 199 #[pt (fs i),.int .i64 k,dv b] W (EPost x b W uv (us ++ within k l[i].1)))) (hnl:us.length + (rowS k l).length < 200000) :
  Calls Tryz.prog 198 #[dv b,pt b1,pt b2] w (EPost x b w uv (us ++ rowS k l)):=by
 have c1:=bx0 h1
 have HR:=hid hR
 have H1:=hid h1
 have H2:=hid h2
 have HN:=hid hn
 have HV:=hid hv
 have HT:=hid ht
 have HNL:=hid hnl
 have hn2:n≤200000:=by omega
 clear hR h1 h2 hn hv ht hnl hl
 go_enter Tryz.func198,Tryz.ntmps198
 go_wp2_with fail
 go_loopw [8] (fun y wq=>∃ i:Nat,y=.int .i64 (i:Int)∧i≤n∧Hid (∃ uv',ROv x wq b uv' (us ++ rowS k (l.take i))∧Chg w wq (FB b uv) (FB b uv'))) (fun y _=>n - (intOf y).toNat)
 case atStart=>exact ⟨0,rfl,by omega,⟨uv,by simpa [rowS] using HR.out,Chg.refl _ _⟩⟩
 case round =>
  obtain ⟨i,rfl,hi,HI⟩:=hrel
  by_cases hil:i < n
  ·have b1':decide ((i:Int) < (n:Int))=true:=by simp;omega
   have b2':(i:Int) < (n:Int):=by omega
   have ad1:IntKind.i64.wrap ((i:Int) + 1)=(i:Int) + 1:=by simp [IntKind.wrap,IntKind.bits,IntKind.signed];omega
   have hil':i < l.length:=by have:=HN.out;omega
   obtain ⟨uv1,hR1,hC1⟩:=HI.out
   have hB1:=HR.out.below hC1 hx
   obtain ⟨bb,o,rfl,hbb,hcs⟩:=HV.out (by omega)
   obtain ⟨e0,e1⟩:=hcs i hil'
   have u0:=(cell_eq (hB1.block bb hbb) (o + i * 2)).trans e0
   have u1:=(cell_eq (hB1.block bb hbb) (o + i * 2 + 1)).trans e1
   have k2:=bx0 ((hB1.block b2 hb2).trans H2.out)
   have htm:=HT.out _ (List.getElem_mem hil')
   have hps:=fun j hj=>rowS_part k l i j hil' hj
   have HWi:=HW.out i hil'
   have hst:=rowS_take k l i hil'
   obtain ⟨f,hf⟩:∃ f,f=fs i:=⟨_,rfl⟩
   obtain ⟨m,hm⟩:∃ m,m=l[i].2:=⟨_,rfl⟩
   obtain ⟨wi,hwi⟩:∃ wi,wi=within k l[i].1:=⟨_,rfl⟩
   rw [← hf] at u0 HWi
   rw [← hm] at u1 htm hps hst
   rw [← hwi] at hps HWi hst
   obtain ⟨hd,hhd⟩:∃ hd,hd=us ++ rowS k (l.take i):=⟨_,rfl⟩
   have hlen:∀ j,j≤m→hd.length + j * wi.length≤us.length + (rowS k l).length:=fun j hj=>by rw [hhd,List.length_append];have:=hps j hj;omega
   rw [← hhd] at hR1
   have hst':us ++ rowS k (l.take (i + 1))=hd ++ (List.replicate m wi).flatten:=by rw [hst,hhd,List.append_assoc]
   have hxw:x≤wr.heap.size:=by have:=hC1.size;omega
   have hyb:b < wr.heap.size:=by obtain ⟨MS,AS,h⟩:=hR1;exact (Array.getElem?_eq_some_iff.1 h.box).1
   have hyu:∀ c,uv1.ownBlock=some c→c < wr.heap.size:=fun c hc=>by obtain ⟨MS,AS,h⟩:=hR1;exact (h.row.lt c hc).2
   have HR1:=hid hR1
   have HC1:=hid hC1
   have HWW:=hid HWi
   have HLN:=hid hlen
   have HST:=hid hst'
   have HYU:=hid hyu
   clear hR1 hC1 HWi hps hst hlen hst' hhd hf hm hwi hcs e0 e1 HI hB1 hyu
   go_upto_region 3 with fail
   obtain ⟨V,hV⟩:∃ V,V=wr.alloc (.cells #[pt f,.int .i64 (m:Int)] 245):=⟨_,rfl⟩
   rw [← hV]
   obtain ⟨y,hy⟩:∃ y,y=wr.heap.size:=⟨_,rfl⟩
   rw [← hy]
   have hVb:Below wr.heap.size wr V:=by rw [hV];exact Joins.below_alloc1 wr _
   have hVy:V.heap[y]?=some (.cells #[pt f,.int .i64 (m:Int)] 245 (0,0)):=by rw [hV,hy];exact heap_alloc_new wr _
   have r0:V.cell? ⟨y,0,none⟩=some (pt f):=Joins.cell_of_block hVy 0
   have r1:V.cell? ⟨y,1,none⟩=some (.int .i64 (m:Int)):=Joins.cell_of_block hVy 1
   have hRV:ROv x V b uv1 hd:=HR1.out.kept hVb
   have hCV:Chg w V (FB b uv) (FB b uv1):=by rw [hV];exact HC1.out.alloc _
   have hyF:y ∉ FB b uv1:=by
    simp only [FB,List.mem_cons,Option.mem_toList,not_or]
    exact ⟨by omega,fun e=>by have:=HYU.out y e;omega⟩
   have HVY:=hid hVy
   have HRV:=hid hRV
   have HCV:=hid hCV
   have HYF:=hid hyF
   clear hV hy hVb hVy hRV hCV hyF HR1 HC1 HYU u0 u1 k2 hyb
   go_upto_region 4 with fail
   go_loopw [14] (fun yj wq=>∃ j:Nat,yj=.int .i64 (j:Int)∧j≤m∧Hid (∃ uv',ROv x wq b uv' (hd ++ (List.replicate j wi).flatten)∧Chg w wq (FB b uv) (FB b uv')∧y ∉ FB b uv')∧Hid (wq.heap[y]?=some (.cells #[pt f,.int .i64 (m:Int)] 245 (0,0)))) (fun yj _=>m - (intOf yj).toNat)
   case atStart=>exact ⟨0,rfl,by omega,⟨uv1,by simpa using HRV.out,HCV.out,HYF.out⟩,HVY.out⟩
   case round =>
    obtain ⟨j,rfl,hj,HJ,HYB⟩:=hrel
    obtain ⟨uv2,hR2,hC2,hy2⟩:=HJ.out
    by_cases hjm:j < m
    ·have d1:decide ((j:Int) < (m:Int))=true:=by simp;omega
     have adj:IntKind.i64.wrap ((j:Int) + 1)=(j:Int) + 1:=by simp [IntKind.wrap,IntKind.bits,IntKind.signed];omega
     have q0:=Joins.cell_of_block HYB.out 0
     have hB2:=HR.out.below hC2 hx
     have k2:=bx0 ((hB2.block b2 hb2).trans H2.out)
     have hl2:=HLN.out (j + 1) (by omega)
     have hnl:=HNL.out
     have HC:=HWW.out wr uv2 _ (by have:=hC2.size;omega) (fun c hc=>hB2.block c hc) hR2 (by rw [List.length_append,flat_rep_len];have:(j + 1) * wi.length=j * wi.length + wi.length:=Nat.succ_mul _ _;omega)
     have HC2:=hid hC2
     have HY2:=hid hy2
     have hyl:=(Array.getElem?_eq_some_iff.1 HYB.out).1
     clear hR2 hC2 hy2 hB2 HJ hl2 hnl
     go_wp2_with (first | (go_at_call 199;(with_reducible refine HC.mono ?_);rintro e w3 ⟨rfl,uv3,hr3,hc3⟩;have HR3:=hid hr3;have HC3:=hid hc3;clear hr3 hc3 HC))
     refine ⟨⟨j + 1,by push_cast;rfl,by omega,⟨uv3,?_,HC2.out.trans HC3.out,fun hm=>?_⟩,?_⟩,by simp [intOf];omega⟩
     ·rw [rep_succ,← List.append_assoc];exact HR3.out
     ·rcases HC3.out.new y hm with h | h
      ·exact HY2.out h
      ·omega
     ·exact (HC3.out.block y hyl HY2.out).trans HYB.out
    ·have d1:decide ((j:Int) < (m:Int))=false:=by simp;omega
     have hje:j=m:=by omega
     have HRR:=hid hR2
     have HCC:=hid hC2
     clear hR2 hC2 hy2 HJ
     go_wp2
     refine ⟨⟨i + 1,by push_cast;rfl,by omega,⟨uv2,?_,HCC.out⟩⟩,by simp [intOf];omega⟩
     rw [HST.out,← hje]
     exact HRR.out
  ·have b1':decide ((i:Int) < (n:Int))=false:=by simp;omega
   obtain rfl:i=n:=by omega
   go_wp2
   all_goals go_end0
   all_goals
    obtain ⟨uv1,hR1,hC1⟩:=HI.out
    refine ⟨rfl,uv1,?_,hC1⟩
    rw [HN.out,List.take_length] at hR1
    exact hR1
theorem chg_of_below {w w1 w2:World} {F F':List Nat} (hb:Below w.heap.size w w1) (hc:Chg w1 w2 F F'):Chg w w2 F F':=
 ⟨hc.os.trans hb.os,hc.tape.trans hb.tape,hc.output.trans hb.output,Nat.le_trans hb.size hc.size,fun k hk hn=>(hc.block k (Nat.lt_of_lt_of_le hk hb.size) hn).trans (hb.block k hk),fun k hk=>by
  rcases hc.new k hk with h | h
  ·exact .inl h
  ·right;have:=hb.size;omega⟩
set_option maxRecDepth 100000 in
set_option maxHeartbeats 8000000 in
theorem opt95 {N x b b1 b2 b3 g n:Nat} {lz:Bool} {y:Tn} {A:Nat→Prop} {w:World} {uv:Value} {us:List Tn} (HP:BPs N) (hR:ROv x w b uv us) (hx:x≤w.heap.size) (h1:Bx w b1 146 (pt g)) (h2:Bx w b2 3 (.int .i64 ((n + 2:Nat):Int))) (h3:Bx w b3 4 (.bool lz)) (hb1:b1 < x) (hb2:b2 < x) (hb3:b3 < x) (hn:n + 2≤1000) (hd:y.depth≤1000000000) (hA:∀ c,A c→c < w.heap.size) (hg:FA w A g y) (hN:(joinT [(y,1),(optT y lz (n + 1),1)]).nodes < N) (hus:us.length < 200000) :
  Calls Tryz.prog 232 #[dv b,pt b1,pt b2,pt b3] w (EPost x b w uv (us ++ [joinT [(y,1),(optT y lz (n + 1),1)]])):=by
 obtain ⟨q,hq⟩:∃ q,q=n + 2:=⟨_,rfl⟩
 rw [← hq] at h2
 have hwq:IntKind.i64.wrap ((q:Int) - 1)=(q:Int) - 1:=by simp [IntKind.wrap,IntKind.bits,IntKind.signed];omega
 have HC1:=opt65 A g y (n + 1) lz w.drew hA (hg.kept (fun _ _=>rfl) (fun _ h=>h)) (by omega) hd
 rw [show ((n + 1:Nat):Int)=(q:Int) - 1 by omega] at HC1
 have hl1:=(Array.getElem?_eq_some_iff.1 h1).1
 have hl2:=(Array.getElem?_eq_some_iff.1 h2).1
 have hl3:=(Array.getElem?_eq_some_iff.1 h3).1
 have hdo:=optT_dle y lz (n + 1)
 have hS:∀ w3,Below x w w3→w3.cell? ⟨b1,0,none⟩=some (pt g)∧w3.cell? ⟨b2,0,none⟩=some (.int .i64 (q:Int))∧w3.cell? ⟨b3,0,none⟩=some (.bool lz):=fun w3 h=>⟨bx0 ((h.block b1 hb1).trans h1),bx0 ((h.block b2 hb2).trans h2),bx0 ((h.block b3 hb3).trans h3)⟩
 have HSS:=hid hS
 have HD:=hid (below_drew w)
 have HG:=hid hg
 have HAA:=hid hA
 have HR:=hid hR
 have HPP:=hid HP
 have HNN:=hid hN
 clear hS hg hA hR HP hN h1 h2 h3 hq
 obtain ⟨s,hs⟩:∃ s,s=joinT [(y,1),(optT y lz (n + 1),1)]:=⟨_,rfl⟩
 rw [← hs] at HNN ⊢
 have HSJ:=hid hs
 clear hs
 go_enter Tryz.func232,Tryz.ntmps232
 go_region_held2 (fun w3=>w3.cell? ⟨b1,0,none⟩=some (pt g)∧w3.cell? ⟨b2,0,none⟩=some (.int .i64 (q:Int))∧w3.cell? ⟨b3,0,none⟩=some (.bool lz))
  (first | exact HSS.out _ (HD.out.mono hx) | exact HSS.out _ (HB2.out.mono hx) | (rw [← HV2.out];exact HSS.out _ (HV2B.out.mono hx)) | exact HSS.out _ (HB4.out.mono hx) | exact HSS.out _ HRB5.out)
  (first | (go_at_call 200;(with_reducible refine HC1.mono ?_);rintro e w2 ⟨f2,rfl,hf2,hb2⟩;have hbb:Below w.heap.size w w2:=HD.out.trans (Joins.below_le hb2 HD.out.size);have HB2:=hid hbb;have hz12:w.heap.size≤w2.heap.size:=hbb.size;obtain ⟨V2,hV2⟩:∃ V2,V2=w2.alloc (.cells #[pt g,.int .i64 1,pt f2,.int .i64 1] 245):=⟨_,rfl⟩;have hV2n:V2.heap[w2.heap.size]?=some (.cells #[pt g,.int .i64 ((1:Nat):Int),pt f2,.int .i64 1] 245 (0,0)):=(by rw [hV2];exact heap_alloc_new w2 _);have hV2b:Below w2.heap.size w2 V2:=(by rw [hV2];exact Joins.below_alloc1 w2 _);have hV2s:V2.heap.size=w2.heap.size + 1:=(by rw [hV2];simp);have hb12:Below w.heap.size w V2:=hbb.trans (Joins.below_le hV2b hz12);have HC2:=join_pair (A:=New A w V2) hV2n (by omega) (New.low HAA.out (by omega)) (.inr ⟨by omega,by omega⟩) (HG.out.up HAA.out hb12 (fun b hb=>.inl hb)) (hf2.up (New.low HAA.out hz12) hV2b (fun b hb=>New.more (v:=w) hb (Nat.le_refl _) (by omega))) (by omega) (by omega);rw [← HSJ.out] at HC2;have HV2B:=hid hb12;have HV2:=hid hV2;have HV2S:=hid hV2s;clear hV2 hV2n hV2b hV2s hb12 hf2 hb2 hbb HC1) | (go_at_call 130;rw [← HV2.out];(with_reducible refine HC2.mono ?_);rintro e w4 ⟨f4,rfl,hf4,hb4⟩;have hbb:Below w.heap.size w w4:=HV2B.out.trans (Joins.below_le hb4 HV2B.out.size);have HC3:=do49 (HR.out.kept hbb) (Nat.le_trans hx hbb.size) f4 s (bp_below HPP.out HNN.out hf4 (New.low (New.low HAA.out (by have:=HV2S.out;omega)) hb4.size)) hus;have HB4:=hid hbb;clear hf4 hb4 hbb HC2) | (go_at_call 136;(with_reducible refine HC3.mono ?_);rintro e w5 ⟨rfl,uv5,hr5,hc5⟩;have hcc:=chg_of_below HB4.out hc5;have HRB5:=hid (show Below x w w5 from HR.out.below hcc hx);have HR5:=hid hr5;have HC5:=hid hcc;clear hr5 hc5 hcc HC3))
 all_goals go_end0
 all_goals exact ⟨rfl,uv5,HR5.out,HC5.out⟩
theorem EQ.at {x:Nat} {l:List Tn} {ev:Value} {w w':World} (h:EQ x l ev w) (hk:∀ c,c < x→w'.heap[c]?=w.heap[c]?):EQ x l ev w':=fun W b uv us h1 h2 h3 h4=>h W b uv us h1 (fun c hc=>(h2 c hc).trans (hk c hc)) h3 h4
theorem nodesL_flat_le (n:Nat) (l:List Tn) (h:0 < n):nodesL l≤nodesL (List.replicate n l).flatten:=by
 rw [nodesL_rep];exact Nat.le_mul_of_pos_left _ h
theorem rowS_nodes (k:Int) (l:List (Tn × Nat)) (i:Nat) (hi:i < l.length) (hp:0 < l[i].2):nodesL (within k l[i].1)≤nodesL (rowS k l):=by
 have h1:rowS k l=rowS k (l.take (i + 1)) ++ rowS k (l.drop (i + 1)):=by rw [← rowS_append,List.take_append_drop]
 rw [h1,rowS_take k l i hi,nodesL_append,nodesL_append]
 have:=nodesL_flat_le l[i].2 (within k l[i].1) hp
 omega
theorem rv_kept {w W:World} {A:Nat→Prop} {x:Nat} {ad:Option Addr} {fs:Nat→Nat} {l:List (Tn × Nat)} (h:RV w A ad fs l) (hA:∀ c,A c→c < x) (hk:∀ c,c < x→W.heap[c]?=w.heap[c]?):RV W (fun c=>c < x) ad fs l:=h.kept (fun b hb=>hk b (hA b hb)) hA
theorem each_ok {N x:Nat} (HP:BPs N) {w:World} {A:Nat→Prop} {f:Nat} {t:Tn} (h:FA w A f t) (hA:∀ c,A c→c < x):t.nodes≤N→∃ N0 ev,FC w f N0 ev t∧N0.k=t.kind∧EQ x t.subs ev w:=by
 induction h with
 | @leaf f N' R hf hc ok hr hR hRk h5 =>
  intro hN
  refine ⟨_,_,hc,rfl,fun W b uv us h1 h2 h3 h4=>⟨203,#[],rfl,en68,?_⟩⟩
  refine (leaf68 (dv b) W).mono ?_
  rintro e w' ⟨rfl,rfl⟩
  exact ⟨rfl,uv,by simpa [Tn.subs] using h3,Chg.refl _ _⟩
 | @over f b' g k mn mx ix lz nm s hf hc ok hb hbB hs ih =>
  intro hN
  refine ⟨_,_,hc,rfl,fun W b uv us h1 h2 h3 h4=>⟨202,#[pt b'],rfl,en67,?_⟩⟩
  have hsN:s.nodes < N:=by simp only [Tn.nodes,nodesL] at hN;omega
  exact over67 h3 h1 ((h2 b' (hA b' hbB)).trans hb) (bp_below HP hsN (hs.kept (fun c hc=>h2 c (hA c hc)) (fun _ h=>h)) (fun c hc=>by have:=hA c hc;omega)) (by simp [Tn.subs] at h4;omega)
 | @row f b1 b2 k ad c fs l hf hc hk h1 h2 hb1 hb2 hv ht hl hs ih =>
  intro hN
  refine ⟨_,_,hc,rfl,fun W b uv us g1 g2 g3 g4=>⟨198,#[pt b1,pt b2],rfl,en63,?_⟩⟩
  have hNl:1 + nodesL (rowS k l)≤N:=hN
  refine row63 g3 g1 ((g2 b1 (hA _ hb1)).trans h1) ((g2 b2 (hA _ hb2)).trans h2) (hA _ hb1) (hA _ hb2) rfl (rv_kept hv hA g2) (fun y hy=>(ht y hy).2) hl ?_ g4
  intro i hi W' uv' us' e1 e2 e3 e4
  have hw:=rowS_nodes k l i hi (ht _ (List.getElem_mem hi)).1
  rw [within_nodes] at hw
  have hpos:=(l[i]).1.pos
  have hcw:∀ c,c < x→W'.heap[c]?=w.heap[c]?:=fun c hc=>(e2 c hc).trans (g2 c hc)
  obtain ⟨N0,ev,q1,q2,q3⟩:=ih i hi (by split at hw <;> omega)
  have hfx:fs i < x:=hA _ (hs i hi).cells.1
  refine within64 e3 e1 (q1.kept (hcw _ hfx)) q2 (fun _=>q3.at hcw) (fun hne=>?_) e4
  rw [if_neg hne] at hw
  exact bp_below HP (by omega) ((hs i hi).kept (fun c hc=>hcw c (hA c hc)) (fun _ h=>h)) (fun c hc=>by have:=hA c hc;omega)
 | @opt f b1 b2 b3 g n lz y hf hc h1 h2 h3 hb1 hb2 hb3 hn hd hs ih =>
  intro hN
  refine ⟨_,_,hc,(optT_kind _ _ _).symm,fun W b uv us g1 g2 g3 g4=>⟨232,#[pt b1,pt b2,pt b3],rfl,en95,?_⟩⟩
  rw [optT_step,loopT_nodes] at hN
  exact opt95 HP g3 g1 ((g2 _ (hA _ hb1)).trans h1) ((g2 _ (hA _ hb2)).trans h2) ((g2 _ (hA _ hb3)).trans h3) (hA _ hb1) (hA _ hb2) (hA _ hb3) hn hd (fun c hc=>by have:=hA c hc;omega) (hs.kept (fun c hc=>g2 c (hA c hc)) (fun _ h=>h)) (by omega) (by rw [optT_step] at g4;simp [Tn.subs] at g4;omega)
end Go.Proofs.YtacaanhnlfpbhaaGreat
