/- HELPERS: texts of ours put together. -/
import Derived.Test.YtacaanhnlfpbhaaGreatK25
namespace Go.Proofs.YtacaanhnlfpbhaaGreat
open Go.RowKit
set_option linter.unusedVariables false
set_option linter.unusedSimpArgs false
abbrev E8.v (q:E8):Value:=.agg #[.int .i64 q.k,.int .i64 q.a,.int .i64 q.ix,.slice q.r1 q.r2 q.r3,.slice q.sa q.sn q.sc,.bool q.lz,.int .i64 q.up,.int .i64 q.nth]
theorem eight_cells {W:World} {y:Nat} {v0 v1 v2 v3 v4 v5 v6 v7:Value} {t:TypeId} (h:W.heap[y]?=some (.cells #[v0,v1,v2,v3,v4,v5,v6,v7] t (0,0))):W.cell? ⟨y,0,none⟩=some v0∧W.cell? ⟨y,1,none⟩=some v1∧W.cell? ⟨y,2,none⟩=some v2∧W.cell? ⟨y,3,none⟩=some v3∧W.cell? ⟨y,4,none⟩=some v4∧W.cell? ⟨y,5,none⟩=some v5∧W.cell? ⟨y,6,none⟩=some v6∧W.cell? ⟨y,7,none⟩=some v7:=
 ⟨Joins.cell_of_block h 0,Joins.cell_of_block h 1,Joins.cell_of_block h 2,Joins.cell_of_block h 3,Joins.cell_of_block h 4,Joins.cell_of_block h 5,Joins.cell_of_block h 6,Joins.cell_of_block h 7⟩
theorem eight_set {W:World} {y:Nat} {v0 v1 v2 v3 v4 v5 v6 v7 x:Value} {t:TypeId} (h:W.heap[y]?=some (.cells #[v0,v1,v2,v3,v4,v5,v6,v7] t (0,0))):(W.setCell ⟨y,6,none⟩ x).heap[y]?=some (.cells #[v0,v1,v2,v3,v4,v5,x,v7] t (0,0)):=Joins.block_setCell (i:=6) h _
set_option maxRecDepth 100000 in
set_option maxHeartbeats 16000000 in
theorem put81 {tb N0:Nat} {W:World} {v:Value} {Q:List E8} {q:E8} {S:List Nat} (h:UM tb N0 W v Q) (hN:N0≤W.heap.size) (hS:Rw W (.slice q.sa q.sn q.sc) (S.map fun (x:Nat)=>(x:Int))) (hq:q.sn=S.length) (hlt:∀ x ∈ S,x < Q.length) (hQ:Q.length≤100000) (hS2:S.length≤100000) :
  Calls Tryz.prog 81 #[.pointer (some ⟨tb,0,none⟩),q.v] W fun e w'=>∃ v',e=.returned (.int .i64 (Q.length:Int))∧UM tb N0 w' v' (ups Q.length S 0 (Q ++ [{ q with up:=-1 }]))∧UFr tb W w' v v':=by
 obtain ⟨k,a,ix,r1,r2,r3,sa,sn,sc,lz,up,nth⟩:=q
 simp only at hS hq
 subst hq
 obtain ⟨va,vc,hva⟩:∃ va vc,v=.slice va Q.length vc:=by
  obtain ⟨x,y,e,_⟩:=row_form h.row
  exact ⟨x,y,e⟩
 subst hva
 obtain ⟨U,hU⟩:∃ U,U=W.alloc (.cells #[.int .i64 k,.int .i64 a,.int .i64 ix,.slice r1 r2 r3,.slice sa S.length sc,.bool lz,.int .i64 up,.int .i64 nth] 141):=⟨_,rfl⟩
 have hbU:Below W.heap.size W U:=by rw [hU];exact Joins.below_alloc1 W _
 have hUX:U.heap[W.heap.size]?=some (.cells #[.int .i64 k,.int .i64 a,.int .i64 ix,.slice r1 r2 r3,.slice sa S.length sc,.bool lz,.int .i64 up,.int .i64 nth] 141 (0,0)):=by rw [hU];exact heap_alloc_new W _
 have hUM:=h.below hbU
 obtain ⟨x,hx⟩:∃ x,x=W.heap.size:=⟨_,rfl⟩
 rw [← hx] at hUX
 have k0:U.cell? ⟨tb,0,none⟩=some (.slice va Q.length vc):=Joins.cell_of_block hUM.box 0
 have hxt:x≠tb:=fun e=>by rw [e,hUM.box] at hUX;simp at hUX
 have hxo:(Value.slice va Q.length vc).ownBlock≠some x:=fun e=>by have:=(h.row.lt x e).2;omega
 have u6:=Joins.unfrozen_of_block hUX 6
 have y6:U.cell? ⟨x,6,none⟩=some (.int .i64 up):=Joins.cell_of_block hUX 6
 -- the box with up set
 obtain ⟨U2,hU2⟩:∃ U2,U2=U.setCell ⟨x,6,none⟩ (.int .i64 (-1)):=⟨_,rfl⟩
 have hUX2:U2.heap[x]?=some (.cells #[.int .i64 k,.int .i64 a,.int .i64 ix,.slice r1 r2 r3,.slice sa S.length sc,.bool lz,.int .i64 (-1),.int .i64 nth] 141 (0,0)):=by rw [hU2];exact eight_set hUX
 have set2:∀ b,b≠x→U2.heap[b]?=U.heap[b]?:=fun b hb=>by rw [hU2];exact Below.heap_setCell _ _ _ _ hb
 have hUM2:UM tb N0 U2 (.slice va Q.length vc) Q:=⟨(set2 tb (fun e=>hxt e.symm)).trans hUM.box,row_kept hUM.row fun b hb=>set2 b (fun e=>hxo (e ▸ hb)),h.tbN⟩
 have hs2:U2.heap.size=U.heap.size:=by rw [hU2];simp [World.setCell]
 have hsU:U.heap.size=x + 1:=by rw [hU,hx];simp
 have fr2:UFr tb W U2 (.slice va Q.length vc) (.slice va Q.length vc):=⟨by rw [hU2,hU];rfl,by rw [hU2,hU];rfl,by rw [hU2,hU];rfl,by omega,fun b hb _ _=>(set2 b (by omega)).trans (hbU.block b hb),fun b hb=>.inl hb⟩
 obtain ⟨x0,x1,x2,x3,x4,x5,x6,x7⟩:=eight_cells hUX2
 have k0':U2.cell? ⟨tb,0,none⟩=some (.slice va Q.length vc):=Joins.cell_of_block hUM2.box 0
 have HUM2:=hid hUM2
 have HFR2:=hid fr2
 have HUX2:=hid hUX2
 have HSR:Hid (Rw U2 (.slice sa S.length sc) (S.map fun (x:Nat)=>(x:Int))):=(fr2.ki h hN).row hS
 have HLT:=hid hlt
 have HXT:=hid hxt
 have HXO:=hid hxo
 have HHU:=hid hU
 have HHU2:=hid hU2
 have HX:=hid hx
 have HN0:Hid (N0≤U2.heap.size):=by show _≤_;omega
 have HXL:Hid (x < U2.heap.size):=by show _ < _;omega
 clear h hS hlt hbU hUX hUM hUM2 set2 hs2 hsU fr2 hUX2
 obtain ⟨n,hn⟩:∃ n,n=Q.length:=⟨_,rfl⟩
 rw [← hn] at k0 k0' HUM2 HFR2 hQ HXO ⊢
 have HNL:=hid hn
 obtain ⟨m,hm⟩:∃ m,m=S.length:=⟨_,rfl⟩
 rw [← hm] at x4 HUX2 HSR HHU hS2 ⊢
 have HML:=hid hm
 clear hn hm hU hU2 hx hxt hxo
 go_enter Tryz.func81,Tryz.ntmps81
 go_upto_region 1 with fail
 rw [← HHU.out,← HX.out]
 go_upto_region 3 with fail
 rw [← HHU2.out]
 clear k0 u6 y6
 obtain ⟨i0,hi0,hz0,hz1,hz2⟩:=info_parts info141
 have hrow:U2.ownsRow N0 141 8 (.slice va n vc) n (Q.flatMap E8.cs):=by have:=HUM2.out.row;rw [← HNL.out] at this;exact this
 have HROW:=hid hrow
 clear hrow
 have HSW:Hid (∀ V,Below U2.heap.size U2 V→V.cell? ⟨tb,0,none⟩=some (.slice va n vc)):=fun V hV=>(cell_eq (hV.block tb (Array.getElem?_eq_some_iff.1 HUM2.out.box).1) _).trans k0'
 refine wp_region_lexK [0,1,2,3,4,5] [6,7,8,9,10] 10 (fun V=>V.cell? ⟨tb,0,none⟩=some (.slice va n vc)∧V.cell? ⟨x,0,none⟩=some (.int .i64 k)∧V.cell? ⟨x,1,none⟩=some (.int .i64 a)∧V.cell? ⟨x,2,none⟩=some (.int .i64 ix)∧V.cell? ⟨x,3,none⟩=some (.slice r1 r2 r3)∧V.cell? ⟨x,4,none⟩=some (.slice sa m sc)∧V.cell? ⟨x,5,none⟩=some (.bool lz)∧V.cell? ⟨x,6,none⟩=some (.int .i64 (-1))∧V.cell? ⟨x,7,none⟩=some (.int .i64 nth)) (by kernel_rfl) (by kernel_rfl) rfl (by kernel_rfl) (by kernel_rfl) ⟨k0',x0,x1,x2,x3,x4,x5,x6,x7⟩ ?_
 simp only [opsAt,opsNo,List.getElem?_toArray,List.getElem?_cons_zero,List.getElem?_cons_succ]
 iterate 6
  refine lex_cons ?_ rfl (fun V hV=>?_) (fun _ _ _ h=>h) ?_
  rotate_left
  ·obtain ⟨s0,s1,s2,s3,s4,s5,s6,s7,s8⟩:=hV
   go_simp <;> with_reducible rfl
  simp only [Act.put,List.setIfInBounds_toArray,List.set_cons_zero,List.set_cons_succ]
 refine lex_nil (tailK_cons fun K hK=>?_)
 go_simp
 obtain ⟨q,hq⟩:∃ q:E8,q=⟨k,a,ix,r1,r2,r3,sa,m,sc,lz,-1,nth⟩:=⟨_,rfl⟩
 have hBA:Below U2.heap.size U2 (U2.drew.alloc (.cells #[.int .i64 k,.int .i64 a,.int .i64 ix,.slice r1 r2 r3,.slice sa m sc,.bool lz,.int .i64 (-1),.int .i64 nth] 141)):=(show Below U2.heap.size U2 U2.drew from ⟨rfl,rfl,rfl,Nat.le_refl _,fun _ _=>rfl⟩).trans (Joins.below_alloc1 U2.drew _)
 have HSX:Hid (∀ V,Below U2.heap.size U2 V→V.cell? ⟨tb,0,none⟩=some (.slice va n vc)∧V.cell? ⟨x,0,none⟩=some (.int .i64 k)∧V.cell? ⟨x,1,none⟩=some (.int .i64 a)∧V.cell? ⟨x,2,none⟩=some (.int .i64 ix)∧V.cell? ⟨x,3,none⟩=some (.slice r1 r2 r3)∧V.cell? ⟨x,4,none⟩=some (.slice sa m sc)∧V.cell? ⟨x,5,none⟩=some (.bool lz)∧V.cell? ⟨x,6,none⟩=some (.int .i64 (-1))∧V.cell? ⟨x,7,none⟩=some (.int .i64 nth)):=fun V hV=>⟨HSW.out V hV,eight_cells ((hV.block x HXL.out).trans HUX2.out)⟩
 refine hK.out _ _ (fun _=>HSX.out _ hBA) (tailK_cons fun K hK=>?_)
 clear hBA
 have hN0:=HN0.out
 refine step_append rfl (.tmp 17) (.tmp 19) 75 rfl N0 141 i0 (.agg #[.int .i64 0,.int .i64 0,.int .i64 0,.slice none 0 0,.slice none 0 0,.bool false,.int .i64 0,.int .i64 0]) 8 96 Tryz.underlying75 hi0 hz0 hz1 hz2 rfl (by decide) (.slice va n vc) n (Q.flatMap E8.cs) rfl ((show U2.drew.ownsRow N0 141 8 (.slice va n vc) n (Q.flatMap E8.cs) from HROW.out).alloc _) ⟨U2.drew.heap.size,0,none⟩ 1 1 (E8.cs q) rfl rfl (by decide) ?_ ?_ (by unfold maxLen;omega) (by omega) (by have:U2.drew.heap.size=U2.heap.size:=rfl;simp;omega) ?_
 ·intro j u hj
  rw [hq] at hj
  match j,hj with
  | 0,hj=>simp at hj;subst hj;simp [Addr.add]
  | 1,hj=>simp at hj;subst hj;simp [Addr.add]
  | 2,hj=>simp at hj;subst hj;simp [Addr.add]
  | 3,hj=>simp at hj;subst hj;simp [Addr.add]
  | 4,hj=>simp at hj;subst hj;simp [Addr.add]
  | 5,hj=>simp at hj;subst hj;simp [Addr.add]
  | 6,hj=>simp at hj;subst hj;simp [Addr.add]
  | 7,hj=>simp at hj;subst hj;simp [Addr.add]
 ·intro u hu
  simp at hu
  rcases hu with rfl | rfl | rfl | rfl | rfl | rfl | rfl | rfl <;> rfl
 intro v' w4 ho4 hm4
 obtain ⟨pb,pc,rfl⟩:=Joins.ownsRow_form ho4.out (by omega)
 have hmv:Moved (U2.drew.alloc (.cells #[.int .i64 k,.int .i64 a,.int .i64 ix,.slice r1 r2 r3,.slice sa m sc,.bool lz,.int .i64 (-1),.int .i64 nth] 141)) w4 (.slice va n vc) (.slice (some ⟨pb,0,none⟩) (n + 1) pc):=hm4.out
 have hpu0:=(show UM tb N0 U2.drew (.slice va n vc) Q from ⟨HUM2.out.box,HUM2.out.row,HUM2.out.tbN⟩).push (q:=q) hmv (by rw [← HNL.out];exact ho4.out)
 have HPU:Hid (UM tb N0 (w4.setCell ⟨tb,0,none⟩ (.slice (some ⟨pb,0,none⟩) (n + 1) pc)) (.slice (some ⟨pb,0,none⟩) (n + 1) pc) (Q ++ [q])∧UFr tb U2 (w4.setCell ⟨tb,0,none⟩ (.slice (some ⟨pb,0,none⟩) (n + 1) pc)) (.slice va n vc) (.slice (some ⟨pb,0,none⟩) (n + 1) pc)):=⟨hpu0.1,hpu0.2.os,hpu0.2.tape,hpu0.2.output,hpu0.2.size,hpu0.2.old,hpu0.2.own⟩
 clear hpu0
 have old:∀ b,b < U2.heap.size→(Value.slice va n vc).ownBlock≠some b→w4.heap[b]?=U2.heap[b]?:=fun b hb hne=>(moved_old' hmv (by have:U2.drew.heap.size=U2.heap.size:=rfl;simp;omega) hne).trans (heap_alloc_old U2.drew _ hb)
 have hb4:w4.heap[tb]?=some (.cells #[.slice va n vc] 77 (0,0)):=(old tb (Array.getElem?_eq_some_iff.1 HUM2.out.box).1 (own_ne HROW.out HUM2.out.box (by decide))).trans HUM2.out.box
 have hx4:w4.heap[x]?=some (.cells #[.int .i64 k,.int .i64 a,.int .i64 ix,.slice r1 r2 r3,.slice sa m sc,.bool lz,.int .i64 (-1),.int .i64 nth] 141 (0,0)):=(old x HXL.out HXO.out).trans HUX2.out
 have q0:w4.cell? ⟨tb,0,none⟩=some (.slice va n vc):=Joins.cell_of_block hb4 0
 have uq0:=Joins.unfrozen_of_block hb4 0
 have e8:=eight_cells hx4
 obtain ⟨V1,hV1⟩:∃ V1,V1=w4.setCell ⟨tb,0,none⟩ (.slice (some ⟨pb,0,none⟩) (n + 1) pc):=⟨_,rfl⟩
 have hx5:V1.heap[x]?=some (.cells #[.int .i64 k,.int .i64 a,.int .i64 ix,.slice r1 r2 r3,.slice sa m sc,.bool lz,.int .i64 (-1),.int .i64 nth] 141 (0,0)):=by rw [hV1];exact (Below.heap_setCell _ _ _ _ HXT.out).trans hx4
 rw [← hV1] at HPU
 have hpx:x≠pb:=fun e=>by
  rcases HPU.out.2.own x (by rw [e];rfl) with h1 | h1
  ·exact HXO.out h1
  ·have:=HXL.out;omega
 have HUV:=hid HPU.out.1
 have HFV:=hid (HFR2.out.trans HPU.out.2)
 have HSV:Hid (Rw V1 (.slice sa m sc) (S.map fun (x:Nat)=>(x:Int))):=(HPU.out.2.ki HUM2.out HN0.out).row HSR.out
 have HX5:=hid hx5
 have HPX:=hid hpx
 have HV1:=hid hV1
 have HQE:=hid hq
 clear hmv old hx4 hb4 ho4 hm4 hx5 hpx hV1 HPU hq
 refine hK.out _ _ (fun _=>⟨q0,e8⟩) (tailK_cons fun K hK=>?_)
 simp only [Act.put,List.setIfInBounds_toArray,List.set_cons_zero,List.set_cons_succ]
 go_simp
 refine hK.out _ _ (fun _=>⟨q0,e8⟩) (tailK_cons fun K hK=>?_)
 simp only [Act.put,List.setIfInBounds_toArray,List.set_cons_zero,List.set_cons_succ]
 go_simp
 refine hK.out _ _ (fun _=>⟨q0,e8⟩) (tailK_cons fun K hK=>?_)
 simp only [Act.put,List.setIfInBounds_toArray,List.set_cons_zero,List.set_cons_succ]
 go_simp
 refine hK.out _ _ (fun h=>absurd rfl h) (tailK_nil ?_)
 try simp only [Act.put,List.setIfInBounds_toArray,List.set_cons_zero,List.set_cons_succ]
 rw [← HV1.out]
 clear q0 uq0 e8 k0' x0 x1 x2 x3 x4 x5 x6 x7
 go_wp2_with fail
 go_loopw [6] (fun u wq=>∃ i:Nat,u=.int .i64 (i:Int)∧i≤m∧Hid (UM tb N0 wq (.slice (some ⟨pb,0,none⟩) (n + 1) pc) (ups n (S.take i) 0 (Q ++ [q])))∧Hid (UFr tb V1 wq (.slice (some ⟨pb,0,none⟩) (n + 1) pc) (.slice (some ⟨pb,0,none⟩) (n + 1) pc))) (fun u _=>m - (intOf u).toNat)
 case atStart=>exact ⟨0,rfl,Nat.zero_le _,by simp only [List.take_zero,ups];exact HUV.out,UFr.refl _ _ _⟩
 case round =>
  obtain ⟨i,rfl,hi,HUQ,HFQ⟩:=hrel
  have hx6:=(HFQ.out.old x (Array.getElem?_eq_some_iff.1 HX5.out).1 HXT.out (fun e=>HPX.out (by simpa [Value.ownBlock] using e.symm))).trans HX5.out
  obtain ⟨-,-,-,-,x4,-,-,-⟩:=eight_cells hx6
  by_cases hit:i < m
  ·have b1:decide ((i:Int) < (m:Int))=true:=by simp;omega
   have b2:(i:Int) < (m:Int):=by omega
   have a1:IntKind.i64.wrap ((i:Int) + 1)=(i:Int) + 1:=by simp [IntKind.wrap,IntKind.bits,IntKind.signed];omega
   have hil:i < S.length:=by have:=HML.out;omega
   have hsu:=(HFQ.out.ki HUV.out (by have:=HFV.out.size;have:=hN;omega)).row HSV.out
   obtain ⟨gg,hsa,hg⟩:=sub_cell hsu (by simp;exact HML.out) hit
   subst hsa
   have hgv:(List.map (fun (x:Nat)=>(x:Int)) S).getD i 0=((S[i]:Nat):Int):=by simp [List.getD_eq_getElem?_getD,List.getElem?_eq_getElem hil]
   rw [hgv] at hg
   obtain ⟨c,hc⟩:∃ c,c=S[i]:=⟨_,rfl⟩
   rw [← hc] at hg
   have hcl:c < n:=by rw [hc,HNL.out];exact HLT.out _ (List.getElem_mem hil)
   have c1:(c:Int) < ((n + 1:Nat):Int):=by omega
   have c2:(c:Int)≤100000:=by omega
   have c3:(c:Int) < (n:Int) + 1:=by omega
   have hql:c < (ups n (S.take i) 0 (Q ++ [q])).length:=by rw [ups_len];simp;have:=HNL.out;omega
   have hnl:n + 1=(ups n (S.take i) 0 (Q ++ [q])).length:=by rw [ups_len];simp;exact HNL.out
   have um0:UM tb N0 wr.drew (.slice (some ⟨pb,0,none⟩) (n + 1) pc) (ups n (S.take i) 0 (Q ++ [q])):=⟨HUQ.out.box,HUQ.out.row,HUQ.out.tbN⟩
   have fr0:UFr tb wr wr.drew (.slice (some ⟨pb,0,none⟩) (n + 1) pc) (.slice (some ⟨pb,0,none⟩) (n + 1) pc):=⟨rfl,rfl,rfl,Nat.le_refl _,fun _ _ _ _=>rfl,fun _ h=>.inl h⟩
   obtain ⟨um1o,fr1o,fz1⟩:=um0.setUp hnl hql (n:Int)
   obtain ⟨y1,hy1⟩:∃ y1,y1=(wr.setCell ⟨pb,c * 8 + 6,none⟩ (.int .i64 (n:Int))).drew:=⟨_,rfl⟩
   have um1:UM tb N0 y1 (.slice (some ⟨pb,0,none⟩) (n + 1) pc) ((ups n (S.take i) 0 (Q ++ [q])).set c { (ups n (S.take i) 0 (Q ++ [q]))[c] with up:=(n:Int) }):=by rw [hy1];exact um1o
   have fr1:UFr tb wr.drew y1 (.slice (some ⟨pb,0,none⟩) (n + 1) pc) (.slice (some ⟨pb,0,none⟩) (n + 1) pc):=by rw [hy1];exact fr1o
   have um1':UM tb N0 y1.drew (.slice (some ⟨pb,0,none⟩) (n + 1) pc) ((ups n (S.take i) 0 (Q ++ [q])).set c { (ups n (S.take i) 0 (Q ++ [q]))[c] with up:=(n:Int) }):=⟨um1.box,um1.row,um1.tbN⟩
   have fr1':UFr tb y1 y1.drew (.slice (some ⟨pb,0,none⟩) (n + 1) pc) (.slice (some ⟨pb,0,none⟩) (n + 1) pc):=⟨rfl,rfl,rfl,Nat.le_refl _,fun _ _ _ _=>rfl,fun _ h=>.inl h⟩
   obtain ⟨um2,fr2o,fz2⟩:=um1'.setNth (by rw [List.length_set];exact hnl) (j:=c) (by simpa using hql) (i:Int)
   obtain ⟨y2,hy2⟩:∃ y2,y2=(y1.setCell ⟨pb,c * 8 + 7,none⟩ (.int .i64 (i:Int))).drew:=⟨_,rfl⟩
   have fr2:UFr tb y1.drew y2 (.slice (some ⟨pb,0,none⟩) (n + 1) pc) (.slice (some ⟨pb,0,none⟩) (n + 1) pc):=by rw [hy2];exact fr2o
   have hstep:ups n (S.take (i + 1)) 0 (Q ++ [q])=((ups n (S.take i) 0 (Q ++ [q])).set c { (ups n (S.take i) 0 (Q ++ [q]))[c] with up:=(n:Int) }).set c { ((ups n (S.take i) 0 (Q ++ [q])).set c { (ups n (S.take i) 0 (Q ++ [q]))[c] with up:=(n:Int) })[c]'(by simpa using hql) with nth:=(i:Int) }:=by
    rw [List.take_succ_eq_append_getElem hil,ups_snoc,← hc]
    simp only [ups,List.length_take,Nat.min_eq_left (Nat.le_of_lt hil),Nat.zero_add]
    exact ups_step hql
   rw [← hstep] at um2
   have HU2:Hid (UM tb N0 y2 (.slice (some ⟨pb,0,none⟩) (n + 1) pc) (ups n (S.take (i + 1)) 0 (Q ++ [q]))):=by rw [hy2];exact hid um2
   have HF2:=hid (HFQ.out.trans (fr0.trans (fr1.trans (fr1'.trans fr2))))
   obtain ⟨u6,n6⟩:∃ u6,wr.cell? ⟨pb,c * 8 + 6,none⟩=some (.int .i64 u6):=by obtain ⟨-,-,-,-,-,-,n6,-⟩:=HUQ.out.at c hql;exact ⟨_,n6⟩
   obtain ⟨u7,n7⟩:∃ u7,y1.cell? ⟨pb,c * 8 + 7,none⟩=some (.int .i64 u7):=by obtain ⟨-,-,-,-,-,-,-,n7⟩:=um1.at c (by simpa using hql);exact ⟨_,n7⟩
   have t0:wr.cell? ⟨tb,0,none⟩=some (.slice (some ⟨pb,0,none⟩) (n + 1) pc):=Joins.cell_of_block HUQ.out.box 0
   have t1:y1.cell? ⟨tb,0,none⟩=some (.slice (some ⟨pb,0,none⟩) (n + 1) pc):=Joins.cell_of_block um1.box 0
   have hx7:y1.heap[x]?=_:=(fr1.old x (Array.getElem?_eq_some_iff.1 hx6).1 HXT.out (fun e=>HPX.out (by simpa [Value.ownBlock] using e.symm))).trans hx6
   obtain ⟨-,-,-,-,z4,-,-,-⟩:=eight_cells hx7
   have hg1:y1.cell? ⟨gg,i,none⟩=some (.int .i64 (c:Int)):=by
    have hsu1:=(fr1.ki um0 (by show _≤wr.heap.size;have:=HFQ.out.size;have:=HFV.out.size;have:=hN;omega)).row (show Rw wr.drew _ _ from hsu)
    obtain ⟨g2,e2,h2⟩:=sub_cell hsu1 (by simp;exact HML.out) hit
    simp only [Option.some.injEq,Addr.mk.injEq] at e2
    rw [← e2.1] at h2
    rw [h2,hgv,hc]
   have fz1':wr.frozen? ⟨pb,c * 8 + 6,none⟩=false:=fz1
   have fz2':y1.frozen? ⟨pb,c * 8 + 7,none⟩=false:=fz2
   have HY1:=hid hy1
   have HY2:=hid hy2
   clear um0 um1o fr1o fr2o um1 um1' um2 fr0 fr1 fr1' fr2 fz1 fz2 hstep hsu hgv hc hx6 hx7 hql hnl hil hy1 hy2
   go_upto_region 7 with fail
   refine wp_region_lexK [0,1,2,3,4,5,6,7,8,9] [10,11,12] 12 (fun V=>V.cell? ⟨tb,0,none⟩=some (.slice (some ⟨pb,0,none⟩) (n + 1) pc)∧V.cell? ⟨x,4,none⟩=some (.slice (some ⟨gg,0,none⟩) m sc)∧V.cell? ⟨gg,i,none⟩=some (.int .i64 (c:Int))) (by kernel_rfl) (by kernel_rfl) rfl (by kernel_rfl) (by kernel_rfl) ⟨t0,x4,hg⟩ ?_
   simp only [opsAt,opsNo,List.getElem?_toArray,List.getElem?_cons_zero,List.getElem?_cons_succ]
   iterate 10
    refine lex_cons ?_ rfl (fun V hV=>?_) (fun _ _ _ h=>h) ?_
    rotate_left
    ·obtain ⟨s0,s1,s2⟩:=hV
     go_simp <;> with_reducible rfl
    simp only [Act.put,List.setIfInBounds_toArray,List.set_cons_zero,List.set_cons_succ]
   refine lex_nil (tailK_cons fun K hK=>?_)
   go_simp
   refine hK.out _ _ (fun _=>⟨t0,x4,hg⟩) (tailK_cons fun K hK=>?_)
   simp only [Act.put,List.setIfInBounds_toArray,List.set_cons_zero,List.set_cons_succ]
   go_simp
   refine hK.out _ _ (fun _=>⟨t0,x4,hg⟩) (tailK_cons fun K hK=>?_)
   simp only [Act.put,List.setIfInBounds_toArray,List.set_cons_zero,List.set_cons_succ]
   go_simp
   refine hK.out _ _ (fun h=>absurd rfl h) (tailK_nil ?_)
   try simp only [Act.put,List.setIfInBounds_toArray,List.set_cons_zero,List.set_cons_succ]
   rw [← HY1.out]
   go_upto_region 8 with fail
   refine wp_region_lexK [0,1,2,3,4,5,6,7,8,9] [10,11,12] 12 (fun V=>V.cell? ⟨tb,0,none⟩=some (.slice (some ⟨pb,0,none⟩) (n + 1) pc)∧V.cell? ⟨x,4,none⟩=some (.slice (some ⟨gg,0,none⟩) m sc)∧V.cell? ⟨gg,i,none⟩=some (.int .i64 (c:Int))) (by kernel_rfl) (by kernel_rfl) rfl (by kernel_rfl) (by kernel_rfl) ⟨t1,z4,hg1⟩ ?_
   simp only [opsAt,opsNo,List.getElem?_toArray,List.getElem?_cons_zero,List.getElem?_cons_succ]
   iterate 10
    refine lex_cons ?_ rfl (fun V hV=>?_) (fun _ _ _ h=>h) ?_
    rotate_left
    ·obtain ⟨s0,s1,s2⟩:=hV
     go_simp <;> with_reducible rfl
    simp only [Act.put,List.setIfInBounds_toArray,List.set_cons_zero,List.set_cons_succ]
   refine lex_nil (tailK_cons fun K hK=>?_)
   go_simp
   refine hK.out _ _ (fun _=>⟨t1,z4,hg1⟩) (tailK_cons fun K hK=>?_)
   simp only [Act.put,List.setIfInBounds_toArray,List.set_cons_zero,List.set_cons_succ]
   go_simp
   refine hK.out _ _ (fun _=>⟨t1,z4,hg1⟩) (tailK_cons fun K hK=>?_)
   simp only [Act.put,List.setIfInBounds_toArray,List.set_cons_zero,List.set_cons_succ]
   go_simp
   refine hK.out _ _ (fun h=>absurd rfl h) (tailK_nil ?_)
   try simp only [Act.put,List.setIfInBounds_toArray,List.set_cons_zero,List.set_cons_succ]
   rw [← HY2.out]
   clear t0 t1 x4 z4 hg hg1 n6 n7 fz1' fz2'
   go_wp2_with fail
   exact ⟨⟨i + 1,by push_cast;rfl,by omega,HU2.out,HF2.out⟩,by simp [intOf];omega⟩
  ·have b1:decide ((i:Int) < (m:Int))=false:=by simp;omega
   have hie:S.take i=S:=List.take_of_length_le (by have:=HML.out;omega)
   have hfin:=HUQ.out
   rw [hie,HQE.out] at hfin
   have HFIN:=hid hfin
   clear hfin hie
   go_wp2_with fail
   all_goals go_ret
   all_goals exact ⟨_,rfl,HFIN.out,HFV.out.trans HFQ.out⟩
theorem ups_app (n:Nat) (x:E8):∀ (S:List Nat) (i:Nat) (Q:List E8),(∀ y ∈ S,y < Q.length)→ups n S i (Q ++ [x])=ups n S i Q ++ [x]
 | [],_,_,_=>rfl
 | a :: S,i,Q,h=>by
  have ha:=h a (by simp)
  simp only [ups]
  rw [List.getElem?_append_left ha,List.getElem?_eq_getElem ha]
  simp only
  rw [List.set_append_left _ _ ha]
  exact ups_app n x S (i + 1) _ (fun y hy=>by rw [List.length_set];exact h y (by simp [hy]))
def KL (N0 lo hi:Nat) (W W':World):Prop:=(∀ b,b < N0→W'.heap[b]?=W.heap[b]?)∧∀ (b:Nat) (cur:Array Value),lo≤b→b < hi→W.heap[b]?=some (.cells cur 3 (0,0))→W'.heap[b]?=some (.cells cur 3 (0,0))
def RQ (N0 lo hi:Nat) (W:World) (Q:List E8) (T:Lt) (up nth:Int):Prop:=∀ wx Qx,KL N0 lo hi W wx→(∀ x ∈ T.lbs,Qx[x]?=Q[x]?)→T.inQ wx N0 Qx up nth
theorem KL.of {N0 lo lo' hi hi':Nat} {W w' wx:World} (k:KI N0 W w') (h:KL N0 lo hi w' wx) (h1:lo≤lo') (h2:hi'≤hi):KL N0 lo' hi' W wx:=
 ⟨fun b hb=>(h.1 b hb).trans (k.1 b hb),fun b cur b1 b2 hx=>h.2 b cur (by omega) (by omega) (k.2 b cur hx)⟩
theorem RQ.on {N0 lo lo' hi hi':Nat} {W w':World} {Q Q':List E8} {T:Lt} {up nth:Int} (h:RQ N0 lo' hi' W Q T up nth) (k:∀ wx,KL N0 lo hi w' wx→KL N0 lo' hi' W wx) (hq:∀ x ∈ T.lbs,Q'[x]?=Q[x]?):RQ N0 lo hi w' Q' T up nth:=fun wx Qx hk hx=>h wx Qx (k wx hk) (fun x hm=>(hx x hm).trans (hq x hm))
def TopR (N0 lo hi:Nat) (W:World) (Q:List E8) (ts:List Tn) (n:Nat):Prop:=∀ T ∈ pnL ts n,RQ N0 lo hi W Q T (-1) 0
theorem TopR.tops {N0 lo hi:Nat} {W wx:World} {Q:List E8} {ts:List Tn} {n:Nat} (h:TopR N0 lo hi W Q ts n) (k:KL N0 lo hi W wx):Tops wx N0 Q ts n:=fun T hT=>h T hT wx Q k (fun _ _=>rfl)
theorem TopR.on {N0 lo lo' hi hi':Nat} {W w':World} {Q Q':List E8} {ts:List Tn} {n:Nat} (h:TopR N0 lo' hi' W Q ts n) (k:∀ wx,KL N0 lo hi w' wx→KL N0 lo' hi' W wx) (hq:∀ x,n≤x→x < n + nodesL ts→Q'[x]?=Q[x]?):TopR N0 lo hi w' Q' ts n:=fun T hT=>(h T hT).on k (fun x hx=>by
 have:=pnL_lbs ts n x (lbs_in hT x hx)
 exact hq x this.1 this.2)
theorem TopR.app {N0 lo hi:Nat} {W:World} {Q:List E8} {ts us:List Tn} {n:Nat} (h:TopR N0 lo hi W Q ts n) (h':TopR N0 lo hi W Q us (n + nodesL ts)):TopR N0 lo hi W Q (ts ++ us) n:=fun T hT=>by
 rw [pnL_app] at hT
 rcases List.mem_append.1 hT with hT | hT
 ·exact h T hT
 ·exact h' T hT
def RwL (lo:Nat) (W:World) (v:Value) (L:List Int):Prop:=Rw W v L∧∀ b,v.ownBlock=some b→lo≤b
theorem Rw.kl {N0 lo hi:Nat} {W wx:World} {v:Value} {L:List Int} (h:Rw W v L) (ho:∀ b,v.ownBlock=some b→lo≤b) (hh:W.heap.size≤hi) (k:KL N0 lo hi W wx):Rw wx v L:=by
 rcases h with h | ⟨h0,h⟩
 ·exact .inl h
 ·refine .inr ⟨h0,h.1,?_⟩
  rcases h.2 with hn | ⟨g,cap,cur,hv,hb,hg,rest⟩
  ·exact .inl hn
  ·exact .inr ⟨g,cap,cur,hv,hb,k.2 g cur (ho g (by rw [hv];rfl)) (Nat.lt_of_lt_of_le (Array.getElem?_eq_some_iff.1 hg).1 hh) hg,rest⟩
def BPost (tb N0 lo:Nat) (T:Tn) (n0:Nat) (Q:List E8) (W:World) (v:Value) (e:Ending) (w':World):Prop:=
 ∃ v' Q',e=.returned (.int .i64 ((T.pn n0).lb:Int))∧UM tb N0 w' v' Q'∧UFr tb W w' v v'∧Q'.length=n0 + T.nodes∧(∀ x,x < n0→Q'[x]?=Q[x]?)∧RQ N0 lo w'.heap.size w' Q' (T.pn n0) (-1) 0
theorem rts_lt {ts:List Tn} {n:Nat}:∀ x ∈ rts ts n,n≤x∧x < n + nodesL ts:=fun x hx=>by
 obtain ⟨T,hT,rfl⟩:=List.mem_map.1 hx
 exact pnL_lbs ts n _ (lbs_in hT _ (lb_in T))
theorem rts_len (ts:List Tn) (n:Nat):(rts ts n).length=ts.length:=by simp [rts,pnL_len]
theorem rts_map (ts:List Tn) (n:Nat):((rts ts n).map fun (x:Nat)=>(x:Int))=((pnL ts n).map fun t=>(t.lb:Int)):=by simp [rts]
theorem put_built {tb N0 lo:Nat} {W:World} {v:Value} {Q:List E8} {q:E8} {ts:List Tn} {n0:Nat} (h:UM tb N0 W v Q) (hN:N0≤W.heap.size) (hT:TopR N0 lo W.heap.size W Q ts n0) (hn:n0 + nodesL ts=Q.length) (hQ:Q.length≤100000) {k:Int} {R:List (Int × Int)} {a mn mx ix:Int} {lz:Bool} {nm:ByteArray} (hk:q.k=Lt.kk ((Tn.mk k R a ts mn mx lz ix nm).pn n0)) (hz:q.nth=0) (hs:q.sn=ts.length) (hNd:Nds N0 W k R a (pnL ts n0) lz ix q.a q.ix q.r1 q.r2 q.r3 q.sa q.sc q.lz) (hso:∀ b,(Value.slice q.sa q.sn q.sc).ownBlock=some b→lo≤b) :
  Calls Tryz.prog 81 #[.pointer (some ⟨tb,0,none⟩),q.v] W (BPost tb N0 lo (.mk k R a ts mn mx lz ix nm) n0 Q W v):=by
 have hlt:∀ x ∈ rts ts n0,x < Q.length:=fun x hx=>by have:=rts_lt x hx;omega
 have hlen:ts.length≤nodesL ts:=by
  clear hT hn hk hs hNd hlt
  induction ts with
  | nil=>simp
  | cons t ts ih=>obtain ⟨k,R,a,s,mn,mx,lz,ix,nm⟩:=t;simp only [nodesL,Tn.nodes,List.length_cons];omega
 have hsu:=hNd.su
 rw [pnL_len,← rts_map,← hs] at hsu
 refine (put81 (q:=q) (S:=rts ts n0) h hN hsu (by rw [rts_len];exact hs) hlt hQ (by rw [rts_len];omega)).mono ?_
 rintro e w' ⟨v',rfl,um,fr⟩
 have ki:=fr.ki h hN
 rw [ups_app _ _ _ _ _ hlt] at um
 refine ⟨v',_,?_,um,fr,?_,fun x hx=>?_,fun wx Qx hkl hqx=>?_⟩
 ·simp only [Tn.pn,Lt.lb]
  rw [hn]
 ·simp only [List.length_append,ups_len,List.length_cons,List.length_nil,Tn.nodes]
  omega
 ·rw [List.getElem?_append_left (by rw [ups_len];omega)]
  exact ups_no _ _ _ _ _ (fun hm=>by have:=rts_lt x hm;omega)
 ·have kW:KL N0 lo W.heap.size W wx:=KL.of ki hkl (Nat.le_refl _) fr.size
  have hNx:Nds N0 wx k R a (pnL ts n0) lz ix q.a q.ix q.r1 q.r2 q.r3 q.sa q.sc q.lz:=⟨hNd.asr,hNd.gr,hNd.lp,fun e=>(hNd.cl e).keptW kW.1,hNd.su.kl (by rw [pnL_len,← hs];exact hso) (Nat.le_refl _) kW⟩
  have h1:=put_tree (x:={ q with up:=-1 }) (hT.tops kW) hn hk rfl hz hs hNx
  exact inQ_on (KI.refl _ _) _ _ _ hqx h1
theorem rts_one (t:Tn) (n:Nat):rts [t] n=[(t.pn n).lb]:=by simp [rts,pnL]
set_option maxRecDepth 100000 in
set_option maxHeartbeats 8000000 in
theorem row123 {tb N0 lo:Nat} {W:World} {v:Value} {Q:List E8} {ts:List Tn} {n0:Nat} {la:Option Addr} {lc:Nat} (h:UM tb N0 W v Q) (hN:N0≤W.heap.size) (hT:TopR N0 lo W.heap.size W Q ts n0) (hn:n0 + nodesL ts=Q.length) (hQ:Q.length≤100000) (hS:RwL lo W (.slice la ts.length lc) ((rts ts n0).map fun (x:Nat)=>(x:Int))) :
  Calls Tryz.prog 123 #[.pointer (some ⟨tb,0,none⟩),.slice la ts.length lc] W (BPost tb N0 lo (rowN ts) n0 Q W v):=by
 obtain ⟨hS,hSo⟩:=hS
 match ts,hT,hn,hS,hSo with
 | [],hT,hn,hS,hSo =>
  have HC:=put_built (lo:=lo) (q:=⟨1,0,0,none,0,0,none,0,0,false,0,0⟩) (k:=1) (R:=[]) (a:=0) (mn:=0) (mx:=0) (ix:=0) (lz:=false) (nm:=⟨#[]⟩) h hN hT hn hQ rfl rfl rfl ⟨fun h=>absurd h (by decide),fun h=>absurd h (by decide),fun h=>absurd h (by decide),fun h=>absurd h (by decide),.inl ⟨rfl,rfl⟩⟩ (fun b hb=>by simp [Value.ownBlock] at hb)
  obtain ⟨P,hP⟩:∃ P,P=BPost tb N0 lo (rowN []) n0 Q W v:=⟨_,rfl⟩
  have HC':Calls Tryz.prog 81 #[.pointer (some ⟨tb,0,none⟩),.agg #[.int .i64 1,.int .i64 0,.int .i64 0,.slice none 0 0,.slice none 0 0,.bool false,.int .i64 0,.int .i64 0]] W P:=by rw [hP];exact HC
  rw [← hP]
  have HPR:Hid (∀ e w',P e w'→∃ z,e=.returned (.int .i64 z)):=fun e w' hp=>by rw [hP] at hp;obtain ⟨v',Q',e1,_⟩:=hp;exact ⟨_,e1⟩
  clear HC hP h hT hn hS hSo
  go_enter Tryz.func123,Tryz.ntmps123
  go_wp2_with (first | (go_at_call 81;(with_reducible refine HC'.mono ?_);rintro e w' hp;obtain ⟨z,rfl⟩:=HPR.out _ _ hp;have HPP:=hid hp;clear hp HC'))
  all_goals first | exact HPP.out | (go_ret;exact HPP.out)
 | [t],hT,hn,hS,hSo =>
  rw [rts_one] at hS
  obtain ⟨g,rfl,hg⟩:=sub_cell hS (by simp) (i:=0) (by simp)
  simp only [List.map_cons,List.map_nil,List.getD_cons_zero] at hg
  have hfin:BPost tb N0 lo (rowN [t]) n0 Q W v (.returned (.int .i64 ((t.pn n0).lb:Int))) W:=⟨v,Q,rfl,h,UFr.refl _ _ _,by simp only [nodesL] at hn;simp only [rowN];omega,fun x _=>rfl,hT _ (by simp [pnL,rowN])⟩
  have HFIN:=hid hfin
  clear hfin hS h hT hSo
  generalize (t.pn n0).lb=z at hg HFIN
  go_enter Tryz.func123,Tryz.ntmps123
  go_wp2_with fail
  all_goals go_ret
  all_goals exact HFIN.out
 | t :: u :: ts,hT,hn,hS,hSo =>
  have HC:=put_built (lo:=lo) (q:=⟨4,0,0,none,0,0,la,(t :: u :: ts).length,lc,false,0,0⟩) (k:=4) (R:=[]) (a:=0) (mn:=0) (mx:=0) (ix:=0) (lz:=false) (nm:=⟨#[]⟩) h hN hT hn hQ rfl rfl rfl ⟨fun h=>absurd h (by decide),fun h=>absurd h (by decide),fun h=>absurd h (by decide),fun h=>absurd h (by decide),by rw [pnL_len,← rts_map];exact hS⟩ hSo
  obtain ⟨P,hP⟩:∃ P,P=BPost tb N0 lo (rowN (t :: u :: ts)) n0 Q W v:=⟨_,rfl⟩
  obtain ⟨m,hm⟩:∃ m,m=(t :: u :: ts).length:=⟨_,rfl⟩
  have HC':Calls Tryz.prog 81 #[.pointer (some ⟨tb,0,none⟩),.agg #[.int .i64 4,.int .i64 0,.int .i64 0,.slice none 0 0,.slice la m lc,.bool false,.int .i64 0,.int .i64 0]] W P:=by rw [hP,hm];exact HC
  rw [← hP,← hm]
  have HPR:Hid (∀ e w',P e w'→∃ z,e=.returned (.int .i64 z)):=fun e w' hp=>by rw [hP] at hp;obtain ⟨v',Q',e1,_⟩:=hp;exact ⟨_,e1⟩
  have hm2:2≤m:=by rw [hm];simp
  have b1:((m:Int) == 0)=false:=by simp;omega
  have b2:((m:Int) == 1)=false:=by simp;omega
  have b3:¬ m=0:=by omega
  have b4:¬ m=1:=by omega
  clear HC hP h hT hn hS hm hSo
  go_enter Tryz.func123,Tryz.ntmps123
  go_wp2_with (first | (go_at_call 81;(with_reducible refine HC'.mono ?_);rintro e w' hp;obtain ⟨z,rfl⟩:=HPR.out _ _ hp;have HPP:=hid hp;clear hp HC'))
  all_goals first | exact HPP.out | (go_ret;exact HPP.out)
end Go.Proofs.YtacaanhnlfpbhaaGreat
