/- HELPERS: texts of ours put together. -/
import Derived.Test.YtacaanhnlfpbhaaGreatK35
import Derived.Test.YtacaanhnlfpbhaaGreatK04
import Derived.Test.YtacaanhnlfpbhaaGreatK18
import Derived.Maps.AppendAt
import Derived.Deep.RegionLaw
import Derived.Test.YtacaanhnlfpbhaaGreatK09
namespace Go.Proofs.YtacaanhnlfpbhaaGreat
open Go.RowKit
set_option linter.unusedVariables false
set_option linter.unusedSimpArgs false
theorem run_append_zero {P:Program} (t ty e:TypeId) (i:TypeInfo) (ht:P.underlying t=some (.slice e)) (hi:P.info? e=some i) (a0:Addr) (l c0:Nat) (h:l≤c0) (ad:Option Addr) (c:Nat) (w:World) :
  (Builtin.append_ #[t,t] ty #[.slice (some a0) l c0,.slice ad 0 c]).run P w=.ok (.slice (some a0) l c0) w:=by
 cases ad with
 | none=>simp [Builtin.append_,run_underlying ht,sizeOf,typeInfo,hi,Builtin.lenOf,Builtin.firstCells,h,storeCells]
 | some a=>simp [Builtin.append_,run_underlying ht,sizeOf,typeInfo,hi,Builtin.lenOf,Builtin.firstCells,loadCells,loadCellsFrom,h,storeCells]
theorem step_append_any {P:Program} {ops:Array Oper} {o:Oper} {a:Act} {w:World} {K:Act→World→Prop} {Q:Exit→Act→World→Prop} {E:Prop}
  (hg:o.guard=none) (s x:Operand) (t:TypeId) (hop:o.op=Op.call { callee:=Callee.builtin Builtin.append,args:=#[s,x],argTypes:=#[t,t] })
  (base:Nat) (e:TypeId) (i:TypeInfo) (z:Value) (size bytes:Nat) (h1:P.underlying t=some (.slice e)) (h2:P.info? e=some i) (h3:i.zero=some z) (h4:i.size=size) (h5:i.bytes=bytes) (h6:z.cells.size=size) (h7:0 < size)
  (a0:Addr) (n c0:Nat) (xs:List Value) (hs:a.eval s=.slice (some a0) n c0) (hown:w.ownsRow base e size (.slice (some a0) n c0) n xs)
  (ad:Option Addr) (m c:Nat) (news:List Value) (hx:a.eval x=.slice ad m c) (hn:news.length=m * size) (hc:0 < m→∃ b f,ad=some ⟨b,f,none⟩∧∀ j u,news[j]?=some u→w.cell? ⟨b,f + j,none⟩=some u) (h1c:∀ u ∈ news,u.oneCell'=true)
  (b1:n + m≤maxLen) (b2:(n + m) * bytes≤140737488355328) (hb:base≤w.heap.size)
  (hK:∀ v' w',w'.ownsRow base e size v' (n + m) (xs ++ news)→Frm w w' (.slice (some a0) n c0) v'→K (a.put o.dst v') w') :
  if Region.wanted o (yielded ops a.tmps)=true then Oper.wp P o a w K Q else E:=by
 rcases Nat.eq_zero_or_pos m with h0 | h0
 ·have hw:Region.wanted o (yielded ops a.tmps)=true:=by simp [Region.wanted,hg]
  rw [if_pos hw]
  subst h0
  obtain rfl:news=[]:=List.length_eq_zero_iff.1 (by omega)
  have hcap:n≤c0:=by
   rcases hown.2 with ⟨e,_⟩ | ⟨g,cap,cur,e,_,_,h,_⟩
   ·cases e
   ·simp only [Value.slice.injEq] at e;omega
  have hrun:=run_append_zero (P:=P) t o.type e i h1 h2 a0 n c0 hcap ad c w
  unfold Oper.wp
  simp [execOp,hop,resolve,invoke,builtin,hs,hx,hrun,Result.andThen]
  exact hK _ w (by simpa using hown) (Frm.refl _ _)
 ·obtain ⟨b,f,rfl,hc'⟩:=hc h0
  exact step_append_moveN hg s x t hop base e i z size bytes h1 h2 h3 h4 h5 h6 h7 _ n xs hs hown ⟨b,f,none⟩ m c news hx hn h0 (fun j u hj=>by rw [Addr.add_mid];exact hc' j u hj) h1c b1 b2 hb (fun v' w' r1 r2=>hK v' w' r1 r2.frm)
abbrev mk7 (k:Int):Nv:=⟨k,none,0,0,0,none,0,0,0,0,false,0,⟨#[]⟩⟩
inductive TL (w:World):Nv→Tn→(Nat→Prop)→Prop
 | mk {N:Nv} {R:List (Int × Int)} {ts:List Tn} {ND:Nat→Nv} {AS:Nat→Nat→Prop} (ok:N.ok) (hRk:∀ x ∈ R,I64ok x.1∧I64ok x.2) (e1:N.r2=R.length) (e2:N.s2=ts.length)
   (rr:w.ownsRow 0 70 2 (.slice N.r1 (R.length + 2) N.r3) (R.length + 2) (O2 (R ++ M2))) (sr:w.ownsRow 0 25 9 (.slice N.s1 (ts.length + 2) N.s3) (ts.length + 2) (((List.range ts.length).map ND ++ [mk7 (-77),mk7 (-78)]).flatMap Nv.cs))
   (hk:∀ i (hi:i < ts.length),TL w (ND i) ts[i] (AS i))
   (d1:∀ i j b,i < ts.length→j < ts.length→i≠j→AS i b→¬ AS j b)
   (d2:∀ b,N.rb=some b→N.sb≠some b)
   (d3:∀ i b,i < ts.length→AS i b→N.rb≠some b∧N.sb≠some b) :
   TL w N (.mk N.k R N.a2 ts N.a4 N.a5 N.a6 N.a7 N.a8) (fun b=>N.rb=some b∨N.sb=some b∨∃ i,i < ts.length∧AS i b)
theorem make53 (c:Nat) (hc:c * 16≤140737488355328) (w:World):(Instr.makeSlice 22 (.int .i64 0) (.int .i64 (c:Int))).run Tryz.prog w=.ok (.slice (some ⟨w.heap.size,0,none⟩) 0 c) (w.alloc (.cells (madeCells (Value.agg #[.int .i64 0,.int .i64 0]).cells (c * 2)) 70)):=by
 obtain ⟨i0,hi0,hz0,hz1,hz2⟩:=info_parts info53
 have h:=run_make (P:=Tryz.prog) w 22 70 i0 (.agg #[.int .i64 0,.int .i64 0]) Tryz.underlying22 hi0 hz0 .i64 .i64 0 c (by omega) (by omega) (by rw [hz2];omega) (by omega)
 simp only [Int.toNat_natCast,hz1,Int.toNat_zero] at h
 exact h
theorem made_own53 (c:Nat) (hc:c≤maxLen) (base:Nat) (w:World) (hb:base≤w.heap.size):(w.alloc (.cells (madeCells (Value.agg #[.int .i64 0,.int .i64 0]).cells (c * 2)) 70)).ownsRow base 70 2 (.slice (some ⟨w.heap.size,0,none⟩) 0 c) 0 []:=
 ⟨rfl,.inr ⟨w.heap.size,c,_,rfl,hb,heap_alloc_new w _,Nat.zero_le _,hc,size_madeCells _ _,by simp⟩⟩
theorem make25 (c:Nat) (hc:c * 112≤140737488355328) (w:World):(Instr.makeSlice 23 (.int .i64 0) (.int .i64 (c:Int))).run Tryz.prog w=.ok (.slice (some ⟨w.heap.size,0,none⟩) 0 c) (w.alloc (.cells (madeCells Z9.cells (c * 9)) 25)):=by
 obtain ⟨i0,hi0,hz0,hz1,hz2⟩:=info_parts info25
 have h:=run_make (P:=Tryz.prog) w 23 25 i0 Z9 Tryz.underlying23 hi0 hz0 .i64 .i64 0 c (by omega) (by omega) (by rw [hz2];omega) (by omega)
 simp only [Int.toNat_natCast,hz1,Int.toNat_zero] at h
 exact h
theorem made_own25 (c:Nat) (hc:c≤maxLen) (base:Nat) (w:World) (hb:base≤w.heap.size):(w.alloc (.cells (madeCells Z9.cells (c * 9)) 25)).ownsRow base 25 9 (.slice (some ⟨w.heap.size,0,none⟩) 0 c) 0 []:=
 ⟨rfl,.inr ⟨w.heap.size,c,_,rfl,hb,heap_alloc_new w _,Nat.zero_le _,hc,size_madeCells _ _,by simp⟩⟩
theorem lit_cells {w:World} {b:Nat} {c0 c1 c2 c3:Value} {t:TypeId} (h:w.heap[b]?=some (.cells #[c0,c1,c2,c3] t (0,0))):∀ j u,([c0,c1,c2,c3]:List Value)[j]?=some u→w.cell? ((⟨b,0,none⟩:Addr).add j)=some u:=by
 intro j u hj
 rw [Addr.add_mid,Nat.zero_add,Joins.cell_of_block h]
 simpa using hj
theorem TL.kept {w w':World} {N:Nv} {t:Tn} {A:Nat→Prop} (h:TL w N t A) (hk:∀ b,A b→w'.heap[b]?=w.heap[b]?):TL w' N t A:=by
 induction h with
 | mk ok hRk e1 e2 rr sr hkk d1 d2 d3 ih =>
  exact .mk ok hRk e1 e2 (row_kept rr fun b hb=>hk b (.inl ((ob_len _ _ _ _ _).trans hb))) (row_kept sr fun b hb=>hk b (.inr (.inl ((ob_len _ _ _ _ _).trans hb)))) (fun i hi=>ih i hi fun b hb=>hk b (.inr (.inr ⟨i,hi,hb⟩))) d1 d2 d3
theorem TL.low {w:World} {N:Nv} {t:Tn} {A:Nat→Prop} (h:TL w N t A):∀ b,A b→b < w.heap.size:=by
 induction h with
 | mk ok hRk e1 e2 rr sr hkk d1 d2 d3 ih =>
  rintro b (h | h | ⟨i,hi,h⟩)
  ·exact (rr.lt b ((ob_len _ _ _ _ _).trans h)).2
  ·exact (sr.lt b ((ob_len _ _ _ _ _).trans h)).2
  ·exact ih i hi b h
theorem map_snoc_if (i:Nat) (f:Nat→Nv) (M:Nv):(List.range (i + 1)).map (fun j=>if j=i then M else f j)=(List.range i).map f ++ [M]:=by
 rw [List.range_succ,List.map_append]
 congr 1
 ·apply List.map_congr_left
  intro j hj
  rw [if_neg (by have:=List.mem_range.1 hj;omega)]
 ·simp
theorem marks_one:∀ u ∈ (mk7 (-77)).cs ++ (mk7 (-78)).cs,u.oneCell'=true:=fun u hu=>(List.mem_append.1 hu).elim (one9 _ u) (one9 _ u)
set_option maxRecDepth 100000 in
set_option maxHeartbeats 16000000 in
theorem lent12 {w0:World} {B:Nat} {N:Nv} {t:Tn} (h:TI w0 B N t):t.nodes≤200000→t.small=true→(∀ (w:World),B≤w.heap.size→(∀ b,b < B→w.heap[b]?=w0.heap[b]?) →
  Calls Tryz.prog 12 #[N.v] w fun e w'=>∃ M A,e=.returned (Nv.v M)∧TL w' M t A∧(∀ b,A b→w.heap.size≤b)∧Below w.heap.size w w'):=by
 induction h with
 | @mk N R ts ND ok hr hR hRk hs hS hk ih =>
 intro hno hsm w hB hw
 simp only [Tn.small,Bool.and_eq_true,decide_eq_true_eq] at hsm
 have hR5:=hsm.1
 simp only [Tn.nodes] at hno
 have IH:∀ i (hi:i < ts.length) (w:World),B≤w.heap.size→(∀ b,b < B→w.heap[b]?=w0.heap[b]?)→Calls Tryz.prog 12 #[(ND i).v] w fun e w'=>∃ M A,e=.returned (Nv.v M)∧TL w' M ts[i] A∧(∀ b,A b→w.heap.size≤b)∧Below w.heap.size w w':=fun i hi=>ih i hi (by have:=nodes_get ts i hi;omega) (smallL_get hsm.2 i hi)
 have hlen:ts.length≤200000:=by have:=nodes_ge ts;omega
 have HRL:Hid (N.r2=R.length):=hr
 have hr2:N.r2 * 16≤140737488351232:=by omega
 have HRW:Hid (∀ w1:World,(∀ b,b < B→w1.heap[b]?=w0.heap[b]?)→R2 w1 B N.r1 R):=fun w1 h1=>hR.kept h1
 have HOK:=hid ok
 obtain ⟨k,r1,r2,r3,a2,s1,s2,s3,a4,a5,a6,a7,a8⟩:=N
 dsimp only at hs hS HRL HRW hr2
 have hm2:s2≤200000:=by omega
 have HW:=hid hw
 have HS:=hid hS
 have HIH:=hid IH
 have HL:=hid hs
 obtain ⟨i5,hi5,hz50,hz51,hz52⟩:=info_parts info53
 obtain ⟨i2,hi2,hz20,hz21,hz22⟩:=info_parts info25
 clear ok hr hR hk hS hw ih hs IH hno hlen hR5 hsm
 have hmk:=fun W=>make53 (r2 + 2) (by omega) W
 rw [show ((r2 + 2:Nat):Int)=(r2:Int) + 2 by push_cast;rfl] at hmk
 have hmo:=fun base W hb=>made_own53 (r2 + 2) (by unfold maxLen;omega) base W hb
 have ad2:IntKind.i64.wrap ((r2:Int) + 2)=(r2:Int) + 2:=by simp [IntKind.wrap,IntKind.bits,IntKind.signed];omega
 have HMO:=hid hmo
 have HSRC:Hid (∀ V:World,(∀ b,b < B→V.heap[b]?=w0.heap[b]?)→0 < r2→∃ b f,r1=some ⟨b,f,none⟩∧∀ j u,(O2 R)[j]?=some u→V.cell? ⟨b,f + j,none⟩=some u):=fun V hV hp=>(HRW.out V hV).src (by have:=HRL.out;omega)
 have HO2:Hid ((O2 R).length=r2 * 2):=(O2_len R).trans (by rw [HRL.out])
 clear hmo
 generalize hmc:madeCells (Value.agg #[.int .i64 0,.int .i64 0]).cells ((r2 + 2) * 2)=mc at *
 clear hmc
 go_enter Tryz.func12,Tryz.ntmps12
 go_upto_region 1 with fail
 obtain ⟨W,hW⟩:∃ W,W=(w.alloc (.cells #[.int .i64 k,.slice r1 r2 r3,.int .i64 a2,.slice s1 s2 s3,.int .i64 a4,.int .i64 a5,.bool a6,.int .i64 a7,.string a8] 25)).alloc (.cells #[.int .i64 0,.slice none 0 0,.int .i64 0,.slice none 0 0,.int .i64 0,.int .i64 0,.bool false,.int .i64 0,.string ⟨#[]⟩] 25):=⟨_,rfl⟩
 rw [← hW]
 have hX:BxN W w.heap.size ⟨k,r1,r2,r3,a2,s1,s2,s3,a4,a5,a6,a7,a8⟩:=by rw [hW];exact (heap_alloc_old _ _ (by simp)).trans (heap_alloc_new w _)
 have hY:BxZ W (w.heap.size + 1):=by rw [hW];exact two_new w _ _ _
 have hb:Below w.heap.size w W:=by rw [hW];exact below_two' w _ _
 have hsW:W.heap.size=w.heap.size + 2:=by rw [hW];simp
 obtain ⟨x,hx⟩:∃ x,x=w.heap.size:=⟨_,rfl⟩
 rw [← hx] at hX hY hb hsW ⊢
 have HX:=hid hX
 have HY:=hid hY
 have HB:=hid hb
 have HSW:=hid hsW
 have HXE:=hid hx
 have hxl:x < W.heap.size:=by omega
 have hwkW:∀ b,b < B→W.heap[b]?=w0.heap[b]?:=fun b hb'=>(hb.block b (by omega)).trans (HW.out b hb')
 have HWK:=hid hwkW
 clear hY hb hsW hx hW
 go_cut [3] from 7 (fun s3 wx=>∃ c1 c3,s3=.slice c1 (r2 + 2) c3∧Hid (wx.ownsRow W.heap.size 70 2 (.slice c1 (r2 + 2) c3) (r2 + 2) (O2 (R ++ M2)))∧Hid (Below W.heap.size W wx))
 case first =>
  obtain ⟨q0,q1,q2,q3,q4,q5,q6,q7,q8⟩:=nine' hX
  have HA:Hid ((W.drew.alloc (.cells mc 70)).ownsRow W.heap.size 70 2 (.slice (some ⟨W.heap.size,0,none⟩) 0 (r2 + 2)) 0 []):=HMO.out W.heap.size W.drew (Nat.le_refl _)
  have HBo:Hid (((W.drew.alloc (.cells #[.int .i64 (-77),.int .i64 0,.int .i64 (-78),.int .i64 0] 70)).alloc (.cells mc 70)).ownsRow W.heap.size 70 2 (.slice (some ⟨W.heap.size + 1,0,none⟩) 0 (r2 + 2)) 0 []):=by
   have:=HMO.out W.heap.size (W.drew.alloc (.cells #[.int .i64 (-77),.int .i64 0,.int .i64 (-78),.int .i64 0] 70)) (by simp)
   have e:(W.drew.alloc (.cells #[.int .i64 (-77),.int .i64 0,.int .i64 (-78),.int .i64 0] 70)).heap.size=W.heap.size + 1:=by simp
   rw [e] at this
   exact this
  have HCo:Hid (((W.drew.alloc (.cells mc 70)).alloc (.cells #[.int .i64 (-77),.int .i64 0,.int .i64 (-78),.int .i64 0] 70)).ownsRow W.heap.size 70 2 (.slice (some ⟨W.heap.size,0,none⟩) 0 (r2 + 2)) 0 []):=HA.out.alloc _
  have HS1:=hid (HSRC.out (W.drew.alloc (.cells mc 70)) (fun b hb=>(heap_alloc_old _ _ (by have:=HSW.out;have:=HXE.out;simp;omega)).trans (hwkW b hb)))
  have HS2:=hid (HSRC.out ((W.drew.alloc (.cells #[.int .i64 (-77),.int .i64 0,.int .i64 (-78),.int .i64 0] 70)).alloc (.cells mc 70)) (fun b hb=>(heap_alloc_old _ _ (by have:=HSW.out;have:=HXE.out;simp;omega)).trans ((heap_alloc_old _ _ (by have:=HSW.out;have:=HXE.out;simp;omega)).trans (hwkW b hb))))
  have HS3:=hid (HSRC.out ((W.drew.alloc (.cells mc 70)).alloc (.cells #[.int .i64 (-77),.int .i64 0,.int .i64 (-78),.int .i64 0] 70)) (fun b hb=>(heap_alloc_old _ _ (by have:=HSW.out;have:=HXE.out;simp;omega)).trans ((heap_alloc_old _ _ (by have:=HSW.out;have:=HXE.out;simp;omega)).trans (hwkW b hb))))
  have HLB:Hid (((W.drew.alloc (.cells #[.int .i64 (-77),.int .i64 0,.int .i64 (-78),.int .i64 0] 70)).alloc (.cells mc 70)).heap[W.heap.size]?=some (.cells #[.int .i64 (-77),.int .i64 0,.int .i64 (-78),.int .i64 0] 70 (0,0))):=(heap_alloc_old _ _ (by simp)).trans (heap_alloc_new W.drew _)
  have HLC:Hid (((W.drew.alloc (.cells mc 70)).alloc (.cells #[.int .i64 (-77),.int .i64 0,.int .i64 (-78),.int .i64 0] 70)).heap[W.heap.size + 1]?=some (.cells #[.int .i64 (-77),.int .i64 0,.int .i64 (-78),.int .i64 0] 70 (0,0))):=two_new W.drew _ _ _
  clear hX hwkW
  go_region_law (first
   | (refine step_append_any rfl (.tmp 11) (.tmp 13) 22 rfl W.heap.size 70 i5 (.agg #[.int .i64 0,.int .i64 0]) 2 16 Tryz.underlying22 hi5 hz50 hz51 hz52 rfl (by decide) ⟨W.heap.size,0,none⟩ 0 (r2 + 2) [] (by simp [Act.eval,Act.put]) (by exact HA.out) r1 r2 r3 (O2 R) (by simp [Act.eval,Act.put]) HO2.out (by exact HS1.out) (O2_one R) (by unfold maxLen;omega) (by omega) (by (try simp) <;> omega) ?_;intro v3 w3 ho3 hf3;obtain ⟨p1,p3,e3,_⟩:=row_shape ho3;rw [Nat.zero_add] at e3;subst e3;have hz3:W.heap.size + 1≤w3.heap.size:=(by have:=hf3.size;simp at this;omega))
   | (refine step_append_any rfl (.tmp 11) (.tmp 13) 22 rfl W.heap.size 70 i5 (.agg #[.int .i64 0,.int .i64 0]) 2 16 Tryz.underlying22 hi5 hz50 hz51 hz52 rfl (by decide) ⟨W.heap.size + 1,0,none⟩ 0 (r2 + 2) [] (by simp [Act.eval,Act.put]) (by exact HBo.out) r1 r2 r3 (O2 R) (by simp [Act.eval,Act.put]) HO2.out (by exact HS2.out) (O2_one R) (by unfold maxLen;omega) (by omega) (by (try simp) <;> omega) ?_;intro v3 w3 ho3 hf3;obtain ⟨p1,p3,e3,_⟩:=row_shape ho3;rw [Nat.zero_add] at e3;subst e3;have hz3:W.heap.size + 1≤w3.heap.size:=(by have:=hf3.size;simp at this;omega);have HL3:Hid (w3.heap[W.heap.size]?=some (.cells #[.int .i64 (-77),.int .i64 0,.int .i64 (-78),.int .i64 0] 70 (0,0))):=(hf3.block _ (by (try simp) <;> omega) (by simp [Value.ownBlock])).trans HLB.out)
   | (refine step_append_any rfl (.tmp 11) (.tmp 13) 22 rfl W.heap.size 70 i5 (.agg #[.int .i64 0,.int .i64 0]) 2 16 Tryz.underlying22 hi5 hz50 hz51 hz52 rfl (by decide) ⟨W.heap.size,0,none⟩ 0 (r2 + 2) [] (by simp [Act.eval,Act.put]) (by exact HCo.out) r1 r2 r3 (O2 R) (by simp [Act.eval,Act.put]) HO2.out (by exact HS3.out) (O2_one R) (by unfold maxLen;omega) (by omega) (by (try simp) <;> omega) ?_;intro v3 w3 ho3 hf3;obtain ⟨p1,p3,e3,_⟩:=row_shape ho3;rw [Nat.zero_add] at e3;subst e3;have hz3:W.heap.size + 1≤w3.heap.size:=(by have:=hf3.size;simp at this;omega);have HL3:Hid (w3.heap[W.heap.size + 1]?=some (.cells #[.int .i64 (-77),.int .i64 0,.int .i64 (-78),.int .i64 0] 70 (0,0))):=(hf3.block _ (by (try simp) <;> omega) (by simp [Value.ownBlock])).trans HLC.out)
   | (refine step_append_moveN rfl (.tmp 14) (.tmp 17) 22 rfl W.heap.size 70 i5 (.agg #[.int .i64 0,.int .i64 0]) 2 16 Tryz.underlying22 hi5 hz50 hz51 hz52 rfl (by decide) (.slice p1 r2 p3) r2 (O2 R) (by simp [Act.eval,Act.put]) (by have t:=ho3.alloc (.cells #[.int .i64 (-77),.int .i64 0,.int .i64 (-78),.int .i64 0] 70);rw [Nat.zero_add] at t;exact t) ⟨w3.heap.size,0,none⟩ 2 2 [.int .i64 (-77),.int .i64 0,.int .i64 (-78),.int .i64 0] (by simp [Act.eval,Act.put]) rfl (by decide) (by exact lit_cells (heap_alloc_new w3 _)) (by simp [Value.oneCell']) (by unfold maxLen;omega) (by omega) (by (try simp) <;> omega) ?_;intro v5 w5 ho5 hm5)
   | (refine step_append_moveN rfl (.tmp 14) (.tmp 17) 22 rfl W.heap.size 70 i5 (.agg #[.int .i64 0,.int .i64 0]) 2 16 Tryz.underlying22 hi5 hz50 hz51 hz52 rfl (by decide) (.slice p1 r2 p3) r2 (O2 R) (by simp [Act.eval,Act.put]) (by have t:=ho3;rw [Nat.zero_add] at t;exact t) ⟨W.heap.size,0,none⟩ 2 2 [.int .i64 (-77),.int .i64 0,.int .i64 (-78),.int .i64 0] (by simp [Act.eval,Act.put]) rfl (by decide) (by exact lit_cells HL3.out) (by simp [Value.oneCell']) (by unfold maxLen;omega) (by omega) (by (try simp) <;> omega) ?_;intro v5 w5 ho5 hm5)
   | (refine step_append_moveN rfl (.tmp 14) (.tmp 17) 22 rfl W.heap.size 70 i5 (.agg #[.int .i64 0,.int .i64 0]) 2 16 Tryz.underlying22 hi5 hz50 hz51 hz52 rfl (by decide) (.slice p1 r2 p3) r2 (O2 R) (by simp [Act.eval,Act.put]) (by have t:=ho3;rw [Nat.zero_add] at t;exact t) ⟨W.heap.size + 1,0,none⟩ 2 2 [.int .i64 (-77),.int .i64 0,.int .i64 (-78),.int .i64 0] (by simp [Act.eval,Act.put]) rfl (by decide) (by exact lit_cells HL3.out) (by simp [Value.oneCell']) (by unfold maxLen;omega) (by omega) (by (try simp) <;> omega) ?_;intro v5 w5 ho5 hm5))
  all_goals go_wp2_with fail
  all_goals go_meet
  all_goals
   have hb3:Below W.heap.size W w3:=⟨hf3.os,hf3.tape,hf3.output,by omega,fun b hb=>(hf3.block b (by (try simp) <;> omega) (fun h=>by simp [Value.ownBlock] at h;omega)).trans (by first | exact heap_alloc_old _ _ (by (try simp) <;> omega) | exact (heap_alloc_old _ _ (by (try simp) <;> omega)).trans (heap_alloc_old _ _ (by (try simp) <;> omega)))⟩
   have hf5:=hm5.frm
   have hb5:Below W.heap.size W w5:=⟨hf5.os.trans hb3.os,hf5.tape.trans hb3.tape,hf5.output.trans hb3.output,by have:=hf5.size;(try simp at this);omega,fun b hb=>(hf5.block b (by (try simp) <;> omega) (fun h=>by have:=(ho3.lt b h).1;omega)).trans (by first | exact (heap_alloc_old _ _ (by omega)).trans (hb3.block b hb) | exact hb3.block b hb)⟩
   obtain ⟨c1,c3,rfl,_⟩:=row_shape ho5
   refine ⟨c1,c3,rfl,?_,hb5⟩
   show w5.ownsRow _ _ _ _ _ _
   rw [show O2 (R ++ M2)=O2 R ++ [.int .i64 (-77),.int .i64 0,.int .i64 (-78),.int .i64 0] by simp [O2,M2]]
   exact ho5
 case rest =>
  clear hX hwkW
  obtain ⟨c1,c3,rfl,HRR,HBW⟩:=hcut
  obtain ⟨c3b1,c3b2⟩:r2 + 2≤c3∧c3≤maxLen:=by
   obtain ⟨_,_,e,h1,h2⟩:=row_shape HRR.out
   simp only [Value.slice.injEq] at e
   obtain ⟨_,_,rfl⟩:=e
   exact ⟨h1,h2⟩
  have HC3:Hid (r2 + 2≤c3∧c3≤maxLen):=⟨c3b1,c3b2⟩
  clear c3b2
  have hwl:W.heap.size≤wc.heap.size:=HBW.out.size
  have hXc:BxN wc x ⟨k,r1,r2,r3,a2,s1,s2,s3,a4,a5,a6,a7,a8⟩:=(HBW.out.block x hxl).trans HX.out
  obtain ⟨q0,q1,q2,q3,q4,q5,q6,q7,q8⟩:=nine' hXc
  have hmk2:=make25 (s2 + 2) (by omega) wc
  rw [show ((s2 + 2:Nat):Int)=(s2:Int) + 2 by push_cast;rfl] at hmk2
  have ad3:IntKind.i64.wrap ((s2:Int) + 2)=(s2:Int) + 2:=by simp [IntKind.wrap,IntKind.bits,IntKind.signed];omega
  have hown0:=made_own25 (s2 + 2) (by unfold maxLen;omega) W.heap.size wc hwl
  have hbV0:Below wc.heap.size wc (wc.alloc (.cells (madeCells Z9.cells ((s2 + 2) * 9)) 25)):=Joins.below_alloc1 wc _
  obtain ⟨V0,hV0⟩:∃ V,V=wc.alloc (.cells (madeCells Z9.cells ((s2 + 2) * 9)) 25):=⟨_,rfl⟩
  rw [← hV0] at hmk2 hown0 hbV0
  have HOWN0:=hid hown0
  have HBV0:=hid hbV0
  clear hV0 hown0 hbV0 hXc HMO hmk HSRC HO2
  go_upto_region 3 with fail
  clear q0 q1 q2 q3 q4 q5 q6 q7 q8
  go_wp2_with fail
  go_loopw [4,5] (fun u y wq=>∃ (i:Nat) (z1:Option Addr) (z3:Nat),u=.slice z1 i z3∧y=.int .i64 (i:Int)∧i≤s2∧Hid (∃ (MS:Nat→Nv) (AS:Nat→Nat→Prop),wq.ownsRow W.heap.size 25 9 (.slice z1 i z3) i (((List.range i).map MS).flatMap Nv.cs)∧(∀ j,j < i→TL wq (MS j) (ts.getD j default) (AS j))∧(∀ j b,j < i→AS j b→W.heap.size≤b∧(Value.slice c1 (r2 + 2) c3).ownBlock≠some b∧(Value.slice z1 i z3).ownBlock≠some b)∧(∀ j l b,j < i→l < i→j≠l→AS j b→¬ AS l b))∧Hid (∀ b,(Value.slice z1 i z3).ownBlock=some b→(Value.slice c1 (r2 + 2) c3).ownBlock≠some b)∧Hid (wq.ownsRow W.heap.size 70 2 (.slice c1 (r2 + 2) c3) (r2 + 2) (O2 (R ++ M2)))∧Hid (Below W.heap.size W wq)) (fun _ y _=>s2 - (intOf y).toNat)
  case atStart =>
   refine ⟨0,_,_,rfl,rfl,by omega,⟨fun _=>default,fun _ _=>False,HOWN0.out,fun j hj=>by omega,fun j b hj=>by omega,fun j l b hj=>by omega⟩,fun b hb h=>?_,row_kept HRR.out (fun b hb=>HBV0.out.block b (HRR.out.lt b hb).2),HBW.out.trans (Joins.below_le HBV0.out hwl)⟩
   have h1:=(HRR.out.lt b h).2
   simp [Value.ownBlock] at hb
   omega
  case round =>
   obtain ⟨i,z1,z3,rfl,rfl,hi,HST,HUR,HRq,HBq⟩:=hrel
   have hXq:BxN wr x ⟨k,r1,r2,r3,a2,s1,s2,s3,a4,a5,a6,a7,a8⟩:=(HBq.out.block x hxl).trans HX.out
   obtain ⟨q0,q1,q2,q3,q4,q5,q6,q7,q8⟩:=nine' hXq
   have hwl':W.heap.size≤wr.heap.size:=HBq.out.size
   have hxr:x < wr.heap.size:=by omega
   by_cases hil:i < s2
   ·have b1:decide ((i:Int) < (s2:Int))=true:=by simp;omega
    have b2:(i:Int) < (s2:Int):=by omega
    have ad1:IntKind.i64.wrap ((i:Int) + 1)=(i:Int) + 1:=by simp [IntKind.wrap,IntKind.bits,IntKind.signed];omega
    have hlt:i < ts.length:=by rw [← HL.out];exact hil
    obtain ⟨b,o,hs1,hb,hc⟩:=HS.out (by omega)
    subst hs1
    have hwk:∀ b,b < B→wr.heap[b]?=w0.heap[b]?:=fun b hb=>(HBq.out.block b (by have:=HSW.out;have:=HXE.out;omega)).trans (HWK.out b hb)
    obtain ⟨n0,n1,n2,n3,n4,n5,n6,n7,n8⟩:=(hc i hlt).kept (hwk b hb)
    have HC:=HIH.out i hlt wr (by have:=HSW.out;have:=HXE.out;omega) hwk
    obtain ⟨P,hP⟩:∃ P,P=ND i:=⟨_,rfl⟩
    rw [← hP] at HC n0 n1 n2 n3 n4 n5 n6 n7 n8
    have hbl:b < wr.heap.size:=by have:=HSW.out;have:=HXE.out;omega
    obtain ⟨MS,AS,hS1,hS2,hS3,hS4⟩:=HST.out
    have HS1:=hid hS1
    have HS2:=hid hS2
    have HS3:=hid hS3
    have HS4:=hid hS4
    clear hc hP hwk hXq HST hS1 hS2 hS3 hS4
    go_wp2_with (first | (go_at_call 12;(with_reducible refine HC.mono ?_);rintro e w2 ⟨M,A,rfl,hM,hA,hb2⟩;have HM:=hid hM;have HA:=hid hA;have HB2:=hid hb2;have hz2:wr.heap.size≤w2.heap.size:=hb2.size;have HO1:Hid (((w2.alloc (.cells #[.int .i64 M.k,.slice M.r1 M.r2 M.r3,.int .i64 M.a2,.slice M.s1 M.s2 M.s3,.int .i64 M.a4,.int .i64 M.a5,.bool M.a6,.int .i64 M.a7,.string M.a8] 25)).alloc (.cells #[.int .i64 M.k,.slice M.r1 M.r2 M.r3,.int .i64 M.a2,.slice M.s1 M.s2 M.s3,.int .i64 M.a4,.int .i64 M.a5,.bool M.a6,.int .i64 M.a7,.string M.a8] 25)).ownsRow W.heap.size 25 9 (.slice z1 i z3) i (((List.range i).map MS).flatMap Nv.cs)):=((row_kept HS1.out (fun b hb=>hb2.block b (HS1.out.lt b hb).2)).alloc _).alloc _;have HLt:Hid (((w2.alloc (.cells #[.int .i64 M.k,.slice M.r1 M.r2 M.r3,.int .i64 M.a2,.slice M.s1 M.s2 M.s3,.int .i64 M.a4,.int .i64 M.a5,.bool M.a6,.int .i64 M.a7,.string M.a8] 25)).alloc (.cells #[.int .i64 M.k,.slice M.r1 M.r2 M.r3,.int .i64 M.a2,.slice M.s1 M.s2 M.s3,.int .i64 M.a4,.int .i64 M.a5,.bool M.a6,.int .i64 M.a7,.string M.a8] 25)).ownsRow 0 25 9 (.slice (some ⟨w2.heap.size + 1,0,none⟩) 1 1) 1 (Nv.cs M)):=(by have:=World.ownsRow_lit (base:=0) (e:=25) (size:=9) (w2.alloc (.cells #[.int .i64 M.k,.slice M.r1 M.r2 M.r3,.int .i64 M.a2,.slice M.s1 M.s2 M.s3,.int .i64 M.a4,.int .i64 M.a5,.bool M.a6,.int .i64 M.a7,.string M.a8] 25)) #[.int .i64 M.k,.slice M.r1 M.r2 M.r3,.int .i64 M.a2,.slice M.s1 M.s2 M.s3,.int .i64 M.a4,.int .i64 M.a5,.bool M.a6,.int .i64 M.a7,.string M.a8] 1 (by omega) (by unfold maxLen;omega) rfl;have e:(w2.alloc (.cells #[.int .i64 M.k,.slice M.r1 M.r2 M.r3,.int .i64 M.a2,.slice M.s1 M.s2 M.s3,.int .i64 M.a4,.int .i64 M.a5,.bool M.a6,.int .i64 M.a7,.string M.a8] 25)).heap.size=w2.heap.size + 1:=(by simp);rw [e] at this;exact this);clear hM hA hb2 HC) | (at_builtin;refine wpList_append_row rfl (.tmp 37) (.tmp 39) 23 rfl W.heap.size 25 i2 Z9 9 112 Tryz.underlying23 hi2 hz20 hz21 hz22 rfl (by decide) (.slice z1 i z3) i (((List.range i).map MS).flatMap Nv.cs) rfl HO1.out (.slice (some ⟨w2.heap.size + 1,0,none⟩) 1 1) 1 0 (Nv.cs M) rfl HLt.out (by omega) (one9 M) (by unfold maxLen;omega) (by omega) (by (try simp) <;> omega) ?_;intro v3 w3 ho3 hf3 _;obtain ⟨y1,y3,rfl,_⟩:=row_shape ho3.out))
    have hz3:w2.heap.size + 2≤w3.heap.size:=by have:=hf3.out.size;simpa using this
    have hk3:∀ b,b < w2.heap.size→(Value.slice z1 i z3).ownBlock≠some b→w3.heap[b]?=w2.heap[b]?:=fun b hb hn=>(hf3.out.block b (by (try simp) <;> omega) hn).trans ((heap_alloc_old _ _ (by (try simp) <;> omega)).trans (heap_alloc_old _ _ hb))
    have hkr:∀ b,b < wr.heap.size→(Value.slice z1 i z3).ownBlock≠some b→w3.heap[b]?=wr.heap[b]?:=fun b hb hn=>(hk3 b (by omega) hn).trans (HB2.out.block b hb)
    have hown3:∀ b,(Value.slice y1 (i + 1) y3).ownBlock=some b→(Value.slice z1 i z3).ownBlock=some b∨w2.heap.size≤b:=fun b hb=>by
     rcases hf3.out.own b hb with h | h
     ·exact .inl h
     ·right;simp at h;omega
    refine ⟨⟨i + 1,y1,y3,rfl,by push_cast;rfl,by omega,⟨fun j=>if j=i then M else MS j,fun j b=>if j=i then A b else AS j b,?_,fun j hj=>?_,fun j b hj h=>?_,fun j l b hj hl hne h h'=>?_⟩,fun b hb h=>?_,row_kept HRq.out (fun b hb=>hkr b (HRq.out.lt b hb).2 (fun h=>HUR.out b h hb)),⟨hf3.out.os.trans (HB2.out.os.trans HBq.out.os),hf3.out.tape.trans (HB2.out.tape.trans HBq.out.tape),hf3.out.output.trans (HB2.out.output.trans HBq.out.output),by omega,fun b hb=>(hkr b (by omega) (fun h=>by have:=(HS1.out.lt b h).1;omega)).trans (HBq.out.block b hb)⟩⟩,by simp [intOf];omega⟩
    ·rw [map_snoc_if]
     rw [List.flatMap_append]
     simpa using ho3.out
    ·by_cases e:j=i
     ·subst e
      simp only [if_pos]
      rw [getD_lt hlt]
      exact HM.out.kept fun b hb=>hk3 b (HM.out.low b hb) (fun h=>by have:=(HS1.out.lt b h).2;have:=HA.out b hb;omega)
     ·simp only [if_neg e]
      exact (HS2.out j (by omega)).kept fun b hb=>hkr b ((HS2.out j (by omega)).low b hb) (HS3.out j b (by omega) hb).2.2
    ·by_cases e:j=i
     ·simp only [if_pos e] at h
      have h1:=HA.out b h
      have h2:=HM.out.low b h
      refine ⟨by omega,fun h'=>by have:=(HRq.out.lt b h').2;omega,fun h'=>?_⟩
      rcases hown3 b h' with h3 | h3
      ·have:=(HS1.out.lt b h3).2;omega
      ·omega
     ·simp only [if_neg e] at h
      have h0:=HS3.out j b (by omega) h
      refine ⟨h0.1,h0.2.1,fun h'=>?_⟩
      rcases hown3 b h' with h3 | h3
      ·exact h0.2.2 h3
      ·have:=(HS2.out j (by omega)).low b h;omega
    ·by_cases e:j=i
     ·simp only [if_pos e] at h
      have e':l≠i:=by omega
      simp only [if_neg e'] at h'
      have:=HA.out b h
      have:=(HS2.out l (by omega)).low b h'
      omega
     ·simp only [if_neg e] at h
      by_cases e':l=i
      ·simp only [if_pos e'] at h'
       have:=HA.out b h'
       have:=(HS2.out j (by omega)).low b h
       omega
      ·simp only [if_neg e'] at h'
       exact HS4.out j l b (by omega) (by omega) hne h h'
    ·rcases hown3 b hb with h3 | h3
     ·exact HUR.out b h3 h
     ·have:=(HRq.out.lt b h).2;omega
   ·have b1:decide ((i:Int) < (s2:Int))=false:=by simp;omega
    obtain rfl:i=s2:=by omega
    have HLt:Hid ((wr.alloc (.cells #[.int .i64 (-77),.slice none 0 0,.int .i64 0,.slice none 0 0,.int .i64 0,.int .i64 0,.bool false,.int .i64 0,.string ⟨#[]⟩,.int .i64 (-78),.slice none 0 0,.int .i64 0,.slice none 0 0,.int .i64 0,.int .i64 0,.bool false,.int .i64 0,.string ⟨#[]⟩] 25)).ownsRow 0 25 9 (.slice (some ⟨wr.heap.size,0,none⟩) 2 2) 2 ((mk7 (-77)).cs ++ (mk7 (-78)).cs)):=
     World.ownsRow_lit (base:=0) (e:=25) (size:=9) wr #[.int .i64 (-77),.slice none 0 0,.int .i64 0,.slice none 0 0,.int .i64 0,.int .i64 0,.bool false,.int .i64 0,.string ⟨#[]⟩,.int .i64 (-78),.slice none 0 0,.int .i64 0,.slice none 0 0,.int .i64 0,.int .i64 0,.bool false,.int .i64 0,.string ⟨#[]⟩] 2 (by omega) (by unfold maxLen;omega) rfl
    obtain ⟨MS,AS,hS1,hS2,hS3,hS4⟩:=HST.out
    have HS1:=hid hS1
    have HS2:=hid hS2
    have HS3:=hid hS3
    have HS4:=hid hS4
    have hd1:IntKind.i64.wrap ((r2:Int) + 2 - 2)=(r2:Int):=by simp [IntKind.wrap,IntKind.bits,IntKind.signed];omega
    have hd1':IntKind.i64.wrap (((r2 + 2:Nat):Int) - 2)=(r2:Int):=by simp [IntKind.wrap,IntKind.bits,IntKind.signed];omega
    have hd2:IntKind.i64.wrap ((i:Int) + 2 - 2)=(i:Int):=by simp [IntKind.wrap,IntKind.bits,IntKind.signed];omega
    have hd2':IntKind.i64.wrap (((i + 2:Nat):Int) - 2)=(i:Int):=by simp [IntKind.wrap,IntKind.bits,IntKind.signed];omega
    have hcc:(r2:Int)≤(c3:Int):=by omega
    clear hXq HST hS1 hS2 hS3 hS4
    go_upto_region 9 with (at_builtin;refine wpList_append_row rfl (.tmp 41) (.tmp 44) 23 rfl W.heap.size 25 i2 Z9 9 112 Tryz.underlying23 hi2 hz20 hz21 hz22 rfl (by decide) (.slice z1 i z3) i (((List.range i).map MS).flatMap Nv.cs) rfl (HS1.out.alloc _) (.slice (some ⟨wr.heap.size,0,none⟩) 2 2) 2 0 ((mk7 (-77)).cs ++ (mk7 (-78)).cs) rfl HLt.out (by omega) (marks_one) (by unfold maxLen;omega) (by omega) (by (try simp) <;> omega) ?_;intro v3 w3 ho3 hf3 _;obtain ⟨y1,y3,rfl,hy3⟩:=row_shape ho3.out)
    have HY3:=hid hy3
    have hcy:(i:Int)≤(y3:Int):=by omega
    have hz3:wr.heap.size + 1≤w3.heap.size:=by have:=hf3.out.size;simpa using this
    have hkr:∀ b,b < wr.heap.size→(Value.slice z1 i z3).ownBlock≠some b→w3.heap[b]?=wr.heap[b]?:=fun b hb hn=>(hf3.out.block b (by (try simp) <;> omega) hn).trans (heap_alloc_old _ _ hb)
    have hown3:∀ b,(Value.slice y1 (i + 2) y3).ownBlock=some b→(Value.slice z1 i z3).ownBlock=some b∨wr.heap.size≤b:=fun b hb=>by
     rcases hf3.out.own b hb with h | h
     ·exact .inl h
     ·right;simp at h;omega
    have hX3:BxN w3 x ⟨k,r1,r2,r3,a2,s1,i,s3,a4,a5,a6,a7,a8⟩:=(hkr x hxr (fun h=>by have:=(HS1.out.lt x h).1;omega)).trans ((HBq.out.block x hxl).trans HX.out)
    have hY3':BxZ w3 (x + 1):=(hkr (x + 1) (by have:=HSW.out;omega) (fun h=>by have:=(HS1.out.lt _ h).1;have:=HSW.out;omega)).trans ((HBq.out.block (x + 1) (by have:=HSW.out;omega)).trans HY.out)
    clear q0 q1 q2 q3 q4 q5 q6 q7 q8
    obtain ⟨q0,q1,q2,q3,q4,q5,q6,q7,q8⟩:=nine' hX3
    have f1:=Joins.unfrozen_of_block hX3 1
    have f3:=Joins.unfrozen_of_block hX3 3
    obtain ⟨y0,yy1,y2,yy3,y4,y5,y6,y7,y8⟩:=nine' hY3'
    have g0:=Joins.unfrozen_of_block hY3' 0
    have g1:=Joins.unfrozen_of_block hY3' 1
    have g2:=Joins.unfrozen_of_block hY3' 2
    have g3:=Joins.unfrozen_of_block hY3' 3
    have g4:=Joins.unfrozen_of_block hY3' 4
    have g5:=Joins.unfrozen_of_block hY3' 5
    have g6:=Joins.unfrozen_of_block hY3' 6
    have g7:=Joins.unfrozen_of_block hY3' 7
    have g8:=Joins.unfrozen_of_block hY3' 8
    have HX3:=hid hX3
    have HY3':=hid hY3'
    clear hX3 hY3' hy3
    go_wp2
    obtain ⟨X,hX⟩:∃ X,X=(w3.setCell ⟨x,1,none⟩ (.slice c1 r2 c3)).setCell ⟨x,3,none⟩ (.slice y1 i y3):=⟨_,rfl⟩
    rw [← hX]
    have hXo:∀ b,b≠x→X.heap[b]?=w3.heap[b]?:=fun b hb=>by rw [hX];exact (Below.heap_setCell _ _ _ _ hb).trans (Below.heap_setCell _ _ _ _ hb)
    have hb3:Below W.heap.size W w3:=⟨hf3.out.os.trans HBq.out.os,hf3.out.tape.trans HBq.out.tape,hf3.out.output.trans HBq.out.output,by omega,fun b hb=>(hkr b (by omega) (fun h=>by have:=(HS1.out.lt b h).1;omega)).trans (HBq.out.block b hb)⟩
    have hXb:Below x w X:=by rw [hX];exact ((HB.out.trans (Joins.below_le hb3 (by omega))).setCell (by exact Nat.le_refl _) _).setCell (by exact Nat.le_refl _) _
    obtain ⟨y1',y2',y3',y4'⟩:=nineSetR X (x + 1) (.int .i64 k) (.slice c1 r2 c3) (.int .i64 a2) (.slice y1 i y3) (.int .i64 a4) (.int .i64 a5) (.bool a6) (.int .i64 a7) (.string a8) ((hXo _ (by omega)).trans HY3'.out)
    obtain ⟨Y,hY⟩:∃ Y,Y=(((((((((X.setCell ⟨x + 1,0,none⟩ (.int .i64 k)).setCell ⟨x + 1,1,none⟩ (.slice c1 r2 c3)).setCell ⟨x + 1,2,none⟩ (.int .i64 a2)).setCell ⟨x + 1,3,none⟩ (.slice y1 i y3)).setCell ⟨x + 1,4,none⟩ (.int .i64 a4)).setCell ⟨x + 1,5,none⟩ (.int .i64 a5)).setCell ⟨x + 1,6,none⟩ (.bool a6)).setCell ⟨x + 1,7,none⟩ (.int .i64 a7)).setCell ⟨x + 1,8,none⟩ (.string a8)):=⟨_,rfl⟩
    rw [← hY] at y1' y2' y3' y4'
    have y4'':=y4' hXb (by omega)
    rw [← hY]
    refine bodyPost_ret (results_cell_row rfl _ _ (x + 1) 25 _ (0,0) _ rfl y1' Tryz.underlying25 rfl (by kernel_rfl)) rfl ?_
    have hkeep:∀ b,W.heap.size≤b→Y.heap[b]?=w3.heap[b]?:=fun b hb=>(y2' b (by have:=HSW.out;omega)).trans (hXo b (by omega))
    have hRlen:r2=R.length:=HRL.out
    have hTlen:i=ts.length:=HL.out
    have hrb:∀ b,(Value.slice c1 r2 c3).ownBlock=some b→W.heap.size≤b∧(Value.slice z1 i z3).ownBlock≠some b∧b < wr.heap.size:=fun b hb=>by
     have hb':=(ob_len c1 (r2 + 2) c3 r2 c3).trans hb
     exact ⟨(HRq.out.lt b hb').1,fun h=>HUR.out b h hb',(HRq.out.lt b hb').2⟩
    have hsb:∀ b,(Value.slice y1 i y3).ownBlock=some b→W.heap.size≤b∧((Value.slice z1 i z3).ownBlock=some b∨wr.heap.size≤b):=fun b hb=>by
     have hb':=(ob_len y1 (i + 2) y3 i y3).trans hb
     exact ⟨(ho3.out.lt b hb').1,hown3 b hb'⟩
    rw [← HXE.out]
    refine ⟨⟨k,c1,r2,c3,a2,y1,i,y3,a4,a5,a6,a7,a8⟩,rfl,_,TL.mk (N:=⟨k,c1,r2,c3,a2,y1,i,y3,a4,a5,a6,a7,a8⟩) (R:=R) (ts:=ts) (ND:=MS) (AS:=AS) ⟨HOK.out.k,HOK.out.a2,HOK.out.a4,HOK.out.a5,HOK.out.a7,HOK.out.a8,⟨by show r2≤c3;omega,HC3.out.2⟩,⟨by show i≤y3;omega,HY3.out.2⟩⟩ hRk hRlen hTlen ?_ ?_ (fun j hj=>?_) (fun j l b hj hl hne h h'=>?_) (fun b hb h=>?_) (fun j b hj h=>?_),?_,y4''⟩
    ·rw [← hRlen]
     exact row_baseR (row_kept HRq.out (fun b hb=>(hkeep b (HRq.out.lt b hb).1).trans (hkr b (HRq.out.lt b hb).2 (fun h=>HUR.out b h hb)))) (by omega)
    ·rw [← hTlen,List.flatMap_append]
     have h1:w3.ownsRow W.heap.size 25 9 (.slice y1 (i + 2) y3) (i + 2) (((List.range i).map MS).flatMap Nv.cs ++ ([mk7 (-77),mk7 (-78)]:List Nv).flatMap Nv.cs):=by
      have:=ho3.out
      simpa using this
     exact row_baseR (row_kept h1 (fun b hb=>hkeep b (ho3.out.lt b hb).1)) (Nat.zero_le _)
    ·rw [← getD_lt hj]
     exact (HS2.out j (by omega)).kept fun b hb=>(hkeep b (HS3.out j b (by omega) hb).1).trans (hkr b ((HS2.out j (by omega)).low b hb) (HS3.out j b (by omega) hb).2.2)
    ·exact HS4.out j l b (by omega) (by omega) hne h h'
    ·rcases (hsb b h).2 with h1 | h1
     ·exact (hrb b hb).2.1 h1
     ·have:=(hrb b hb).2.2;omega
    ·have h0:=HS3.out j b (by omega) h
     refine ⟨fun h'=>h0.2.1 ((ob_len c1 (r2 + 2) c3 r2 c3).trans h'),fun h'=>?_⟩
     rcases (hsb b h').2 with h1 | h1
     ·exact h0.2.2 h1
     ·have:=(HS2.out j (by omega)).low b h;omega
    ·rintro b (h | h | ⟨j,hj,h⟩)
     ·have:=(hrb b h).1;omega
     ·have:=(hsb b h).1;omega
     ·have:=(HS3.out j b (by omega) h).1;omega
end Go.Proofs.YtacaanhnlfpbhaaGreat
