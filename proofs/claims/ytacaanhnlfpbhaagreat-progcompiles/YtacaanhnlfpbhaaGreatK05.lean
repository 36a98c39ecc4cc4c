/- HELPERS: texts of ours put together. -/
import Derived.Test.YtacaanhnlfpbhaaGreatK04
import Derived.BigQuiet
import Derived.Deep.Cut
namespace Go.Proofs.YtacaanhnlfpbhaaGreat
open Go.RowKit
set_option linter.unusedVariables false
set_option linter.unusedSimpArgs false
theorem depthL_mem {ts:List Tn} {t:Tn} (h:t ∈ ts):t.depth≤depthL ts:=by
 induction ts with
 | nil=>cases h
 | cons u ts ih =>
  simp only [depthL]
  rcases List.mem_cons.1 h with rfl | h
  ·omega
  ·have:=ih h;omega
theorem depthL_le_of {ts:List Tn} {M:Nat} (h:∀ t ∈ ts,t.depth≤M):depthL ts≤M:=by
 induction ts with
 | nil=>simp [depthL]
 | cons u ts ih=>simp only [depthL];have:=h u (by simp);have:=ih (fun t ht=>h t (by simp [ht]));omega
theorem depR_le (k:Int) (l:List (Tn × Nat)) (i:Nat) (hi:i≤l.length) {M:Nat} (h:∀ x ∈ l,x.1.depth≤M):depR k l i≤M + 1:=by
 unfold depR
 split
 ·omega
 ·have:depthL (rowS k (l.take i))≤M:=depthL_le_of fun t ht=>by
   simp only [rowS,List.mem_flatMap,List.mem_flatten,List.mem_replicate] at ht
   obtain ⟨x,hx,y,⟨_,rfl⟩,hy⟩:=ht
   have h1:=h x (List.mem_of_mem_take hx)
   unfold within at hy
   split at hy
   ·have:=depthL_mem hy;have:=x.1.depth_subs;omega
   ·simp at hy;subst hy;exact h1
  omega
theorem row_next {w V:World} {z:Nat} {k:Int} {sv ev:Value} {a e:Int} (hb:Below z w V) (y0:Bx V z 3 (.int .i64 k)) (y1:Bx V (z + 1) 194 sv) (hx:V.heap[z + 1 + 1]?=some (.cells (FV (NK k) ev a e) 151 (0,0))) (p:Nat) (A E:Int) :
  Below z w (((V.drewN p).setCell ⟨z + 1 + 1,10,none⟩ (.int .i64 A)).setCell ⟨z + 1 + 1,11,none⟩ (.int .i64 E))∧Bx (((V.drewN p).setCell ⟨z + 1 + 1,10,none⟩ (.int .i64 A)).setCell ⟨z + 1 + 1,11,none⟩ (.int .i64 E)) z 3 (.int .i64 k)∧Bx (((V.drewN p).setCell ⟨z + 1 + 1,10,none⟩ (.int .i64 A)).setCell ⟨z + 1 + 1,11,none⟩ (.int .i64 E)) (z + 1) 194 sv ∧
   (((V.drewN p).setCell ⟨z + 1 + 1,10,none⟩ (.int .i64 A)).setCell ⟨z + 1 + 1,11,none⟩ (.int .i64 E)).heap[z + 1 + 1]?=some (.cells (FV (NK k) ev A E) 151 (0,0)):=by
 have hb':Below z w (V.drewN p):=⟨hb.os,hb.tape,hb.output,hb.size,hb.block⟩
 have y0':Bx (V.drewN p) z 3 (.int .i64 k):=y0
 have y1':Bx (V.drewN p) (z + 1) 194 sv:=y1
 have hx':(V.drewN p).heap[z + 1 + 1]?=some (.cells (FV (NK k) ev a e) 151 (0,0)):=hx
 generalize V.drewN p=V1 at hb' y0' y1' hx' ⊢
 refine ⟨(hb'.setCell (by show z≤z + 1 + 1;omega) _).setCell (by show z≤z + 1 + 1;omega) _,?_,?_,?_⟩
 ·exact (Below.heap_setCell _ _ _ _ (by simp only;omega)).trans ((Below.heap_setCell _ _ _ _ (by simp only;omega)).trans y0')
 ·exact (Below.heap_setCell _ _ _ _ (by simp only;omega)).trans ((Below.heap_setCell _ _ _ _ (by simp only;omega)).trans y1')
 ·exact Joins.block_setCell (i:=11) (Joins.block_setCell (i:=10) hx' _) _
set_option maxRecDepth 100000 in
set_option maxHeartbeats 8000000 in
theorem row45 (A:Nat→Prop) (k:Int) (ad:Option Addr) (c:Nat) (fs:Nat→Nat) (l:List (Tn × Nat)) (w:World) (hk:k=4∨k=5) (hA:∀ b,A b→b < w.heap.size) (hv:RV w A ad fs l) (ht:∀ x ∈ l,0 < x.2∧x.2≤1000) (hl:l.length≤200000) (hp:0 < l.length) (hs:∀ i (hi:i < l.length),FA w A (fs i) l[i].1) (hd:∀ x ∈ l,x.1.depth≤4000000000) :
  Calls Tryz.prog 132 #[.int .i64 k,.slice ad l.length c] w fun e w'=>∃ f,e=.returned (pt f)∧FA w' (New A w w') f (rowT k l)∧Below w.heap.size w w':=by
 obtain ⟨n,hn⟩:∃ n,n=l.length:=⟨_,rfl⟩
 rw [← hn]
 obtain ⟨b,o,rfl,hbA,hcs⟩:=hv hp
 have hb:=hA b hbA
 obtain ⟨W,hW⟩:∃ W,W=((w.alloc (.cells #[.int .i64 k] 3)).alloc (.cells #[.slice (some ⟨b,o,none⟩) n c] 194)).alloc (.cells (FV (NK k) .nilFunc 1 0) 151):=⟨_,rfl⟩
 have HS:=hid hs
 have HV:=hid hv
 have HN:=hid hn
 have HCS:=hid hcs
 have HT:=hid ht
 have HDD:=hid hd
 have HAA:=hid hA
 have hn2:n≤200000:=by omega
 clear hs hv hcs hn ht hd hA hbA
 go_enter Tryz.func132,Tryz.ntmps132
 go_wp2_with fail
 obtain ⟨z,hz⟩:∃ z,z=w.heap.size:=⟨_,rfl⟩
 have hB0:Below z w W:=by rw [hW,hz];exact ((Joins.below_alloc1 w _).alloc (by simp) _).alloc (by simp;omega) _
 obtain ⟨t0,t1,t2,t3⟩:=three_new w (.cells #[.int .i64 k] 3) (.cells #[.slice (some ⟨b,o,none⟩) n c] 194) (.cells (FV (NK k) .nilFunc 1 0) 151)
 rw [← hW,← hz] at t0 t1 t2
 rw [← hW,← hz]
 have HB0:=hid hB0
 have T0:=hid t0
 have T1:=hid t1
 have T2:=hid t2
 have HZ:=hid hz
 rw [← hz] at hb
 clear hB0 t0 t1 t2 t3 hW hz
 go_loopw [16] (fun y wq=>∃ i:Nat,y=.int .i64 (i:Int)∧i≤n∧Hid (Below z w wq)∧Hid (Bx wq z 3 (.int .i64 k))∧Hid (Bx wq (z + 1) 194 (.slice (some ⟨b,o,none⟩) n c))∧Hid (wq.heap[z + 1 + 1]?=some (.cells (FV (NK k) .nilFunc ((capN (1 + nodesL (rowS k (l.take i))):Nat):Int) ((depR k l i:Nat):Int)) 151 (0,0)))) (fun y _=>n - (intOf y).toNat)
 case atStart=>exact ⟨0,rfl,by omega,HB0.out,T0.out,T1.out,by have h:=T2.out;simp only [capN,rowS,nodesL,depR,List.take_zero,List.flatMap_nil,if_pos];exact h⟩
 case round =>
  obtain ⟨i,rfl,hi,BK,X0,X1,X2⟩:=hrel
  by_cases hil:i < n
  ·have b1:decide ((i:Int) < (n:Int))=true:=by simp;omega
   have b2:(i:Int) < (n:Int):=by omega
   have ad1:IntKind.i64.wrap ((i:Int) + 1)=(i:Int) + 1:=by simp [IntKind.wrap,IntKind.bits,IntKind.signed];omega
   have hil':i < l.length:=by have:=HN.out;omega
   obtain ⟨e0,e1⟩:=HCS.out i hil'
   have hbw:=BK.out.block b hb
   have u0:=(cell_eq hbw (o + i * 2)).trans e0
   have u1:=(cell_eq hbw (o + i * 2 + 1)).trans e1
   have hFA:=HS.out i hil'
   obtain ⟨hfa,N0,ev,hc,hk0⟩:=hFA.cells
   have hfl:=HAA.out _ hfa
   obtain ⟨c0,c9,c10,c11⟩:=(hc.kept (BK.out.block _ (by have:=HZ.out;omega))).num
   rw [hk0] at c0
   have htt:=HT.out _ (List.getElem_mem hil')
   have hdd:=HDD.out _ (List.getElem_mem hil')
   have eN:=row_nodes_step k l i hil' htt.1
   have eD:=row_depth_step k l i hil' htt.1
   have hN1:1≤(l[i]'hil').1.nodes:=Tn.pos _
   have hD1:1≤(l[i]'hil').1.depth:=by rw [Tn.depth_subs];omega
   obtain ⟨f,hf⟩:∃ f,f=fs i:=⟨_,rfl⟩
   obtain ⟨m,hm⟩:∃ m,m=(l[i]'hil').2:=⟨_,rfl⟩
   obtain ⟨kd,hkd⟩:∃ kd,kd=(l[i]'hil').1.kind:=⟨_,rfl⟩
   obtain ⟨q,hq⟩:∃ q,q=capN (l[i]'hil').1.nodes:=⟨_,rfl⟩
   obtain ⟨d,hdq⟩:∃ d,d=(l[i]'hil').1.depth:=⟨_,rfl⟩
   rw [← hf] at u0 c0 c9 c10 c11 hfl
   rw [← hm] at u1 htt eN
   rw [← hkd] at c0 eN eD
   rw [← hq] at c10 eN
   rw [← hdq] at c11 hdd eD hD1
   have hq1:1≤q∧q≤200001:=by rw [hq];unfold capN;omega
   obtain ⟨a,ha⟩:∃ a,a=capN (1 + nodesL (rowS k (l.take i))):=⟨_,rfl⟩
   obtain ⟨e,he⟩:∃ e,e=depR k l i:=⟨_,rfl⟩
   have ha1:a≤200001:=by rw [ha];unfold capN;omega
   have he1:e≤4000000001:=by
    rw [he]
    exact depR_le k l i (by omega) HDD.out
   rw [← ha] at eN
   rw [← he] at eD
   have hX2:=X2.out
   rw [← ha,← he] at hX2
   have HEN:=hid eN
   have HED:=hid eD
   have hfz:f < z:=by have:=HZ.out;omega
   clear hfa hf hm hkd hq hdq ha he eN eD hFA hc hk0 hbw e0 e1 c9 hN1
   have hxl:z + 1 + 1 < wr.heap.size:=(Array.getElem?_eq_some_iff.1 hX2).1
   go_upto_region 5 with fail
   obtain ⟨V,hV⟩:∃ V,V=wr.alloc (.cells #[pt f,.int .i64 (m:Int)] 245):=⟨_,rfl⟩
   rw [← hV]
   obtain ⟨x,hx⟩:∃ x,x=wr.heap.size:=⟨_,rfl⟩
   have hVo:∀ b,b < wr.heap.size→V.heap[b]?=wr.heap[b]?:=fun b hb=>by rw [hV];exact heap_alloc_old wr _ hb
   have hVx:V.heap[x]?=some (.cells #[pt f,.int .i64 (m:Int)] 245 (0,0)):=by rw [hV,hx];exact heap_alloc_new wr _
   have g0:=(cell_eq (hVo f (by omega)) 0).trans c0
   have g10:=(cell_eq (hVo f (by omega)) 10).trans c10
   have g11:=(cell_eq (hVo f (by omega)) 11).trans c11
   have r0:V.cell? ⟨x,0,none⟩=some (pt f):=Joins.cell_of_block hVx 0
   have r1:V.cell? ⟨x,1,none⟩=some (.int .i64 (m:Int)):=Joins.cell_of_block hVx 1
   have k0:=bx0 ((hVo z (by omega)).trans X0.out)
   have hbV:Below z w V:=by rw [hV];exact BK.out.alloc (by omega) _
   have hX2V:=(hVo (z + 1 + 1) hxl).trans hX2
   have x10:=Joins.cell_of_block hX2V 10
   have x11:=Joins.cell_of_block hX2V 11
   have f10:=Joins.unfrozen_of_block hX2V 10
   have f11:=Joins.unfrozen_of_block hX2V 11
   rw [← hx]
   have HXV:=hid hX2V
   have HBV:=hid hbV
   have Y0:=hid ((hVo z (by omega)).trans X0.out)
   have Y1:=hid ((hVo (z + 1) (by omega)).trans X1.out)
   clear c0 c10 c11 u0 u1 hX2 hV hx hVo hVx hX2V hbV X0 X1 X2 BK
   go_quiet (fail)
   go_upto_region 6 with fail
   by_cases hkk:kd=k
   ·have bk:(kd == k)=true:=by simpa using hkk
    have hen:=HEN.out
    have hed:=HED.out
    rw [if_pos hkk] at hen hed
    have w1:IntKind.i64.wrap ((q:Int) - 1)=(q:Int) - 1:=by simp [IntKind.wrap,IntKind.bits,IntKind.signed];omega
    have w2:IntKind.i64.wrap ((d:Int) - 1)=(d:Int) - 1:=by simp [IntKind.wrap,IntKind.bits,IntKind.signed];omega
    obtain ⟨q1,hq1'⟩:∃ q1:Nat,(q:Int) - 1=(q1:Int)∧q - 1=q1:=⟨q - 1,by omega,rfl⟩
    obtain ⟨d1,hd1'⟩:∃ d1:Nat,(d:Int) - 1=(d1:Int)∧d - 1=d1:=⟨d - 1,by omega,rfl⟩
    rw [hq1'.2] at hen
    rw [hd1'.2] at hed
    have hq1b:q1≤200001:=by omega
    have hd1b:d1≤4000000000:=by omega
    have hmq:m * q1≤200001000:=by have:=Nat.mul_le_mul htt.2 (show q1≤200001 by omega);omega
    have HC:∀ W':World,Calls Tryz.prog 197 #[.int .i64 ((a:Int) + (m:Int) * (q1:Int))] W' fun e w'=>e=.returned (.int .i64 ((capN (a + m * q1):Nat):Int))∧w'=W':=fun W'=>by
     have:=atMost62 (a + m * q1) W' (by omega)
     rwa [show ((a + m * q1:Nat):Int)=(a:Int) + (m:Int) * (q1:Int) by push_cast;rfl] at this
    obtain ⟨AA,hAA⟩:∃ AA,AA=capN (a + m * q1):=⟨_,rfl⟩
    rw [← hAA] at hen HC
    have w3:IntKind.i64.wrap ((m:Int) * (q1:Int))=(m:Int) * (q1:Int):=by
     have h1:(m:Int) * (q1:Int)=((m * q1:Nat):Int):=by push_cast;rfl
     rw [h1];simp [IntKind.wrap,IntKind.bits,IntKind.signed];omega
    have w4:IntKind.i64.wrap ((a:Int) + (m:Int) * (q1:Int))=(a:Int) + (m:Int) * (q1:Int):=by
     have h1:(a:Int) + (m:Int) * (q1:Int)=((a + m * q1:Nat):Int):=by push_cast;rfl
     rw [h1];simp [IntKind.wrap,IntKind.bits,IntKind.signed];omega
    have w5:IntKind.i64.wrap (1 + (d1:Int))=1 + (d1:Int):=by simp [IntKind.wrap,IntKind.bits,IntKind.signed];omega
    have hmx:max (e:Int) (1 + (d1:Int))=((max e (1 + d1):Nat):Int):=by omega
    obtain ⟨E,hE⟩:∃ E,E=max e (1 + d1):=⟨_,rfl⟩
    rw [← hE] at hed hmx
    have HN2:=hid hen
    have HD2:=hid hed
    have HMX:=hid hmx
    have HQQ:=hid hq1'.1
    have HDQ:=hid hd1'.1
    clear hen hed HEN HED hAA hE hmx hq1' hd1'
    go_quiet (fail)
    go_upto_region 8 with fail
    rw [HQQ.out,HDQ.out]
    clear HQQ HDQ w1 w2
    go_region_with (first | (go_at_call 197;(with_reducible refine (HC _).mono ?_);rintro e w1 ⟨rfl,hw1⟩;have hw2:=hw1.symm;clear hw1;subst hw2))
    all_goals go_wp2
    all_goals
     refine ⟨⟨i + 1,by push_cast;rfl,by omega,(row_next HBV.out Y0.out Y1.out HXV.out _ _ _).1,(row_next HBV.out Y0.out Y1.out HXV.out _ _ _).2.1,(row_next HBV.out Y0.out Y1.out HXV.out _ _ _).2.2.1,?_⟩,by simp [intOf];omega⟩
     rw [HN2.out,HD2.out,← HMX.out]
     exact (row_next HBV.out Y0.out Y1.out HXV.out _ _ _).2.2.2
   ·have bk:(kd == k)=false:=by simpa using hkk
    have hen:=HEN.out
    have hed:=HED.out
    rw [if_neg hkk] at hen hed
    obtain ⟨q1,hq1e⟩:∃ q1:Nat,q=q1:=⟨q,rfl⟩
    obtain ⟨d1,hd1e⟩:∃ d1:Nat,d=d1:=⟨d,rfl⟩
    subst hq1e hd1e
    have hq1b:q≤200001:=by omega
    have hd1b:d≤4000000000:=by omega
    have hmq:m * q≤200001000:=by have:=Nat.mul_le_mul htt.2 (show q≤200001 by omega);omega
    have HC:∀ W':World,Calls Tryz.prog 197 #[.int .i64 ((a:Int) + (m:Int) * (q:Int))] W' fun e w'=>e=.returned (.int .i64 ((capN (a + m * q):Nat):Int))∧w'=W':=fun W'=>by
     have:=atMost62 (a + m * q) W' (by omega)
     rwa [show ((a + m * q:Nat):Int)=(a:Int) + (m:Int) * (q:Int) by push_cast;rfl] at this
    obtain ⟨AA,hAA⟩:∃ AA,AA=capN (a + m * q):=⟨_,rfl⟩
    rw [← hAA] at hen HC
    have w3:IntKind.i64.wrap ((m:Int) * (q:Int))=(m:Int) * (q:Int):=by
     have h1:(m:Int) * (q:Int)=((m * q:Nat):Int):=by push_cast;rfl
     rw [h1];simp [IntKind.wrap,IntKind.bits,IntKind.signed];omega
    have w4:IntKind.i64.wrap ((a:Int) + (m:Int) * (q:Int))=(a:Int) + (m:Int) * (q:Int):=by
     have h1:(a:Int) + (m:Int) * (q:Int)=((a + m * q:Nat):Int):=by push_cast;rfl
     rw [h1];simp [IntKind.wrap,IntKind.bits,IntKind.signed];omega
    have w5:IntKind.i64.wrap (1 + (d:Int))=1 + (d:Int):=by simp [IntKind.wrap,IntKind.bits,IntKind.signed];omega
    have hmx:max (e:Int) (1 + (d:Int))=((max e (1 + d):Nat):Int):=by omega
    obtain ⟨E,hE⟩:∃ E,E=max e (1 + d):=⟨_,rfl⟩
    rw [← hE] at hed hmx
    have HN2:=hid hen
    have HD2:=hid hed
    have HMX:=hid hmx
    clear hen hed HEN HED hAA hE hmx
    go_quiet (fail)
    go_upto_region 8 with fail
    go_region_with (first | (go_at_call 197;(with_reducible refine (HC _).mono ?_);rintro e w1 ⟨rfl,hw1⟩;have hw2:=hw1.symm;clear hw1;subst hw2))
    all_goals go_wp2
    all_goals
     refine ⟨⟨i + 1,by push_cast;rfl,by omega,(row_next HBV.out Y0.out Y1.out HXV.out _ _ _).1,(row_next HBV.out Y0.out Y1.out HXV.out _ _ _).2.1,(row_next HBV.out Y0.out Y1.out HXV.out _ _ _).2.2.1,?_⟩,by simp [intOf];omega⟩
     rw [HN2.out,HD2.out,← HMX.out]
     exact (row_next HBV.out Y0.out Y1.out HXV.out _ _ _).2.2.2
  ·have b1:decide ((i:Int) < (n:Int))=false:=by simp;omega
   obtain rfl:i=n:=by omega
   have hx9:=Joins.unfrozen_of_block X2.out 9
   have hc9:=Joins.cell_of_block X2.out 9
   go_wp2
   all_goals go_ret
   all_goals
    have hX:=Joins.block_setCell (i:=9) X2.out (.func (.func 198) #[] #[pt (z + 1),pt z])
    have hbb:=BK.out.setCell (p:=⟨z + 1 + 1,9,none⟩) (by show z≤z + 1 + 1;omega) (.func (.func 198) #[] #[pt (z + 1),pt z])
    have hol:∀ b,b≠z + 1 + 1→(wr.setCell ⟨z + 1 + 1,9,none⟩ (.func (.func 198) #[] #[pt (z + 1),pt z])).heap[b]?=wr.heap[b]?:=fun b hb=>Below.heap_setCell _ _ _ _ hb
    have hlt:z + 1 + 1 < (wr.setCell ⟨z + 1 + 1,9,none⟩ (.func (.func 198) #[] #[pt (z + 1),pt z])).heap.size:=(Array.getElem?_eq_some_iff.1 hX).1
    obtain ⟨U,hU⟩:∃ U,U=wr.setCell ⟨z + 1 + 1,9,none⟩ (.func (.func 198) #[] #[pt (z + 1),pt z]):=⟨_,rfl⟩
    rw [← hU] at hX hbb hol hlt
    simp only [← hU]
    have hz:=HZ.out
    have hn:=HN.out
    refine ⟨z + 1 + 1,rfl,?_,by rw [← hz];exact hbb⟩
    have hkk:∀ b,b < w.heap.size→U.heap[b]?=w.heap[b]?:=fun b hb=>hbb.block b (by omega)
    refine .row (b1:=z + 1) (b2:=z) (ad:=some ⟨b,o,none⟩) (c:=c) (fs:=fs) (.inr ⟨by omega,by omega⟩) ?_ hk ((hol _ (by omega)).trans (by rw [← hn];exact X1.out)) ((hol _ (by omega)).trans X0.out) (.inr ⟨by omega,by omega⟩) (.inr ⟨by omega,by omega⟩) (HV.out.kept (fun b hb=>hkk b (HAA.out b hb)) (fun b hb=>.inl hb)) HT.out hl (fun i hi=>(HS.out i hi).kept (fun b hb=>hkk b (HAA.out b hb)) (fun b hb=>.inl hb))
    unfold FC
    rw [rowT_nodes,rowT_depth]
    have e1:depR k l i=1 + depthL (rowS k l):=by unfold depR;rw [if_neg (by omega),hn,List.take_length]
    rw [← e1]
    have e2:rowS k (l.take i)=rowS k l:=by rw [hn,List.take_length]
    rw [← e2]
    exact hX
theorem moved_below {w:World} {B:Nat} {W w3:World} {v v':Value} (hb:Below B W w) (hB:B≤w.heap.size) (hv:∀ k,v.ownBlock=some k→B≤k) (hm:Moved w w3 v v'):Below B W w3∧w.heap.size≤w3.heap.size:=by
 have hs3:w.heap.size≤w3.heap.size:=by rcases hm with ⟨_,h⟩ | ⟨_,h⟩ <;> exact h.size
 have hold:∀ k,k < B→w3.heap[k]?=w.heap[k]?:=fun k hk=>moved_old' hm (by omega) (fun e=>by have:=hv k e;omega)
 refine ⟨⟨?_,?_,?_,by have:=hb.size;omega,fun k hk=>(hold k hk).trans (hb.block k hk)⟩,hs3⟩
 ·rcases hm with ⟨_,h⟩ | ⟨_,h⟩ <;> exact h.os.trans hb.os
 ·rcases hm with ⟨_,h⟩ | ⟨_,h⟩ <;> exact h.tape.trans hb.tape
 ·rcases hm with ⟨_,h⟩ | ⟨_,h⟩ <;> exact h.output.trans hb.output
abbrev Rn:=Nat × (Tn × Nat)
abbrev rcs (x:Rn):List Value:=[pt x.1,.int .i64 (x.2.2:Int)]
theorem rcs_at:∀ (l:List Rn) (i:Nat) (hi:i < l.length),(l.flatMap rcs)[i * 2]?=some (pt l[i].1)∧(l.flatMap rcs)[i * 2 + 1]?=some (.int .i64 (l[i].2.2:Int)):=by
 intro l
 induction l with
 | nil=>intro i hi;simp at hi
 | cons x l ih =>
  intro i hi
  cases i with
  | zero=>simp
  | succ i =>
   have:=ih i (by simpa using hi)
   have hf:(x :: l).flatMap rcs=rcs x ++ l.flatMap rcs:=by simp
   rw [hf,show (i + 1) * 2=i * 2 + 2 by omega,List.getElem?_append_right (by simp),show i * 2 + 2 + 1=i * 2 + 1 + 2 by omega,List.getElem?_append_right (by simp)]
   simpa using this
theorem info92:(Tryz.prog.info? 245).map (fun i=>(i.zero,i.size,i.bytes))=some (some (.agg #[.pointer none,.int .i64 0]),2,16):=by kernel_rfl
theorem rv_of {w:World} {A:Nat→Prop} {base:Nat} {ad:Option Addr} {n c:Nat} {K:List Rn} (h:w.ownsRow base 245 2 (.slice ad n c) K.length (K.flatMap rcs)) (hB:∀ b,base≤b→b < w.heap.size→A b):RV w A ad (fun i=>(K.getD i (0,emptyT,0)).1) (K.map (·.2)):=fun hp=>by
 rcases h.2 with ⟨e,h0⟩ | ⟨b,cap,cur,e,_⟩
 ·simp at hp;omega
 ·have hrow:=h
  rw [e] at hrow
  simp only [Value.slice.injEq] at e
  refine ⟨b,0,e.1,hB b (hrow.lt b rfl).1 (hrow.lt b rfl).2,fun i hi=>?_⟩
  simp only [List.length_map] at hi
  have h2:=rcs_at K i hi
  rw [Nat.zero_add,hrow.cellAt (i * 2) (by omega),hrow.cellAt (i * 2 + 1) (by omega),h2.1,h2.2]
  simp [List.getD_eq_getElem?_getD,List.getElem?_eq_getElem hi]
def runsOf (fs:Nat→Nat) (l:List (Tn × Nat)):List Rn:=(List.range l.length).map fun i=>(fs i,l.getD i (emptyT,0))
theorem runsOf_len (fs:Nat→Nat) (l:List (Tn × Nat)):(runsOf fs l).length=l.length:=by simp [runsOf]
theorem runsOf_snd (fs:Nat→Nat) (l:List (Tn × Nat)):(runsOf fs l).map (·.2)=l:=by
 apply List.ext_getElem (by simp [runsOf])
 intro i h1 h2
 simp [runsOf,List.getD_eq_getElem?_getD,List.getElem?_eq_getElem h2]
theorem runsOf_at (fs:Nat→Nat) (l:List (Tn × Nat)) (i:Nat) (hi:i < l.length):(runsOf fs l)[i]'(by rw [runsOf_len];exact hi)=(fs i,l[i]):=by
 simp [runsOf,List.getD_eq_getElem?_getD,List.getElem?_eq_getElem hi]
def keptOf (fs:Nat→Nat) (l:List (Tn × Nat)) (i:Nat):List Rn:=((runsOf fs l).take i).filter fun x=>keep x.2
theorem keptOf_step (fs:Nat→Nat) (l:List (Tn × Nat)) (i:Nat) (hi:i < l.length):keptOf fs l (i + 1)=keptOf fs l i ++ (if keep l[i] then [(fs i,l[i])] else []):=by
 unfold keptOf
 rw [List.take_succ_eq_append_getElem (by rw [runsOf_len];exact hi),List.filter_append,runsOf_at fs l i hi]
 congr 1
 simp only [List.filter_cons,List.filter_nil]
theorem keptOf_all (fs:Nat→Nat) (l:List (Tn × Nat)):(keptOf fs l l.length).map (·.2)=l.filter keep:=by
 unfold keptOf
 rw [List.take_of_length_le (by rw [runsOf_len];exact Nat.le_refl _)]
 have h:=runsOf_snd fs l
 conv=>rhs;rw [← h]
 rw [List.filter_map]
 rfl
theorem timesOf_append (a b:List (Tn × Nat)):timesOf (a ++ b)=timesOf a + timesOf b:=by
 induction a with
 | nil=>simp [timesOf]
 | cons x a ih=>simp only [List.cons_append,timesOf,ih];omega
theorem timesOf_le {l:List (Tn × Nat)} (h:∀ x ∈ l,x.2≤1000):timesOf l≤l.length * 1000:=by
 induction l with
 | nil=>simp [timesOf]
 | cons x l ih=>simp only [timesOf,List.length_cons];have:=h x (by simp);have:=ih (fun y hy=>h y (by simp [hy]));omega
theorem keptOf_mem {fs:Nat→Nat} {l:List (Tn × Nat)} {i:Nat} {x:Rn} (h:x ∈ keptOf fs l i):∃ j,∃ hj:j < l.length,x=(fs j,l[j])∧keep l[j]=true:=by
 unfold keptOf at h
 rw [List.mem_filter] at h
 have h1:=List.mem_of_mem_take h.1
 obtain ⟨j,hj,hx⟩:=List.getElem_of_mem h1
 rw [runsOf_len] at hj
 rw [runsOf_at fs l j hj] at hx
 exact ⟨j,hj,hx.symm,by rw [← hx] at h;exact h.2⟩
theorem keptOf_len (fs:Nat→Nat) (l:List (Tn × Nat)) (i:Nat) (hi:i≤l.length):(keptOf fs l i).length≤i:=by
 unfold keptOf
 refine Nat.le_trans (List.length_filter_le _ _) ?_
 rw [List.length_take,runsOf_len];omega
set_option maxRecDepth 100000 in
set_option maxHeartbeats 8000000 in
theorem join43 (A:Nat→Prop) (ad:Option Addr) (c:Nat) (fs:Nat→Nat) (l:List (Tn × Nat)) (w:World) (hA:∀ b,A b→b < w.heap.size) (hv:RV w A ad fs l) (ht:∀ x ∈ l,x.2≤1000) (hl:l.length≤200000) (hs:∀ i (hi:i < l.length),FA w A (fs i) l[i].1) (hd:∀ x ∈ l,x.1.depth≤4000000000) :
  Calls Tryz.prog 130 #[.slice ad l.length c] w fun e w'=>∃ f,e=.returned (pt f)∧FA w' (New A w w') f (joinT l)∧Below w.heap.size w w':=by
 obtain ⟨i0,hi0,hz0,hz1,hz2⟩:=info_parts info92
 obtain ⟨n,hn⟩:∃ n,n=l.length:=⟨_,rfl⟩
 rw [← hn]
 obtain ⟨z,hz⟩:∃ z,z=w.heap.size:=⟨_,rfl⟩
 have HS:=hid hs
 have HV:=hid hv
 have HN:=hid hn
 have HT:=hid ht
 have HDD:=hid hd
 have HZ:=hid hz
 have HAA:=hid hA
 have hn2:n≤200000:=by omega
 clear hs hv hn ht hd hz hA
 go_enter Tryz.func130,Tryz.ntmps130
 go_wp2_with fail
 go_loopw [3,4,9] (fun u t y wq=>∃ i:Nat,y=.int .i64 (i:Int)∧i≤n∧Hid (Below z w wq)∧∃ tt:Nat,t=.int .i64 (tt:Int)∧Hid (tt=timesOf ((keptOf fs l i).map (·.2)))∧tt≤200000000∧Hid (wq.ownsRow z 245 2 u (keptOf fs l i).length ((keptOf fs l i).flatMap rcs))) (fun _ _ y _=>n - (intOf y).toNat)
 case atStart=>exact ⟨0,rfl,by omega,(by have:=Below.refl z w;exact this),0,rfl,by simp [keptOf,timesOf,Hid],by omega,World.ownsRow_nil _ _ _ _⟩
 case round =>
  obtain ⟨i,rfl,hi,BK,tt,rfl,HTT,htl,HO⟩:=hrel
  by_cases hil:i < n
  ·have b1:decide ((i:Int) < (n:Int))=true:=by simp;omega
   have b2:(i:Int) < (n:Int):=by omega
   have ad1:IntKind.i64.wrap ((i:Int) + 1)=(i:Int) + 1:=by simp [IntKind.wrap,IntKind.bits,IntKind.signed];omega
   have hil':i < l.length:=by have:=HN.out;omega
   obtain ⟨b,o,rfl,hba,hcs⟩:=HV.out (by omega)
   have hb:=HAA.out b hba
   obtain ⟨e0,e1⟩:=hcs i hil'
   have hbz:b < z:=by have:=HZ.out;omega
   have hbw:=BK.out.block b hbz
   have u0:=(cell_eq hbw (o + i * 2)).trans e0
   have u1:=(cell_eq hbw (o + i * 2 + 1)).trans e1
   obtain ⟨hfa,N0,ev,hc,hk0⟩:=(HS.out i hil').cells
   have hfl:=HAA.out _ hfa
   obtain ⟨c0,c9,c10,c11⟩:=(hc.kept (BK.out.block _ (by have:=HZ.out;omega))).num
   rw [hk0] at c0
   have hst:=keptOf_step fs l i hil'
   have htt:=HT.out _ (List.getElem_mem hil')
   have hKl:=keptOf_len fs l i (by omega)
   obtain ⟨f,hf⟩:∃ f,f=fs i:=⟨_,rfl⟩
   obtain ⟨X,hX⟩:∃ X,X=l[i]:=⟨_,rfl⟩
   obtain ⟨m,hm⟩:∃ m,m=X.2:=⟨_,rfl⟩
   obtain ⟨kd,hkd⟩:∃ kd,kd=X.1.kind:=⟨_,rfl⟩
   rw [← hf] at u0 c0 hfl hst
   rw [← hX] at u1 c0 hst htt
   rw [← hm] at u1 htt
   rw [← hkd] at c0
   have hkp:keep X=(decide (0 < m) && !(kd == 1)):=by rw [hm,hkd];rfl
   have hfz:f < z:=by have:=HZ.out;omega
   have hzl:z≤wr.heap.size:=by have:=BK.out.size;have:=HZ.out;omega
   obtain ⟨K,hK⟩:∃ K,K=keptOf fs l i:=⟨_,rfl⟩
   rw [← hK] at hst HTT HO hKl
   obtain ⟨p,hp⟩:∃ p,p=K.length:=⟨_,rfl⟩
   have HST:=hid hst
   have HKP:=hid hkp
   have HM:=hid hm
   have HPL:=hid hp
   have hpi:p≤i:=by omega
   rw [← hp] at HO
   clear hfa hba hf hX hm hkd hc hk0 hbw e0 e1 c9 c10 c11 hcs hst hkp hK hp
   go_upto_region 6 with fail
   obtain ⟨V,hV⟩:∃ V,V=wr.alloc (.cells #[pt f,.int .i64 (m:Int)] 245):=⟨_,rfl⟩
   rw [← hV]
   obtain ⟨x,hx⟩:∃ x,x=wr.heap.size:=⟨_,rfl⟩
   have hVo:∀ b,b < wr.heap.size→V.heap[b]?=wr.heap[b]?:=fun b hb=>by rw [hV];exact heap_alloc_old wr _ hb
   have hVx:V.heap[x]?=some (.cells #[pt f,.int .i64 (m:Int)] 245 (0,0)):=by rw [hV,hx];exact heap_alloc_new wr _
   have g0:=(cell_eq (hVo f (by omega)) 0).trans c0
   have r0:V.cell? ⟨x,0,none⟩=some (pt f):=Joins.cell_of_block hVx 0
   have r1:V.cell? ⟨x,1,none⟩=some (.int .i64 (m:Int)):=Joins.cell_of_block hVx 1
   have hbV:Below z w V:=by rw [hV];exact BK.out.alloc (by omega) _
   have hOV:V.ownsRow z 245 2 u3 p (K.flatMap rcs):=by rw [hV];exact HO.out.alloc _
   rw [← hx]
   have HBV:=hid hbV
   have HOV:=hid hOV
   have hxV:x < V.heap.size:=(Array.getElem?_eq_some_iff.1 hVx).1
   have HVX:=hid hVx
   have HXZ:=hid (show z≤x by omega)
   have HXO:Hid (u3.ownBlock≠some x):=fun e=>by have:=(HO.out.lt x e).2;omega
   clear c0 u0 u1 hV hx hVo hVx hbV BK HO hOV
   have hskip:keep X=false→∀ P:Nat,Hid (Below z w (V.drewN P))→True:=fun _ _ _=>trivial
   clear hskip
   by_cases hm0:m=0
   ·have g1:decide ((m:Int) > 0)=false:=by simp;omega
    have g2:decide (0 < m)=false:=by simp;omega
    have hk:keep X=false:=by rw [HKP.out,g2];rfl
    go_wp2
    have hst:=HST.out
    rw [hk] at hst
    simp only [Bool.false_eq_true,if_false,List.append_nil] at hst
    refine ⟨⟨i + 1,by push_cast;rfl,by omega,HBV.out,tt,rfl,?_,htl,?_⟩,by simp [intOf];omega⟩
    ·rw [hst];exact HTT.out
    ·rw [hst,← HPL.out];exact HOV.out
   ·have g1:decide ((m:Int) > 0)=true:=by simp;omega
    have g2:decide (0 < m)=true:=by simp;omega
    by_cases hk1:kd=1
    ·have g3:(kd != 1)=false:=by simp [hk1]
     have hk:keep X=false:=by rw [HKP.out,hk1];simp
     go_wp2
     have hst:=HST.out
     rw [hk] at hst
     simp only [Bool.false_eq_true,if_false,List.append_nil] at hst
     refine ⟨⟨i + 1,by push_cast;rfl,by omega,HBV.out,tt,rfl,?_,htl,?_⟩,by simp [intOf];omega⟩
     ·rw [hst];exact HTT.out
     ·rw [hst,← HPL.out];exact HOV.out
    ·have g3:(kd != 1)=true:=by simp [hk1]
     have hk:keep X=true:=by rw [HKP.out,g2];simp [hk1]
     have hst:=HST.out
     rw [hk] at hst
     simp only [if_true] at hst
     have HS2:=hid hst
     have tw:IntKind.i64.wrap ((tt:Int) + (m:Int))=(tt:Int) + (m:Int):=by simp [IntKind.wrap,IntKind.bits,IntKind.signed];omega
     clear hst
     obtain ⟨V2,hV2⟩:∃ V2,V2=V.alloc (.cells #[pt f,.int .i64 (m:Int)] 245):=⟨_,rfl⟩
     have hO2:V2.ownsRow z 245 2 u3 p (K.flatMap rcs):=by rw [hV2];exact HOV.out.alloc _
     have hN2:V2.heap[V.heap.size]?=some (.cells #[pt f,.int .i64 (m:Int)] 245 (0,0)):=by rw [hV2];exact heap_alloc_new V _
     have hX2:V2.heap[x]?=some (.cells #[pt f,.int .i64 (m:Int)] 245 (0,0)):=by rw [hV2];exact (heap_alloc_old V _ hxV).trans HVX.out
     have hb2:Below z w V2:=by rw [hV2];exact HBV.out.alloc (by have:=HXZ.out;omega) _
     have hnews:∀ j u,[pt f,.int .i64 (m:Int)][j]?=some u→V2.cell? ((⟨V.heap.size,0,none⟩:Addr).add j)=some u:=fun j u hj=>by
      rw [Addr.add_mid,Nat.zero_add]
      rw [Joins.cell_of_block hN2 j]
      simpa using hj
     have hs2:V.heap.size < V2.heap.size:=(Array.getElem?_eq_some_iff.1 hN2).1
     have HO2:=hid hO2
     have HX2:=hid hX2
     have HB2:=hid hb2
     have HNW:=hid hnews
     have HV2:=hid hV2
     clear hO2 hX2 hb2 hnews hV2 hN2
     go_upto_region 7 with fail
     go_upto_region 8 with (at_builtin;rw [← HV2.out];refine wpList_append_moveN rfl (.tmp 25) (.tmp 27) 194 rfl z 245 i0 (.agg #[.pointer none,.int .i64 0]) 2 16 Tryz.underlying194 hi0 hz0 hz1 hz2 rfl (by decide) u3 p (K.flatMap rcs) rfl HO2.out ⟨V.heap.size,0,none⟩ 1 1 [pt f,.int .i64 (m:Int)] rfl rfl (by decide) HNW.out (by simp [Value.oneCell']) (by unfold maxLen;omega) (by omega) (by have:=HXZ.out;omega) ?_;intro v5 w5 ho5 hm5)
     have hX5:=(moved_old' hm5.out (by omega) HXO.out).trans HX2.out
     have r15:w5.cell? ⟨x,1,none⟩=some (.int .i64 (m:Int)):=Joins.cell_of_block hX5 1
     have hb5:=moved_below HB2.out (by have:=HXZ.out;omega) (fun k hk=>(HO2.out.lt k hk).1) hm5.out
     have HB5:=hid hb5.1
     clear hb5 hX5 r0 r1 g0
     go_wp2
     refine ⟨⟨i + 1,by push_cast;rfl,by omega,HB5.out,tt + m,by push_cast;rfl,?_,?_,?_⟩,by simp [intOf];omega⟩
     ·show tt + m=_
      rw [HS2.out,List.map_append,timesOf_append,← HTT.out]
      simp [timesOf,HM.out]
     ·have h1:timesOf ((keptOf fs l (i + 1)).map (·.2))≤200000000:=by
       refine Nat.le_trans (timesOf_le (fun y hy=>?_)) ?_
       ·obtain ⟨x',hx',rfl⟩:=List.mem_map.1 hy
        obtain ⟨j,hj,rfl,_⟩:=keptOf_mem hx'
        exact HT.out _ (List.getElem_mem hj)
       ·have:=keptOf_len fs l (i + 1) (by omega)
        simp only [List.length_map]
        omega
      rw [HS2.out,List.map_append,timesOf_append,← HTT.out] at h1
      simp [timesOf] at h1
      have:=HM.out
      omega
     ·have h:=ho5.out
      rw [HPL.out,HM.out] at h
      rw [HS2.out,List.length_append,List.flatMap_append]
      have h':w5.ownsRow z 245 2 v5 (K.length + [(f,X)].length) (K.flatMap rcs ++ [(f,X)].flatMap rcs):=h
      exact h'
  ·have b1:decide ((i:Int) < (n:Int))=false:=by simp;omega
   obtain rfl:i=n:=by omega
   have hall:=keptOf_all fs l
   rw [← HN.out] at hall
   obtain ⟨K,hK⟩:∃ K,K=keptOf fs l i:=⟨_,rfl⟩
   have hKm:∀ x ∈ K,∃ j,∃ hj:j < l.length,x=(fs j,l[j])∧keep l[j]=true:=fun x hx=>keptOf_mem (by rw [← hK];exact hx)
   have hKl:=keptOf_len fs l i (by have:=HN.out;omega)
   rw [← hK] at hall HTT HO hKl
   have hjT:joinT l=joinK (K.map (·.2)):=by unfold joinT;rw [hall]
   have hzl:z≤wr.heap.size:=by have:=BK.out.size;have:=HZ.out;omega
   have hkk:∀ b,b < w.heap.size→wr.heap[b]?=w.heap[b]?:=fun b hb=>BK.out.block b (by have:=HZ.out;omega)
   have hFAk:∀ x ∈ K,FA wr (New A w wr) x.1 x.2.1:=fun x hx=>by
    obtain ⟨j,hj,rfl,_⟩:=hKm x hx
    exact (HS.out j hj).kept (fun b hb=>hkk b (HAA.out b hb)) (fun b hb=>.inl hb)
   have hKt:∀ x ∈ K.map (·.2),0 < x.2∧x.2≤1000:=fun x hx=>by
    obtain ⟨y,hy,rfl⟩:=List.mem_map.1 hx
    obtain ⟨j,hj,rfl,h⟩:=hKm y hy
    simp only [keep,Bool.and_eq_true,decide_eq_true_eq] at h
    exact ⟨h.1,HT.out _ (List.getElem_mem hj)⟩
   have hKd:∀ x ∈ K.map (·.2),x.1.depth≤4000000000:=fun x hx=>by
    obtain ⟨y,hy,rfl⟩:=List.mem_map.1 hx
    obtain ⟨j,hj,rfl,h⟩:=hKm y hy
    exact HDD.out _ (List.getElem_mem hj)
   have HF:=hid hFAk
   have HKT:=hid hKt
   have HKD:=hid hKd
   have HJT:=hid hjT
   have HLK:=hid hKl
   clear hall hKm hjT hkk hFAk hKt hKd hK hKl
   by_cases ht0:tt=0
   ·have g1:((tt:Int) == 0)=true:=by simp [ht0]
    have HC:=empty61 A wr
    subst ht0
    go_wp2_with (first | (go_at_call 196;(with_reducible refine HC.mono ?_);rintro e w1 ⟨f,rfl,hf,hb⟩;have HFF:=hid hf;have HB1:=hid hb;clear hf hb HC))
    all_goals go_ret
    all_goals
     refine ⟨f,rfl,?_,?_⟩
     ·rw [HJT.out];unfold joinK;rw [if_pos HTT.out.symm];exact HFF.out.kept (fun _ _=>rfl) (fun b hb=>hb.more (by have:=HZ.out;omega) (Nat.le_refl _))
     ·rw [← HZ.out];exact BK.out.trans (Joins.below_le HB1.out hzl)
   ·have g1:((tt:Int) == 0)=false:=by simp [ht0]
    by_cases ht1:tt=1
    ·have g2:((tt:Int) == 1)=true:=by simp [ht1]
     subst ht1
     obtain ⟨y,hy⟩:∃ y,K=[y]:=by
      have h1:=HTT.out
      have h2:=HKT.out
      cases K with
      | nil=>simp [timesOf] at h1
      | cons y K =>
       cases K with
       | nil=>exact ⟨y,rfl⟩
       | cons y' K =>
        simp only [List.map_cons,timesOf] at h1
        have:=h2 y.2 (by simp)
        have:=h2 y'.2 (by simp)
        omega
     subst hy
     have hrow:=HO.out
     obtain ⟨bb,cc,rfl⟩:∃ bb cc,u3=.slice (some ⟨bb,0,none⟩) 1 cc:=by
      rcases hrow.2 with ⟨e,h0⟩ | ⟨g,cap,cur,e,_⟩
      ·simp at h0
      ·exact ⟨g,cap,e⟩
     have q0:wr.cell? ⟨bb,0,none⟩=some (pt y.1):=by rw [hrow.cellAt 0 (by simp)];rfl
     clear hrow
     go_wp2
     all_goals go_ret
     all_goals
      refine ⟨y.1,rfl,?_,?_⟩
      ·rw [HJT.out];unfold joinK
       have h1:timesOf ([y].map (·.2))=1:=HTT.out.symm
       rw [if_neg (by omega),if_pos h1]
       exact HF.out y (by simp)
      ·rw [← HZ.out];exact BK.out
    ·have g2:((tt:Int) == 1)=false:=by simp;omega
     obtain ⟨ka,kc,rfl,hkc,hkm⟩:=row_shape HO.out
     have hrv:=rv_of (A:=New A w wr) HO.out (fun b h1 h2=>.inr ⟨by have:=HZ.out;omega,h2⟩)
     have hKp:0 < (K.map (·.2)).length:=by
      rcases Nat.eq_zero_or_pos (K.map (·.2)).length with h | h
      ·have h1:=HTT.out
       rw [List.length_eq_zero_iff.1 h] at h1
       simp [timesOf] at h1
       omega
      ·exact h
     have HC:=row45 (New A w wr) 4 ka kc _ (K.map (·.2)) wr (.inl rfl) (New.low HAA.out (by have:=HZ.out;omega)) hrv HKT.out (by have:=HLK.out;simp;omega) hKp (fun j hj=>by
      simp only [List.length_map] at hj
      have:=HF.out K[j] (List.getElem_mem hj)
      simpa [List.getD_eq_getElem?_getD,List.getElem?_eq_getElem hj] using this) HKD.out
     simp only [List.length_map] at HC
     clear hrv hKp hkm hkc
     go_wp2_with (first | (go_at_call 132;(with_reducible refine HC.mono ?_);rintro e w1 ⟨f,rfl,hf,hb⟩;have HFF:=hid hf;have HB1:=hid hb;clear hf hb HC))
     all_goals go_ret
     all_goals
      refine ⟨f,rfl,?_,?_⟩
      ·rw [HJT.out];unfold joinK
       have h1:=HTT.out
       rw [if_neg (by omega),if_neg (by omega)]
       exact HFF.out.kept (fun _ _=>rfl) (fun b hb=>hb.trans HB1.out.size (by have:=HZ.out;omega))
      ·rw [← HZ.out];exact BK.out.trans (Joins.below_le HB1.out hzl)
end Go.Proofs.YtacaanhnlfpbhaaGreat
