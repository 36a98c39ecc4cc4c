/- HELPERS: texts of ours put together. -/
import Derived.Test.YtacaanhnlfpbhaaGreatK24
import Derived.Test.YtacaanhnlfpbhaaGreatK20
import Derived.Test.YtacaanhnlfpbhaaGreatK23
import Derived.Test.YtacaanhnlfpbhaaGreatK04
namespace Go.Proofs.YtacaanhnlfpbhaaGreat
open Go.RowKit
set_option linter.unusedVariables false
set_option linter.unusedSimpArgs false
theorem sub_at {W:World} {sa:Option Addr} {sc:Nat} {s:List Lt} (h:Rw W (.slice sa s.length sc) (s.map fun t=>(t.lb:Int))) {i:Nat} (hi:i < s.length):∃ g,sa=some ⟨g,0,none⟩∧W.cell? ⟨g,i,none⟩=some (.int .i64 ((s[i]).lb:Int)):=by
 obtain ⟨g,h1,h2⟩:=sub_cell h (by simp) hi
 refine ⟨g,h1,?_⟩
 rw [h2]
 simp [List.getD_eq_getElem?_getD,List.getElem?_eq_getElem hi]
theorem fwC_next {s:List Lt} {i:Nat} {B:Way} (hi:i < s.length):fwC (s.drop i) B=(s[i]).fw (fwC (s.drop (i + 1)) B):=by
 rw [List.drop_eq_getElem_cons hi]
 rfl
theorem en86:∀ (args:Array Value) (w:World),(callFunc 86 args).run Tryz.prog w=.ok (.enter 86 args) w:=enter_of Tryz.func86 (by kernel_rfl) rfl
theorem info57w:(Tryz.prog.info? 57).map (fun i=>(i.zero,i.size,i.bytes))=some (some (.agg #[.int .i64 0,.slice none 0 0]),2,32):=by kernel_rfl
theorem FM.push {C:WC} {W1 W2 W3:World} {done:List (Int × Int)} {out:List (Int × List Int)} (hk:WCk C) (h:FM C W1 done out) {v v':Value} {cs:List Value} {F:List Nat} (hbx:WBx C W1 v)
  (ho:W1.ownsRow C.NB 57 2 v out.length cs) (hP:PR C.NB W1 cs out F) (hb:Below W1.heap.size W1 W2) {e:Int} {cp:List Int} {cv:Value} {base:Nat} (hc:W2.ownsRow base 3 1 cv cp.length (I64 cp)) (hbase:C.NB≤base) {o:Obj}
  (hm:Moved (W2.alloc o) W3 v v') (ho3:W3.ownsRow C.NB 57 2 v' (out.length + 1) (cs ++ [.int .i64 e,cv])) :
  FM C (W3.setCell ⟨C.wb,6,none⟩ v') done (out ++ [(e,cp)])∧WFr C W1 (W3.setCell ⟨C.wb,6,none⟩ v'):=by
 have hs:=hb.size
 have hs3:W2.heap.size≤W3.heap.size:=by rcases hm with ⟨_,h⟩ | ⟨_,h⟩ <;> (have:=h.size;simp at this;omega)
 have hbl:=hbx.lt
 have old2:∀ k,k < W2.heap.size→v.ownBlock≠some k→W3.heap[k]?=W2.heap[k]?:=fun k hk hne=>(moved_old' hm (by simp;omega) hne).trans (heap_alloc_old W2 _ hk)
 have old:∀ k,k < W1.heap.size→v.ownBlock≠some k→W3.heap[k]?=W1.heap[k]?:=fun k hk hne=>(old2 k (by omega) hne).trans (hb.block k hk)
 have hb3:WBx C W3 v:=(old C.wb hbl (own_ne ho hbx (by decide))).trans hbx
 have set:∀ k,k≠C.wb→(W3.setCell ⟨C.wb,6,none⟩ v').heap[k]?=W3.heap[k]?:=fun k hk=>Below.heap_setCell _ _ _ _ hk
 have typ:∀ (b:Nat) (cur:Array Value) (T:Nat),T≠82→T≠57→W1.heap[b]?=some (.cells cur T (0,0))→(W3.setCell ⟨C.wb,6,none⟩ v').heap[b]?=some (.cells cur T (0,0)):=fun b cur T h1 h2 hx =>
  (set b (fun e=>by rw [e,hbx] at hx;simp at hx;exact h1 hx.2.symm)).trans ((old b (Array.getElem?_eq_some_iff.1 hx).1 (own_ne ho hx h2)).trans hx)
 have fr:WFr C W1 (W3.setCell ⟨C.wb,6,none⟩ v'):=by
  refine ⟨?_,?_,?_,by simp [World.setCell];omega,fun b hb1=>?_,fun b cur t _ h1 h2 hx=>typ b cur t h1 h2 hx⟩
  ·rcases hm with ⟨_,h⟩ | ⟨_,h⟩ <;> exact h.os.trans hb.os
  ·rcases hm with ⟨_,h⟩ | ⟨_,h⟩ <;> exact h.tape.trans hb.tape
  ·rcases hm with ⟨_,h⟩ | ⟨_,h⟩ <;> exact h.output.trans hb.output
  ·have:=hk.wbN
   exact (set b (by omega)).trans (old b (by have:=h.nb;omega) (fun e=>by have:=(ho.lt b e).1;omega))
 have hfl:FL C (W3.setCell ⟨C.wb,6,none⟩ v') done:=by
  have one:∀ b n f,BRw W1 b n f→BRw (W3.setCell ⟨C.wb,6,none⟩ v') b n f:=fun b n f ⟨arr,h1,h2⟩=>⟨arr,typ b arr 4 (by decide) (by decide) h1,h2⟩
  exact ⟨fun i hi=>one _ _ _ (h.fl.b i hi),fun i hi=>one _ _ _ (h.fl.d i hi),one _ _ _ h.fl.e⟩
 refine ⟨h.next fr ⟨v',Joins.block_setCell (i:=6) hb3 _,cs ++ [.int .i64 e,cv],F ++ cv.ownBlock.toList,?_,?_⟩ hfl,fr⟩
 ·rw [List.length_append]
  exact own_setCell ho3 (own_ne ho3 hb3 (by decide))
 ·refine (hP.kept fun k hk=>?_).snoc ?_
  ·obtain ⟨cur,hx⟩:=hP.typ k hk
   exact (typ k cur 3 (by decide) (by decide) hx).trans hx.symm
  ·refine row_kept (Joins.ownsRow_le hc hbase) fun b hb'=>?_
   obtain ⟨cur,hx⟩:∃ cur,W2.heap[b]?=some (.cells cur 3 (0,0)):=by
    rcases hc.2 with ⟨e,_⟩ | ⟨b2,cap,cur,e,_,hgg,_⟩
    ·subst e;simp [Value.ownBlock] at hb'
    ·subst e;simp [Value.ownBlock] at hb';subst hb';exact ⟨cur,hgg⟩
   have hbl2:=(Array.getElem?_eq_some_iff.1 hx).1
   refine (set b (fun e=>?_)).trans (old2 b hbl2 (fun e=>?_))
   ·rw [e,hb.block C.wb hbl,hbx] at hx;simp at hx
   ·rcases ho.2 with ⟨e2,_⟩ | ⟨b2,cap,cur2,e2,_,hgg,_⟩
    ·subst e2;simp [Value.ownBlock] at e
    ·subst e2
     simp [Value.ownBlock] at e
     subst e
     rw [hb.block _ (Array.getElem?_eq_some_iff.1 hgg).1,hgg] at hx
     simp at hx
set_option maxRecDepth 100000 in
set_option maxHeartbeats 8000000 in
theorem behind_root {C:WC} (hk:WCk C) {lb:Nat} {k:Int} {R:List (Int × Int)} {a:Int} {s:List Lt} {mn mx:Int} {lz:Bool} {ix:Int} {nm:ByteArray} {nth:Nat} {p:Nat} {g g1:Sg}
  (he:(⟨.mk lb k R a s mn mx lz ix nm,.once 1 .through,-1,nth⟩:Pl) ∈ C.L) (hx:Ex C.tx C.E (.once 1 .through) p g g1):WCall C 82 lb p g g1:=by
 intro W caps cv h
 have hlb:=hk.num _ he
 have hnn:=hk.nn
 have htn:=hk.tn64
 have hp:=h.p64
 simp only [Lt.lb] at hlb
 obtain ⟨k0,k1,k2,k3,k4,k5,t0⟩:=h.fm.cells
 obtain ⟨a',ix',r1,r2,r3,sa,sc,lz',⟨-,-,-,-,-,-,n6,-⟩,-⟩:=h.fm.pl _ he
 have i1:(lb:Int) < (C.n:Int):=by omega
 have i2:(lb:Int)≤300000:=by omega
 have i3:(p:Int) < ((C.tn + 1:Nat):Int):=by omega
 have i4:(p:Int)≤64:=by omega
 have hee:=h.fm.fl.e.cell (i:=p) (by omega)
 have hef:=h.fm.fl.e.free p
 obtain ⟨d,hd⟩:∃ d,d=decide ((1,(p:Int)) ∈ g.done):=⟨_,rfl⟩
 rw [← hd] at hee
 have HD:=hid hd
 clear hd
 obtain ⟨m,hm⟩:∃ m,m=C.tn + 1:=⟨_,rfl⟩
 rw [← hm] at i3 k5
 have HH:=hid h
 have HHK:=hid hk
 have HX:=hid hx
 clear hk he h hx hlb hnn htn hp hm
 go_enter Tryz.func82,Tryz.ntmps82
 cases d
 rotate_left
 ·go_wp2_with fail
  refine bodyPost_ret (results_none rfl _ _ _) rfl ?_
  have hdd:=of_decide_eq_true HD.out.symm
  cases HX.out with
  | skip _=>exact ⟨rfl,HH.out.fm,WFr.refl _ _⟩
  | once hn _=>exact absurd hdd hn
 ·have hg1:g1=⟨g.done ++ [(1,(p:Int))],g.notes,g.parses ++ [((p:Int),(caps.set 0 C.frm).set 1 (p:Int))]⟩:=by
   have hdd:=of_decide_eq_false HD.out.symm
   cases HX.out with
   | skip hn=>exact absurd hn hdd
   | once _ hd=>cases hd;rw [HH.out.nt]
  have HG1:=hid hg1
  clear hg1 HX HD
  obtain ⟨W1,hW1⟩:∃ W1,W1=W.setCell ⟨C.eb,p,none⟩ (.bool true):=⟨_,rfl⟩
  obtain ⟨fm1,fr1⟩:=HH.out.fm.ended HHK.out HH.out.p64
  rw [← hW1] at fm1 fr1
  have HF1:=hid fm1
  have HR1:=hid fr1
  have hcv:=fr1.row HH.out.cap
  obtain ⟨l0,l1,l2,l3,l4,l5,lt0⟩:=fm1.cells
  have HS0:Hid (∀ (V:World),SrcOf V cv caps→Calls Tryz.prog 86 #[cv,.int .i64 ((0:Nat):Int),.int .i64 C.frm] V fun e w'=>∃ v',e=.returned v'∧w'.ownsRow V.heap.size 3 1 v' caps.length (I64 (caps.set 0 C.frm))∧Below V.heap.size V w'):=fun V hS=>set39 caps cv 0 C.frm V hS (by have:=HH.out.capl;have:=HHK.out.k2;omega) (by have:=HH.out.capl;have:=HHK.out.k2;omega)
  have HS1:Hid (∀ (V:World) (v':Value),SrcOf V v' (caps.set 0 C.frm)→Calls Tryz.prog 86 #[v',.int .i64 ((1:Nat):Int),.int .i64 (p:Int)] V fun e w'=>∃ v'',e=.returned v''∧w'.ownsRow V.heap.size 3 1 v'' (caps.set 0 C.frm).length (I64 ((caps.set 0 C.frm).set 1 (p:Int)))∧Below V.heap.size V w'):=fun V v' hS=>set39 _ v' 1 (p:Int) V hS (by have:=HH.out.capl;have:=HHK.out.k2;simp;omega) (by have:=HH.out.capl;have:=HHK.out.k2;simp;omega)
  have HC0:Calls Tryz.prog 86 #[cv,.int .i64 0,.int .i64 C.frm] W1 fun e w'=>∃ v',e=.returned v'∧w'.ownsRow W1.heap.size 3 1 v' caps.length (I64 (caps.set 0 C.frm))∧Below W1.heap.size W1 w':=HS0.out W1 hcv.src
  have HW1:=hid hW1
  clear fm1 fr1 hcv hW1
  go_upto_region 4 with fail
  rw [← HW1.out]
  clear k0 k1 k2 k3 k4 k5 t0 n6 hee hef
  go_upto_region 5 with (first | (go_at_call 86;(with_reducible refine HC0.mono ?_);rintro e W2 ⟨v1,rfl,ho1,hb1⟩;have HO1:=hid ho1;have HB1:=hid hb1;clear ho1 hb1 HC0))
  clear l0 l1 l2 l3 l4 l5 lt0
  obtain ⟨fm2,fr2⟩:=HF1.out.below HHK.out HB1.out
  obtain ⟨vo,hbx,cs,F,hrow,hPR⟩:=fm2.box
  obtain ⟨oa,oc,hvo⟩:∃ oa oc,vo=.slice oa g.parses.length oc:=by
   obtain ⟨a,c,e,_⟩:=row_form hrow
   exact ⟨a,c,e⟩
  subst hvo
  have l6:W2.cell? ⟨C.wb,6,none⟩=some (.slice oa g.parses.length oc):=Joins.cell_of_block hbx 6
  obtain ⟨ol,hol⟩:∃ ol,ol=g.parses.length:=⟨_,rfl⟩
  rw [← hol] at l6 hbx hrow
  have HOL:=hid hol
  have hol7:ol≤70:=by rw [hol];exact HH.out.ol
  have hNB:=fm2.nb
  have HFM2:=hid fm2
  have HFR2:=hid (HR1.out.trans fr2)
  have HBX:=hid hbx
  have HROW:=hid hrow
  have HPR:=hid hPR
  have HSW:Hid (∀ V,Below W2.heap.size W2 V→V.cell? ⟨C.wb,6,none⟩=some (.slice oa ol oc)):=fun V hV=>(cell_eq (hV.block C.wb (HBX.out).lt) _).trans l6
  have HCL:Hid (caps.length=C.K):=HH.out.capl
  have HK2:=hid HHK.out.k2
  clear fm2 fr2 hbx hrow hPR hol
  obtain ⟨i0,hi0,hz0,hz1,hz2⟩:=info_parts info57w
  refine wp_region_lexK [0,1,2,3,4,5,6,7] [8,9,10,11,12,13,14] 14 (fun V=>V.cell? ⟨C.wb,6,none⟩=some (.slice oa ol oc)) (by kernel_rfl) (by kernel_rfl) rfl (by kernel_rfl) (by kernel_rfl) l6 ?_
  simp only [opsAt,opsNo,List.getElem?_toArray,List.getElem?_cons_zero,List.getElem?_cons_succ]
  iterate 8
   refine lex_cons ?_ rfl (fun V hV=>?_) (fun _ _ _ h=>h) ?_
   rotate_left
   ·have s0:=hV
    go_simp <;> with_reducible rfl
   simp only [Act.put,List.setIfInBounds_toArray,List.set_cons_zero,List.set_cons_succ]
  refine lex_nil (tailK_cons fun K hK=>?_)
  refine step_call3 rfl 86 (.tmp 50) (.const (.int .i64 1)) (.tmp 51) 26 3 3 rfl en86 ?_
  refine (HS1.out W2.drew v1 ?_).mono ?_
  ·exact (Rw.of HO1.out (by have:=HCL.out;have:=HK2.out;omega)).src
  rintro e w3 ⟨v2,rfl,ho2,hb2⟩
  obtain ⟨vb,vc,rfl⟩:=Joins.ownsRow_form ho2 (by have:=HCL.out;have:=HK2.out;simp;omega)
  have hB3:Below W2.heap.size W2 w3:=(show Below W2.heap.size W2 W2.drew from ⟨rfl,rfl,rfl,Nat.le_refl _,fun _ _=>rfl⟩).trans hb2
  obtain ⟨cl,hcl⟩:∃ cl,cl=(caps.set 0 C.frm).length:=⟨_,rfl⟩
  rw [← hcl] at ho2 ⊢
  have HCLL:=hid hcl
  have HO2:=hid ho2
  have HB3:=hid hB3
  have hs3:=hB3.size
  clear hcl ho2 hb2 hB3
  refine ⟨_,rfl,hK.out _ _ (fun _=>HSW.out w3 HB3.out) (tailK_cons fun K hK=>?_)⟩
  simp only [Act.put,List.setIfInBounds_toArray,List.set_cons_zero,List.set_cons_succ]
  go_simp
  refine hK.out _ _ (fun _=>HSW.out w3 HB3.out) (tailK_cons fun K hK=>?_)
  simp only [Act.put,List.setIfInBounds_toArray,List.set_cons_zero,List.set_cons_succ]
  go_simp
  have hBA:Below W2.heap.size W2 (w3.alloc (.cells #[.int .i64 (p:Int),.slice (some ⟨vb,0,none⟩) cl vc] 57)):=HB3.out.trans (Joins.below_le (Joins.below_alloc1 w3 _) hs3)
  refine hK.out _ _ (fun _=>HSW.out _ hBA) (tailK_cons fun K hK=>?_)
  clear hBA
  have hrow3:w3.ownsRow C.NB 57 2 (.slice oa ol oc) ol cs:=row_kept HROW.out fun b hb=>HB3.out.block b (HROW.out.lt b hb).2
  refine step_append rfl (.tmp 48) (.tmp 54) 33 rfl C.NB 57 i0 (.agg #[.int .i64 0,.slice none 0 0]) 2 32 Tryz.underlying33 hi0 hz0 hz1 hz2 rfl (by decide) (.slice oa ol oc) ol cs rfl (hrow3.alloc _) ⟨w3.heap.size,0,none⟩ 1 1 [.int .i64 (p:Int),.slice (some ⟨vb,0,none⟩) cl vc] rfl rfl (by decide) ?_ ?_ (by unfold maxLen;omega) (by omega) (by simp;omega) ?_
  ·intro j u hj
   match j,hj with
   | 0,hj=>simp at hj;subst hj;simp [Addr.add]
   | 1,hj=>simp at hj;subst hj;simp [Addr.add]
  ·intro u hu
   simp at hu
   rcases hu with rfl | rfl <;> rfl
  intro v' w4 ho4 hm4
  obtain ⟨vb4,vc4,rfl⟩:=Joins.ownsRow_form ho4.out (by omega)
  have HPU:=hid (HFM2.out.push HHK.out (e:=(p:Int)) (cp:=(caps.set 0 C.frm).set 1 (p:Int)) (cv:=.slice (some ⟨vb,0,none⟩) cl vc) (v:=.slice oa ol oc) (cs:=cs) (F:=F) (by rw [HOL.out] at HBX ⊢;exact HBX.out) (by rw [← HOL.out];exact HROW.out) HPR.out HB3.out (by rw [List.length_set,← HCLL.out];exact HO2.out) (show C.NB≤W2.heap.size from hNB) hm4.out (by rw [← HOL.out];exact ho4.out))
  have hb4:WBx C w4 (.slice oa ol oc):=by
   have hbl:=(HBX.out).lt
   exact (moved_old' hm4.out (by simp;omega) (own_ne HROW.out HBX.out (by decide))).trans ((heap_alloc_old w3 _ (by omega)).trans ((HB3.out.block C.wb hbl).trans HBX.out))
  have q6:w4.cell? ⟨C.wb,6,none⟩=some (.slice oa ol oc):=Joins.cell_of_block hb4 6
  have uq6:=Joins.unfrozen_of_block hb4 6
  clear hrow3 ho4 hm4 hb4
  refine hK.out _ _ (fun _=>q6) (tailK_cons fun K hK=>?_)
  simp only [Act.put,List.setIfInBounds_toArray,List.set_cons_zero,List.set_cons_succ]
  go_simp
  refine hK.out _ _ (fun _=>q6) (tailK_cons fun K hK=>?_)
  simp only [Act.put,List.setIfInBounds_toArray,List.set_cons_zero,List.set_cons_succ]
  go_simp
  refine hK.out _ _ (fun _=>q6) (tailK_cons fun K hK=>?_)
  simp only [Act.put,List.setIfInBounds_toArray,List.set_cons_zero,List.set_cons_succ]
  go_simp
  refine hK.out _ _ (fun h=>absurd rfl h) (tailK_nil ?_)
  try simp only [Act.put,List.setIfInBounds_toArray,List.set_cons_zero,List.set_cons_succ]
  clear q6 uq6 l6
  go_wp2_with fail
  refine bodyPost_ret (results_none rfl _ _ _) rfl ?_
  refine ⟨rfl,?_,HFR2.out.trans HPU.out.2⟩
  rw [HG1.out]
  exact HPU.out.1
theorem row_setN {w:World} {base e size n b cap:Nat} {xs:List Value} (h:w.ownsRow base e size (.slice (some ⟨b,0,none⟩) n cap) n xs) (k:Nat) (x:Value):(w.setCell ⟨b,k,none⟩ x).ownsRow base e size (.slice (some ⟨b,0,none⟩) n cap) n (xs.set k x)∧w.frozen? ⟨b,k,none⟩=false:=by
 have hl:=h.1
 rcases h.2 with ⟨h,_⟩ | ⟨g,cap',cur,he,hb,hgg,h1,h2,h3,h4⟩
 ·cases h
 ·simp only [Value.slice.injEq,Option.some.injEq,Addr.mk.injEq] at he
  obtain ⟨⟨rfl,_⟩,_,rfl⟩:=he
  refine ⟨⟨by simp [hl],.inr ⟨b,cap,cur.setIfInBounds k x,rfl,hb,Joins.block_setCell hgg _,h1,h2,by simpa using h3,?_⟩⟩,Joins.unfrozen_of_block hgg k⟩
  simp only [Array.toList_setIfInBounds]
  rw [List.take_set,h4]
structure UM (tb N0:Nat) (W:World) (v:Value) (Q:List E8):Prop where
 box:W.heap[tb]?=some (.cells #[v] 77 (0,0))
 row:W.ownsRow N0 141 8 v Q.length (Q.flatMap E8.cs)
 tbN:N0≤tb
structure UFr (tb:Nat) (W W':World) (v v':Value):Prop where
 os:W'.os=W.os
 tape:W'.tape=W.tape
 output:W'.output=W.output
 size:W.heap.size≤W'.heap.size
 old:∀ b,b < W.heap.size→b≠tb→v.ownBlock≠some b→W'.heap[b]?=W.heap[b]?
 own:∀ b,v'.ownBlock=some b→v.ownBlock=some b∨W.heap.size≤b
theorem UFr.refl (tb:Nat) (W:World) (v:Value):UFr tb W W v v:=⟨rfl,rfl,rfl,Nat.le_refl _,fun _ _ _ _=>rfl,fun b h=>.inl h⟩
theorem UFr.trans {tb:Nat} {a b c:World} {u v w:Value} (h:UFr tb a b u v) (k:UFr tb b c v w):UFr tb a c u w:=
 ⟨k.os.trans h.os,k.tape.trans h.tape,k.output.trans h.output,Nat.le_trans h.size k.size,fun i hi h1 h2=>(k.old i (Nat.lt_of_lt_of_le hi h.size) h1 (fun e=>by
  rcases h.own i e with h3 | h3
  ·exact h2 h3
  ·omega)).trans (h.old i hi h1 h2),fun i hi=>by
  rcases k.own i hi with h1 | h1
  ·exact h.own i h1
  ·exact .inr (Nat.le_trans h.size h1)⟩
theorem UFr.below {tb:Nat} {W W':World} {v:Value} (h:Below W.heap.size W W'):UFr tb W W' v v:=⟨h.os,h.tape,h.output,h.size,fun b hb _ _=>h.block b hb,fun b h=>.inl h⟩
theorem UM.below {tb N0:Nat} {W W':World} {v:Value} {Q:List E8} (h:UM tb N0 W v Q) (k:Below W.heap.size W W'):UM tb N0 W' v Q:=
 ⟨(k.block tb (Array.getElem?_eq_some_iff.1 h.box).1).trans h.box,row_kept h.row fun b hb=>k.block b (h.row.lt b hb).2,h.tbN⟩
theorem UFr.ki {tb N0:Nat} {W W':World} {v v':Value} {Q:List E8} (f:UFr tb W W' v v') (h:UM tb N0 W v Q) (hN:N0≤W.heap.size):KI N0 W W':=by
 refine ⟨fun b hb=>f.old b (by omega) (by have:=h.tbN;omega) (fun e=>by have:=(h.row.lt b e).1;omega),fun b cur hx=>?_⟩
 refine (f.old b (Array.getElem?_eq_some_iff.1 hx).1 (fun e=>?_) (own_ne h.row hx (by decide))).trans hx
 rw [e,h.box] at hx
 simp at hx
theorem UFr.blk {tb N0:Nat} {W W':World} {v v':Value} {Q:List E8} (f:UFr tb W W' v v') (h:UM tb N0 W v Q) {b:Nat} (hb:b < W.heap.size) (h1:b≠tb) (h2:v.ownBlock≠some b):W'.heap[b]?=W.heap[b]?:=f.old b hb h1 h2
theorem UM.at {tb N0 pb n vc:Nat} {W:World} {Q:List E8} (h:UM tb N0 W (.slice (some ⟨pb,0,none⟩) n vc) Q) (j:Nat) (hj:j < Q.length):N8 W pb (j * 8) Q[j].k Q[j].a Q[j].ix (.slice Q[j].r1 Q[j].r2 Q[j].r3) (.slice Q[j].sa Q[j].sn Q[j].sc) Q[j].lz Q[j].up Q[j].nth:=by
 have hn:n=Q.length:=by
  rcases h.row.2 with ⟨e,_⟩ | ⟨g,cap,cur,e,_⟩
  ·cases e
  ·simp only [Value.slice.injEq] at e;exact e.2.1
 have hr:W.ownsRow N0 141 8 (.slice (some ⟨pb,0,none⟩) n vc) n (Q.flatMap E8.cs):=by rw [hn] at h ⊢;exact h.row
 have key:∀ k v,(E8.cs Q[j])[k]?=some v→W.cell? ⟨pb,j * 8 + k,none⟩=some v:=fun k v hv=>by
  have hk:k < 8:=(List.getElem?_eq_some_iff.1 hv).1
  have hl:j * 8 + k < (Q.flatMap E8.cs).length:=by rw [flat8_len];omega
  have hc:=World.ownsRow.cellAt hr (j * 8 + k) (by omega)
  rw [hc]
  rw [flat8 Q j k hj hk,hv]
 exact ⟨key 0 _ rfl,key 1 _ rfl,key 2 _ rfl,key 3 _ rfl,key 4 _ rfl,key 5 _ rfl,key 6 _ rfl,key 7 _ rfl⟩
theorem UM.push {tb N0:Nat} {W W3:World} {v v':Value} {Q:List E8} {q:E8} {o:Obj} (h:UM tb N0 W v Q) (hm:Moved (W.alloc o) W3 v v') (ho:W3.ownsRow N0 141 8 v' (Q.length + 1) (Q.flatMap E8.cs ++ E8.cs q)) :
  UM tb N0 (W3.setCell ⟨tb,0,none⟩ v') v' (Q ++ [q])∧UFr tb W (W3.setCell ⟨tb,0,none⟩ v') v v':=by
 have hbl:=(Array.getElem?_eq_some_iff.1 h.box).1
 have hs3:W.heap.size + 1≤W3.heap.size:=by have:=moved_size hm;simpa using this
 have old:∀ k,k < W.heap.size→v.ownBlock≠some k→W3.heap[k]?=W.heap[k]?:=fun k hk hne=>(moved_old' hm (by simp;omega) hne).trans (heap_alloc_old W _ hk)
 have hb3:W3.heap[tb]?=some (.cells #[v] 77 (0,0)):=(old tb hbl (own_ne h.row h.box (by decide))).trans h.box
 have set:∀ k,k≠tb→(W3.setCell ⟨tb,0,none⟩ v').heap[k]?=W3.heap[k]?:=fun k hk=>Below.heap_setCell _ _ _ _ hk
 refine ⟨⟨Joins.block_setCell (i:=0) hb3 _,?_,h.tbN⟩,?_,?_,?_,by simp [World.setCell];omega,fun b hb1 hb2 hb3=>?_,fun b hb=>?_⟩
 ·rw [List.length_append,List.flatMap_append]
  simp only [List.length_cons,List.length_nil,List.flatMap_cons,List.flatMap_nil,List.append_nil]
  exact own_setCell ho (own_ne ho hb3 (by decide))
 ·rcases hm with ⟨_,h⟩ | ⟨_,h⟩ <;> exact h.os
 ·rcases hm with ⟨_,h⟩ | ⟨_,h⟩ <;> exact h.tape
 ·rcases hm with ⟨_,h⟩ | ⟨_,h⟩ <;> exact h.output
 ·exact (set b hb2).trans (old b hb1 hb3)
 ·rcases hm with ⟨e,_⟩ | ⟨e,_⟩
  ·left;rw [← e];exact hb
  ·right
   rw [e] at hb
   simp at hb
   omega
theorem UM.setUp {tb N0 pb n vc:Nat} {W:World} {Q:List E8} (h:UM tb N0 W (.slice (some ⟨pb,0,none⟩) n vc) Q) (hn:n=Q.length) {j:Nat} (hj:j < Q.length) (u:Int):UM tb N0 (W.setCell ⟨pb,j * 8 + 6,none⟩ (.int .i64 u)) (.slice (some ⟨pb,0,none⟩) n vc) (Q.set j { Q[j] with up:=u })∧UFr tb W (W.setCell ⟨pb,j * 8 + 6,none⟩ (.int .i64 u)) (.slice (some ⟨pb,0,none⟩) n vc) (.slice (some ⟨pb,0,none⟩) n vc)∧W.frozen? ⟨pb,j * 8 + 6,none⟩=false:=by
 have hr:W.ownsRow N0 141 8 (.slice (some ⟨pb,0,none⟩) n vc) n (Q.flatMap E8.cs):=by rw [hn] at h ⊢;exact h.row
 obtain ⟨h1,h2⟩:=row_setN hr (j * 8 + 6) (.int .i64 u)
 have hne:tb≠pb:=fun e=>own_ne h.row h.box (by decide) (by rw [e];rfl)
 refine ⟨⟨(Below.heap_setCell _ _ _ _ hne).trans h.box,?_,h.tbN⟩,⟨rfl,rfl,rfl,by simp [World.setCell],fun b _ _ hb=>Below.heap_setCell _ _ _ _ (fun e=>hb (by rw [e];rfl)),fun b hb=>.inl hb⟩,h2⟩
 rw [List.length_set,← flat8_setUp Q j hj u,← hn]
 exact h1
theorem UM.setNth {tb N0 pb n vc:Nat} {W:World} {Q:List E8} (h:UM tb N0 W (.slice (some ⟨pb,0,none⟩) n vc) Q) (hn:n=Q.length) {j:Nat} (hj:j < Q.length) (u:Int):UM tb N0 (W.setCell ⟨pb,j * 8 + 7,none⟩ (.int .i64 u)) (.slice (some ⟨pb,0,none⟩) n vc) (Q.set j { Q[j] with nth:=u })∧UFr tb W (W.setCell ⟨pb,j * 8 + 7,none⟩ (.int .i64 u)) (.slice (some ⟨pb,0,none⟩) n vc) (.slice (some ⟨pb,0,none⟩) n vc)∧W.frozen? ⟨pb,j * 8 + 7,none⟩=false:=by
 have hr:W.ownsRow N0 141 8 (.slice (some ⟨pb,0,none⟩) n vc) n (Q.flatMap E8.cs):=by rw [hn] at h ⊢;exact h.row
 obtain ⟨h1,h2⟩:=row_setN hr (j * 8 + 7) (.int .i64 u)
 have hne:tb≠pb:=fun e=>own_ne h.row h.box (by decide) (by rw [e];rfl)
 refine ⟨⟨(Below.heap_setCell _ _ _ _ hne).trans h.box,?_,h.tbN⟩,⟨rfl,rfl,rfl,by simp [World.setCell],fun b _ _ hb=>Below.heap_setCell _ _ _ _ (fun e=>hb (by rw [e];rfl)),fun b hb=>.inl hb⟩,h2⟩
 rw [List.length_set,← flat8_setNth Q j hj u,← hn]
 exact h1
theorem ups_step {n i a:Nat} {Q:List E8} (ha:a < Q.length):(match Q[a]? with | some q=>Q.set a { q with up:=(n:Int),nth:=(i:Int) } | none=>Q)=(Q.set a { Q[a] with up:=(n:Int) }).set a { (Q.set a { Q[a] with up:=(n:Int) })[a]'(by simpa using ha) with nth:=(i:Int) }:=by
 rw [List.getElem?_eq_getElem ha]
 simp
theorem ups_snoc (n:Nat):∀ (S:List Nat) (a i:Nat) (Q:List E8),ups n (S ++ [a]) i Q=ups n [a] (i + S.length) (ups n S i Q)
 | [],a,i,Q=>by simp [ups]
 | b :: S,a,i,Q=>by
  simp only [List.cons_append,ups]
  rw [ups_snoc n S a (i + 1)]
  simp only [ups,List.length_cons]
  rw [show i + 1 + S.length=i + (S.length + 1) by omega]
theorem info141:(Tryz.prog.info? 141).map (fun i=>(i.zero,i.size,i.bytes))=some (some (.agg #[.int .i64 0,.int .i64 0,.int .i64 0,.slice none 0 0,.slice none 0 0,.bool false,.int .i64 0,.int .i64 0]),8,96):=by kernel_rfl
theorem PLw.up {C:WC} {W:World} {e:Pl} (h:PLw C W e):W.cell? ⟨C.pb,e.t.lb * 8 + 6,none⟩=some (.int .i64 e.up)∧W.cell? ⟨C.pb,e.t.lb * 8 + 7,none⟩=some (.int .i64 (e.nth:Int)):=by
 obtain ⟨⟨lb,k,R,a,s,mn,mx,lz,ix,nm⟩,B,up,nth⟩:=e
 obtain ⟨a',ix',r1,r2,r3,sa,sc,lz',⟨-,-,-,-,-,-,n6,n7⟩,-⟩:=h
 exact ⟨n6,n7⟩
theorem box8 {W:World} {y:Nat} {v0 v1 v2 v3 v4 v5 v6 v7:Value} {t:TypeId} (h:W.heap[y]?=some (.cells #[v0,v1,v2,v3,v4,v5,v6,v7] t (0,0))):W.cell? ⟨y,0,none⟩=some v0∧W.cell? ⟨y,1,none⟩=some v1∧W.cell? ⟨y,2,none⟩=some v2∧W.cell? ⟨y,3,none⟩=some v3∧W.cell? ⟨y,4,none⟩=some v4∧W.cell? ⟨y,5,none⟩=some v5:=
 ⟨Joins.cell_of_block h 0,Joins.cell_of_block h 1,Joins.cell_of_block h 2,Joins.cell_of_block h 3,Joins.cell_of_block h 4,Joins.cell_of_block h 5⟩
theorem WIn.go {C:WC} {W V:World} {s s':Sg} {p q:Nat} {caps caps':List Int} {cv cv':Value} (h:WIn C W s p caps cv) (fm:FM C V s'.done s'.parses) (hq:q≤C.tn) (hc:Rw V cv' caps') (hl:caps'.length=caps.length) (hn:s'.notes=caps'.set 0 C.frm) (ho:s'.parses.length≤70):WIn C V s' q caps' cv':=⟨fm,hq,hc,by rw [hl];exact h.capl,hn,ho⟩
theorem kinds_sub {C:WC} (hk:WCk C) {lb:Nat} {k:Int} {R:List (Int × Int)} {a:Int} {s:List Lt} {mn mx:Int} {lz:Bool} {ix:Int} {nm:ByteArray} {B:Way} {up:Int} {nth:Nat} (he:(⟨.mk lb k R a s mn mx lz ix nm,B,up,nth⟩:Pl) ∈ C.L):FineNZ k R a s.length mn mx lz ix nm:=node_fine (hk.fine _ he)
set_option maxRecDepth 100000 in
set_option maxHeartbeats 16000000 in
theorem behind_up {C:WC} (hk:WCk C) {lb:Nat} {k:Int} {R:List (Int × Int)} {a:Int} {s:List Lt} {mn mx:Int} {lz:Bool} {ix:Int} {nm:ByteArray} {B:Way} {up:Int} {nth:Nat} {p i:Nat} {g g1:Sg}
  (he:(⟨.mk lb k R a s mn mx lz ix nm,B,up,nth⟩:Pl) ∈ C.L) (hi:i < s.length)
  (hN:Hid (∀ (h:i + 1 < s.length),k=4→WCall C 47 (s[i + 1]).lb p g g1))
  (hU:Hid ((k=4→¬ i + 1 < s.length)→k≠7→¬ (k=6∧mx < 0)→WCall C 82 lb p g g1))
  (hG:Hid (k=7→∃ g2,WCall C 82 lb p { g with notes:=g.notes.set (2 * ix.toNat + 1) (p:Int) } g2∧g2.done=g1.done∧g2.parses=g1.parses))
  (hD:Hid (k=6→mx < 0→WCall C 88 lb p g g1)):WCall C 82 (s[i]).lb p g g1:=by
 intro W caps cv h
 have hF:=kinds_sub hk he
 have hkid:=hk.child _ he i (by simpa [Lt.sub] using hi)
 obtain ⟨c,hc⟩:∃ c,c=(s[i]).lb:=⟨_,rfl⟩
 rw [← hc]
 have hlb:=hk.num _ he
 have hcb:=hk.num _ hkid
 simp only [child,Lt.sub] at hcb
 rw [← hc] at hcb
 have hnn:=hk.nn
 have htn:=hk.tn64
 have hp:=h.p64
 simp only [Lt.lb] at hlb
 have hsl:s.length≤300000:=hk.subs _ he
 obtain ⟨k0,-,-,-,-,-,t0⟩:=h.fm.cells
 have c67:W.cell? ⟨C.pb,(s[i]).lb * 8 + 6,none⟩=some (.int .i64 (lb:Int))∧W.cell? ⟨C.pb,(s[i]).lb * 8 + 7,none⟩=some (.int .i64 (i:Int)):=(h.fm.pl _ hkid).up
 rw [← hc] at c67
 obtain ⟨c6,c7⟩:=c67
 obtain ⟨a',ix',r1,r2,r3,sa,sc,lz',⟨n0,n1,n2,n3,n4,n5,n6,n7⟩,hnd⟩:=h.fm.pl _ he
 obtain ⟨kv,hkv⟩:∃ kv,kv=Lt.kk (.mk lb k R a s mn mx lz ix nm):=⟨_,rfl⟩
 rw [← hkv] at n0
 obtain ⟨V,hV⟩:∃ V,V=W.alloc (.cells #[.int .i64 kv,.int .i64 a',.int .i64 ix',.slice r1 r2 r3,.slice sa s.length sc,.bool lz',.int .i64 up,.int .i64 (nth:Int)] 141):=⟨_,rfl⟩
 have hbV:Below W.heap.size W V:=by rw [hV];exact Joins.below_alloc1 W _
 obtain ⟨fmV,frV⟩:=h.fm.below hk hbV
 have hY:V.heap[W.heap.size]?=some (.cells #[.int .i64 kv,.int .i64 a',.int .i64 ix',.slice r1 r2 r3,.slice sa s.length sc,.bool lz',.int .i64 up,.int .i64 (nth:Int)] 141 (0,0)):=by rw [hV];exact heap_alloc_new W _
 obtain ⟨y,hy⟩:∃ y,y=W.heap.size:=⟨_,rfl⟩
 rw [← hy] at hY
 obtain ⟨y0,y1,y2,y3,y4,y5⟩:=box8 hY
 obtain ⟨v0,-,-,-,-,-,w0⟩:=fmV.cells
 have d6:=(cell_eq (frV.typ C.pb _ _ (by decide) (by decide) (by decide) h.fm.nod.choose_spec |>.trans h.fm.nod.choose_spec.symm) (c * 8 + 7)).trans c7
 have HIN:=hid (h.go (q:=p) fmV hp (frV.row h.cap) rfl h.nt h.ol)
 have HFV:=hid frV
 have HSU:=hid (frV.row hnd.su)
 have HGR:=hid hnd.gr
 have i1:(c:Int) < (C.n:Int):=by omega
 have i2:(lb:Int) < (C.n:Int):=by omega
 have i3:(c:Int)≤300000:=by omega
 have i4:(lb:Int)≤300000:=by omega
 have i5:(p:Int)≤64:=by omega
 have i6:(i:Int) < (s.length:Int):=by omega
 have i7:(s.length:Int)≤300000:=by omega
 have i8:IntKind.i64.wrap ((i:Int) + 1)=(i:Int) + 1:=by simp [IntKind.wrap,IntKind.bits,IntKind.signed];omega
 have u0:decide ((lb:Int) < 0)=false:=by simp
 have HV:=hid hV
 have HYE:=hid hy
 have HFN:=hid hF
 have HKV:=hid hkv
 have HHK:=hid hk
 have HHE:=hid he
 have HH:=hid h
 have HII:=hid hi
 clear hk he hi hF hkid hc hlb hcb hnn htn hp hsl h hnd hV hbV fmV frV hY hy hkv
 obtain ⟨sl,hsl⟩:∃ sl,sl=s.length:=⟨_,rfl⟩
 rw [← hsl] at i6 i7 n4 y4 HSU HV
 have HSL:=hid hsl
 clear hsl
 go_enter Tryz.func82,Tryz.ntmps82
 go_upto_region 7 with fail
 rw [← HV.out,← HYE.out]
 clear n0 n1 n2 n3 n4 n5 n6 n7 c6 c7 k0 t0
 rcases HFN.out.kind with rfl | rfl | rfl | rfl | rfl | rfl | rfl
 ·have:=HFN.out.leaf (by omega);have:=HII.out;omega
 ·have:=HFN.out.leaf (by omega);have:=HII.out;omega
 ·have:=HFN.out.leaf (by omega);have:=HII.out;omega
 ·obtain rfl:kv=4:=HKV.out
  by_cases hnx:i + 1 < s.length
  ·have HC:=(hN.out hnx rfl) V caps cv HIN.out
   have i9:(i:Int) + 1 < (sl:Int):=by have:=HSL.out;omega
   obtain ⟨gg,rfl,hg⟩:=sub_at (by rw [HSL.out] at HSU;exact HSU.out) hnx
   have b1:decide ((i:Int) + 1 < (sl:Int))=true:=by simp;omega
   generalize (s[i + 1]).lb=nx at HC hg
   clear hnx
   go_wp2_with (first | (go_at_call 47;(with_reducible refine HC.mono ?_);rintro e w1 hq;have HQ:=hid (hq.pre HFV.out);obtain ⟨rfl,-⟩:=hq;clear HC))
   go_end0
   exact HQ.out
  ·have HC:=(hU.out (fun _=>hnx) (by decide) (fun h=>by simp at h)) V caps cv HIN.out
   have b1:decide ((i:Int) + 1 < (sl:Int))=false:=by have:=HSL.out;simp;omega
   clear hnx
   go_wp2_with (first | (go_at_call 82;(with_reducible refine HC.mono ?_);rintro e w1 hq;have HQ:=hid (hq.pre HFV.out);obtain ⟨rfl,-⟩:=hq;clear HC))
   go_end0
   exact HQ.out
 ·obtain rfl:kv=5:=HKV.out
  have HC:=(hU.out (fun h=>absurd h (by decide)) (by decide) (fun h=>by simp at h)) V caps cv HIN.out
  go_wp2_with (first | (go_at_call 82;(with_reducible refine HC.mono ?_);rintro e w1 hq;have HQ:=hid (hq.pre HFV.out);obtain ⟨rfl,-⟩:=hq;clear HC))
  go_end0
  exact HQ.out
 ·by_cases hm:mx < 0
  ·have HC:=(hD.out rfl hm) V caps cv HIN.out
   by_cases hn:mn=0
   ·obtain rfl:kv=101:=by rw [HKV.out];simp [Lt.kk,hm,hn]
    clear hm hn
    go_wp2_with (first | (go_at_call 88;(with_reducible refine HC.mono ?_);rintro e w1 hq;have HQ:=hid (hq.pre HFV.out);obtain ⟨rfl,-⟩:=hq;clear HC))
    go_end0
    exact HQ.out
   ·obtain rfl:kv=102:=by rw [HKV.out];simp [Lt.kk,hm,hn]
    clear hm hn
    go_wp2_with (first | (go_at_call 88;(with_reducible refine HC.mono ?_);rintro e w1 hq;have HQ:=hid (hq.pre HFV.out);obtain ⟨rfl,-⟩:=hq;clear HC))
    go_end0
    exact HQ.out
  ·obtain rfl:kv=103:=by rw [HKV.out];simp [Lt.kk,hm]
   have HC:=(hU.out (fun h=>absurd h (by decide)) (by decide) (fun h=>hm h.2)) V caps cv HIN.out
   clear hm
   go_wp2_with (first | (go_at_call 82;(with_reducible refine HC.mono ?_);rintro e w1 hq;have HQ:=hid (hq.pre HFV.out);obtain ⟨rfl,-⟩:=hq;clear HC))
   go_end0
   exact HQ.out
 ·obtain rfl:kv=7:=HKV.out
  obtain ⟨g2,hc2,hd2,hp2⟩:=hG.out rfl
  obtain ⟨x1,x2⟩:=HHK.out.grp _ _ _ _ _ _ _ _ _ _ _ _ _ HHE.out rfl
  have hxe:=HGR.out rfl
  subst hxe
  obtain ⟨z,rfl⟩:=Int.eq_ofNat_of_zero_le (show 0≤ix' by omega)
  have hkk:=HHK.out.k2
  have hcl:=HH.out.capl
  have hz2:2 * z + 1 < caps.length:=by omega
  have m1:IntKind.i64.wrap (2 * (z:Int))=2 * (z:Int):=by simp [IntKind.wrap,IntKind.bits,IntKind.signed];omega
  have m2:IntKind.i64.wrap (2 * (z:Int) + 1)=2 * (z:Int) + 1:=by simp [IntKind.wrap,IntKind.bits,IntKind.signed];omega
  have HS:=set39 caps cv (2 * z + 1) (p:Int) V HIN.out.cap.src hz2 (by omega)
  rw [show ((2 * z + 1:Nat):Int)=2 * (z:Int) + 1 by omega] at HS
  have HCC:Hid (∀ w2 v',w2.ownsRow V.heap.size 3 1 v' caps.length (I64 (caps.set (2 * z + 1) (p:Int)))→Below V.heap.size V w2→Calls Tryz.prog 82 #[.pointer (some ⟨C.wb,0,none⟩),.int .i64 (lb:Int),.int .i64 (p:Int),v'] w2 (fun e w'=>WPost C g1 W e w')):=fun w2 v' ho hb=>by
   obtain ⟨fm2,fr2⟩:=HIN.out.fm.below HHK.out hb
   have hr:Rw w2 v' (caps.set (2 * z + 1) (p:Int)):=Rw.of ho (by omega)
   refine (hc2 w2 (caps.set (2 * z + 1) (p:Int)) v' (HIN.out.go (s':={ g with notes:=g.notes.set (2 * z + 1) (p:Int) }) fm2 HIN.out.p64 hr (by simp) ?_ HIN.out.ol)).mono fun e w' hq=>?_
   ·show g.notes.set (2 * z + 1) (p:Int)=(caps.set (2 * z + 1) (p:Int)).set 0 C.frm
    rw [HIN.out.nt,List.set_comm _ _ (by omega)]
   ·obtain ⟨q1,q2,q3⟩:=hq
    exact ⟨q1,by rw [← hd2,← hp2];exact q2,HFV.out.trans (fr2.trans q3)⟩
  clear hc2 hd2 hp2 x1 x2 hkk hcl hz2
  go_wp2_with (first | (go_at_call 86;(with_reducible refine HS.mono ?_);rintro e w2 ⟨v',rfl,ho,hb⟩;have HC:=HCC.out w2 v' ho hb;clear ho hb HS) | (go_at_call 82;(with_reducible refine HC.mono ?_);rintro e w1 hq;have HQ:=hid hq;obtain ⟨rfl,-⟩:=hq;clear HC))
  go_end0
  exact HQ.out
end Go.Proofs.YtacaanhnlfpbhaaGreat
