/- HELPERS: texts of ours put together. -/
import Derived.Test.YtacaanhnlfpbhaaGreatK07
import Derived.WalkLawsBesides
import Derived.Lib.LazyBuf
import Derived.Deep.Cut
import Derived.Test.YtacaanhnlfpbhaaGreatK03
import Derived.Test.YtacaanhnlfpbhaaGreatK04
import Derived.Test.YtacaanhnlfpbhaaGreatK01
import Derived.Deep.SlicePairs
import Derived.RowKit
import Derived.Test.YtacaanhnlfpbhaaGreatK06
import Derived.Laws.EntriesVeiled
import Derived.Test.YtacaanhnlfpbhaaGreatK02
import Derived.WalkKit
import Derived.Laws.BitsLemmas
import Derived.Deep.RegionHeld2
import Derived.Lib.MinMax
import Derived.BigQuiet
namespace Go.Proofs.YtacaanhnlfpbhaaGreat
open Go.RowKit
set_option linter.unusedVariables false
set_option linter.unusedSimpArgs false
def Cloned (w w':World) (e:Ending) (l:List Int):Prop:=∃ v,e=.returned v∧w'.ownsRow w.heap.size 3 1 v l.length (I64 l)∧Below w.heap.size w w'
theorem eql_nil (t e:TypeId) (a:Option Addr) (l c:Nat) (h:Tryz.prog.underlying t=some (.slice e)) (w:World):(binOp .eql t (.slice a l c) (.slice none 0 0)).run Tryz.prog w=.ok (.bool a.isNone) w:=by
 simp only [binOp]
 simp [run_equal_slice_nil w t e a l c h]
set_option maxHeartbeats 1000000 in
theorem clone71 (N:Nat) (ov:Value) (l:List Int) (w:World) (ho:Hid (w.ownsRow N 3 1 ov l.length (I64 l))) (hl:l.length≤1048576) :
  Calls Tryz.prog 121 #[ov] w fun e w'=>Cloned w w' e l:=by
 rcases Joins.ownsRow_forms ho.out with ⟨rfl,h0⟩ | ⟨b,cap,rfl⟩
 ·have hl0:l=[]:=List.eq_nil_of_length_eq_zero h0
  subst hl0
  have hq:=eql_nil 26 3 none 0 0 Tryz.underlying26
  simp only [Option.isNone_none] at hq
  go_enter Tryz.func121,Tryz.ntmps121
  go_wp2
  go_ret
  exact ⟨_,rfl,World.ownsRow_nil _ _ _ _,Below.refl _ _⟩
 ·have hblt:=(ho.out.lt b rfl).2
  have hcell:∀ j u,(I64 l)[j]?=some u→(w.alloc (.cells #[] 3)).cell? ((⟨b,0,none⟩:Addr).add j)=some u:=((ho.out.alloc _).cells (g:=b) rfl)
  have HC:Hid (∀ j u,(I64 l)[j]?=some u→(w.alloc (.cells #[] 3)).cell? ((⟨b,0,none⟩:Addr).add j)=some u):=hcell
  have HO0:Hid ((w.alloc (.cells #[] 3)).ownsRow w.heap.size 3 1 (.slice (some ⟨w.heap.size,0,none⟩) 0 0) 0 []):=by
   have:=World.ownsRow_lit (base:=w.heap.size) (e:=3) (size:=1) w #[] 0 (Nat.le_refl _) (by unfold maxLen;omega) rfl
   have t:(w.alloc (.cells #[] 3)).ownsRow w.heap.size 3 1 (.slice (some ⟨w.heap.size,0,none⟩) 0 0) 0 []:=by simpa using this
   exact t
  obtain ⟨i0,hi,hz0,hz1,hz2⟩:=info_parts info3
  have hq:=eql_nil 26 3 (some ⟨b,0,none⟩) l.length cap Tryz.underlying26
  simp only [Option.isNone_some] at hq
  clear hcell ho
  go_enter Tryz.func121,Tryz.ntmps121
  go_wp2_with (at_builtin;refine wpList_append_own _ rfl (.tmp 5) (.tmp 6) 26 rfl w.heap.size 3 i0 (.int .i64 0) 1 8 Tryz.underlying26 hi hz0 hz1 hz2 rfl (by decide) _ 0 [] rfl HO0.out ⟨b,0,none⟩ l.length cap (I64 l) rfl (by simp) HC.out (one_cell_ints l) (by unfold maxLen;omega) (by omega) (by simp) ?_)
  intro v' w1 ho1 hg1 _
  go_wp2
  go_ret
  refine ⟨_,rfl,by simpa using ho1,?_⟩
  exact ((Below.refl _ _).alloc (Nat.le_refl _) _).grown hg1 (by simp) (fun k hk=>by simp [Value.ownBlock] at hk;omega)
theorem info53Z:(Tryz.prog.info? 57).map (fun i=>(i.zero,i.size,i.bytes))=some (some (.agg #[.int .i64 0,.slice none 0 0]),2,32):=by kernel_rfl
theorem PR.typ {N:Nat} {w:World} {cs:List Value} {l:List (Int × List Int)} {F:List Nat} (h:PR N w cs l F):∀ k ∈ F,∃ cur,w.heap[k]?=some (.cells cur 3 (0,0)):=by
 induction h with
 | nil=>intro k hk;cases hk
 | cons h hl ih =>
  intro k hk
  rcases List.mem_append.1 hk with hk | hk
  ·rcases h.2 with ⟨rfl,_⟩ | ⟨b2,cap,cur,rfl,_,hgg,_⟩
   ·simp [Value.ownBlock] at hk
   ·simp [Value.ownBlock] at hk
    subst hk
    exact ⟨cur,hgg⟩
  ·exact ih k hk
theorem row_cells {w:World} {base e n b cap:Nat} {xs:List Value} (h:w.ownsRow base e 1 (.slice (some ⟨b,0,none⟩) n cap) n xs):∃ cur,w.heap[b]?=some (.cells cur e (0,0)):=by
 rcases h.2 with ⟨h,_⟩ | ⟨g,cap',cur,he,hb,hgg,h1,h2,h3,h4⟩
 ·cases h
 ·simp only [Value.slice.injEq,Option.some.injEq,Addr.mk.injEq] at he
  obtain ⟨⟨rfl,_⟩,_,rfl⟩:=he
  exact ⟨cur,hgg⟩
set_option maxRecDepth 100000 in
set_option maxHeartbeats 2000000 in
theorem through55 (N g:Nat) (C:Cx) (s:Sg) (B:List Nat) (w:World) (hW:Hid (WS N w g C s B)) (p:Nat) (hN:N≤w.heap.size) (hpl:s.parses.length < 1000000) :
  Calls Tryz.prog 79 #[pt g,.int .i64 (p:Int)] w fun e w2=>e=.returned (.tuple #[])∧∃ B',WS N w2 g C { s with parses:=s.parses ++ [((p:Int),s.notes.set 1 (p:Int))] } B'∧Chg w w2 B B':=by
 obtain ⟨pv,cs,F,hg,hpv,hPR,hnF,rfl⟩:=hW.out.ex
 have two:=hW.out.two
 have few:=hW.out.few
 have len:=hW.out.len
 have g5:w.cell? ⟨g,5,none⟩=some (.slice (some ⟨C.nb,0,none⟩) C.K C.ncap):=Joins.cell_of_block hg 5
 have hcl:=clone71 N C.nv s.notes w (by exact hW.out.notes) (by omega)
 have hgl:=(Array.getElem?_eq_some_iff.1 hg).1
 have HG:=hid hg
 have HPV:=hid hpv
 have HPR:=hid hPR
 clear hg hpv hPR
 rw [show C.nv=.slice (some ⟨C.nb,0,none⟩) C.K C.ncap from rfl] at hcl
 obtain ⟨i0,hi0,hz0,hz1,hz2⟩:=info_parts info53Z
 have HCL:=hid hcl
 clear hcl
 go_enter Tryz.func79,Tryz.ntmps79
 go_wp2_with fail
 refine HCL.out.mono ?_
 rintro e w1 ⟨cv,rfl,hc1,hb1⟩
 obtain ⟨cb,ccap,rfl⟩:=Joins.ownsRow_form hc1 (by omega)
 rw [len] at hc1 ⊢
 have hcb:=(hc1.lt cb rfl)
 have hcc:=row_cap2 hc1
 have k1:=hc1.cellAt 1 (by omega)
 obtain ⟨old,hold⟩:∃ old,(I64 s.notes)[1]?=some (.int .i64 old):=⟨s.notes.getD 1 0,by simp [I64,List.getD,List.getElem?_eq_getElem (show 1 < s.notes.length by omega)]⟩
 rw [hold] at k1
 obtain ⟨cur,hcur⟩:=row_cells hc1
 have u1:=Joins.unfrozen_of_block hcur 1
 have i1:(1:Int) < (C.K:Int):=by omega
 have HC1:=hid hc1
 have HB1:=hid hb1
 have HCB:=hid hcb
 clear hc1 hb1 hold hcur hcb
 go_upto_region 2 with fail
 obtain ⟨X,hX⟩:∃ X,X=w1.setCell ⟨cb,1,none⟩ (.int .i64 (p:Int)):=⟨_,rfl⟩
 rw [← hX]
 have HX:=hid hX
 have bX:∀ k,k < w.heap.size→X.heap[k]?=w.heap[k]?:=fun k hk=>by rw [hX];exact (Below.heap_setCell _ _ _ _ (by have:=HCB.out.1;show k≠cb;omega)).trans (HB1.out.block k hk)
 have sX:w.heap.size≤X.heap.size:=by rw [hX];have:=HB1.out.size;simpa [World.setCell] using this
 have hgX:=(bX g hgl).trans HG.out
 have x6:X.cell? ⟨g,6,none⟩=some pv:=Joins.cell_of_block hgX 6
 have hpX:X.ownsRow N 57 2 pv s.parses.length cs:=row_kept HPV.out fun b hb=>bX b (HPV.out.lt b hb).2
 have hcX:X.ownsRow w.heap.size 3 1 (.slice (some ⟨cb,0,none⟩) C.K ccap) C.K (I64 (s.notes.set 1 (p:Int))):=by
  rw [hX,show I64 (s.notes.set 1 (p:Int))=(I64 s.notes).set 1 (.int .i64 (p:Int)) by simp [I64,List.map_set]]
  exact row_set HC1.out (by omega)
 have gX:g < X.heap.size:=by omega
 have HPX:=hid hpX
 have HCX:=hid hcX
 have HBX:=hid bX
 have HGX:=hid hgX
 clear hX bX hgX hpX hcX k1 u1
 go_wp2_with (at_builtin;refine wpList_append_moveN rfl (.tmp 17) (.tmp 21) 33 rfl N 57 i0 (.agg #[.int .i64 0,.slice none 0 0]) 2 32 Tryz.underlying33 hi0 hz0 hz1 hz2 rfl (by decide) pv s.parses.length cs rfl (HPX.out.alloc _) ⟨X.heap.size,0,none⟩ 1 1 [.int .i64 (p:Int),.slice (some ⟨cb,0,none⟩) C.K ccap] rfl rfl (by decide) ?_ ?_ (by unfold maxLen;omega) (by omega) (by simp;omega) ?_)
 ·intro j u hj
  match j,hj with
  | 0,hj=>simp at hj;subst hj;simp [Addr.add]
  | 1,hj=>simp at hj;subst hj;simp [Addr.add]
 ·intro u hu
  simp at hu
  rcases hu with rfl | rfl <;> rfl
 intro v' w3 ho3 hm3
 have hg3:w3.heap[g]?=some (.cells #[C.tv,C.hv,C.wh,.int .i64 C.n,.map (some C.mb),C.nv,pv] 135 (0,0)):=by
  have e:(X.alloc (.cells #[.int .i64 (p:Int),.slice (some ⟨cb,0,none⟩) C.K ccap] 57)).heap[g]?=X.heap[g]?:=heap_alloc_old X _ gX
  rcases hm3.out with ⟨_,h⟩ | ⟨_,h⟩
  ·exact (h.block g (by simp;omega) (fun h=>own_ne HPV.out HG.out (by decide) h.symm)).trans (e.trans HGX.out)
  ·exact (h.block g (by simp;omega) (by simp)).trans (e.trans HGX.out)
 have y6:w3.cell? ⟨g,6,none⟩=some pv:=Joins.cell_of_block hg3 6
 have f6:=Joins.unfrozen_of_block hg3 6
 have HG3:=hid hg3
 clear hg3
 obtain ⟨vb,vcap,rfl⟩:=Joins.ownsRow_form ho3.out (by omega)
 go_wp2
 go_end0
 obtain ⟨Y,hY⟩:∃ Y,Y=w3.setCell ⟨g,6,none⟩ (.slice (some ⟨vb,0,none⟩) (s.parses.length + 1) vcap):=⟨_,rfl⟩
 rw [← hY]
 have e3:∀ k,k < X.heap.size→pv.ownBlock≠some k→w3.heap[k]?=X.heap[k]?:=fun k hk hne=>by
  have e:(X.alloc (.cells #[.int .i64 (p:Int),.slice (some ⟨cb,0,none⟩) C.K ccap] 57)).heap[k]?=X.heap[k]?:=heap_alloc_old X _ hk
  rcases hm3.out with ⟨_,h⟩ | ⟨_,h⟩
  ·exact (h.block k (by simp;omega) (fun h=>hne h.symm)).trans e
  ·exact (h.block k (by simp;omega) (by simp)).trans e
 have eY:∀ k,k < w.heap.size→k≠g→pv.ownBlock≠some k→Y.heap[k]?=w.heap[k]?:=fun k hk h1 h2=>by
  rw [hY]
  exact (Below.heap_setCell _ _ _ _ h1).trans ((e3 k (by omega) h2).trans (HBX.out k hk))
 have hs3:X.heap.size≤w3.heap.size:=by
  rcases hm3.out with ⟨_,h⟩ | ⟨_,h⟩ <;> (have:=h.size;simp at this;omega)
 have hcb1:=HCB.out.1
 have hnb:C.nb < w.heap.size:=by obtain ⟨cur,h⟩:=hW.out.nblk;exact (Array.getElem?_eq_some_iff.1 h).1
 have hcY:Y.ownsRow N 3 1 (.slice (some ⟨cb,0,none⟩) C.K ccap) C.K (I64 (s.notes.set 1 (p:Int))):=by
  refine row_kept (Joins.ownsRow_le HCX.out hN) fun b hb=>?_
  simp [Value.ownBlock] at hb
  subst hb
  rw [hY]
  refine (Below.heap_setCell _ _ _ _ (by show cb≠g;omega)).trans (e3 cb ((HCX.out.lt cb rfl).2) (fun e=>?_))
  have:=(HPV.out.lt cb e).2
  omega
 have hty:∀ k ∈ F,k≠g∧pv.ownBlock≠some k:=fun k hk=>by
  obtain ⟨cur,hc⟩:=HPR.out.typ k hk
  refine ⟨fun e=>?_,fun e=>own_ne HPV.out hc (by decide) e⟩
  subst e
  have hgg:=HG.out
  rw [hc] at hgg
  simp at hgg
 have hgw:=HG.out
 obtain ⟨curn,hcn⟩:=hW.out.nblk
 obtain ⟨es,cl,hm0,hmr⟩:=hW.out.map
 refine ⟨rfl,g :: C.mb :: C.nb :: ((Value.slice (some ⟨vb,0,none⟩) (s.parses.length + 1) vcap).ownBlock.toList ++ (F ++ [cb])),?_,?_⟩
 ·refine ⟨⟨_,_,_,?_,?_,(HPR.out.kept fun k hk=>eY k (HPR.out.low k hk).2 (hty k hk).1 (hty k hk).2).snoc (e:=(p:Int)) (cp:=s.notes.set 1 (p:Int)) (cv:=.slice (some ⟨cb,0,none⟩) C.K ccap) (by rw [List.length_set,len];exact hcY),?_,rfl⟩,?_,?_,len,two,few,hW.out.low⟩
  ·rw [hY]
   exact Joins.block_setCell (i:=6) HG3.out _
  ·rw [hY,List.length_append]
   exact own_setCell ho3.out (own_ne ho3.out HG3.out (by decide))
  ·refine ⟨?_,?_⟩
   ·simp [Value.ownBlock]
    exact ⟨hnF.1,by omega⟩
   ·have hcb1:=HCB.out.1
    simp only [Value.ownBlock,Option.toList]
    rw [List.nodup_append]
    refine ⟨hnF.2,by simp,fun a ha b hb e=>?_⟩
    simp at hb
    have:=(HPR.out.low a ha).2
    omega
  ·refine ⟨es,cl,(eY _ (Array.getElem?_eq_some_iff.1 hm0).1 (fun e=>?_) (fun e=>?_)).trans hm0,hmr⟩
   ·rw [e,hgw] at hm0;cases hm0
   ·rcases HPV.out.2 with ⟨rfl,_⟩ | ⟨b2,cap,cur,rfl,_,hgg,_⟩
    ·simp [Value.ownBlock] at e
    ·simp [Value.ownBlock] at e
     rw [e,hm0] at hgg
     cases hgg
  ·refine row_kept hW.out.notes fun b hb=>?_
   simp [Cx.nv,Value.ownBlock] at hb
   subst hb
   refine eY _ hnb (fun e=>?_) (fun e=>own_ne HPV.out hcn (by decide) e)
   rw [e,hgw] at hcn
   simp at hcn
 ·refine ⟨?_,?_,?_,?_,fun k hk hn=>?_,fun k hk=>?_⟩
  ·rw [hY]
   rcases hm3.out with ⟨_,h⟩ | ⟨_,h⟩ <;> exact h.os.trans (by rw [HX.out];exact HB1.out.os)
  ·rw [hY]
   rcases hm3.out with ⟨_,h⟩ | ⟨_,h⟩ <;> exact h.tape.trans (by rw [HX.out];exact HB1.out.tape)
  ·rw [hY]
   rcases hm3.out with ⟨_,h⟩ | ⟨_,h⟩ <;> exact h.output.trans (by rw [HX.out];exact HB1.out.output)
  ·rw [hY];simp [World.setCell];omega
  ·simp only [List.mem_cons,List.mem_append,Option.mem_toList,not_or] at hn
   exact eY k hk hn.1 (fun e=>hn.2.2.2.1 e)
  ·simp only [List.mem_cons,List.mem_append,Option.mem_toList,List.not_mem_nil,or_false] at hk ⊢
   rcases hk with h | h | h | h | h | h
   ·exact .inl (.inl h)
   ·exact .inl (.inr (.inl h))
   ·exact .inl (.inr (.inr (.inl h)))
   ·rcases hm3.out with ⟨h0,_⟩ | ⟨h0,_⟩
    ·rw [h0] at h
     exact .inl (.inr (.inr (.inr (.inl h))))
    ·rw [h0] at h
     right
     simp at h
     omega
   ·exact .inl (.inr (.inr (.inr (.inr h))))
   ·right;omega
def TX (w:World) (v:Value) (tx:List Int) (Ft:List Nat):Prop:=∃ ad cap,v=.slice ad tx.length cap∧tx.length≤cap ∧
 (tx.length=0∨∃ b off,ad=some ⟨b,off,none⟩∧b ∈ Ft∧b < w.heap.size∧∀ k,k < tx.length→w.cell? ⟨b,off + k,none⟩=some (.int .i64 (tx.getD k 0)))
theorem cell_heap {w w':World} {b:Nat} (h:w'.heap[b]?=w.heap[b]?) (o:Nat):w'.cell? ⟨b,o,none⟩=w.cell? ⟨b,o,none⟩:=by
 unfold World.cell?
 simp [h]
theorem TX.kept {w w':World} {v:Value} {tx:List Int} {Ft:List Nat} (h:TX w v tx Ft) (hk:∀ k ∈ Ft,k < w.heap.size→w'.heap[k]?=w.heap[k]?) (hs:w.heap.size≤w'.heap.size):TX w' v tx Ft:=by
 obtain ⟨ad,cap,h1,h2,h3 | ⟨b,off,rfl,h4,h5,h6⟩⟩:=h
 ·exact ⟨ad,cap,h1,h2,.inl h3⟩
 ·exact ⟨_,cap,h1,h2,.inr ⟨b,off,rfl,h4,by omega,fun k hk2=>(cell_heap (hk b h4 h5) _).trans (h6 k hk2)⟩⟩
set_option maxRecDepth 100000 in
set_option maxHeartbeats 2000000 in
theorem over89 (g:Nat) (tv hv wh m nv pv:Value) (n:Int) (w:World) (tx:List Int) (Ft:List Nat) (hg:w.heap[g]?=some (.cells #[tv,hv,wh,.int .i64 n,m,nv,pv] 135 (0,0))) (hT:Hid (TX w tv tx Ft)) (b3 b4 b5 p:Nat) (h3:Bx w b3 71 (pt g))
  (hp:tx.length≤p):Calls Tryz.prog 182 #[.int .i64 (p:Int),pt b3,pt b4,pt b5] w fun e w'=>e=.returned (.tuple #[])∧Below w.heap.size w w':=by
 obtain ⟨ad,cap,rfl,hcap,_⟩:=hT.out
 have c3:=bx0 h3
 have g0:w.cell? ⟨g,0,none⟩=some (.slice ad tx.length cap):=Joins.cell_of_block hg 0
 obtain ⟨l,hl⟩:∃ l,l=tx.length:=⟨_,rfl⟩
 rw [← hl] at g0 hp
 have b1:decide ((p:Int) < (l:Int))=false:=by simp;omega
 have b2:decide (p < l)=false:=by simp;omega
 clear hg h3 hT hl
 go_enter Tryz.func182,Tryz.ntmps182
 go_wp2_with fail
 go_region
 all_goals
  go_wp2
  go_end0
  exact ⟨rfl,(Below.refl _ _).drew⟩
set_option maxRecDepth 100000 in
set_option maxHeartbeats 2000000 in
theorem other89 (g:Nat) (GR:List Nat) (tv hv wh m nv pv rv:Value) (n:Int) (w:World) (tx:List Int) (Ft:List Nat) (R:Rng) (hg:w.heap[g]?=some (.cells #[tv,hv,wh,.int .i64 n,m,nv,pv] 135 (0,0))) (hT:Hid (TX w tv tx Ft)) (b3 b4 b5 p:Nat) (h3:Bx w b3 71 (pt g))
  (h4:Bx w b4 22 rv) (hr:RowIn w rv R GR) (hRl:R.length≤1000000) (hp:p < tx.length) (hh:(rightB R && hasB R (tx.getD p 0))=false) :
  Calls Tryz.prog 182 #[.int .i64 (p:Int),pt b3,pt b4,pt b5] w fun e w'=>e=.returned (.tuple #[])∧Below w.heap.size w w':=by
 obtain ⟨ad,cap,rfl,hcap,h0 | ⟨tb,off,rfl,_,htl,hcell⟩⟩:=hT.out
 ·omega
 obtain ⟨s1,s3,rfl⟩:=hr.form
 have c3:=bx0 h3
 have c4:=bx0 h4
 have g0:w.cell? ⟨g,0,none⟩=some (.slice (some ⟨tb,off,none⟩) tx.length cap):=Joins.cell_of_block hg 0
 have t0:=hcell p hp
 obtain ⟨r,hrr⟩:∃ r,r=tx.getD p 0:=⟨_,rfl⟩
 rw [← hrr] at t0 hh
 obtain ⟨l,hl⟩:∃ l,l=tx.length:=⟨_,rfl⟩
 rw [← hl] at g0 hp hcap
 have b1:decide ((p:Int) < (l:Int))=true:=by simp;omega
 have b2:decide (p < l)=true:=by simp;omega
 have b3':(p:Int) < (l:Int):=by omega
 have H0:Calls Tryz.prog 183 #[.slice s1 R.length s3,.int .i64 r] w.drew fun e w'=>e=.returned (.bool false)∧Below w.heap.size w w':=
  Calls.mono (has30 R s1 R.length s3 r w.drew (by exact rfl) (by omega) (by exact (hr.kept (w':=w.drew) (fun _ _=>rfl)).at (Nat.le_refl _))) fun e w' h=>⟨by rw [h.1,hh],⟨h.2.os,h.2.tape,h.2.output,h.2.size,h.2.block⟩⟩
 clear hg h3 h4 hT hl hr hrr hcell hh
 go_enter Tryz.func182,Tryz.ntmps182
 go_wp2_with fail
 go_region_with (go_at_call 183;(with_reducible refine H0.mono ?_);rintro e w2 ⟨rfl,hb2⟩)
 all_goals
  go_wp2
  go_end0
  exact ⟨rfl,hb2⟩
set_option maxRecDepth 100000 in
set_option maxHeartbeats 2000000 in
theorem rune89 (g:Nat) (GR:List Nat) (tv hv wh m nv pv rv:Value) (n:Int) (w:World) (tx:List Int) (Ft:List Nat) (R:Rng) (hg:w.heap[g]?=some (.cells #[tv,hv,wh,.int .i64 n,m,nv,pv] 135 (0,0))) (hT:Hid (TX w tv tx Ft)) (b3 b4 b5 p:Nat) (h3:Bx w b3 71 (pt g))
  (h4:Bx w b4 22 rv) (hr:RowIn w rv R GR) (hRl:R.length≤1000000) (hp:p < tx.length) (hh:(rightB R && hasB R (tx.getD p 0))=true)
  (v:Value) (h5:Bx w b5 133 v) (hpl:p < 1000000) (P:World→Prop) (hQ:∀ w',Below w.heap.size w w'→CallsV v (p + 1) w' fun e w2=>e=.returned (.tuple #[])∧P w2) :
  Calls Tryz.prog 182 #[.int .i64 (p:Int),pt b3,pt b4,pt b5] w fun e w'=>e=.returned (.tuple #[])∧P w':=by
 obtain ⟨ad,cap,rfl,hcap,h0 | ⟨tb,off,rfl,_,htl,hcell⟩⟩:=hT.out
 ·omega
 obtain ⟨s1,s3,rfl⟩:=hr.form
 have c3:=bx0 h3
 have c4:=bx0 h4
 have g0:w.cell? ⟨g,0,none⟩=some (.slice (some ⟨tb,off,none⟩) tx.length cap):=Joins.cell_of_block hg 0
 have t0:=hcell p hp
 obtain ⟨r,hrr⟩:∃ r,r=tx.getD p 0:=⟨_,rfl⟩
 rw [← hrr] at t0 hh
 obtain ⟨l,hl⟩:∃ l,l=tx.length:=⟨_,rfl⟩
 rw [← hl] at g0 hp hcap
 have b1:decide ((p:Int) < (l:Int))=true:=by simp;omega
 have b2:decide (p < l)=true:=by simp;omega
 have b3':(p:Int) < (l:Int):=by omega
 have H0:Calls Tryz.prog 183 #[.slice s1 R.length s3,.int .i64 r] w.drew fun e w'=>e=.returned (.bool true)∧Below w.heap.size w w':=
  Calls.mono (has30 R s1 R.length s3 r w.drew (by exact rfl) (by omega) (by exact (hr.kept (w':=w.drew) (fun _ _=>rfl)).at (Nat.le_refl _))) fun e w' h=>⟨by rw [h.1,hh],⟨h.2.os,h.2.tape,h.2.output,h.2.size,h.2.block⟩⟩
 have H5:=hid h5
 have HQ:=hid hQ
 clear hg h3 h4 hT hl hr hrr hcell hh h5 hQ
 go_enter Tryz.func182,Tryz.ntmps182
 go_wp2_with fail
 go_region_with (go_at_call 183;(with_reducible refine H0.mono ?_);rintro e w2 ⟨rfl,hb2⟩)
 all_goals
  have x5:w2.cell? ⟨b5,0,none⟩=some v:=bx0 (t:=133) ((hb2.block b5 (bx_lt H5.out)).trans H5.out)
  obtain ⟨f,fi,ca,rfl,hcf,hC⟩:=HQ.out w2 hb2
  have ad1:IntKind.i64.wrap ((p:Int) + 1)=(p:Int) + 1:=by simp [IntKind.wrap,IntKind.bits,IntKind.signed];omega
  rw [show ((p + 1:Nat):Int)=(p:Int) + 1 by omega] at hC
  go_wp2_with ((with_reducible refine hC.mono ?_);rintro e w3 ⟨rfl,hP⟩)
  go_end0
  exact ⟨rfl,hP⟩
def hols (tx:List Int):List Int:=(List.range (tx.length + 1)).map fun (p:Nat)=>Look.atN tx (p:Int)
theorem hols_len (tx:List Int):(hols tx).length=tx.length + 1:=by simp [hols]
theorem hols_at (tx:List Int) (p:Nat) (hp:p≤tx.length):(hols tx).getD p 0=Look.atN tx (p:Int):=by
 have h:p < tx.length + 1:=by omega
 simp [hols,List.getD_eq_getElem?_getD,List.getElem?_range h]
set_option maxRecDepth 100000 in
set_option maxHeartbeats 2000000 in
theorem fails91 (g:Nat) (tv hv wh m nv pv:Value) (n:Int) (w:World) (tx:List Int) (Ft:List Nat) (hg:w.heap[g]?=some (.cells #[tv,hv,wh,.int .i64 n,m,nv,pv] 135 (0,0))) (hT:Hid (TX w hv (hols tx) Ft)) (b4 b3 b5 p:Nat) (a:Int) (h4:Bx w b4 3 (.int .i64 a)) (h3:Bx w b3 71 (pt g))
  (hp:p≤tx.length) (hh:heldB tx a p=false):Calls Tryz.prog 184 #[.int .i64 (p:Int),pt b4,pt b3,pt b5] w fun e w'=>e=.returned (.tuple #[])∧Below w.heap.size w w':=by
 obtain ⟨ad,cap,rfl,hcap,h0 | ⟨tb,off,rfl,_,htl,hcell⟩⟩:=hT.out
 ·rw [hols_len] at h0;omega
 have c3:=bx0 h3
 have c4:=bx0 h4
 rw [hols_len] at hcap
 have g1:w.cell? ⟨g,1,none⟩=some (.slice (some ⟨tb,off,none⟩) (tx.length + 1) cap):=by rw [← hols_len];exact Joins.cell_of_block hg 1
 have t0:=hcell p (by rw [hols_len];omega)
 rw [hols_at tx p hp] at t0
 unfold heldB at hh
 obtain ⟨r,hrr⟩:∃ r,r=Look.atN tx (p:Int):=⟨_,rfl⟩
 rw [← hrr] at t0 hh
 obtain ⟨l,hl⟩:∃ l,l=tx.length + 1:=⟨_,rfl⟩
 rw [← hl] at g1 hcap
 have b1:decide ((p:Int) < (l:Int))=true:=by simp;omega
 have b2:decide (p < l)=true:=by simp;omega
 have b3':(p:Int) < (l:Int):=by omega
 have H0:Calls Tryz.prog 167 #[.int .i64 a,.int .i64 r] w.drew fun e w'=>e=.returned (.bool false)∧Below w.heap.size w w':=
  Calls.mono (Look.holds13 a r w.drew) fun e w' h=>⟨by rw [h.1,hh],by rw [h.2];exact (Below.refl _ _).drew⟩
 clear hg h3 h4 hT hl hrr hcell hh
 go_enter Tryz.func184,Tryz.ntmps184
 go_wp2_with fail
 go_region_with (go_at_call 167;(with_reducible refine H0.mono ?_);rintro e w2 ⟨rfl,hb2⟩)
 all_goals
  go_wp2
  go_end0
  exact ⟨rfl,hb2⟩
set_option maxRecDepth 100000 in
set_option maxHeartbeats 2000000 in
theorem holds91 (g:Nat) (tv hv wh m nv pv:Value) (n:Int) (w:World) (tx:List Int) (Ft:List Nat) (hg:w.heap[g]?=some (.cells #[tv,hv,wh,.int .i64 n,m,nv,pv] 135 (0,0))) (hT:Hid (TX w hv (hols tx) Ft)) (b4 b3 b5 p:Nat) (a:Int) (h4:Bx w b4 3 (.int .i64 a)) (h3:Bx w b3 71 (pt g))
  (hp:p≤tx.length) (hh:heldB tx a p=true) (v:Value) (h5:Bx w b5 133 v) (P:World→Prop) (hQ:∀ w',Below w.heap.size w w'→CallsV v p w' fun e w2=>e=.returned (.tuple #[])∧P w2) :
  Calls Tryz.prog 184 #[.int .i64 (p:Int),pt b4,pt b3,pt b5] w fun e w'=>e=.returned (.tuple #[])∧P w':=by
 obtain ⟨ad,cap,rfl,hcap,h0 | ⟨tb,off,rfl,_,htl,hcell⟩⟩:=hT.out
 ·rw [hols_len] at h0;omega
 have c3:=bx0 h3
 have c4:=bx0 h4
 rw [hols_len] at hcap
 have g1:w.cell? ⟨g,1,none⟩=some (.slice (some ⟨tb,off,none⟩) (tx.length + 1) cap):=by rw [← hols_len];exact Joins.cell_of_block hg 1
 have t0:=hcell p (by rw [hols_len];omega)
 rw [hols_at tx p hp] at t0
 unfold heldB at hh
 obtain ⟨r,hrr⟩:∃ r,r=Look.atN tx (p:Int):=⟨_,rfl⟩
 rw [← hrr] at t0 hh
 obtain ⟨l,hl⟩:∃ l,l=tx.length + 1:=⟨_,rfl⟩
 rw [← hl] at g1 hcap
 have b1:decide ((p:Int) < (l:Int))=true:=by simp;omega
 have b2:decide (p < l)=true:=by simp;omega
 have b3':(p:Int) < (l:Int):=by omega
 have H0:Calls Tryz.prog 167 #[.int .i64 a,.int .i64 r] w.drew fun e w'=>e=.returned (.bool true)∧Below w.heap.size w w':=
  Calls.mono (Look.holds13 a r w.drew) fun e w' h=>⟨by rw [h.1,hh],by rw [h.2];exact (Below.refl _ _).drew⟩
 have H5:=hid h5
 have HQ:=hid hQ
 clear hg h3 h4 hT hl hrr hcell hh h5 hQ
 go_enter Tryz.func184,Tryz.ntmps184
 go_wp2_with fail
 go_region_with (go_at_call 167;(with_reducible refine H0.mono ?_);rintro e w2 ⟨rfl,hb2⟩)
 all_goals
  have x5:w2.cell? ⟨b5,0,none⟩=some v:=bx0 (t:=133) ((hb2.block b5 (bx_lt H5.out)).trans H5.out)
  obtain ⟨f,fi,ca,rfl,hcf,hC⟩:=HQ.out w2 hb2
  go_wp2_with ((with_reducible refine hC.mono ?_);rintro e w3 ⟨rfl,hP⟩)
  go_end0
  exact ⟨rfl,hP⟩
def Env (g K:Nat) (L:Nat→Prop) (w:World) (E:Nat→Way) (FE:List Nat):Prop:=∀ b,L b→b ∈ FE∧∃ v F,Bx w b 133 v∧Rep g K L w v (E b) F∧∀ k ∈ F,k ∈ FE
theorem Env.kept {g K:Nat} {L:Nat→Prop} {w w':World} {E:Nat→Way} {FE:List Nat} (h:Env g K L w E FE) (hk:∀ k ∈ FE,k < w.heap.size→w'.heap[k]?=w.heap[k]?):Env g K L w' E FE:=by
 intro b hb
 obtain ⟨h1,v,F,h2,h3,h4⟩:=h b hb
 exact ⟨h1,v,F,(hk b h1 (bx_lt h2)).trans h2,h3.kept fun k hkk=>hk k (h4 k hkk) (h3.low k hkk),h4⟩
def Away (F B:List Nat):Prop:=∀ k ∈ F,k ∉ B
theorem Away.next {w w':World} {F B B':List Nat} (h:Away F B) (hc:Chg w w' B B') (hl:∀ k ∈ F,k < w.heap.size):Away F B':=hc.away hl h
mutual
def Way.few (h:Bool):Way→Prop
 | .through=>True
 | .once _ d=>d.few h
 | .noted _ d=>d.few h
 | .runeOf L d=>L.length≤1000000∧d.few h
 | .ifHolds _ d=>h=true∧d.few h
 | .inOrder l=>Ways.few h l
 | .again _=>True
def Ways.few (h:Bool):List Way→Prop
 | []=>True
 | d :: l=>d.few h∧Ways.few h l
end
theorem Ways.few_get {o:Bool}:∀ {l:List Way},Ways.few o l→∀ (i:Nat) (hi:i < l.length),(l[i]'hi).few o:=by
 intro l
 induction l with
 | nil=>intro _ i hi;simp at hi
 | cons d l ih =>
  intro h i hi
  simp only [Ways.few] at h
  cases i with
  | zero=>exact h.1
  | succ i=>exact ih h.2 i (by simpa using hi)
theorem en55:∀ (args:Array Value) (w:World),(callFunc 79 args).run Tryz.prog w=.ok (.enter 79 args) w:=enter_of Tryz.func79 (by kernel_rfl) rfl
theorem en70:∀ (args:Array Value) (w:World),(callFunc 120 args).run Tryz.prog w=.ok (.enter 120 args) w:=enter_of Tryz.func120 (by kernel_rfl) rfl
theorem en95Z:∀ (args:Array Value) (w:World),(callFunc 187 args).run Tryz.prog w=.ok (.enter 187 args) w:=enter_of Tryz.func187 (by kernel_rfl) rfl
theorem en89:∀ (args:Array Value) (w:World),(callFunc 182 args).run Tryz.prog w=.ok (.enter 182 args) w:=enter_of Tryz.func182 (by kernel_rfl) rfl
theorem en91:∀ (args:Array Value) (w:World),(callFunc 184 args).run Tryz.prog w=.ok (.enter 184 args) w:=enter_of Tryz.func184 (by kernel_rfl) rfl
theorem en109:∀ (args:Array Value) (w:World),(callFunc 229 args).run Tryz.prog w=.ok (.enter 229 args) w:=enter_of Tryz.func229 (by kernel_rfl) rfl
theorem en110:∀ (args:Array Value) (w:World),(callFunc 230 args).run Tryz.prog w=.ok (.enter 230 args) w:=enter_of Tryz.func230 (by kernel_rfl) rfl
theorem Ex.more {tx:List Int} {E:Nat→Way} {W:Way} {p:Nat} {s s':Sg} (h:Ex tx E W p s s'):s.parses.length≤s'.parses.length:=by
 induction h with
 | through p s=>simp
 | skip h=>exact Nat.le_refl _
 | once h hd ih=>exact ih
 | noted hd ih=>exact ih
 | over h=>exact Nat.le_refl _
 | other h hr=>exact Nat.le_refl _
 | rune h hr hd ih=>exact ih
 | fails h=>exact Nat.le_refl _
 | holds h hd ih=>exact ih
 | @inOrder l p ss h ih =>
  have:∀ i,i≤l.length→(ss 0).parses.length≤(ss i).parses.length:=by
   intro i
   induction i with
   | zero=>intro _;exact Nat.le_refl _
   | succ i ihi=>intro hi;exact Nat.le_trans (ihi (by omega)) (ih i (by omega))
  exact this _ (Nat.le_refl _)
 | again h ih=>exact ih
theorem Ex.more_at {tx:List Int} {E:Nat→Way} {l:List Way} {p:Nat} {ss:Nat→Sg} (h:∀ i (hi:i < l.length),Ex tx E (l[i]'hi) p (ss i) (ss (i + 1))):∀ d i,i + d=l.length→(ss i).parses.length≤(ss l.length).parses.length:=by
 intro d
 induction d with
 | zero=>intro i hi;rw [show i=l.length by omega];exact Nat.le_refl _
 | succ d ih=>intro i hi;exact Nat.le_trans (h i (by omega)).more (ih (i + 1) (by omega))
theorem WS.below {N:Nat} {w w':World} {g:Nat} {C:Cx} {s:Sg} {B:List Nat} (h:WS N w g C s B) (hb:Below w.heap.size w w'):WS N w' g C s B:=by
 obtain ⟨pv,cs,F,h1,h2,h3,h4,rfl⟩:=h.ex
 obtain ⟨es,cl,hm,hm2⟩:=h.map
 exact ⟨⟨pv,cs,F,(hb.block g (Array.getElem?_eq_some_iff.1 h1).1).trans h1,row_kept h2 fun b hb2=>hb.block b (h2.lt b hb2).2,h3.kept fun k hk=>hb.block k (h3.low k hk).2,h4,rfl⟩,⟨es,cl,(hb.block _ (Array.getElem?_eq_some_iff.1 hm).1).trans hm,hm2⟩,
  row_kept h.notes fun b hb2=>hb.block b (h.notes.lt b hb2).2,h.len,h.two,h.few,h.low⟩
def TT (o:Bool) (w:World) (C:Cx) (tx:List Int) (Ft:List Nat):Prop:=TX w C.tv tx Ft∧(o=true→TX w C.hv (hols tx) Ft)
theorem TT.kept {o:Bool} {w w':World} {C:Cx} {tx:List Int} {Ft:List Nat} (h:TT o w C tx Ft) (hk:∀ k ∈ Ft,k < w.heap.size→w'.heap[k]?=w.heap[k]?) (hs:w.heap.size≤w'.heap.size):TT o w' C tx Ft:=
 ⟨h.1.kept hk hs,fun e=>(h.2 e).kept hk hs⟩
theorem exec {N g:Nat} {C:Cx} {L:Nat→Prop} {FE Ft:List Nat} {tx:List Int} {E:Nat→Way} {o:Bool} (hE:∀ b,(E b).few o) (htx:tx.length≤100000) {W:Way} {p:Nat} {s s':Sg} (hx:Ex tx E W p s s') :
  ∀ (w:World) (v:Value) (F B:List Nat),W.few o→p≤tx.length→s'.parses.length < 1000000→N≤w.heap.size→WS N w g C s B→Rep g C.K L w v W F→Env g C.K L w E FE→TT o w C tx Ft→Away F B→Away FE B→Away Ft B→(∀ k ∈ FE,k < w.heap.size)→(∀ k ∈ Ft,k < w.heap.size) →
   CallsV v p w fun e w2=>e=.returned (.tuple #[])∧∃ B',WS N w2 g C s' B'∧Chg w w2 B B':=by
 induction hx with
 | through p s =>
  intro w v F B hf hp hl hN hW hR hEn hT aF aE aT lE lT
  cases hR with
  | through =>
   refine ⟨79,_,_,rfl,en55,?_⟩
   exact through55 N g C s B w hW p hN (by simp at hl;omega)
 | @skip n d p s h =>
  intro w v F B hf hp hl hN hW hR hEn hT aF aE aT lE lT
  cases hR with
  | once h5 h2 h3 hn hd =>
   refine ⟨120,_,_,rfl,en70,?_⟩
   refine Calls.mono (skip70 N g C s B w hW _ _ _ _ n p h5 h2 h3 hn (by omega) h) ?_
   rintro e w2 ⟨rfl,hb⟩
   exact ⟨rfl,B,hW.below hb,Chg.of_below hb⟩
 | @once n d p s s' h hd ih =>
  intro w v F B hf hp hl hN hW hR hEn hT aF aE aT lE lT
  cases hR with
  | @once b5 b2 b3 v1 _ F1 _ h5 h2 h3 hn hd1 =>
   refine ⟨120,_,_,rfl,en70,?_⟩
   refine go70 N g C s B w hW b5 b2 b3 v1 n p h5 h2 h3 (aF _ (by simp)) (aF _ (by simp)) hn (by omega) h (fun w2=>∃ B',WS N w2 g C s' B'∧Chg w w2 B B') ?_
   intro w' hW' hC'
   have:=ih w' v1 F1 B hf hp hl (Nat.le_trans hN hC'.size) hW' (hd1.kept fun k hk=>hC'.block k (hd1.low k hk) (aF k (by simp [hk]))) (hEn.kept fun k hk hk2=>hC'.block k hk2 (aE k hk)) (hT.kept (fun k hk hk2=>hC'.block k hk2 (aT k hk)) hC'.size)
    (fun k hk=>aF k (by simp [hk])) aE aT (fun k hk=>Nat.lt_of_lt_of_le (lE k hk) hC'.size) (fun k hk=>Nat.lt_of_lt_of_le (lT k hk) hC'.size)
   obtain ⟨f,fi,ca,e1,e2,e3⟩:=this
   exact ⟨f,fi,ca,e1,e2,e3.mono fun e w2 h=>⟨h.1,by obtain ⟨B',q1,q2⟩:=h.2;exact ⟨B',q1,hC'.trans q2⟩⟩⟩
 | @noted c d p s s' hd ih =>
  intro w v F B hf hp hl hN hW hR hEn hT aF aE aT lE lT
  cases hR with
  | @noted b3 b4 b5 _ v1 _ F1 h3 h4 h5 hc hd1 =>
   refine ⟨187,_,_,rfl,en95Z,?_⟩
   refine noted95 N g C s B w hW b3 b4 b5 c v1 p h3 h4 h5 (aF _ (by simp)) (aF _ (by simp)) (aF _ (by simp)) hc s' ?_
   intro w' hW' hC'
   exact ih w' v1 F1 B hf hp hl (Nat.le_trans hN hC'.size) hW' (hd1.kept fun k hk=>hC'.block k (hd1.low k hk) (aF k (by simp [hk]))) (hEn.kept fun k hk hk2=>hC'.block k hk2 (aE k hk)) (hT.kept (fun k hk hk2=>hC'.block k hk2 (aT k hk)) hC'.size)
    (fun k hk=>aF k (by simp [hk])) aE aT (fun k hk=>Nat.lt_of_lt_of_le (lE k hk) hC'.size) (fun k hk=>Nat.lt_of_lt_of_le (lT k hk) hC'.size)
 | @over R d p s h =>
  intro w v F B hf hp hl hN hW hR hEn hT aF aE aT lE lT
  cases hR with
  | runeOf h3 h4 h5 hr hd1 =>
   refine ⟨182,_,_,rfl,en89,?_⟩
   obtain ⟨pv,cs,F0,hg,_⟩:=hW.ex
   refine Calls.mono (over89 g _ _ _ _ _ _ _ w tx Ft hg hT.1 _ _ _ p h3 h) ?_
   rintro e w2 ⟨rfl,hb⟩
   exact ⟨rfl,B,hW.below hb,Chg.of_below hb⟩
 | @other R d p s h hr2 =>
  intro w v F B hf hp hl hN hW hR hEn hT aF aE aT lE lT
  cases hR with
  | runeOf h3 h4 h5 hr hd1 =>
   refine ⟨182,_,_,rfl,en89,?_⟩
   obtain ⟨pv,cs,F0,hg,_⟩:=hW.ex
   refine Calls.mono (other89 g _ _ _ _ _ _ _ _ _ w tx Ft R hg hT.1 _ _ _ p h3 h4 hr hf.1 h hr2) ?_
   rintro e w2 ⟨rfl,hb⟩
   exact ⟨rfl,B,hW.below hb,Chg.of_below hb⟩
 | @rune R d p s s' h hr2 hd ih =>
  intro w v F B hf hp hl hN hW hR hEn hT aF aE aT lE lT
  cases hR with
  | @runeOf b3 b4 b5 v1 rv _ F1 GR _ h3 h4 h5 hr hd1 =>
   refine ⟨182,_,_,rfl,en89,?_⟩
   obtain ⟨pv,cs,F0,hg,_⟩:=hW.ex
   refine rune89 g GR _ _ _ _ _ _ _ _ w tx Ft R hg hT.1 b3 b4 b5 p h3 h4 hr hf.1 h hr2 v1 h5 (by omega) (fun w2=>∃ B',WS N w2 g C s' B'∧Chg w w2 B B') ?_
   intro w' hb
   have:=ih w' v1 F1 B hf.2 (by omega) hl (Nat.le_trans hN hb.size) (hW.below hb) (hd1.kept fun k hk=>hb.block k (hd1.low k hk)) (hEn.kept fun k hk hk2=>hb.block k hk2) (hT.kept (fun k hk hk2=>hb.block k hk2) hb.size)
    (fun k hk=>aF k (by simp [hk])) aE aT (fun k hk=>Nat.lt_of_lt_of_le (lE k hk) hb.size) (fun k hk=>Nat.lt_of_lt_of_le (lT k hk) hb.size)
   obtain ⟨f,fi,ca,e1,e2,e3⟩:=this
   exact ⟨f,fi,ca,e1,e2,e3.mono fun e w2 h=>⟨h.1,by obtain ⟨B',q1,q2⟩:=h.2;exact ⟨B',q1,(Chg.of_below hb).trans q2⟩⟩⟩
 | @fails a d p s h =>
  intro w v F B hf hp hl hN hW hR hEn hT aF aE aT lE lT
  cases hR with
  | ifHolds h4 h3 h5 hd1 =>
   refine ⟨184,_,_,rfl,en91,?_⟩
   obtain ⟨pv,cs,F0,hg,_⟩:=hW.ex
   refine Calls.mono (fails91 g _ _ _ _ _ _ _ w tx Ft hg (hT.2 hf.1) _ _ _ p a h4 h3 hp h) ?_
   rintro e w2 ⟨rfl,hb⟩
   exact ⟨rfl,B,hW.below hb,Chg.of_below hb⟩
 | @holds a d p s s' h hd ih =>
  intro w v F B hf hp hl hN hW hR hEn hT aF aE aT lE lT
  cases hR with
  | @ifHolds b4 b3 b5 _ v1 _ F1 h4 h3 h5 hd1 =>
   refine ⟨184,_,_,rfl,en91,?_⟩
   obtain ⟨pv,cs,F0,hg,_⟩:=hW.ex
   refine holds91 g _ _ _ _ _ _ _ w tx Ft hg (hT.2 hf.1) b4 b3 b5 p a h4 h3 hp h v1 h5 (fun w2=>∃ B',WS N w2 g C s' B'∧Chg w w2 B B') ?_
   intro w' hb
   have:=ih w' v1 F1 B hf.2 hp hl (Nat.le_trans hN hb.size) (hW.below hb) (hd1.kept fun k hk=>hb.block k (hd1.low k hk)) (hEn.kept fun k hk hk2=>hb.block k hk2) (hT.kept (fun k hk hk2=>hb.block k hk2) hb.size)
    (fun k hk=>aF k (by simp [hk])) aE aT (fun k hk=>Nat.lt_of_lt_of_le (lE k hk) hb.size) (fun k hk=>Nat.lt_of_lt_of_le (lT k hk) hb.size)
   obtain ⟨f,fi,ca,e1,e2,e3⟩:=this
   exact ⟨f,fi,ca,e1,e2,e3.mono fun e w2 h=>⟨h.1,by obtain ⟨B',q1,q2⟩:=h.2;exact ⟨B',q1,(Chg.of_below hb).trans q2⟩⟩⟩
 | @inOrder l p ss h ih =>
  intro w v F B hf hp hl hN hW hR hEn hT aF aE aT lE lT
  cases hR with
  | @inOrder b1 N0 sv _ vs F1 h1 hs hl1 =>
   refine ⟨229,_,_,rfl,en109,?_⟩
   refine inOrder109 N N0 g C ss B w hW b1 l.length sv vs p h1 hs (aF _ (by simp)) (fun k hk=>aF k (by simp [hk])) hl1.len ?_
   intro i v1 w' B' hi hv1 hW' hC'
   obtain ⟨u,Fi,q1,q2,q3⟩:=hl1.get i hi
   rw [hv1] at q1
   cases q1
   have hlF:∀ k ∈ Fi,k < w.heap.size:=q2.low
   have aFi:Away Fi B:=fun k hk=>aF k (by simp [q3 k hk])
   exact ih i hi w' v1 Fi B' (Ways.few_get hf i hi) hp (Nat.lt_of_le_of_lt (Ex.more_at h (l.length - (i + 1)) (i + 1) (by omega)) hl) (Nat.le_trans hN hC'.size) hW'
    (q2.kept fun k hk=>hC'.block k (hlF k hk) (aFi k hk)) (hEn.kept fun k hk hk2=>hC'.block k hk2 (aE k hk)) (hT.kept (fun k hk hk2=>hC'.block k hk2 (aT k hk)) hC'.size)
    (aFi.next hC' hlF) (aE.next hC' lE) (aT.next hC' lT) (fun k hk=>Nat.lt_of_lt_of_le (lE k hk) hC'.size) (fun k hk=>Nat.lt_of_lt_of_le (lT k hk) hC'.size)
 | @again b p s s' h ih =>
  intro w v F B hf hp hl hN hW hR hEn hT aF aE aT lE lT
  cases hR with
  | again hb =>
   refine ⟨230,_,_,rfl,en110,?_⟩
   obtain ⟨h1,v1,F1,h2,h3,h4⟩:=hEn b hb
   exact again110 b v1 p w h2 _ (ih w v1 F1 B (hE b) hp hl hN hW h3 hEn hT (fun k hk=>aE k (h4 k hk)) aE aT lE lT)
end Go.Proofs.YtacaanhnlfpbhaaGreat
