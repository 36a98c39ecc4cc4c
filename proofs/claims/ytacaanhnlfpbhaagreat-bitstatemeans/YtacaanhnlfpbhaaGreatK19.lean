/- HELPERS: texts of ours put together. -/
import Derived.Test.YtacaanhnlfpbhaaGreatK18
import Derived.WalkLawsBesides
import Derived.Lib.LazyBuf
import Derived.Deep.Cut
import Derived.Test.YtacaanhnlfpbhaaGreatK05
import Derived.Test.YtacaanhnlfpbhaaGreatK10
import Derived.Test.YtacaanhnlfpbhaaGreatK08
import Derived.Test.YtacaanhnlfpbhaaGreatK07
import Derived.Test.YtacaanhnlfpbhaaGreatK01
import Derived.Deep.SlicePairs
import Derived.RowKit
import Derived.Test.YtacaanhnlfpbhaaGreatK04
import Derived.Test.YtacaanhnlfpbhaaGreatK17
import Derived.Test.YtacaanhnlfpbhaaGreatK03
import Derived.Laws.EntriesVeiled
import Derived.Test.YtacaanhnlfpbhaaGreatK16
import Derived.WalkKit
import Derived.Laws.BitsLemmas
import Derived.Deep.RegionHeld2
import Derived.Lib.MinMax
import Derived.Test.YtacaanhnlfpbhaaGreatK06
import Derived.BigQuiet
namespace Go.Proofs.YtacaanhnlfpbhaaGreat
open Go.RowKit
set_option linter.unusedVariables false
set_option linter.unusedSimpArgs false
def Cloned (w w':World) (e:Ending) (l:List Int):Prop:=∃ v,e = .returned v ∧ w'.ownsRow w.heap.size 3 1 v l.length (I64 l) ∧ Below w.heap.size w w'
theorem eql_nil (t e:TypeId) (a:Option Addr) (l c:Nat) (h:Tryz.prog.underlying t = some (.slice e)) (w:World):(binOp .eql t (.slice a l c) (.slice none 0 0)).run Tryz.prog w = .ok (.bool a.isNone) w:=by
 simp only [binOp]
 simp [run_equal_slice_nil w t e a l c h]
set_option maxHeartbeats 1000000 in
theorem clone71 (N:Nat) (ov:Value) (l:List Int) (w:World) (ho:Hid (w.ownsRow N 3 1 ov l.length (I64 l))) (hl:l.length ≤ 1048576) :
  Calls Tryz.prog 121 #[ov] w fun e w' => Cloned w w' e l:=by
 rcases Joins.ownsRow_forms ho.out with ⟨rfl,h0⟩ | ⟨b,cap,rfl⟩
 ·have hl0:l = []:=List.eq_nil_of_length_eq_zero h0
  subst hl0
  have hq:=eql_nil 26 3 none 0 0 Tryz.underlying26
  simp only [Option.isNone_none] at hq
  go_enter Tryz.func121,Tryz.ntmps121
  go_wp2
  go_ret
  exact ⟨_,rfl,World.ownsRow_nil _ _ _ _,Below.refl _ _⟩
 ·have hblt:=(ho.out.lt b rfl).2
  have hcell:∀ j u,(I64 l)[j]? = some u → (w.alloc (.cells #[] 3)).cell? ((⟨b,0,none⟩:Addr).add j) = some u:=((ho.out.alloc _).cells (g:=b) rfl)
  have HC:Hid (∀ j u,(I64 l)[j]? = some u → (w.alloc (.cells #[] 3)).cell? ((⟨b,0,none⟩:Addr).add j) = some u):=hcell
  have HO0:Hid ((w.alloc (.cells #[] 3)).ownsRow w.heap.size 3 1 (.slice (some ⟨w.heap.size,0,none⟩) 0 0) 0 []):=by
   have:=World.ownsRow_lit (base:=w.heap.size) (e:=3) (size:=1) w #[] 0 (Nat.le_refl _) (by unfold maxLen;omega) rfl
   have t:(w.alloc (.cells #[] 3)).ownsRow w.heap.size 3 1 (.slice (some ⟨w.heap.size,0,none⟩) 0 0) 0 []:=by simpa using this
   exact t
  obtain ⟨i0,hi,hz0,hz1,hz2⟩:=info_parts info3
  have hq:=eql_nil 26 3 (some ⟨b,0,none⟩) l.length cap Tryz.underlying26
  simp only [Option.isNone_some] at hq
  clear hcell ho
  go_enter Tryz.func121,Tryz.ntmps121
  go_wp2_with (at_builtin;refine wpList_append_own _ rfl (.tmp 5) (.tmp 6) 26 rfl w.heap.size 3 i0 (.int .i64 0) 1 8 Tryz.underlying26 hi hz0 hz1 hz2 rfl (by decide) _ 0 [] rfl HO0.out ⟨b,0,none⟩ l.length cap (I64 l) rfl (by simp) HC.out (one_cell_ints l) (by unfold maxLen;omega) (by omega) (by simp) ?_)
  intro v' w1 ho1 hg1 _
  go_wp2
  go_ret
  refine ⟨_,rfl,by simpa using ho1,?_⟩
  exact ((Below.refl _ _).alloc (Nat.le_refl _) _).grown hg1 (by simp) (fun k hk => by simp [Value.ownBlock] at hk;omega)
theorem info53Z:(Tryz.prog.info? 57).map (fun i => (i.zero,i.size,i.bytes)) = some (some (.agg #[.int .i64 0,.slice none 0 0]),2,32):=by kernel_rfl
theorem PR.typ {N:Nat} {w:World} {cs:List Value} {l:List (Int × List Int)} {F:List Nat} (h:PR N w cs l F):∀ k ∈ F,∃ cur,w.heap[k]? = some (.cells cur 3 (0,0)):=by
 induction h with
 | nil => intro k hk;cases hk
 | cons h hl ih =>
  intro k hk
  rcases List.mem_append.1 hk with hk | hk
  ·rcases h.2 with ⟨rfl,_⟩ | ⟨b2,cap,cur,rfl,_,hgg,_⟩
   ·simp [Value.ownBlock] at hk
   ·simp [Value.ownBlock] at hk
    subst hk
    exact ⟨cur,hgg⟩
  ·exact ih k hk
theorem row_cells {w:World} {base e n b cap:Nat} {xs:List Value} (h:w.ownsRow base e 1 (.slice (some ⟨b,0,none⟩) n cap) n xs):∃ cur,w.heap[b]? = some (.cells cur e (0,0)):=by
 rcases h.2 with ⟨h,_⟩ | ⟨g,cap',cur,he,hb,hgg,h1,h2,h3,h4⟩
 ·cases h
 ·simp only [Value.slice.injEq,Option.some.injEq,Addr.mk.injEq] at he
  obtain ⟨⟨rfl,_⟩,_,rfl⟩:=he
  exact ⟨cur,hgg⟩
set_option maxRecDepth 100000 in
set_option maxHeartbeats 2000000 in
theorem through55 (N g:Nat) (C:Cx) (s:Sg) (B:List Nat) (w:World) (hW:Hid (WS N w g C s B)) (p:Nat) (hN:N ≤ w.heap.size) (hpl:s.parses.length < 1000000) :
  Calls Tryz.prog 79 #[pt g,.int .i64 (p:Int)] w fun e w2 => e = .returned (.tuple #[]) ∧ ∃ B',WS N w2 g C { s with parses:=s.parses ++ [((p:Int),s.notes.set 1 (p:Int))] } B' ∧ Chg w w2 B B':=by
 obtain ⟨pv,cs,F,hg,hpv,hPR,hnF,rfl⟩:=hW.out.ex
 have two:=hW.out.two
 have few:=hW.out.few
 have len:=hW.out.len
 have g5:w.cell? ⟨g,5,none⟩ = some (.slice (some ⟨C.nb,0,none⟩) C.K C.ncap):=Joins.cell_of_block hg 5
 have hcl:=clone71 N C.nv s.notes w (by exact hW.out.notes) (by omega)
 have hgl:=(Array.getElem?_eq_some_iff.1 hg).1
 have HG:=hid hg
 have HPV:=hid hpv
 have HPR:=hid hPR
 clear hg hpv hPR
 rw [show C.nv = .slice (some ⟨C.nb,0,none⟩) C.K C.ncap from rfl] at hcl
 obtain ⟨i0,hi0,hz0,hz1,hz2⟩:=info_parts info53Z
 have HCL:=hid hcl
 clear hcl
 go_enter Tryz.func79,Tryz.ntmps79
 go_wp2_with fail
 refine HCL.out.mono ?_
 rintro e w1 ⟨cv,rfl,hc1,hb1⟩
 obtain ⟨cb,ccap,rfl⟩:=Joins.ownsRow_form hc1 (by omega)
 rw [len] at hc1 ⊢
 have hcb:=(hc1.lt cb rfl)
 have hcc:=row_cap2 hc1
 have k1:=hc1.cellAt 1 (by omega)
 obtain ⟨old,hold⟩:∃ old,(I64 s.notes)[1]? = some (.int .i64 old):=⟨s.notes.getD 1 0,by simp [I64,List.getD,List.getElem?_eq_getElem (show 1 < s.notes.length by omega)]⟩
 rw [hold] at k1
 obtain ⟨cur,hcur⟩:=row_cells hc1
 have u1:=Joins.unfrozen_of_block hcur 1
 have i1:(1:Int) < (C.K:Int):=by omega
 have HC1:=hid hc1
 have HB1:=hid hb1
 have HCB:=hid hcb
 clear hc1 hb1 hold hcur hcb
 go_upto_region 2 with fail
 obtain ⟨X,hX⟩:∃ X,X = w1.setCell ⟨cb,1,none⟩ (.int .i64 (p:Int)):=⟨_,rfl⟩
 rw [← hX]
 have HX:=hid hX
 have bX:∀ k,k < w.heap.size → X.heap[k]? = w.heap[k]?:=fun k hk => by rw [hX];exact (Below.heap_setCell _ _ _ _ (by have:=HCB.out.1;show k ≠ cb;omega)).trans (HB1.out.block k hk)
 have sX:w.heap.size ≤ X.heap.size:=by rw [hX];have:=HB1.out.size;simpa [World.setCell] using this
 have hgX:=(bX g hgl).trans HG.out
 have x6:X.cell? ⟨g,6,none⟩ = some pv:=Joins.cell_of_block hgX 6
 have hpX:X.ownsRow N 57 2 pv s.parses.length cs:=row_kept HPV.out fun b hb => bX b (HPV.out.lt b hb).2
 have hcX:X.ownsRow w.heap.size 3 1 (.slice (some ⟨cb,0,none⟩) C.K ccap) C.K (I64 (s.notes.set 1 (p:Int))):=by
  rw [hX,show I64 (s.notes.set 1 (p:Int)) = (I64 s.notes).set 1 (.int .i64 (p:Int)) by simp [I64,List.map_set]]
  exact row_set HC1.out (by omega)
 have gX:g < X.heap.size:=by omega
 have HPX:=hid hpX
 have HCX:=hid hcX
 have HBX:=hid bX
 have HGX:=hid hgX
 clear hX bX hgX hpX hcX k1 u1
 go_wp2_with (at_builtin;refine wpList_append_moveN rfl (.tmp 17) (.tmp 21) 33 rfl N 57 i0 (.agg #[.int .i64 0,.slice none 0 0]) 2 32 Tryz.underlying33 hi0 hz0 hz1 hz2 rfl (by decide) pv s.parses.length cs rfl (HPX.out.alloc _) ⟨X.heap.size,0,none⟩ 1 1 [.int .i64 (p:Int),.slice (some ⟨cb,0,none⟩) C.K ccap] rfl rfl (by decide) ?_ ?_ (by unfold maxLen;omega) (by omega) (by simp;omega) ?_)
 ·intro j u hj
  match j,hj with
  | 0,hj => simp at hj;subst hj;simp [Addr.add]
  | 1,hj => simp at hj;subst hj;simp [Addr.add]
 ·intro u hu
  simp at hu
  rcases hu with rfl | rfl <;> rfl
 intro v' w3 ho3 hm3
 have hg3:w3.heap[g]? = some (.cells #[C.tv,C.hv,C.wh,.int .i64 C.n,.map (some C.mb),C.nv,pv] 135 (0,0)):=by
  have e:(X.alloc (.cells #[.int .i64 (p:Int),.slice (some ⟨cb,0,none⟩) C.K ccap] 57)).heap[g]? = X.heap[g]?:=heap_alloc_old X _ gX
  rcases hm3.out with ⟨_,h⟩ | ⟨_,h⟩
  ·exact (h.block g (by simp;omega) (fun h => own_ne HPV.out HG.out (by decide) h.symm)).trans (e.trans HGX.out)
  ·exact (h.block g (by simp;omega) (by simp)).trans (e.trans HGX.out)
 have y6:w3.cell? ⟨g,6,none⟩ = some pv:=Joins.cell_of_block hg3 6
 have f6:=Joins.unfrozen_of_block hg3 6
 have HG3:=hid hg3
 clear hg3
 obtain ⟨vb,vcap,rfl⟩:=Joins.ownsRow_form ho3.out (by omega)
 go_wp2
 go_end0
 obtain ⟨Y,hY⟩:∃ Y,Y = w3.setCell ⟨g,6,none⟩ (.slice (some ⟨vb,0,none⟩) (s.parses.length + 1) vcap):=⟨_,rfl⟩
 rw [← hY]
 have e3:∀ k,k < X.heap.size → pv.ownBlock ≠ some k → w3.heap[k]? = X.heap[k]?:=fun k hk hne => by
  have e:(X.alloc (.cells #[.int .i64 (p:Int),.slice (some ⟨cb,0,none⟩) C.K ccap] 57)).heap[k]? = X.heap[k]?:=heap_alloc_old X _ hk
  rcases hm3.out with ⟨_,h⟩ | ⟨_,h⟩
  ·exact (h.block k (by simp;omega) (fun h => hne h.symm)).trans e
  ·exact (h.block k (by simp;omega) (by simp)).trans e
 have eY:∀ k,k < w.heap.size → k ≠ g → pv.ownBlock ≠ some k → Y.heap[k]? = w.heap[k]?:=fun k hk h1 h2 => by
  rw [hY]
  exact (Below.heap_setCell _ _ _ _ h1).trans ((e3 k (by omega) h2).trans (HBX.out k hk))
 have hs3:X.heap.size ≤ w3.heap.size:=by
  rcases hm3.out with ⟨_,h⟩ | ⟨_,h⟩ <;> (have:=h.size;simp at this;omega)
 have hcb1:=HCB.out.1
 have hnb:C.nb < w.heap.size:=by obtain ⟨cur,h⟩:=hW.out.nblk;exact (Array.getElem?_eq_some_iff.1 h).1
 have hcY:Y.ownsRow N 3 1 (.slice (some ⟨cb,0,none⟩) C.K ccap) C.K (I64 (s.notes.set 1 (p:Int))):=by
  refine row_kept (Joins.ownsRow_le HCX.out hN) fun b hb => ?_
  simp [Value.ownBlock] at hb
  subst hb
  rw [hY]
  refine (Below.heap_setCell _ _ _ _ (by show cb ≠ g;omega)).trans (e3 cb ((HCX.out.lt cb rfl).2) (fun e => ?_))
  have:=(HPV.out.lt cb e).2
  omega
 have hty:∀ k ∈ F,k ≠ g ∧ pv.ownBlock ≠ some k:=fun k hk => by
  obtain ⟨cur,hc⟩:=HPR.out.typ k hk
  refine ⟨fun e => ?_,fun e => own_ne HPV.out hc (by decide) e⟩
  subst e
  have hgg:=HG.out
  rw [hc] at hgg
  simp at hgg
 have hgw:=HG.out
 obtain ⟨curn,hcn⟩:=hW.out.nblk
 obtain ⟨es,cl,hm0,hmr⟩:=hW.out.map
 refine ⟨rfl,g :: C.mb :: C.nb :: ((Value.slice (some ⟨vb,0,none⟩) (s.parses.length + 1) vcap).ownBlock.toList ++ (F ++ [cb])),?_,?_⟩
 ·refine ⟨⟨_,_,_,?_,?_,(HPR.out.kept fun k hk => eY k (HPR.out.low k hk).2 (hty k hk).1 (hty k hk).2).snoc (e:=(p:Int)) (cp:=s.notes.set 1 (p:Int)) (cv:=.slice (some ⟨cb,0,none⟩) C.K ccap) (by rw [List.length_set,len];exact hcY),?_,rfl⟩,?_,?_,len,two,few,hW.out.low⟩
  ·rw [hY]
   exact Joins.block_setCell (i:=6) HG3.out _
  ·rw [hY,List.length_append]
   exact own_setCell ho3.out (own_ne ho3.out HG3.out (by decide))
  ·simp [Value.ownBlock]
   exact ⟨hnF,by omega⟩
  ·refine ⟨es,cl,(eY _ (Array.getElem?_eq_some_iff.1 hm0).1 (fun e => ?_) (fun e => ?_)).trans hm0,hmr⟩
   ·rw [e,hgw] at hm0;cases hm0
   ·rcases HPV.out.2 with ⟨rfl,_⟩ | ⟨b2,cap,cur,rfl,_,hgg,_⟩
    ·simp [Value.ownBlock] at e
    ·simp [Value.ownBlock] at e
     rw [e,hm0] at hgg
     cases hgg
  ·refine row_kept hW.out.notes fun b hb => ?_
   simp [Cx.nv,Value.ownBlock] at hb
   subst hb
   refine eY _ hnb (fun e => ?_) (fun e => own_ne HPV.out hcn (by decide) e)
   rw [e,hgw] at hcn
   simp at hcn
 ·refine ⟨?_,?_,?_,?_,fun k hk hn => ?_,fun k hk => ?_⟩
  ·rw [hY]
   rcases hm3.out with ⟨_,h⟩ | ⟨_,h⟩ <;> exact h.os.trans (by rw [HX.out];exact HB1.out.os)
  ·rw [hY]
   rcases hm3.out with ⟨_,h⟩ | ⟨_,h⟩ <;> exact h.tape.trans (by rw [HX.out];exact HB1.out.tape)
  ·rw [hY]
   rcases hm3.out with ⟨_,h⟩ | ⟨_,h⟩ <;> exact h.output.trans (by rw [HX.out];exact HB1.out.output)
  ·rw [hY];simp [World.setCell];omega
  ·simp only [List.mem_cons,List.mem_append,Option.mem_toList,not_or] at hn
   exact eY k hk hn.1 (fun e => hn.2.2.2.1 e)
  ·simp only [List.mem_cons,List.mem_append,Option.mem_toList,List.not_mem_nil,or_false] at hk ⊢
   rcases hk with h | h | h | h | h | h
   ·exact .inl (.inl h)
   ·exact .inl (.inr (.inl h))
   ·exact .inl (.inr (.inr (.inl h)))
   ·rcases hm3.out with ⟨h0,_⟩ | ⟨h0,_⟩
    ·rw [h0] at h
     exact .inl (.inr (.inr (.inr (.inl h))))
    ·rw [h0] at h
     right
     simp at h
     omega
   ·exact .inl (.inr (.inr (.inr (.inr h))))
   ·right;omega
def Env (g K:Nat) (L:Nat → Prop) (w:World) (E:Nat → Way) (FE:List Nat):Prop:=∀ b,L b → b ∈ FE ∧ ∃ v F,Bx w b 133 v ∧ Rep g K L w v (E b) F ∧ ∀ k ∈ F,k ∈ FE
theorem Env.kept {g K:Nat} {L:Nat → Prop} {w w':World} {E:Nat → Way} {FE:List Nat} (h:Env g K L w E FE) (hk:∀ k ∈ FE,k < w.heap.size → w'.heap[k]? = w.heap[k]?):Env g K L w' E FE:=by
 intro b hb
 obtain ⟨h1,v,F,h2,h3,h4⟩:=h b hb
 exact ⟨h1,v,F,(hk b h1 (bx_lt h2)).trans h2,h3.kept fun k hkk => hk k (h4 k hkk) (h3.low k hkk),h4⟩
def Away (F B:List Nat):Prop:=∀ k ∈ F,k ∉ B
theorem Away.next {w w':World} {F B B':List Nat} (h:Away F B) (hc:Chg w w' B B') (hl:∀ k ∈ F,k < w.heap.size):Away F B':=hc.away hl h
mutual
def Way.few (h:Bool):Way → Prop
 | .through => True
 | .once _ d => d.few h
 | .noted _ d => d.few h
 | .runeOf L d => L.length ≤ 1000000 ∧ d.few h
 | .ifHolds _ d => h = true ∧ d.few h
 | .inOrder l => Ways.few h l
 | .again _ => True
def Ways.few (h:Bool):List Way → Prop
 | [] => True
 | d :: l => d.few h ∧ Ways.few h l
end
theorem Ways.few_get {o:Bool}:∀ {l:List Way},Ways.few o l → ∀ (i:Nat) (hi:i < l.length),(l[i]'hi).few o:=by
 intro l
 induction l with
 | nil => intro _ i hi;simp at hi
 | cons d l ih =>
  intro h i hi
  simp only [Ways.few] at h
  cases i with
  | zero => exact h.1
  | succ i => exact ih h.2 i (by simpa using hi)
theorem en55:∀ (args:Array Value) (w:World),(callFunc 79 args).run Tryz.prog w = .ok (.enter 79 args) w:=enter_of Tryz.func79 (by kernel_rfl) rfl
theorem en70:∀ (args:Array Value) (w:World),(callFunc 120 args).run Tryz.prog w = .ok (.enter 120 args) w:=enter_of Tryz.func120 (by kernel_rfl) rfl
theorem en95Z:∀ (args:Array Value) (w:World),(callFunc 187 args).run Tryz.prog w = .ok (.enter 187 args) w:=enter_of Tryz.func187 (by kernel_rfl) rfl
theorem en89:∀ (args:Array Value) (w:World),(callFunc 182 args).run Tryz.prog w = .ok (.enter 182 args) w:=enter_of Tryz.func182 (by kernel_rfl) rfl
theorem en91:∀ (args:Array Value) (w:World),(callFunc 184 args).run Tryz.prog w = .ok (.enter 184 args) w:=enter_of Tryz.func184 (by kernel_rfl) rfl
theorem en109:∀ (args:Array Value) (w:World),(callFunc 229 args).run Tryz.prog w = .ok (.enter 229 args) w:=enter_of Tryz.func229 (by kernel_rfl) rfl
theorem en110:∀ (args:Array Value) (w:World),(callFunc 230 args).run Tryz.prog w = .ok (.enter 230 args) w:=enter_of Tryz.func230 (by kernel_rfl) rfl
theorem Ex.more {tx:List Int} {E:Nat → Way} {W:Way} {p:Nat} {s s':Sg} (h:Ex tx E W p s s'):s.parses.length ≤ s'.parses.length:=by
 induction h with
 | through p s => simp
 | skip h => exact Nat.le_refl _
 | once h hd ih => exact ih
 | noted hd ih => exact ih
 | over h => exact Nat.le_refl _
 | other h hr => exact Nat.le_refl _
 | rune h hr hd ih => exact ih
 | fails h => exact Nat.le_refl _
 | holds h hd ih => exact ih
 | @inOrder l p ss h ih =>
  have:∀ i,i ≤ l.length → (ss 0).parses.length ≤ (ss i).parses.length:=by
   intro i
   induction i with
   | zero => intro _;exact Nat.le_refl _
   | succ i ihi => intro hi;exact Nat.le_trans (ihi (by omega)) (ih i (by omega))
  exact this _ (Nat.le_refl _)
 | again h ih => exact ih
theorem Ex.more_at {tx:List Int} {E:Nat → Way} {l:List Way} {p:Nat} {ss:Nat → Sg} (h:∀ i (hi:i < l.length),Ex tx E (l[i]'hi) p (ss i) (ss (i + 1))):∀ d i,i + d = l.length → (ss i).parses.length ≤ (ss l.length).parses.length:=by
 intro d
 induction d with
 | zero => intro i hi;rw [show i = l.length by omega];exact Nat.le_refl _
 | succ d ih => intro i hi;exact Nat.le_trans (h i (by omega)).more (ih (i + 1) (by omega))
theorem WS.below {N:Nat} {w w':World} {g:Nat} {C:Cx} {s:Sg} {B:List Nat} (h:WS N w g C s B) (hb:Below w.heap.size w w'):WS N w' g C s B:=by
 obtain ⟨pv,cs,F,h1,h2,h3,h4,rfl⟩:=h.ex
 obtain ⟨es,cl,hm,hm2⟩:=h.map
 exact ⟨⟨pv,cs,F,(hb.block g (Array.getElem?_eq_some_iff.1 h1).1).trans h1,row_kept h2 fun b hb2 => hb.block b (h2.lt b hb2).2,h3.kept fun k hk => hb.block k (h3.low k hk).2,h4,rfl⟩,⟨es,cl,(hb.block _ (Array.getElem?_eq_some_iff.1 hm).1).trans hm,hm2⟩,
  row_kept h.notes fun b hb2 => hb.block b (h.notes.lt b hb2).2,h.len,h.two,h.few,h.low⟩
def TT (o:Bool) (w:World) (C:Cx) (tx:List Int) (Ft:List Nat):Prop:=TX w C.tv tx Ft ∧ (o = true → TX w C.hv (hols tx) Ft)
theorem TT.kept {o:Bool} {w w':World} {C:Cx} {tx:List Int} {Ft:List Nat} (h:TT o w C tx Ft) (hk:∀ k ∈ Ft,k < w.heap.size → w'.heap[k]? = w.heap[k]?) (hs:w.heap.size ≤ w'.heap.size):TT o w' C tx Ft:=
 ⟨h.1.kept hk hs,fun e => (h.2 e).kept hk hs⟩
theorem exec {N g:Nat} {C:Cx} {L:Nat → Prop} {FE Ft:List Nat} {tx:List Int} {E:Nat → Way} {o:Bool} (hE:∀ b,(E b).few o) (htx:tx.length ≤ 100000) {W:Way} {p:Nat} {s s':Sg} (hx:Ex tx E W p s s') :
  ∀ (w:World) (v:Value) (F B:List Nat),W.few o → p ≤ tx.length → s'.parses.length < 1000000 → N ≤ w.heap.size → WS N w g C s B → Rep g C.K L w v W F → Env g C.K L w E FE → TT o w C tx Ft → Away F B → Away FE B → Away Ft B → (∀ k ∈ FE,k < w.heap.size) → (∀ k ∈ Ft,k < w.heap.size) →
   CallsV v p w fun e w2 => e = .returned (.tuple #[]) ∧ ∃ B',WS N w2 g C s' B' ∧ Chg w w2 B B':=by
 induction hx with
 | through p s =>
  intro w v F B hf hp hl hN hW hR hEn hT aF aE aT lE lT
  cases hR with
  | through =>
   refine ⟨79,_,_,rfl,en55,?_⟩
   exact through55 N g C s B w hW p hN (by simp at hl;omega)
 | @skip n d p s h =>
  intro w v F B hf hp hl hN hW hR hEn hT aF aE aT lE lT
  cases hR with
  | once h5 h2 h3 hn hd =>
   refine ⟨120,_,_,rfl,en70,?_⟩
   refine Calls.mono (skip70 N g C s B w hW _ _ _ _ n p h5 h2 h3 hn (by omega) h) ?_
   rintro e w2 ⟨rfl,hb⟩
   exact ⟨rfl,B,hW.below hb,Chg.of_below hb⟩
 | @once n d p s s' h hd ih =>
  intro w v F B hf hp hl hN hW hR hEn hT aF aE aT lE lT
  cases hR with
  | @once b5 b2 b3 v1 _ F1 _ h5 h2 h3 hn hd1 =>
   refine ⟨120,_,_,rfl,en70,?_⟩
   refine go70 N g C s B w hW b5 b2 b3 v1 n p h5 h2 h3 (aF _ (by simp)) (aF _ (by simp)) hn (by omega) h (fun w2 => ∃ B',WS N w2 g C s' B' ∧ Chg w w2 B B') ?_
   intro w' hW' hC'
   have:=ih w' v1 F1 B hf hp hl (Nat.le_trans hN hC'.size) hW' (hd1.kept fun k hk => hC'.block k (hd1.low k hk) (aF k (by simp [hk]))) (hEn.kept fun k hk hk2 => hC'.block k hk2 (aE k hk)) (hT.kept (fun k hk hk2 => hC'.block k hk2 (aT k hk)) hC'.size)
    (fun k hk => aF k (by simp [hk])) aE aT (fun k hk => Nat.lt_of_lt_of_le (lE k hk) hC'.size) (fun k hk => Nat.lt_of_lt_of_le (lT k hk) hC'.size)
   obtain ⟨f,fi,ca,e1,e2,e3⟩:=this
   exact ⟨f,fi,ca,e1,e2,e3.mono fun e w2 h => ⟨h.1,by obtain ⟨B',q1,q2⟩:=h.2;exact ⟨B',q1,hC'.trans q2⟩⟩⟩
 | @noted c d p s s' hd ih =>
  intro w v F B hf hp hl hN hW hR hEn hT aF aE aT lE lT
  cases hR with
  | @noted b3 b4 b5 _ v1 _ F1 h3 h4 h5 hc hd1 =>
   refine ⟨187,_,_,rfl,en95Z,?_⟩
   refine noted95 N g C s B w hW b3 b4 b5 c v1 p h3 h4 h5 (aF _ (by simp)) (aF _ (by simp)) (aF _ (by simp)) hc s' ?_
   intro w' hW' hC'
   exact ih w' v1 F1 B hf hp hl (Nat.le_trans hN hC'.size) hW' (hd1.kept fun k hk => hC'.block k (hd1.low k hk) (aF k (by simp [hk]))) (hEn.kept fun k hk hk2 => hC'.block k hk2 (aE k hk)) (hT.kept (fun k hk hk2 => hC'.block k hk2 (aT k hk)) hC'.size)
    (fun k hk => aF k (by simp [hk])) aE aT (fun k hk => Nat.lt_of_lt_of_le (lE k hk) hC'.size) (fun k hk => Nat.lt_of_lt_of_le (lT k hk) hC'.size)
 | @over R d p s h =>
  intro w v F B hf hp hl hN hW hR hEn hT aF aE aT lE lT
  cases hR with
  | runeOf h3 h4 h5 hr hd1 =>
   refine ⟨182,_,_,rfl,en89,?_⟩
   obtain ⟨pv,cs,F0,hg,_⟩:=hW.ex
   refine Calls.mono (over89 g _ _ _ _ _ _ _ w tx Ft hg hT.1 _ _ _ p h3 h) ?_
   rintro e w2 ⟨rfl,hb⟩
   exact ⟨rfl,B,hW.below hb,Chg.of_below hb⟩
 | @other R d p s h hr2 =>
  intro w v F B hf hp hl hN hW hR hEn hT aF aE aT lE lT
  cases hR with
  | runeOf h3 h4 h5 hr hd1 =>
   refine ⟨182,_,_,rfl,en89,?_⟩
   obtain ⟨pv,cs,F0,hg,_⟩:=hW.ex
   refine Calls.mono (other89 g _ _ _ _ _ _ _ _ _ w tx Ft R hg hT.1 _ _ _ p h3 h4 hr hf.1 h hr2) ?_
   rintro e w2 ⟨rfl,hb⟩
   exact ⟨rfl,B,hW.below hb,Chg.of_below hb⟩
 | @rune R d p s s' h hr2 hd ih =>
  intro w v F B hf hp hl hN hW hR hEn hT aF aE aT lE lT
  cases hR with
  | @runeOf b3 b4 b5 v1 rv _ F1 GR _ h3 h4 h5 hr hd1 =>
   refine ⟨182,_,_,rfl,en89,?_⟩
   obtain ⟨pv,cs,F0,hg,_⟩:=hW.ex
   refine rune89 g GR _ _ _ _ _ _ _ _ w tx Ft R hg hT.1 b3 b4 b5 p h3 h4 hr hf.1 h hr2 v1 h5 (by omega) (fun w2 => ∃ B',WS N w2 g C s' B' ∧ Chg w w2 B B') ?_
   intro w' hb
   have:=ih w' v1 F1 B hf.2 (by omega) hl (Nat.le_trans hN hb.size) (hW.below hb) (hd1.kept fun k hk => hb.block k (hd1.low k hk)) (hEn.kept fun k hk hk2 => hb.block k hk2) (hT.kept (fun k hk hk2 => hb.block k hk2) hb.size)
    (fun k hk => aF k (by simp [hk])) aE aT (fun k hk => Nat.lt_of_lt_of_le (lE k hk) hb.size) (fun k hk => Nat.lt_of_lt_of_le (lT k hk) hb.size)
   obtain ⟨f,fi,ca,e1,e2,e3⟩:=this
   exact ⟨f,fi,ca,e1,e2,e3.mono fun e w2 h => ⟨h.1,by obtain ⟨B',q1,q2⟩:=h.2;exact ⟨B',q1,(Chg.of_below hb).trans q2⟩⟩⟩
 | @fails a d p s h =>
  intro w v F B hf hp hl hN hW hR hEn hT aF aE aT lE lT
  cases hR with
  | ifHolds h4 h3 h5 hd1 =>
   refine ⟨184,_,_,rfl,en91,?_⟩
   obtain ⟨pv,cs,F0,hg,_⟩:=hW.ex
   refine Calls.mono (fails91 g _ _ _ _ _ _ _ w tx Ft hg (hT.2 hf.1) _ _ _ p a h4 h3 hp h) ?_
   rintro e w2 ⟨rfl,hb⟩
   exact ⟨rfl,B,hW.below hb,Chg.of_below hb⟩
 | @holds a d p s s' h hd ih =>
  intro w v F B hf hp hl hN hW hR hEn hT aF aE aT lE lT
  cases hR with
  | @ifHolds b4 b3 b5 _ v1 _ F1 h4 h3 h5 hd1 =>
   refine ⟨184,_,_,rfl,en91,?_⟩
   obtain ⟨pv,cs,F0,hg,_⟩:=hW.ex
   refine holds91 g _ _ _ _ _ _ _ w tx Ft hg (hT.2 hf.1) b4 b3 b5 p a h4 h3 hp h v1 h5 (fun w2 => ∃ B',WS N w2 g C s' B' ∧ Chg w w2 B B') ?_
   intro w' hb
   have:=ih w' v1 F1 B hf.2 hp hl (Nat.le_trans hN hb.size) (hW.below hb) (hd1.kept fun k hk => hb.block k (hd1.low k hk)) (hEn.kept fun k hk hk2 => hb.block k hk2) (hT.kept (fun k hk hk2 => hb.block k hk2) hb.size)
    (fun k hk => aF k (by simp [hk])) aE aT (fun k hk => Nat.lt_of_lt_of_le (lE k hk) hb.size) (fun k hk => Nat.lt_of_lt_of_le (lT k hk) hb.size)
   obtain ⟨f,fi,ca,e1,e2,e3⟩:=this
   exact ⟨f,fi,ca,e1,e2,e3.mono fun e w2 h => ⟨h.1,by obtain ⟨B',q1,q2⟩:=h.2;exact ⟨B',q1,(Chg.of_below hb).trans q2⟩⟩⟩
 | @inOrder l p ss h ih =>
  intro w v F B hf hp hl hN hW hR hEn hT aF aE aT lE lT
  cases hR with
  | @inOrder b1 N0 sv _ vs F1 h1 hs hl1 =>
   refine ⟨229,_,_,rfl,en109,?_⟩
   refine inOrder109 N N0 g C ss B w hW b1 l.length sv vs p h1 hs (aF _ (by simp)) (fun k hk => aF k (by simp [hk])) hl1.len ?_
   intro i v1 w' B' hi hv1 hW' hC'
   obtain ⟨u,Fi,q1,q2,q3⟩:=hl1.get i hi
   rw [hv1] at q1
   cases q1
   have hlF:∀ k ∈ Fi,k < w.heap.size:=q2.low
   have aFi:Away Fi B:=fun k hk => aF k (by simp [q3 k hk])
   exact ih i hi w' v1 Fi B' (Ways.few_get hf i hi) hp (Nat.lt_of_le_of_lt (Ex.more_at h (l.length - (i + 1)) (i + 1) (by omega)) hl) (Nat.le_trans hN hC'.size) hW'
    (q2.kept fun k hk => hC'.block k (hlF k hk) (aFi k hk)) (hEn.kept fun k hk hk2 => hC'.block k hk2 (aE k hk)) (hT.kept (fun k hk hk2 => hC'.block k hk2 (aT k hk)) hC'.size)
    (aFi.next hC' hlF) (aE.next hC' lE) (aT.next hC' lT) (fun k hk => Nat.lt_of_lt_of_le (lE k hk) hC'.size) (fun k hk => Nat.lt_of_lt_of_le (lT k hk) hC'.size)
 | @again b p s s' h ih =>
  intro w v F B hf hp hl hN hW hR hEn hT aF aE aT lE lT
  cases hR with
  | again hb =>
   refine ⟨230,_,_,rfl,en110,?_⟩
   obtain ⟨h1,v1,F1,h2,h3,h4⟩:=hEn b hb
   exact again110 b v1 p w h2 _ (ih w v1 F1 B (hE b) hp hl hN hW h3 hEn hT (fun k hk => aE k (h4 k hk)) aE aT lE lT)
structure Six where
 a0:Value
 a1:Value
 a2:Value
 a4:Value
 a5:Value
 a6:Value
abbrev O7 (w:World) (g:Nat) (A:Six) (n:Int):Prop:=w.heap[g]? = some (.cells #[A.a0,A.a1,A.a2,.int .i64 n,A.a4,A.a5,A.a6] 135 (0,0))
structure Mk (g K:Nat) (L:Nat → Prop) (w w':World) (A:Six) (n':Int) (v:Value) (W:Way) (F0 F:List Nat):Prop where
 rep:Rep g K L w' v W F
 ob:O7 w' g A n'
 chg:Chg w w' [g] [g]
 new:∀ k ∈ F,k ∈ F0 ∨ w.heap.size ≤ k
theorem Rep.form {g K:Nat} {L:Nat → Prop} {w:World} {v:Value} {d:Way} {F:List Nat} (h:Rep g K L w v d F):∃ f fi ca,v = .func (.func f) fi ca:=by
 cases h <;> exact ⟨_,_,_,rfl⟩
theorem hmf:∀ (fn:Fn) (first cap:Array Value) (w:World),(Instr.makeFunc fn first cap).run Tryz.prog w = .ok (.func fn first cap) w:=fun _ _ _ _ => rfl
set_option maxRecDepth 100000 in
set_option maxHeartbeats 2000000 in
theorem once54 (g K:Nat) (L:Nat → Prop) (A:Six) (n:Int) (vb:Value) (B:Way) (F0:List Nat) (w:World) (hO:O7 w g A n) (hR:Rep g K L w vb B F0) (hgF:g ∉ F0) (hn:0 ≤ n ∧ n < 1000000000) :
  Calls Tryz.prog 78 #[pt g,vb] w fun e w' => ∃ v F,e = .returned v ∧ Mk g K L w w' A (n + 1) v (.once (n + 1) B) F0 F:=by
 obtain ⟨f,fi,ca,rfl⟩:=hR.form
 have hm:=hmf
 have g3:w.cell? ⟨g,3,none⟩ = some (.int .i64 n):=Joins.cell_of_block hO 3
 have f3:=Joins.unfrozen_of_block hO 3
 have hgl:=(Array.getElem?_eq_some_iff.1 hO).1
 have HO:=hid hO
 have HR:=hid hR
 clear hO hR
 go_enter Tryz.func78,Tryz.ntmps78
 go_wp2
 go_ret
 obtain ⟨h1,h2,h3,h4⟩:=three_new (w.setCell ⟨g,3,none⟩ (.int .i64 (n + 1))) (.cells #[pt g] 71) (.cells #[.func (.func f) fi ca] 133) (.cells #[.int .i64 (n + 1)] 3)
 have hs:(w.setCell ⟨g,3,none⟩ (.int .i64 (n + 1))).heap.size = w.heap.size:=by simp [World.setCell]
 rw [hs] at h1 h2 h3 h4
 have hc:Chg w ((((w.setCell ⟨g,3,none⟩ (.int .i64 (n + 1))).alloc (.cells #[pt g] 71)).alloc (.cells #[.func (.func f) fi ca] 133)).alloc (.cells #[.int .i64 (n + 1)] 3)) [g] [g]:=
  ((((Chg.refl w [g]).set (a:=⟨g,3,none⟩) (.int .i64 (n + 1)) (by simp)).alloc _).alloc _).alloc _
 refine ⟨_,_,rfl,.once h3 h1 h2 ⟨by omega,by omega⟩ (HR.out.kept fun k hk => ?_),?_,hc,?_⟩
 ·exact hc.block k (HR.out.low k hk) (by simp;intro e;exact hgF (e ▸ hk))
 ·exact (h4 g hgl).trans (Joins.block_setCell (i:=3) HO.out _)
 ·intro k hk
  simp only [List.mem_cons] at hk
  rcases hk with rfl | rfl | rfl | hk
  ·right;omega
  ·right;omega
  ·right;omega
  ·exact .inl hk
set_option maxRecDepth 100000 in
set_option maxHeartbeats 2000000 in
theorem noted68 (g K c:Nat) (L:Nat → Prop) (A:Six) (n:Int) (vb:Value) (B:Way) (F0:List Nat) (w:World) (hO:O7 w g A n) (hR:Rep g K L w vb B F0) (hgF:g ∉ F0) (hc:c < K) :
  Calls Tryz.prog 118 #[pt g,.int .i64 (c:Int),vb] w fun e w' => ∃ v F,e = .returned v ∧ Mk g K L w w' A n v (.noted c B) F0 F:=by
 obtain ⟨f,fi,ca,rfl⟩:=hR.form
 have hm:=hmf
 have hgl:=(Array.getElem?_eq_some_iff.1 hO).1
 have HO:=hid hO
 have HR:=hid hR
 clear hO hR
 go_enter Tryz.func118,Tryz.ntmps118
 go_wp2
 go_ret
 obtain ⟨h1,h2,h3,h4⟩:=three_new w (.cells #[pt g] 71) (.cells #[.int .i64 (c:Int)] 3) (.cells #[.func (.func f) fi ca] 133)
 have hch:Chg w (((w.alloc (.cells #[pt g] 71)).alloc (.cells #[.int .i64 (c:Int)] 3)).alloc (.cells #[.func (.func f) fi ca] 133)) [g] [g]:=(((Chg.refl w [g]).alloc _).alloc _).alloc _
 refine ⟨_,_,rfl,.noted h1 h2 h3 hc (HR.out.kept fun k hk => ?_),(h4 g hgl).trans HO.out,hch,?_⟩
 ·exact hch.block k (HR.out.low k hk) (by simp;intro e;exact hgF (e ▸ hk))
 ·intro k hk
  simp only [List.mem_cons] at hk
  rcases hk with rfl | rfl | rfl | hk
  ·right;omega
  ·right;omega
  ·right;omega
  ·exact .inl hk
set_option maxRecDepth 100000 in
set_option maxHeartbeats 2000000 in
theorem runeOf64 (g K:Nat) (L:Nat → Prop) (GR:List Nat) (A:Six) (n:Int) (vb rv:Value) (R:Rng) (B:Way) (F0:List Nat) (w:World) (hO:O7 w g A n) (hR:Rep g K L w vb B F0) (hgF:g ∉ F0) (hr:RowIn w rv R GR) :
  Calls Tryz.prog 114 #[pt g,rv,vb] w fun e w' => ∃ v F,e = .returned v ∧ Mk g K L w w' A n v (.runeOf R B) (GR ++ F0) F:=by
 obtain ⟨f,fi,ca,rfl⟩:=hR.form
 obtain ⟨s1,s2,s3,rfl⟩:∃ s1 s2 s3,rv = .slice s1 s2 s3:=by
  obtain ⟨s1,s3,h⟩:=hr.form
  exact ⟨_,_,_,h⟩
 have hm:=hmf
 have hgl:=(Array.getElem?_eq_some_iff.1 hO).1
 have HO:=hid hO
 have HR:=hid hR
 have Hr:=hid hr
 clear hO hR hr
 go_enter Tryz.func114,Tryz.ntmps114
 go_wp2
 go_ret
 obtain ⟨h1,h2,h3,h4⟩:=three_new w (.cells #[pt g] 71) (.cells #[.slice s1 s2 s3] 22) (.cells #[.func (.func f) fi ca] 133)
 have hch:Chg w (((w.alloc (.cells #[pt g] 71)).alloc (.cells #[.slice s1 s2 s3] 22)).alloc (.cells #[.func (.func f) fi ca] 133)) [g] [g]:=(((Chg.refl w [g]).alloc _).alloc _).alloc _
 refine ⟨_,_,rfl,.runeOf h1 h2 h3 (Hr.out.kept fun b hb => h4 b (Hr.out.low b hb)) (HR.out.kept fun k hk => ?_),(h4 g hgl).trans HO.out,hch,?_⟩
 ·exact hch.block k (HR.out.low k hk) (by simp;intro e;exact hgF (e ▸ hk))
 ·intro k hk
  simp only [List.mem_cons,List.mem_append] at hk ⊢
  rcases hk with rfl | rfl | rfl | hk | hk
  ·right;omega
  ·right;omega
  ·right;omega
  ·exact .inl (.inl hk)
  ·exact .inl (.inr hk)
set_option maxRecDepth 100000 in
set_option maxHeartbeats 2000000 in
theorem ifHolds65 (g K:Nat) (L:Nat → Prop) (A:Six) (n a:Int) (vb:Value) (B:Way) (F0:List Nat) (w:World) (hO:O7 w g A n) (hR:Rep g K L w vb B F0) (hgF:g ∉ F0) :
  Calls Tryz.prog 115 #[pt g,.int .i64 a,vb] w fun e w' => ∃ v F,e = .returned v ∧ Mk g K L w w' A n v (.ifHolds a B) F0 F:=by
 obtain ⟨f,fi,ca,rfl⟩:=hR.form
 have hm:=hmf
 have hgl:=(Array.getElem?_eq_some_iff.1 hO).1
 have HO:=hid hO
 have HR:=hid hR
 clear hO hR
 go_enter Tryz.func115,Tryz.ntmps115
 go_wp2
 go_ret
 obtain ⟨h1,h2,h3,h4⟩:=three_new w (.cells #[pt g] 71) (.cells #[.int .i64 a] 3) (.cells #[.func (.func f) fi ca] 133)
 have hch:Chg w (((w.alloc (.cells #[pt g] 71)).alloc (.cells #[.int .i64 a] 3)).alloc (.cells #[.func (.func f) fi ca] 133)) [g] [g]:=(((Chg.refl w [g]).alloc _).alloc _).alloc _
 refine ⟨_,_,rfl,.ifHolds h2 h1 h3 (HR.out.kept fun k hk => ?_),(h4 g hgl).trans HO.out,hch,?_⟩
 ·exact hch.block k (HR.out.low k hk) (by simp;intro e;exact hgF (e ▸ hk))
 ·intro k hk
  simp only [List.mem_cons] at hk
  rcases hk with rfl | rfl | rfl | hk
  ·right;omega
  ·right;omega
  ·right;omega
  ·exact .inl hk
set_option maxRecDepth 100000 in
set_option maxHeartbeats 2000000 in
theorem inOrder94 (g K N0 m:Nat) (L:Nat → Prop) (sv:Value) (l:List Way) (vs:List Value) (F1:List Nat) (w:World) (hs:w.ownsRow N0 133 1 sv l.length vs) (hR:Reps g K L w vs l F1) :
  Calls Tryz.prog 186 #[sv] w fun e w' => ∃ v F,e = .returned v ∧ Rep g K L w' v (.inOrder l) F ∧ Below w.heap.size w w' ∧ (∀ k ∈ F,k ∈ sv.ownBlock.toList ++ F1 ∨ w.heap.size ≤ k):=by
 obtain ⟨s1,s2,s3,rfl⟩:∃ s1 s2 s3,sv = .slice s1 s2 s3:=by
  rcases Joins.ownsRow_forms hs with ⟨rfl,h⟩ | ⟨b,cap,rfl⟩
  ·exact ⟨none,0,0,rfl⟩
  ·exact ⟨_,_,_,rfl⟩
 have hm:=hmf
 have HS:=hid hs
 have HR:=hid hR
 clear hs hR
 go_enter Tryz.func186,Tryz.ntmps186
 go_wp2
 go_ret
 have hb:Below w.heap.size w (w.alloc (.cells #[.slice s1 s2 s3] 237)):=Joins.below_alloc1 w _
 refine ⟨_,_,rfl,.inOrder (heap_alloc_new w _) (row_kept HS.out fun b hb2 => hb.block b (HS.out.lt b hb2).2) (HR.out.kept fun k hk => hb.block k (HR.out.low k hk)),hb,?_⟩
 intro k hk
 simp only [List.mem_cons,List.mem_append] at hk ⊢
 rcases hk with rfl | hk | hk
 ·right;omega
 ·exact .inl (.inl hk)
 ·exact .inl (.inr hk)
end Go.Proofs.YtacaanhnlfpbhaaGreat
