/- HELPERS: texts of ours put together. -/
import Derived.Test.YtacaanhnlfpbhaaGreatK03
import Derived.Test.YtacaanhnlfpbhaaGreatK02
import Derived.Test.YtacaanhnlfpbhaaGreatK01
import Derived.Deep.SlicePairs
import Derived.RowKit
import Derived.Test.YtacaanhnlfpbhaaGreatProg
import Derived.WalkKit
import Derived.ProofKit
import Derived.BigQuiet
import Derived.WalkSmall
import Derived.Deep.QuietTactic
import Derived.Deep.RegionWith
import Derived.Lib.SmallJoins
import Derived.Lib.MinMax
import Derived.Maps.AppendAt
import Derived.Laws.AppendOwnNone
import Derived.Lib.Small
import Derived.Deep.Cut
import Derived.Deep.CutRange
import Derived.Test.YtacaanhnlfpbhaaGreatK20
import Derived.Laws.EntriesVeiled
import Derived.OrdersHeld
import Derived.StillTail
import Derived.Tactics
import Derived.Below
import Derived.Deep.RegionHeld3
import Derived.Deep.MidRow
import Derived.Deep.OwnRows
import Derived.Laws.Rows
import Derived.WalkLawsBesides
import Derived.Deep.RegionLaw
import Derived.Laws.CopyOwn
import Derived.Lib.LazyBuf
import Derived.Test.YtacaanhnlfpbhaaGreatK04
import Derived.Test.YtacaanhnlfpbhaaGreatK18
import Derived.Test.YtacaanhnlfpbhaaGreatK24
import Derived.Test.YtacaanhnlfpbhaaGreatK10
import Derived.Deep.Onto
import Derived.Test.YtacaanhnlfpbhaaGreatK17
import Derived.Test.YtacaanhnlfpbhaaGreatK25
import Derived.RegionTactic
import Derived.ChangeAlike
namespace Go.Proofs.YtacaanhnlfpbhaaGreat
open Go.RowKit
set_option linter.unusedVariables false
set_option linter.unusedSimpArgs false
theorem row_setCells {base e size n b c:Nat}:∀ (vs:List Value) (o:Nat) (w:World) (xs:List Value),w.ownsRow base e size (.slice (some ⟨b,0,none⟩) n c) n xs→o + vs.length≤xs.length→(w.setCells b o vs).ownsRow base e size (.slice (some ⟨b,0,none⟩) n c) n (xs.take o ++ vs ++ xs.drop (o + vs.length))
 | [],o,w,xs,h,_=>by simpa [World.setCells] using h
 | v :: vs,o,w,xs,h,hl=>by
  have h1:=row_setC h o v
  have h2:=row_setCells vs (o + 1) (w.setCell ⟨b,o,none⟩ v) (xs.set o v) h1 (by simp at hl ⊢;omega)
  have e1:(xs.set o v).take (o + 1)=xs.take o ++ [v]:=by
   rw [List.take_succ_eq_append_getElem (by simp at hl ⊢;omega),List.take_set_of_le (Nat.le_refl _)]
   simp
  have e2:(xs.set o v).drop (o + 1 + vs.length)=xs.drop (o + (v :: vs).length):=by
   rw [List.drop_set_of_lt (by omega)]
   simp only [List.length_cons]
   congr 1
   omega
  rw [e1,e2] at h2
  simpa [World.setCells] using h2
theorem one5X (M:Iv):∀ u ∈ Iv.cs M,u.oneCell'=true:=by
 intro u hu
 simp [Iv.cs] at hu
 rcases hu with rfl | rfl | rfl | rfl | rfl <;> rfl
theorem size49:(Tryz.prog.info? 70).map (·.size)=some 2:=by kernel_rfl
theorem size51:(Tryz.prog.info? 86).map (·.size)=some 5:=by kernel_rfl
theorem Chs.setCells {A:Nat→Prop} {b:Nat} (hA:A b):∀ (vs:List Value) (o:Nat) (w w':World),Chs A w w'→Chs A w (w'.setCells b o vs)
 | [],_,_,_,h=>h
 | v :: vs,o,w,w',h=>Chs.setCells hA vs (o + 1) w _ (h.set (a:=⟨b,o,none⟩) hA v)
inductive Kx where
 | t (f:Bool)
 | e (f:Bool) (i:Nat)
def Kx.ok (cnt:Bool→Nat):Kx→Prop
 | .t _=>True
 | .e f i=>i < cnt f
def bkX (T:Bool→Value) (V:Bool→Nat→Value):Kx→Option Nat
 | .t f=>(T f).ownBlock
 | .e f i=>(V f i).ownBlock
def et (f:Bool):TypeId:=if f then 22 else 44
def ct (f:Bool):TypeId:=if f then 70 else 86
def cz (f:Bool):Nat:=if f then 2 else 5
theorem cz_pos (f:Bool):0 < cz f:=by cases f <;> decide
structure OS (w:World) (cnt:Bool→Nat) (T:Bool→Value) (V:Bool→Nat→Value) (ln:Bool→Nat→Nat) (X:Bool→Nat→List Value) (Bd:Nat):Prop where
 tb:∀ f,w.ownsRow 0 (et f) 1 (T f) (cnt f) ((List.range (cnt f)).map (V f))
 rw:∀ f i,i < cnt f→w.ownsRow 0 (ct f) (cz f) (V f i) (ln f i) (X f i)
 dd:∀ p q b,p.ok cnt→q.ok cnt→bkX T V p=some b→bkX T V q=some b→p=q
 bd:∀ f i,i < cnt f→ln f i≤Bd
section
variable {w w':World} {cnt:Bool→Nat} {T:Bool→Value} {V:Bool→Nat→Value} {ln:Bool→Nat→Nat} {X:Bool→Nat→List Value} {Bd:Nat}
theorem OS.low (h:OS w cnt T V ln X Bd):∀ p b,p.ok cnt→bkX T V p=some b→b < w.heap.size:=by
 intro p b hp hb
 cases p with
 | t f=>exact ((h.tb f).lt b hb).2
 | e f i=>exact ((h.rw f i hp).lt b hb).2
theorem OS.set (h:OS w cnt T V ln X Bd) (f:Bool) (i:Nat) (hi:i < cnt f) (xs:List Value) (hr:w'.ownsRow 0 (ct f) (cz f) (V f i) (ln f i) xs) (hk:∀ b,(V f i).ownBlock≠some b→w'.heap[b]?=w.heap[b]?) :
  OS w' cnt T V ln (fun g j=>if g=f∧j=i then xs else X g j) Bd:=by
 have hk':∀ p b,p.ok cnt→p≠.e f i→bkX T V p=some b→w'.heap[b]?=w.heap[b]?:=fun p b hp hne hb=>hk b (fun h'=>hne (h.dd p (.e f i) b hp hi hb h'))
 refine ⟨fun g=>row_kept (h.tb g) (fun b hb=>hk' (.t g) b trivial (by intro e;cases e) hb),fun g j hj=>?_,h.dd,h.bd⟩
 by_cases e:g=f∧j=i
 ·obtain ⟨rfl,rfl⟩:=e
  simp only [and_self,if_true]
  exact hr
 ·simp only [if_neg e]
  exact row_kept (h.rw g j hj) (fun b hb=>hk' (.e g j) b hj (by intro e';cases e';exact e ⟨rfl,rfl⟩) hb)
theorem range_set (n i:Nat) (hi:i < n) (F:Nat→Value) (v:Value):((List.range n).map F).set i v=(List.range n).map (fun j=>if j=i then v else F j):=by
 apply List.ext_getElem
 ·simp
 ·intro j h1 h2
  by_cases e:i=j
  ·subst e;simp
  ·rw [List.getElem_set_ne e];simp;intro h;exact absurd h.symm e
theorem OS.grow {wl w3:World} (h:OS w cnt T V ln X Bd) (f:Bool) {g c:Nat} (hT:T f=.slice (some ⟨g,0,none⟩) (cnt f) c) (i:Nat) (hi:i < cnt f) (xs:List Value) (v3:Value)
  (hs:w.heap.size≤wl.heap.size) (hk:∀ b,b < w.heap.size→wl.heap[b]?=w.heap[b]?) (hf:Frm wl w3 (V f i) v3) (hr:w3.ownsRow 0 (ct f) (cz f) v3 (ln f i + 1) xs) :
  OS (w3.setCell ⟨g,i,none⟩ v3) cnt T (fun g' j=>if g'=f∧j=i then v3 else V g' j) (fun g' j=>if g'=f∧j=i then ln f i + 1 else ln g' j) (fun g' j=>if g'=f∧j=i then xs else X g' j) (Bd + 1)∧∀ p b,p.ok cnt→bkX T (fun g' j=>if g'=f∧j=i then v3 else V g' j) p=some b→bkX T V p=some b∨w.heap.size≤b:=by
 have hTg:bkX T V (.t f)=some g:=by simp [bkX,hT,Value.ownBlock]
 have hgl:g < w.heap.size:=h.low (.t f) g trivial hTg
 have hor:∀ p b,p.ok cnt→bkX T (fun g' j=>if g'=f∧j=i then v3 else V g' j) p=some b→bkX T V p=some b∨(p=.e f i∧w.heap.size≤b):=by
  intro p b hp hb
  cases p with
  | t f'=>exact .inl hb
  | e f' j =>
   by_cases e:f'=f∧j=i
   ·obtain ⟨rfl,rfl⟩:=e
    simp only [bkX,and_self,if_true] at hb
    rcases hf.own b hb with h1 | h1
    ·exact .inl h1
    ·exact .inr ⟨rfl,by omega⟩
   ·simp only [bkX,if_neg e] at hb
    exact .inl hb
 have hgi:(V f i).ownBlock≠some g:=fun e=>by have:=h.dd (.t f) (.e f i) g trivial hi hTg e;cases this
 have hold:∀ p b,p.ok cnt→p≠.e f i→p≠.t f→bkX T V p=some b→(w3.setCell ⟨g,i,none⟩ v3).heap[b]?=w.heap[b]?:=fun p b hp h1 h2 hb=>by
  have hbl:=h.low p b hp hb
  exact (Below.heap_setCell _ _ _ _ (fun e=>h2 (h.dd p (.t f) b hp trivial hb (by rw [e];exact hTg)))).trans ((hf.block b (by omega) (fun e=>h1 (h.dd p (.e f i) b hp hi hb e))).trans (hk b hbl))
 have hv3:v3.ownBlock≠some g:=fun e=>by
  rcases hf.own g e with h1 | h1
  ·exact hgi h1
  ·omega
 refine ⟨⟨fun f'=>?_,fun f' j hj=>?_,fun p q b hp hq h1 h2=>?_,fun f' j hj=>?_⟩,fun p b hp hb=>(hor p b hp hb).imp id (fun h=>h.2)⟩
 ·by_cases e:f'=f
  ·subst e
   have hrow:=row_kept (h.tb f') (w':=w3) (fun b hb=>by
    have:b=g:=by have h0:bkX T V (.t f')=some b:=hb;rw [hTg] at h0;exact (Option.some.inj h0).symm
    subst this
    exact (hf.block b (by omega) hgi).trans (hk b hgl))
   rw [hT] at hrow ⊢
   have h2:=row_setC hrow i v3
   rw [range_set _ i hi] at h2
   simpa using h2
  ·have:=row_kept (h.tb f') (w':=w3.setCell ⟨g,i,none⟩ v3) (fun b hb=>hold (.t f') b trivial (by intro e;cases e) (by intro e';cases e';exact e rfl) hb)
   simpa [e] using this
 ·by_cases e:f'=f∧j=i
  ·obtain ⟨rfl,rfl⟩:=e
   simp only [and_self,if_true]
   exact own_setCell hr hv3
  ·simp only [if_neg e]
   exact row_kept (h.rw f' j hj) (fun b hb=>hold (.e f' j) b hj (by intro e';cases e';exact e ⟨rfl,rfl⟩) (by intro e';cases e') hb)
 ·rcases hor p b hp h1 with u | ⟨u1,u2⟩ <;> rcases hor q b hq h2 with v | ⟨v1,v2⟩
  ·exact h.dd p q b hp hq u v
  ·have:=h.low p b hp u;omega
  ·have:=h.low q b hq v;omega
  ·exact u1.trans v1.symm
 ·have:=h.bd f' j hj
  by_cases e:f'=f∧j=i
  ·obtain ⟨rfl,rfl⟩:=e;simp only [and_self,if_true];omega
  ·simp only [if_neg e];omega
theorem OS.at0 (h:OS w cnt T V ln X Bd) (f:Bool) (i:Nat) (hi:i < cnt f):∃ g c,T f=.slice (some ⟨g,0,none⟩) (cnt f) c∧w.cell? ⟨g,i,none⟩=some (V f i):=by
 have hr:=h.tb f
 rcases hr.2 with ⟨_,h0⟩ | ⟨g,cap,cur,e,_⟩
 ·omega
 ·refine ⟨g,cap,e,?_⟩
  rw [e] at hr
  rw [hr.cellAt i (by omega)]
  simp [hi]
end
def mv1 (f:Bool) (i:Nat):List Value:=if f then [.int .i64 (-1 - (i:Int)),.int .i64 0] else Iv.cs (mkI (-1 - (i:Int)))
def mkX (f:Bool) (i m:Nat):List Value:=(List.replicate m (mv1 f i)).flatten
theorem mv1_len (f:Bool) (i:Nat):(mv1 f i).length=cz f:=by cases f <;> rfl
theorem mkX_succ (f:Bool) (i m:Nat):mkX f i (m + 1)=mkX f i m ++ mv1 f i:=by
 unfold mkX
 rw [List.replicate_succ',List.flatten_append]
 simp
theorem mkX_len (f:Bool) (i m:Nat):(mkX f i m).length=m * cz f:=by
 induction m with
 | zero=>simp [mkX]
 | succ m ih=>rw [mkX_succ,List.length_append,ih,mv1_len,Nat.succ_mul]
theorem mkX_at (f:Bool) (i:Nat):∀ (m k:Nat),k < m→(mkX f i m)[k * cz f]?=some (.int .i64 (-1 - (i:Int))):=by
 intro m
 induction m with
 | zero=>intro k h;omega
 | succ m ih =>
  intro k h
  rw [mkX_succ]
  by_cases e:k=m
  ·subst e
   rw [List.getElem?_append_right (by rw [mkX_len];exact Nat.le_refl _),mkX_len,Nat.sub_self]
   cases f <;> rfl
  ·rw [List.getElem?_append_left (by rw [mkX_len];exact Nat.mul_lt_mul_of_pos_right (by omega) (cz_pos f))]
   exact ih k (by omega)
theorem mv1_one (f:Bool) (i:Nat):∀ u ∈ mv1 f i,u.oneCell'=true:=by
 cases f
 ·exact one5X _
 ·intro u hu
  simp [mv1] at hu
  rcases hu with rfl | rfl <;> rfl
theorem take_write {xs vs L:List Value} {o:Nat} (h:xs.take o=L) (hl:o≤xs.length):(xs.take o ++ vs ++ xs.drop (o + vs.length)).take (o + vs.length)=L ++ vs:=by
 rw [List.take_append_of_le_length (by simp;omega),h]
 apply List.take_of_length_le
 rw [List.length_append,← h]
 simp
 omega
theorem neg_i (i:Nat) (hi:i≤10000000):IntKind.i64.wrap (-1 - (i:Int))=-1 - (i:Int):=by simp [IntKind.wrap,IntKind.bits,IntKind.signed];omega
theorem add_one (i:Nat) (hi:i≤100000000):IntKind.i64.wrap ((i:Int) + 1)=(i:Int) + 1:=by simp [IntKind.wrap,IntKind.bits,IntKind.signed];omega
def full (X:Bool→Nat→List Value) (ln:Bool→Nat→Nat) (f:Bool) (k:Nat):Prop:=∀ j,j < k→X f j=mkX f j (ln f j)
def PX (w wq:World) (cnt:Bool→Nat) (T:Bool→Value) (V:Bool→Nat→Value) (Bd:Nat):Prop:=∃ (V':Bool→Nat→Value) (ln':Bool→Nat→Nat),OS wq cnt T V' ln' (fun f j=>mkX f j (ln' f j)) Bd∧∀ p b,p.ok cnt→bkX T V' p=some b→bkX T V p=some b∨w.heap.size≤b

set_option maxRecDepth 100000 in
set_option maxHeartbeats 4000000 in
theorem whole32 {w:World} {m base:Nat} (r1:Option Addr) (r3:Nat) (h:MK w m base 0 []) (hm:base≤m) (hb:base≤w.heap.size) :
  Calls Tryz.prog 54 #[pt m,(CN r1 1 r3).v] w fun e w'=>e=.returned (.tuple #[])∧MK w' m base 4 (Iv.cs ⟨3,1,0,0,none,0,0⟩ ++ Iv.cs ⟨1,2,0,0,r1,1,r3⟩ ++ Iv.cs ⟨3,3,0,1,none,0,0⟩ ++ Iv.cs ⟨5,0,0,0,none,0,0⟩)∧Fr base w w':=by
 obtain ⟨U,hU⟩:∃ U,U=w.alloc (.cells (Array.mk (CN r1 1 r3).cs) 25):=⟨_,rfl⟩
 have hbU:Below w.heap.size w U:=by rw [hU];exact Joins.below_alloc1 w _
 have hQ:BxC U w.heap.size r1 1 r3:=by rw [hU];exact heap_alloc_new w _
 have HF:=hid (Fr.of_below hbU hb)
 have hbU2:base≤U.heap.size:=Nat.le_trans hb hbU.size
 have H1:=step48 3 0 0 none 0 0 (h.below hbU) hm (by omega) hbU2
 have HQ:=hid hQ
 obtain ⟨p,hp⟩:∃ p,p=w.heap.size:=⟨_,rfl⟩
 clear h hbU hQ
 go_enter Tryz.func54,Tryz.ntmps54
 go_upto_region 1 with fail
 rw [← hU,← hp]
 rw [← hp] at HQ
 clear hU hp
 go_upto_region 2 with (go_at_call 93;(with_reducible refine H1.mono ?_);rintro e U1 ⟨rfl,hM,hf⟩;have HM1:=hid hM;have HF1:=hid hf;clear hM hf H1)
 have HQ1:Hid (BxC U1 p r1 1 r3):=HF1.out.blk p _ _ _ HQ.out (by decide) (by decide)
 have hb1:base≤U1.heap.size:=Nat.le_trans hbU2 HF1.out.size
 have H2:=lay49 r1 r3 HM1.out hm (by omega) hb1
 obtain ⟨c0,c1,c2,c3,c4,c5,c6,c7,c8⟩:=ninec HQ1.out
 go_upto_region 3 with (go_at_call 94;(with_reducible refine H2.mono ?_);rintro e U2 ⟨rfl,hM,hf⟩;have HM2:=hid hM;have HF2:=hid hf;clear hM hf H2)
 clear c0 c1 c2 c3 c4 c5 c6 c7 c8
 have hb2:base≤U2.heap.size:=Nat.le_trans hb1 HF2.out.size
 have H3:=step48 3 0 1 none 0 0 HM2.out hm (by omega) hb2
 go_upto_region 4 with (go_at_call 93;(with_reducible refine H3.mono ?_);rintro e U3 ⟨rfl,hM,hf⟩;have HM3:=hid hM;have HF3:=hid hf;clear hM hf H3)
 have hb3:base≤U3.heap.size:=Nat.le_trans hb2 HF3.out.size
 have H4:=add42' ⟨5,0,0,0,none,0,0⟩ HM3.out hm (by omega) hb3
 go_wp2_with (first | (go_at_call 95;(with_reducible refine H4.mono ?_);rintro e U4 ⟨rfl,hM,hf⟩;have HM4:=hid hM;have HF4:=hid hf;clear hM hf H4))
 go_end0
 exact ⟨rfl,by simpa using HM4.out,HF.out.trans (HF1.out.trans (HF2.out.trans (HF3.out.trans HF4.out)))⟩
set_option maxRecDepth 100000 in
set_option maxHeartbeats 4000000 in
theorem newRow31 (w:World):Calls Tryz.prog 53 #[.int .i64 4] w fun e w'=>∃ z1 c,e=.returned (.agg #[.slice z1 0 c])∧w'.ownsRow w.heap.size 86 5 (.slice z1 0 c) 0 []∧Below w.heap.size w w':=by
 have hmk:=make51 4 (by omega) (w.alloc (.cells #[.slice none 0 0] 90))
 have e4:((4:Nat):Int)=4:=rfl
 rw [e4] at hmk
 have hs0:(w.alloc (.cells #[.slice none 0 0] 90)).heap.size=w.heap.size + 1:=by simp
 have hown0:=made_own51 4 (by unfold maxLen;omega) w.heap.size (w.alloc (.cells #[.slice none 0 0] 90)) (by simp)
 rw [hs0] at hmk hown0
 clear hs0 e4
 have hQ:((w.alloc (.cells #[.slice none 0 0] 90)).alloc (.cells (madeCells Z5.cells (4 * 5)) 86)).heap[w.heap.size]?=some (.cells #[.slice none 0 0] 90 (0,0)):=(heap_alloc_old _ _ (by simp)).trans (heap_alloc_new w _)
 have hbV:Below w.heap.size w ((w.alloc (.cells #[.slice none 0 0] 90)).alloc (.cells (madeCells Z5.cells (4 * 5)) 86)):=below_two' w _ _
 obtain ⟨V,hV⟩:∃ V,V=(w.alloc (.cells #[.slice none 0 0] 90)).alloc (.cells (madeCells Z5.cells (4 * 5)) 86):=⟨_,rfl⟩
 rw [← hV] at hmk hown0 hQ hbV
 have f0:=Joins.unfrozen_of_block hQ 0
 have k0:=Joins.cell_of_block hQ 0
 have HQ:=hid hQ
 have HB:=hid hbV
 have HO:=hid hown0
 clear hV hown0 hQ hbV
 go_enter Tryz.func53,Tryz.ntmps53
 go_wp2_with fail
 refine bodyPost_ret (results_cell_row rfl _ _ w.heap.size 90 _ (0,0) _ rfl (Joins.block_setCell (i:=0) HQ.out _) Tryz.underlying90 rfl (by kernel_rfl)) rfl ?_
 exact ⟨some ⟨w.heap.size + 1,0,none⟩,4,rfl,own_setCell HO.out (fun e=>by simp [Value.ownBlock] at e),HB.out.setCell (p:=⟨w.heap.size,0,none⟩) (Nat.le_refl _) _⟩
abbrev CT:Tn:=.mk 2 [(97,97)] 0 [] 0 0 false 0 ⟨#[]⟩
theorem ct_sound:CT.sound=true:=by kernel_rfl
theorem ct_ti {w:World} {r1:Option Addr} {r3:Nat} (h:RowAt w.heap.size w (.slice r1 1 r3) [(97,97)]) (h3:1≤r3∧r3≤maxLen):TI w w.heap.size (CN r1 1 r3) CT:=by
 refine .mk (N:=CN r1 1 r3) (R:=[(97,97)]) (ts:=[]) (ND:=fun _=>default) ⟨(by show I64ok 2;decide),(by show I64ok 0;decide),(by show I64ok 0;decide),(by show I64ok 0;decide),(by show I64ok 0;decide),(by show (ByteArray.mk #[]).size≤maxLen;decide),h3,(by show 0≤0∧0≤maxLen;decide)⟩ rfl (fun hn=>?_) (fun x hx=>by simp at hx;subst hx;decide) rfl (fun hp=>absurd hp (by simp)) (fun i hi=>absurd hi (by simp))
 obtain ⟨ad,cap,e,h1⟩:=h
 simp only [Value.slice.injEq] at e
 obtain ⟨rfl,_,rfl⟩:=e
 rcases h1 with h0 | ⟨b,o,e1,h2,h4,h5⟩
 ·simp at h0
 ·refine ⟨b,o,e1,h2,fun i hi=>?_⟩
  have hi0:i=0:=by simpa using hi
  subst hi0
  exact ⟨h4 0 (by simp),h5 0 (by simp)⟩
abbrev Bz9 (w:World) (b:Nat):Prop:=w.heap[b]?=some (.cells #[.int .i64 0,.slice none 0 0,.int .i64 0,.slice none 0 0,.int .i64 0,.int .i64 0,.bool false,.int .i64 0,.string ⟨#[]⟩] 25 (0,0))
set_option maxRecDepth 100000 in
set_option maxHeartbeats 8000000 in
theorem simplify30 {w:World} {r1:Option Addr} {r3:Nat} (hr:RowAt w.heap.size w (.slice r1 1 r3) [(97,97)]) (h3:1≤r3∧r3≤maxLen) :
  Calls Tryz.prog 52 #[(CN r1 1 r3).v] w fun e w'=>∃ c1 c3,e=.returned (.tuple #[(CN c1 1 c3).v,.int .i64 0])∧w'.ownsRow w.heap.size 70 2 (.slice c1 1 c3) 1 (O2 [(97,97)])∧Below w.heap.size w w':=by
 obtain ⟨U,hU⟩:∃ U,U=(w.alloc (.cells (Array.mk (CN r1 1 r3).cs) 25)).alloc (.cells #[.int .i64 0,.slice none 0 0,.int .i64 0,.slice none 0 0,.int .i64 0,.int .i64 0,.bool false,.int .i64 0,.string ⟨#[]⟩] 25):=⟨_,rfl⟩
 have hbU:Below w.heap.size w U:=by rw [hU];exact below_two' w _ _
 have hX:BxC U w.heap.size r1 1 r3:=by rw [hU];exact (heap_alloc_old _ _ (by simp)).trans (heap_alloc_new w _)
 have hY:Bz9 U (w.heap.size + 1):=by rw [hU];exact two_new w _ _ _
 have hyU:w.heap.size + 1 < U.heap.size:=(Array.getElem?_eq_some_iff.1 hY).1
 have HRU:=hid (hr.below hbU (Nat.le_refl _) hbU.size)
 have HS:=sound29g (ct_ti HRU.out h3)
 rw [if_pos ct_sound] at HS
 have HBU:=hid hbU
 have HX:=hid hX
 have HY:=hid hY
 obtain ⟨y,hy⟩:∃ y,y=w.heap.size + 1:=⟨_,rfl⟩
 obtain ⟨x,hx⟩:∃ x,x=w.heap.size:=⟨_,rfl⟩
 clear hr hbU hX hY
 go_enter Tryz.func52,Tryz.ntmps52
 go_upto_region 1 with fail
 rw [← hU,← hy,← hx]
 rw [← hy] at HY hyU
 rw [← hx] at HX HBU hy
 have HXE:=hid hx
 have hxy:x < y:=by omega
 clear hU hy hx
 obtain ⟨c0,c1,c2,c3,c4,c5,c6,c7,c8⟩:=ninec HX.out
 go_upto_region 3 with (go_at_call 42;(with_reducible refine HS.mono ?_);rintro e U1 ⟨rfl,hb⟩;have HB1:=hid hb;clear hb HS)
 clear c0 c1 c2 c3 c4 c5 c6 c7 c8
 have HX1:Hid (BxC U1 x r1 1 r3):=(HB1.out.block x (by omega)).trans HX.out
 have HF:=form46c r1 1 r3 U1
 obtain ⟨c0,c1,c2,c3,c4,c5,c6,c7,c8⟩:=ninec HX1.out
 go_upto_region 4 with (go_at_call 91;(with_reducible refine HF.mono ?_);rintro e U2 ⟨f,rfl,hf,hl,hb⟩;have HB2:=hid hb;have HFF:=hid hf;clear hb hf hl HF)
 clear c0 c1 c2 c3 c4 c5 c6 c7 c8
 have a10:U2.cell? ⟨f,10,none⟩=some (.int .i64 1):=Joins.cell_of_block HFF.out 10
 have a11:U2.cell? ⟨f,11,none⟩=some (.int .i64 1):=Joins.cell_of_block HFF.out 11
 have HR2:=hid ((HRU.out.below HB1.out (Nat.le_refl _) HB1.out.size).below HB2.out (Nat.le_refl _) HB2.out.size)
 have HC:=built47 HFF.out HR2.out
 have hy2:y < U2.heap.size:=by have:=HB1.out.size;have:=HB2.out.size;omega
 have HY2:Hid (Bz9 U2 y):=(HB2.out.block y (by have:=HB1.out.size;omega)).trans ((HB1.out.block y hyU).trans HY.out)
 have HBx:Hid (Below x w U2):=(HBU.out.trans (Joins.below_le HB1.out (by omega))).trans (Joins.below_le HB2.out (by have:=HB1.out.size;omega))
 go_wp2_with (first | (go_at_call 92;(with_reducible refine HC.mono ?_);rintro e U3 ⟨q1,q3,rfl,hrow,hb⟩;have hY3:=(hb.block y hy2).trans HY2.out;have y0:=Joins.unfrozen_of_block hY3 0;have y1:=Joins.unfrozen_of_block hY3 1;have y2:=Joins.unfrozen_of_block hY3 2;have y3:=Joins.unfrozen_of_block hY3 3;have y4:=Joins.unfrozen_of_block hY3 4;have y5:=Joins.unfrozen_of_block hY3 5;have y6:=Joins.unfrozen_of_block hY3 6;have y7:=Joins.unfrozen_of_block hY3 7;have y8:=Joins.unfrozen_of_block hY3 8;have s0:=Joins.cell_of_block hY3 0;have s1:=Joins.cell_of_block hY3 1;have s2:=Joins.cell_of_block hY3 2;have s3:=Joins.cell_of_block hY3 3;have s4:=Joins.cell_of_block hY3 4;have s5:=Joins.cell_of_block hY3 5;have s6:=Joins.cell_of_block hY3 6;have s7:=Joins.cell_of_block hY3 7;have s8:=Joins.cell_of_block hY3 8;have HY3:=hid hY3;have HROW:=hid hrow;have HB3:=hid hb;clear hY3 hrow hb HC))
 have hfin:=nineSet U3 y (.int .i64 2) (.slice q1 1 q3) (.int .i64 0) (.slice none 0 0) (.int .i64 0) (.int .i64 0) (.bool false) (.int .i64 0) (.string ⟨#[]⟩) HY3.out
 refine bodyPost_ret (results_cell_tmp rfl _ _ y 25 _ (0,0) _ rfl hfin Tryz.underlying25 rfl (by kernel_rfl)) rfl ?_
 have hcy:(Value.slice q1 1 q3).ownBlock≠some y:=fun e=>by have:=(HROW.out.lt y e).1;omega
 refine ⟨q1,q3,rfl,?_,?_⟩
 ·rw [← HXE.out]
  iterate 9 refine own_setCell ?_ hcy
  exact HROW.out.mono (base':=x) (by omega)
 ·rw [← HXE.out]
  iterate 9 refine Below.setCell ?_ (by show x≤y;omega) _
  exact HBx.out.trans (Joins.below_le HB3.out (by omega))

theorem range_map_succ {α:Type} (f:Nat→α) (i:Nat):(List.range (i + 1)).map f=(List.range i).map f ++ [f i]:=by simp [List.range_succ]
end Go.Proofs.YtacaanhnlfpbhaaGreat
