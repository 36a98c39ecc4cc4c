/- HELPERS: texts of ours put together. -/
import Derived.Test.YtacaanhnlfpbhaaGreatK33
import Derived.Test.YtacaanhnlfpbhaaGreatK10
import Derived.Test.YtacaanhnlfpbhaaGreatK02
import Derived.Test.YtacaanhnlfpbhaaGreatK01
import Derived.Deep.SlicePairs
import Derived.RowKit
import Derived.Test.YtacaanhnlfpbhaaGreatProg
import Derived.WalkKit
import Derived.ProofKit
import Derived.BigQuiet
import Derived.WalkSmall
import Derived.Deep.QuietTactic
import Derived.Deep.RegionWith
import Derived.Lib.SmallJoins
import Derived.Lib.MinMax
import Derived.Maps.AppendAt
import Derived.Laws.AppendOwnNone
import Derived.Lib.Small
import Derived.Deep.Cut
import Derived.Deep.CutRange
import Derived.Test.YtacaanhnlfpbhaaGreatK20
import Derived.Test.YtacaanhnlfpbhaaGreatK03
import Derived.Laws.EntriesVeiled
import Derived.Test.YtacaanhnlfpbhaaGreatK04
import Derived.Test.YtacaanhnlfpbhaaGreatK18
import Derived.Deep.Onto
import Derived.Test.YtacaanhnlfpbhaaGreatK24
import Derived.Laws.Rows
namespace Go.Proofs.YtacaanhnlfpbhaaGreat
open Go.RowKit
set_option linter.unusedVariables false
set_option linter.unusedSimpArgs false
theorem info22:(Tryz.prog.info? 44).map (fun i=>(i.zero,i.size,i.bytes))=some (some (.slice none 0 0),1,24):=by kernel_rfl
theorem info36:(Tryz.prog.info? 22).map (fun i=>(i.zero,i.size,i.bytes))=some (some (.slice none 0 0),1,24):=by kernel_rfl
theorem store51m {ops:Array Oper} {rest:List Oper} {op:Oper} {a:Act} {w:World} {Q:Exit→Act→World→Prop} (hgd:op.guard=none) (x y:Operand) (ho:op.op=.store 86 x y)
  (b k i:Nat) (hx:a.eval x=.pointer (some ⟨b,k * 5,none⟩)) (hy:a.eval y=(mkI (-1 - (i:Int))).v) (ht:w.there b (k * 5) 5)
  (h:wpList Tryz.prog ops Q rest (a.put op.dst undef) (w.setCells b (k * 5) (mv1 false i))):wpList Tryz.prog ops Q (op :: rest) a w:=
 wpList_store_mid hgd 86 x y ho b (k * 5) #[.int .i64 (-1 - (i:Int)),.int .i64 0,.int .i64 0,.int .i64 0,.slice none 0 0] hx hy ht size51 (by simp [Value.oneCell']) h
theorem store49m {ops:Array Oper} {rest:List Oper} {op:Oper} {a:Act} {w:World} {Q:Exit→Act→World→Prop} (hgd:op.guard=none) (x y:Operand) (ho:op.op=.store 70 x y)
  (b k i:Nat) (hx:a.eval x=.pointer (some ⟨b,k * 2,none⟩)) (hy:a.eval y=.agg #[.int .i64 (-1 - (i:Int)),.int .i64 0]) (ht:w.there b (k * 2) 2)
  (h:wpList Tryz.prog ops Q rest (a.put op.dst undef) (w.setCells b (k * 2) (mv1 true i))):wpList Tryz.prog ops Q (op :: rest) a w:=
 wpList_store_mid hgd 70 x y ho b (k * 2) #[.int .i64 (-1 - (i:Int)),.int .i64 0] hx hy ht size49 (by simp [Value.oneCell']) h
theorem rows_apart {w:World} {base base' size size' n n':Nat} {e e':TypeId} {v v':Value} {xs xs':List Value} (h:w.ownsRow base e size v n xs) (h':w.ownsRow base' e' size' v' n' xs') (hne:e'≠e):∀ b,v'.ownBlock=some b→v.ownBlock≠some b:=by
 intro b hb
 rcases h'.2 with ⟨rfl,_⟩ | ⟨g,cap,cur,rfl,hg,hc,_⟩
 ·cases hb
 ·simp only [Value.ownBlock,Option.some.injEq] at hb
  subst hb
  exact own_ne h hc hne
theorem OS.bdm {w:World} {cnt:Bool→Nat} {T:Bool→Value} {V:Bool→Nat→Value} {ln:Bool→Nat→Nat} {X:Bool→Nat→List Value} {Bd Bd':Nat} (h:OS w cnt T V ln X Bd) (hb:Bd≤Bd'):OS w cnt T V ln X Bd':=⟨h.tb,h.rw,h.dd,fun f i hi=>Nat.le_trans (h.bd f i hi) hb⟩
theorem PX.bdm {w wq:World} {cnt:Bool→Nat} {T:Bool→Value} {V:Bool→Nat→Value} {Bd Bd':Nat} (h:PX w wq cnt T V Bd) (hb:Bd≤Bd'):PX w wq cnt T V Bd':=by
 obtain ⟨V',ln',h1,h2⟩:=h
 exact ⟨V',ln',h1.bdm hb,h2⟩
abbrev cn (n0 n1:Nat):Bool→Nat:=fun f=>if f then n1 else n0
abbrev T2 (a0 a1:Option Addr) (n0 c0 n1 c1:Nat):Bool→Value:=fun f=>if f then .slice a1 n1 c1 else .slice a0 n0 c0
abbrev KA (n0 n1:Nat) (T:Bool→Value) (V:Bool→Nat→Value):Nat→Prop:=fun b=>∃ p:Kx,p.ok (cn n0 n1)∧bkX T V p=some b
theorem OS.put {w:World} {cnt:Bool→Nat} {T:Bool→Value} {V:Bool→Nat→Value} {ln:Bool→Nat→Nat} {X:Bool→Nat→List Value} {Bd:Nat} (h:OS w cnt T V ln X Bd) (f:Bool) (i:Nat) (hi:i < cnt f) {rb rc:Nat} (hV:V f i=.slice (some ⟨rb,0,none⟩) (ln f i) rc) (k:Nat) (hk:k < ln f i) (h3:(X f i).take (k * cz f)=mkX f i k) :
  w.there rb (k * cz f) (cz f)∧OS (w.setCells rb (k * cz f) (mv1 f i)) cnt T V ln (fun g j=>if g=f∧j=i then (X f i).take (k * cz f) ++ mv1 f i ++ (X f i).drop (k * cz f + (mv1 f i).length) else X g j) Bd∧((X f i).take (k * cz f) ++ mv1 f i ++ (X f i).drop (k * cz f + (mv1 f i).length)).take ((k + 1) * cz f)=mkX f i (k + 1):=by
 have hrow:=h.rw f i hi
 rw [hV] at hrow
 have hl:=hrow.1
 have hm:=mv1_len f i
 have hle:k * cz f + cz f≤ln f i * cz f:=by rw [← Nat.succ_mul];exact Nat.mul_le_mul_right _ hk
 refine ⟨row_there hrow hle,?_,?_⟩
 ·exact h.set (w':=w.setCells rb (k * cz f) (mv1 f i)) f i hi _ (by rw [hV];exact row_setCells (mv1 f i) (k * cz f) w (X f i) hrow (by rw [hm,hl];exact hle)) (fun b hb=>setCells_old rb _ _ _ b (by intro e;apply hb;rw [hV,e];rfl))
 ·have ht:=take_write (vs:=mv1 f i) (o:=k * cz f) h3 (by omega)
  rw [mkX_succ,Nat.succ_mul]
  rw [hm] at ht ⊢
  exact ht
theorem OS.blk {w:World} {cnt:Bool→Nat} {T:Bool→Value} {V:Bool→Nat→Value} {ln:Bool→Nat→Nat} {X:Bool→Nat→List Value} {Bd:Nat} (h:OS w cnt T V ln X Bd) (f:Bool) (i:Nat) (hi:i < cnt f) {ra:Option Addr} {rc:Nat} (hV:V f i=.slice ra (ln f i) rc) (hp:0 < ln f i):∃ rb,ra=some ⟨rb,0,none⟩:=by
 have hrow:=h.rw f i hi
 rw [hV] at hrow
 rcases hrow.2 with ⟨_,e⟩ | ⟨g,cap,cur,e,_⟩
 ·omega
 ·simp only [Value.slice.injEq] at e;exact ⟨g,e.1⟩
theorem OS.shape {w:World} {cnt:Bool→Nat} {T:Bool→Value} {V:Bool→Nat→Value} {ln:Bool→Nat→Nat} {X:Bool→Nat→List Value} {Bd:Nat} (h:OS w cnt T V ln X Bd) (f:Bool) (i:Nat) (hi:i < cnt f):∃ ra rc,V f i=.slice ra (ln f i) rc:=by
 obtain ⟨a,c,e,_⟩:=row_shape (h.rw f i hi)
 exact ⟨a,c,e⟩
theorem gr_blk {w:World} {base n c:Nat} {z1:Option Addr} {MS:List Iv} {l:List In} (h:GR w base (.slice z1 n c) MS l) (hp:0 < n):∃ b,z1=some ⟨b,0,none⟩:=by
 have hn:n=l.length:=row_len h.row
 rcases h.row.2 with ⟨_,h0⟩ | ⟨b,cap,cur,e,_⟩
 ·omega
 ·simp only [Value.slice.injEq] at e;exact ⟨b,e.1⟩
theorem gr_at4 {w:World} {base n c b:Nat} {MS:List Iv} {l:List In} (h:GR w base (.slice (some ⟨b,0,none⟩) n c) MS l) (k:Nat) (hk:k < n):w.cell? ⟨b,k * 5 + 4,none⟩=some (MS.getD k default).rv:=by
 obtain rfl:n=l.length:=row_len h.row
 have hkl:k < MS.length:=by have:=h.lms;omega
 rw [h.row.cellAt (k * 5 + 4) (by omega),flat5 MS k 4 hkl (by omega)]
 simp [List.getD_eq_getElem?_getD,List.getElem?_eq_getElem hkl]
def BK (Za:Nat→Option Addr) (Na Ca:Nat→Nat) (MS:Nat→List Iv) (i b:Nat):Prop:=(Value.slice (Za i) (Na i) (Ca i)).ownBlock=some b∨∃ j,j < Na i∧((MS i).getD j default).rv.ownBlock=some b
structure Prs3 (w:World) (Za:Nat→Option Addr) (Na Ca:Nat→Nat) (MS:Nat→List Iv) (lx:Nat→List In):Prop where
 gr:∀ i,i < 3→GR w 0 (.slice (Za i) (Na i) (Ca i)) (MS i) (lx i)
 sm:∀ i,i < 3→Na i≤20000
 rg:∀ i,i < 3→∀ I ∈ lx i,I.R.length≤20000
 ap:∀ i j b,i < 3→j < 3→i≠j→BK Za Na Ca MS i b→¬ BK Za Na Ca MS j b
def BK3 (Za:Nat→Option Addr) (Na Ca:Nat→Nat) (MS:Nat→List Iv) (b:Nat):Prop:=∃ i,i < 3∧BK Za Na Ca MS i b
def VV (Za:Nat→Option Addr) (Na Ca:Nat→Nat) (MS:Nat→List Iv):Bool→Nat→Value:=fun f j=>if f then (if j < Na 0 then ((MS 0).getD j default).rv else if j < Na 0 + Na 1 then ((MS 1).getD (j - Na 0) default).rv else ((MS 2).getD (j - (Na 0 + Na 1)) default).rv) else .slice (Za j) (Na j) (Ca j)
theorem VV_true {Za:Nat→Option Addr} {Na Ca:Nat→Nat} {MS:Nat→List Iv} (j:Nat) (hj:j < Na 0 + Na 1 + Na 2):∃ i k,i < 3∧k < Na i∧VV Za Na Ca MS true j=((MS i).getD k default).rv∧((i=0∧k=j)∨(i=1∧k + Na 0=j)∨(i=2∧k + (Na 0 + Na 1)=j)):=by
 by_cases h:j < Na 0
 ·exact ⟨0,j,by omega,h,by simp [VV,h],.inl ⟨rfl,rfl⟩⟩
 ·by_cases h':j < Na 0 + Na 1
  ·exact ⟨1,j - Na 0,by omega,by omega,by simp [VV,h,h'],.inr (.inl ⟨rfl,by omega⟩)⟩
  ·exact ⟨2,j - (Na 0 + Na 1),by omega,by omega,by simp [VV,h,h'],.inr (.inr ⟨rfl,by omega⟩)⟩
theorem VV_of {Za:Nat→Option Addr} {Na Ca:Nat→Nat} {MS:Nat→List Iv} (i k:Nat) (hi:i < 3) (hk:k < Na i):VV Za Na Ca MS true ((if i=0 then 0 else if i=1 then Na 0 else Na 0 + Na 1) + k)=((MS i).getD k default).rv:=by
 match i,hi with
 | 0,_=>simp [VV,hk]
 | 1,_ =>
  have e:¬ (Na 0 + k < Na 0):=by omega
  have e':Na 0 + k < Na 0 + Na 1:=by omega
  simp [VV,e,e']
 | 2,_ =>
  have e:¬ (Na 0 + Na 1 + k < Na 0):=by omega
  have e':¬ (Na 0 + Na 1 + k < Na 0 + Na 1):=by omega
  have e2:Na 0 + Na 1 + k - (Na 0 + Na 1)=k:=by omega
  show VV Za Na Ca MS true (Na 0 + Na 1 + k)=_
  unfold VV
  rw [if_pos rfl,if_neg e,if_neg e',e2]
theorem KA_bk {w:World} {Za:Nat→Option Addr} {Na Ca:Nat→Nat} {MS:Nat→List Iv} {T:Bool→Value} {B:Nat} (hT:∀ f b,(T f).ownBlock=some b→B≤b) (b:Nat) (h:KA 3 (Na 0 + Na 1 + Na 2) T (VV Za Na Ca MS) b):(∃ i,i < 3∧BK Za Na Ca MS i b)∨B≤b:=by
 obtain ⟨p,hp,hb⟩:=h
 cases p with
 | t f=>exact .inr (hT f b hb)
 | e f j =>
  cases f with
  | false=>exact .inl ⟨j,hp,.inl hb⟩
  | true =>
   have hj:j < Na 0 + Na 1 + Na 2:=hp
   obtain ⟨i,k,hi,hk,e,h⟩:=VV_true (Za:=Za) (Ca:=Ca) (MS:=MS) j hj
   have hb':(VV Za Na Ca MS true j).ownBlock=some b:=hb
   rw [e] at hb'
   exact .inl ⟨i,hi,.inr ⟨k,hk,hb'⟩⟩
theorem Prs3.os {w W:World} {Za:Nat→Option Addr} {Na Ca:Nat→Nat} {MS:Nat→List Iv} {lx:Nat→List In} (h:Prs3 w Za Na Ca MS lx) (hb:Below w.heap.size w W) {T:Bool→Value} (h0:W.ownsRow w.heap.size 44 1 (T false) 3 ((List.range 3).map (VV Za Na Ca MS false))) (h1:W.ownsRow w.heap.size 22 1 (T true) (Na 0 + Na 1 + Na 2) ((List.range (Na 0 + Na 1 + Na 2)).map (VV Za Na Ca MS true))) :
  ∃ ln X,OS W (cn 3 (Na 0 + Na 1 + Na 2)) T (VV Za Na Ca MS) ln X 20000:=by
 have hlen:∀ i,i < 3→Na i=(lx i).length:=fun i hi=>row_len (h.gr i hi).row
 have hrow:∀ i,i < 3→W.ownsRow 0 86 5 (VV Za Na Ca MS false i) (Na i) ((MS i).flatMap Iv.cs):=fun i hi=>by
  have:=row_kept (h.gr i hi).row (w':=W) (fun b hb'=>hb.block b ((h.gr i hi).row.lt b hb').2)
  rw [← hlen i hi] at this
  exact this
 have hrg:∀ j,j < Na 0 + Na 1 + Na 2→∃ m xs,m≤20000∧W.ownsRow 0 70 2 (VV Za Na Ca MS true j) m xs:=fun j hj=>by
  obtain ⟨i,k,hi,hk,e,_⟩:=VV_true (Za:=Za) (Ca:=Ca) (MS:=MS) j hj
  have hO:=(h.gr i hi).lo k (by rw [← hlen i hi];exact hk)
  rw [e]
  exact ⟨_,_,h.rg i hi _ (List.getElem_mem _),row_kept hO.rr (fun b hb'=>hb.block b (hO.rr.lt b hb').2)⟩
 have hx:∀ j,∃ mx:Nat × List Value,j < Na 0 + Na 1 + Na 2→mx.1≤20000∧W.ownsRow 0 70 2 (VV Za Na Ca MS true j) mx.1 mx.2:=fun j=>by
  by_cases hj:j < Na 0 + Na 1 + Na 2
  ·obtain ⟨m,xs,h1,h2⟩:=hrg j hj
   exact ⟨(m,xs),fun _=>⟨h1,h2⟩⟩
  ·exact ⟨(0,[]),fun h=>absurd h hj⟩
 obtain ⟨F,hF⟩:=Classical.axiomOfChoice hx
 have hBK:∀ f j b,(Kx.e f j).ok (cn 3 (Na 0 + Na 1 + Na 2))→bkX T (VV Za Na Ca MS) (.e f j)=some b→∃ i,i < 3∧BK Za Na Ca MS i b∧(f=false→j=i)∧(f=true→∃ k,k < Na i∧((i=0∧k=j)∨(i=1∧k + Na 0=j)∨(i=2∧k + (Na 0 + Na 1)=j))∧((MS i).getD k default).rv.ownBlock=some b):=fun f j b hp hb'=>by
  cases f with
  | false=>exact ⟨j,hp,.inl hb',fun _=>rfl,(fun h=>by cases h)⟩
  | true =>
   obtain ⟨i,k,hi,hk,e,hh⟩:=VV_true (Za:=Za) (Ca:=Ca) (MS:=MS) j hp
   have hb2:(VV Za Na Ca MS true j).ownBlock=some b:=hb'
   rw [e] at hb2
   exact ⟨i,hi,.inr ⟨k,hk,hb2⟩,(fun h=>by cases h),fun _=>⟨k,hk,hh,hb2⟩⟩
 have hlt:∀ f j b,(Kx.e f j).ok (cn 3 (Na 0 + Na 1 + Na 2))→bkX T (VV Za Na Ca MS) (.e f j)=some b→b < w.heap.size:=fun f j b hp hb'=>by
  obtain ⟨i,hi,hB,_⟩:=hBK f j b hp hb'
  rcases hB with hB | ⟨k,hk,hB⟩
  ·exact ((h.gr i hi).row.lt b hB).2
  ·exact ((h.gr i hi).low k b (by rw [← hlen i hi];exact hk) hB).2
 have hT:∀ f b,(T f).ownBlock=some b→w.heap.size≤b:=fun f b hb'=>by
  cases f with
  | false=>exact (h0.lt b hb').1
  | true=>exact (h1.lt b hb').1
 refine ⟨fun f j=>if f then (F j).1 else Na j,fun f j=>if f then (F j).2 else (MS j).flatMap Iv.cs,⟨fun f=>?_,fun f j hj=>?_,fun p q b hp hq h1' h2'=>?_,fun f j hj=>?_⟩⟩
 ·cases f with
  | false=>exact h0.mono (Nat.zero_le _)
  | true=>exact h1.mono (Nat.zero_le _)
 ·cases f with
  | false=>exact hrow j hj
  | true=>exact (hF j hj).2
 ·cases p with
  | t f =>
   cases q with
   | t g =>
    cases f <;> cases g
    ·rfl
    ·exact absurd h1' (rows_apart h0 h1 (by decide) b h2')
    ·exact absurd h2' (rows_apart h0 h1 (by decide) b h1')
    ·rfl
   | e g j=>have:=hT f b h1';have:=hlt g j b hq h2';omega
  | e f j =>
   cases q with
   | t g=>have:=hT g b h2';have:=hlt f j b hp h1';omega
   | e g j' =>
    obtain ⟨i,hi,hB,u1,u2⟩:=hBK f j b hp h1'
    obtain ⟨i',hi',hB',v1,v2⟩:=hBK g j' b hq h2'
    have hii:i=i':=Classical.byContradiction fun hne=>h.ap i i' b hi hi' hne hB hB'
    subst hii
    cases f <;> cases g
    ·rw [u1 rfl,v1 rfl]
    ·obtain ⟨k',hk',_,hb2⟩:=v2 rfl
     have hj:j=i:=u1 rfl
     have hz:(Value.slice (Za i) (Na i) (Ca i)).ownBlock=some b:=by rw [← hj];exact h1'
     exact absurd hz ((h.gr i hi).lo k' (by rw [← hlen i hi];exact hk') |>.ne b hb2)
    ·obtain ⟨k',hk',_,hb2⟩:=u2 rfl
     have hj:j'=i:=v1 rfl
     have hz:(Value.slice (Za i) (Na i) (Ca i)).ownBlock=some b:=by rw [← hj];exact h2'
     exact absurd hz ((h.gr i hi).lo k' (by rw [← hlen i hi];exact hk') |>.ne b hb2)
    ·obtain ⟨k,hk,hh,hb1⟩:=u2 rfl
     obtain ⟨k',hk',hh',hb2⟩:=v2 rfl
     have hkk:k=k':=Classical.byContradiction fun hne=>(h.gr i hi).pw k k' b (by rw [← hlen i hi];exact hk) (by rw [← hlen i hi];exact hk') hne hb1 hb2
     have:j=j':=by omega
     rw [this]
 ·cases f with
  | false=>exact h.sm j hj
  | true=>exact (hF j hj).1
set_option maxRecDepth 100000 in
set_option maxHeartbeats 32000000 in
theorem own27 {w:World} {g:Nat} {Za:Nat→Option Addr} {Na Ca:Nat→Nat} {MS:Nat→List Iv} {lx:Nat→List In} {SS KK:Nat→Int} (h:Prs3 w Za Na Ca MS lx) (hL:∀ i,i < 3→w.cell? ⟨g,i * 3,none⟩=some (.slice (Za i) (Na i) (Ca i))) (hgl:g < w.heap.size) :
  Calls Tryz.prog 27 #[.slice (some ⟨g,0,none⟩) 3 3] w fun e w'=>e=.returned (.bool true)∧Chs (BK3 Za Na Ca MS) w w':=by
 obtain ⟨i51,hi51,hz510,hz511,hz512⟩:=info_parts info51
 obtain ⟨i49,hi49,hz490,hz491,hz492⟩:=info_parts info49
 obtain ⟨i22,hi22,hz220,hz221,hz222⟩:=info_parts info22
 obtain ⟨i36,hi36,hz360,hz361,hz362⟩:=info_parts info36
 have HT:=hid h
 have HLL:=hid hL
 have s0:=h.sm 0 (by omega)
 have s1:=h.sm 1 (by omega)
 have s2:=h.sm 2 (by omega)
 have hof:∃ of:Nat→Nat,of 0=0∧of 1=Na 0∧of 2=Na 0 + Na 1∧of 3=Na 0 + Na 1 + Na 2:=⟨fun i=>if i=0 then 0 else if i=1 then Na 0 else if i=2 then Na 0 + Na 1 else Na 0 + Na 1 + Na 2,rfl,rfl,rfl,rfl⟩
 obtain ⟨of,of0,of1,of2,of3⟩:=hof
 have HOF:=hid (And.intro of0 (And.intro of1 (And.intro of2 of3)))
 clear h hL of0 of1 of2 of3
 go_enter Tryz.func27,Tryz.ntmps27
 go_wp2_with fail
 go_loopw [3,4,5] (fun u3 u4 y wq=>∃ (i:Nat) (z0 z1:Option Addr) (c0 c1:Nat),u3=.slice z0 i c0∧u4=.slice z1 (of i) c1∧y=.int .i64 (i:Int)∧i≤3∧Hid (wq.ownsRow w.heap.size 44 1 (.slice z0 i c0) i ((List.range i).map (VV Za Na Ca MS false)))∧Hid (wq.ownsRow w.heap.size 22 1 (.slice z1 (of i) c1) (of i) ((List.range (of i)).map (VV Za Na Ca MS true)))∧Hid (Below w.heap.size w wq)) (fun _ _ y _=>3 - (intOf y).toNat)
 case atStart=>exact ⟨0,none,none,0,0,rfl,by rw [HOF.out.1],rfl,by omega,World.ownsRow_nil _ _ _ _,by rw [HOF.out.1];exact World.ownsRow_nil _ _ _ _,Below.refl _ _⟩
 case round =>
  obtain ⟨i,z0,z1,c0,c1,rfl,rfl,rfl,hi,H0,H1,HB⟩:=hrel
  have hWw:w.heap.size≤wr.heap.size:=HB.out.size
  by_cases hil:i < 3
  ·have b1:decide ((i:Int) < 3)=true:=by simp;omega
   have b2:(i:Int) < 3:=by omega
   have ad1:=add_one i (by omega)
   have hNi:=HT.out.sm i hil
   have hofs:of (i + 1)=of i + Na i∧of i≤40000∧of i=(if i=0 then 0 else if i=1 then Na 0 else Na 0 + Na 1):=by
    obtain ⟨o0,o1,o2,o3⟩:=HOF.out
    match i,hil with
    | 0,_=>exact ⟨by show of 1=of 0 + Na 0;omega,by omega,by rw [o0];rfl⟩
    | 1,_=>exact ⟨by show of 2=of 1 + Na 1;omega,by omega,by rw [o1];rfl⟩
    | 2,_=>exact ⟨by show of 3=of 2 + Na 2;omega,by omega,by rw [o2];rfl⟩
   obtain ⟨ho1,ho2,ho3⟩:=hofs
   have m0:wr.cell? ⟨g,i * 3,none⟩=some (.slice (Za i) (Na i) (Ca i)):=(cell_eq (HB.out.block g hgl) _).trans (HLL.out i hil)
   have hgw:g < wr.heap.size:=by omega
   obtain ⟨za,hza⟩:∃ za,za=Za i:=⟨_,rfl⟩
   obtain ⟨na,hna⟩:∃ na,na=Na i:=⟨_,rfl⟩
   obtain ⟨ca,hca⟩:∃ ca,ca=Ca i:=⟨_,rfl⟩
   rw [← hza,← hna,← hca] at m0
   rw [← hna] at ho1 hNi
   have HO6:Hid ((wr.alloc (.cells #[.slice za na ca] 44)).ownsRow w.heap.size 44 1 (.slice z0 i c0) i ((List.range i).map (VV Za Na Ca MS false))):=H0.out.alloc _
   have HL6:Hid ((wr.alloc (.cells #[.slice za na ca] 44)).ownsRow 0 44 1 (.slice (some ⟨wr.heap.size,0,none⟩) 1 1) 1 [.slice za na ca]):=World.ownsRow_lit (base:=0) (e:=44) (size:=1) wr #[.slice za na ca] 1 (Nat.zero_le _) (by unfold maxLen;omega) rfl
   have hone:∀ u ∈ ([.slice za na ca]:List Value),u.oneCell'=true:=fun u hu=>by simp at hu;subst hu;rfl
   have hVi:VV Za Na Ca MS false i=.slice za na ca:=by rw [hza,hna,hca];rfl
   have HVI:=hid hVi
   have HZA:=hid (And.intro hza (And.intro hna hca))
   have HO1:=hid ho1
   have HO3:=hid ho3
   have hbs:w.heap.size≤(wr.alloc (.cells #[.slice za na ca] 44)).heap.size:=by (try simp) <;> omega
   clear hza hna hca hVi ho1 ho3
   go_upto_region 7 with (at_builtin;refine wpList_append_row rfl (.tmp 24) (.tmp 30) 98 rfl w.heap.size 44 i22 (.slice none 0 0) 1 24 Tryz.underlying98 hi22 hz220 hz221 hz222 rfl (by decide) (.slice z0 i c0) i ((List.range i).map (VV Za Na Ca MS false)) rfl HO6.out (.slice (some ⟨wr.heap.size,0,none⟩) 1 1) 1 0 [.slice za na ca] rfl HL6.out (by intro h;omega) hone (by unfold maxLen;omega) (by omega) hbs ?_;intro v7 w7 ho7 hf7 hn7;obtain ⟨x0,d0,rfl,hx0⟩:=row_shape ho7.out;clear hx0 hn7)
   have hz7:wr.heap.size + 1≤w7.heap.size:=by have:=hf7.out.size;simpa using this
   have h07:w7.ownsRow w.heap.size 44 1 (.slice x0 (i + 1) d0) (i + 1) ((List.range (i + 1)).map (VV Za Na Ca MS false)):=by
    rw [range_map_succ,HVI.out]
    exact ho7.out
   have hk7:∀ b,b < wr.heap.size→(Value.slice z0 i c0).ownBlock≠some b→w7.heap[b]?=wr.heap[b]?:=fun b hb hne=>(hf7.out.block b (by (try simp) <;> omega) hne).trans (heap_alloc_old _ _ hb)
   have h17:w7.ownsRow w.heap.size 22 1 (.slice z1 (of i + 0) c1) (of i + 0) ((List.range (of i + 0)).map (VV Za Na Ca MS true)):=row_kept H1.out (fun b hb=>hk7 b (H1.out.lt b hb).2 (rows_apart H0.out H1.out (by decide) b hb))
   have hB7:Below w.heap.size w w7:=⟨hf7.out.os.trans HB.out.os,hf7.out.tape.trans HB.out.tape,hf7.out.output.trans HB.out.output,by omega,fun b hb=>(hk7 b (by omega) (fun h=>by have:=(H0.out.lt b h).1;omega)).trans (HB.out.block b hb)⟩
   have H07:=hid h07
   have H17:=hid h17
   have HB7:=hid hB7
   clear h07 h17 hB7 hk7 H0 H1 HB ho7 hf7 m0 HO6 HL6 hone hbs
   go_wp2_with fail
   go_loopw [4,6] (fun u4 y wq=>∃ (k:Nat) (z1:Option Addr) (c1:Nat),u4=.slice z1 (of i + k) c1∧y=.int .i64 (k:Int)∧k≤na∧Hid (wq.ownsRow w.heap.size 44 1 (.slice x0 (i + 1) d0) (i + 1) ((List.range (i + 1)).map (VV Za Na Ca MS false)))∧Hid (wq.ownsRow w.heap.size 22 1 (.slice z1 (of i + k) c1) (of i + k) ((List.range (of i + k)).map (VV Za Na Ca MS true)))∧Hid (Below w.heap.size w wq)) (fun _ y _=>na - (intOf y).toNat)
   case atStart=>exact ⟨0,z1,c1,rfl,rfl,by omega,H07.out,H17.out,HB7.out⟩
   case round =>
    clear H07 H17 HB7
    obtain ⟨k,z1,c1,rfl,rfl,hk,H0,H1,HB⟩:=hrel
    have hWw':w.heap.size≤wr.heap.size:=HB.out.size
    obtain ⟨eza,ena,eca⟩:=HZA.out
    have m0:wr.cell? ⟨g,i * 3,none⟩=some (.slice za na ca):=by rw [eza,ena,eca];exact (cell_eq (HB.out.block g hgl) _).trans (HLL.out i hil)
    have hgw':g < wr.heap.size:=by omega
    by_cases hkl:k < na
    ·have b3:decide ((k:Int) < (na:Int))=true:=by simp;omega
     have b4:(k:Int) < (na:Int):=by omega
     have ad2:=add_one k (by omega)
     have hGi:=HT.out.gr i hil
     rw [← eza,← ena,← eca] at hGi
     obtain ⟨gb,hgb⟩:=gr_blk hGi (by omega)
     rw [hgb] at hGi m0
     have hgbl:gb < w.heap.size:=(hGi.row.lt gb rfl).2
     have m4:wr.cell? ⟨gb,k * 5 + 4,none⟩=some ((MS i).getD k default).rv:=(cell_eq (HB.out.block gb hgbl) _).trans (gr_at4 hGi k hkl)
     have hVk:VV Za Na Ca MS true (of i + k)=((MS i).getD k default).rv:=by rw [HO3.out];exact VV_of i k hil (by omega)
     obtain ⟨M,hM⟩:∃ M,M=(MS i).getD k default:=⟨_,rfl⟩
     rw [← hM] at m4 hVk
     obtain ⟨op,xx,yy,aa,r1,r2,r3⟩:=M
     have m5:wr.cell? ⟨gb,k * 5 + 4,none⟩=some (.slice r1 r2 r3):=m4
     have hVk':VV Za Na Ca MS true (of i + k)=.slice r1 r2 r3:=hVk
     clear m4 hVk
     have m4:=m5
     have hVk:=hVk'
     clear m5 hVk'
     have HO6:Hid ((wr.alloc (.cells #[.slice r1 r2 r3] 22)).ownsRow w.heap.size 22 1 (.slice z1 (of i + k) c1) (of i + k) ((List.range (of i + k)).map (VV Za Na Ca MS true))):=H1.out.alloc _
     have HL6:Hid ((wr.alloc (.cells #[.slice r1 r2 r3] 22)).ownsRow 0 22 1 (.slice (some ⟨wr.heap.size,0,none⟩) 1 1) 1 [.slice r1 r2 r3]):=World.ownsRow_lit (base:=0) (e:=22) (size:=1) wr #[.slice r1 r2 r3] 1 (Nat.zero_le _) (by unfold maxLen;omega) rfl
     have hone':∀ u ∈ ([.slice r1 r2 r3]:List Value),u.oneCell'=true:=fun u hu=>by simp at hu;subst hu;rfl
     have hbs':w.heap.size≤(wr.alloc (.cells #[.slice r1 r2 r3] 22)).heap.size:=by (try simp) <;> omega
     have HVK:=hid hVk
     have hgbw:gb < wr.heap.size:=by omega
     clear hM hVk hGi eza ena eca
     subst hgb
     go_wp2_with (at_builtin;refine wpList_append_row rfl (.tmp 42) (.tmp 52) 99 rfl w.heap.size 22 i36 (.slice none 0 0) 1 24 Tryz.underlying99 hi36 hz360 hz361 hz362 rfl (by decide) (.slice z1 (of i + k) c1) (of i + k) ((List.range (of i + k)).map (VV Za Na Ca MS true)) rfl HO6.out (.slice (some ⟨wr.heap.size,0,none⟩) 1 1) 1 0 [.slice r1 r2 r3] rfl HL6.out (by intro h;omega) hone' (by unfold maxLen;omega) (by omega) hbs' ?_;intro v7 w7 ho7 hf7 hn7;obtain ⟨x1,d1,rfl,hx1⟩:=row_shape ho7.out;clear hx1 hn7)
     have hk7:∀ b,b < wr.heap.size→(Value.slice z1 (of i + k) c1).ownBlock≠some b→w7.heap[b]?=wr.heap[b]?:=fun b hb hne=>(hf7.out.block b (by (try simp) <;> omega) hne).trans (heap_alloc_old _ _ hb)
     have hz7':wr.heap.size + 1≤w7.heap.size:=by have:=hf7.out.size;simpa using this
     refine ⟨⟨k + 1,x1,d1,rfl,by push_cast;rfl,by omega,row_kept H0.out (fun b hb=>hk7 b (H0.out.lt b hb).2 (rows_apart H1.out H0.out (by decide) b hb)),?_,⟨hf7.out.os.trans HB.out.os,hf7.out.tape.trans HB.out.tape,hf7.out.output.trans HB.out.output,by omega,fun b hb=>(hk7 b (by omega) (fun h=>by have:=(H1.out.lt b h).1;omega)).trans (HB.out.block b hb)⟩⟩,by simp [intOf];omega⟩
     rw [← Nat.add_assoc,range_map_succ,HVK.out]
     exact ho7.out
    ·have b3:decide ((k:Int) < (na:Int))=false:=by simp;omega
     obtain rfl:na=k:=by omega
     clear eza ena eca
     have HO1':=HO1
     go_wp2
     refine ⟨⟨i + 1,x0,z1,d0,c1,rfl,by rw [HO1.out],by push_cast;rfl,by omega,H0.out,by rw [HO1.out];exact H1.out,HB.out⟩,by simp [intOf];omega⟩
  ·have b1:decide ((i:Int) < 3)=false:=by simp;omega
   have hi2:i=3:=by omega
   obtain ⟨o0,o1,o2,o3⟩:=HOF.out
   have hoi:of i=Na 0 + Na 1 + Na 2:=by rw [hi2];exact o3
   rw [hoi] at H1 ⊢
   obtain ⟨g0,hg0⟩:∃ g0,z0=some ⟨g0,0,none⟩:=by
    rcases H0.out.2 with ⟨_,e⟩ | ⟨g',cap,cur,e,_⟩
    ·omega
    ·simp only [Value.slice.injEq] at e;exact ⟨g',e.1⟩
   subst hg0
   have h0':=H0.out
   rw [hi2] at h0'
   obtain ⟨ln,X,hOS⟩:=HT.out.os HB.out (T:=T2 (some ⟨g0,0,none⟩) z1 3 c0 (Na 0 + Na 1 + Na 2) c1) h0' H1.out
   have hTb:∀ f b,(T2 (some ⟨g0,0,none⟩) z1 3 c0 (Na 0 + Na 1 + Na 2) c1 f).ownBlock=some b→w.heap.size≤b:=fun f b hb=>by
    cases f with
    | false=>exact (H0.out.lt b hb).1
    | true=>exact (H1.out.lt b hb).1
   have hfinal:∀ w',Chs (KA 3 (Na 0 + Na 1 + Na 2) (T2 (some ⟨g0,0,none⟩) z1 3 c0 (Na 0 + Na 1 + Na 2) c1) (VV Za Na Ca MS)) wr w'→Chs (BK3 Za Na Ca MS) w w':=fun w' hc =>
    ⟨hc.os.trans HB.out.os,hc.tape.trans HB.out.tape,hc.output.trans HB.out.output,Nat.le_trans HB.out.size hc.size,fun b hb hn=>(hc.block b (by omega) (fun h=>(KA_bk (w:=w) hTb b h).elim hn (by omega))).trans (HB.out.block b hb)⟩
   obtain ⟨V,hVV⟩:∃ V,V=VV Za Na Ca MS:=⟨_,rfl⟩
   obtain ⟨n1,hn1⟩:∃ n1,n1=Na 0 + Na 1 + Na 2:=⟨_,rfl⟩
   obtain ⟨n0,hn0⟩:∃ n0,n0=i:=⟨_,rfl⟩
   have hnn:n1≤60000:=by omega
   have hn02:n0≤3:=by omega
   rw [← hn1] at hOS hfinal ⊢
   rw [← hVV] at hOS hfinal
   rw [← hi2,← hn0] at hOS hfinal
   rw [← hn0]
   have HFINAL:=hid hfinal
   have HS:Hid (∃ X,OS wr (cn n0 n1) (T2 (some ⟨g0,0,none⟩) z1 n0 c0 n1 c1) V ln X 20000∧full X ln false 0):=⟨X,hOS,fun j hj=>by omega⟩
   obtain ⟨w0,hw0⟩:∃ w0,w0=wr:=⟨_,rfl⟩
   obtain ⟨a1,ha1⟩:∃ a1,a1=z1:=⟨_,rfl⟩
   subst ha1
   rw [← hw0] at HFINAL
   have HC:Hid (Chs (KA n0 n1 (T2 (some ⟨g0,0,none⟩) a1 n0 c0 n1 c1) V) w0 wr):=by rw [hw0];exact Chs.refl _ _
   have b1':decide ((n0:Int) < 3)=false:=by simp;omega
   clear hOS hfinal hTb H0 H1 HB HT HLL HOF hVV hn1 hw0 o0 o1 o2 o3 hWw hi hil s0 s1 s2 hgl h0' hoi b1 hi2
   have b1:=b1'
   clear b1' hn0
   go_wp2_with fail
   clear b1
   go_loopw [7] (fun y wq=>∃ i:Nat,y=.int .i64 (i:Int)∧i≤n0∧Hid (∃ X,OS wq (cn n0 n1) (T2 (some ⟨g0,0,none⟩) a1 n0 c0 n1 c1) V ln X 20000∧full X ln false i)∧Hid (Chs (KA n0 n1 (T2 (some ⟨g0,0,none⟩) a1 n0 c0 n1 c1) V) w0 wq)) (fun y _=>n0 - (intOf y).toNat)
   case atStart=>exact ⟨0,rfl,by omega,HS.out,HC.out⟩
   case round =>
    clear HS HC
    obtain ⟨i,rfl,hi,HS,HC⟩:=hrel
    by_cases hil:i < n0
    ·
     have b1:decide ((i:Int) < (n0:Int))=true:=by simp;omega
     have b2:(i:Int) < (n0:Int):=by omega
     have ad1:=add_one i (by omega)
     have ng:=neg_i i (by omega)
     go_wp2_with fail
     obtain ⟨ra,rc,hrv⟩:∃ ra rc,V false i=.slice ra (ln false i) rc:=by obtain ⟨X,h,_⟩:=HS.out;exact h.shape false i hil
     have hbl:ln false i≤20000:=by obtain ⟨X,h,_⟩:=HS.out;exact h.bd false i hil
     have HRV:=hid hrv
     clear hrv
     go_loopw [8] (fun y wq=>∃ k:Nat,y=.int .i64 (k:Int)∧k≤ln false i∧Hid (∃ X,OS wq (cn n0 n1) (T2 (some ⟨g0,0,none⟩) a1 n0 c0 n1 c1) V ln X 20000∧full X ln false i∧(X false i).take (k * 5)=mkX false i k)∧Hid (Chs (KA n0 n1 (T2 (some ⟨g0,0,none⟩) a1 n0 c0 n1 c1) V) w0 wq)) (fun y _=>ln false i - (intOf y).toNat)
     case atStart=>exact ⟨0,rfl,by omega,(by obtain ⟨X,h,h2⟩:=HS.out;exact ⟨X,h,h2,by simp [mkX]⟩),HC.out⟩
     case round =>
      clear HS HC
      obtain ⟨k,rfl,hk,HS,HC⟩:=hrel
      obtain ⟨X,h,h2,h3⟩:=HS.out
      have q0:wr.cell? ⟨g0,i,none⟩=some (.slice ra (ln false i) rc):=by
       obtain ⟨g',c',e,q0⟩:=h.at0 false i hil
       simp only [T2,if_true,Bool.false_eq_true,if_false,Value.slice.injEq,Option.some.injEq,Addr.mk.injEq] at e
       obtain ⟨⟨rfl,_⟩,_⟩:=e
       rw [q0,HRV.out]
      by_cases hkl:k < ln false i
      ·have b3:decide ((k:Int) < (ln false i:Int))=true:=by simp;omega
       have b4:(k:Int) < (ln false i:Int):=by omega
       have ad2:=add_one k (by omega)
       obtain ⟨rb,hrb⟩:=h.blk false i hil HRV.out (by omega)
       subst hrb
       obtain ⟨ht,hnew,htk⟩:=h.put false i hil HRV.out k hkl h3
       have ht':wr.there rb (k * 5) 5:=ht
       have HNEW:=hid hnew
       have HTK:=hid htk
       have H2:=hid h2
       have HPV:=hid h2
       have hcc:=Chs.setCells (A:=KA n0 n1 (T2 (some ⟨g0,0,none⟩) a1 n0 c0 n1 c1) V) (b:=rb) ⟨.e false i,hil,by simp [bkX,HRV.out,Value.ownBlock]⟩ (mv1 false i) (k * 5) w0 wr HC.out
       have HCC:=hid hcc
       clear h h2 h3 ht hnew htk hcc HS
       go_wp2_with ((with_reducible refine store51m rfl (.tmp 77) (.tmp 76) rfl rb k i ?_ ?_ ht' ?_);(rfl);(rfl))
       refine ⟨⟨k + 1,by push_cast;rfl,by omega,⟨_,HNEW.out,fun j hj=>?_,?_⟩,HCC.out⟩,by simp [intOf];omega⟩
       ·have hne:¬ j=i:=by omega
        simp only [hne,and_false,if_false]
        exact H2.out j hj
       ·simp only [and_self,if_true];exact HTK.out
      ·have b3:decide ((k:Int) < (ln false i:Int))=false:=by simp;omega
       obtain rfl:k=ln false i:=by omega
       have hx:X false i=mkX false i (ln false i):=by
        rw [← h3]
        have:(X false i).length=ln false i * 5:=(h.rw false i hil).1
        rw [List.take_of_length_le (by omega)]
       have HFIN:Hid (∃ X,OS wr (cn n0 n1) (T2 (some ⟨g0,0,none⟩) a1 n0 c0 n1 c1) V ln X 20000∧full X ln false (i + 1)):=⟨X,h,fun j hj=>by
        by_cases e:j=i
        ·subst e;exact hx
        ·exact h2 j (by omega)⟩
       clear h h2 h3 hx HS
       go_wp2
       exact ⟨⟨i + 1,by push_cast;rfl,by omega,HFIN.out,HC.out⟩,by simp [intOf];omega⟩
    ·have b1:decide ((i:Int) < (n0:Int))=false:=by simp;omega
     obtain rfl:n0=i:=by omega
     have HS':Hid (∃ X,OS wr (cn n0 n1) (T2 (some ⟨g0,0,none⟩) a1 n0 c0 n1 c1) V ln X 20000∧full X ln false n0∧full X ln true 0):=by
      obtain ⟨X,h,h2⟩:=HS.out
      exact ⟨X,h,h2,fun j hj=>by omega⟩
     clear HS
     have HS:=HS'
     clear HS'
     go_wp2_with fail
     clear b1
     go_loopw [9] (fun y wq=>∃ i:Nat,y=.int .i64 (i:Int)∧i≤n1∧Hid (∃ X,OS wq (cn n0 n1) (T2 (some ⟨g0,0,none⟩) a1 n0 c0 n1 c1) V ln X 20000∧full X ln false n0∧full X ln true i)∧Hid (Chs (KA n0 n1 (T2 (some ⟨g0,0,none⟩) a1 n0 c0 n1 c1) V) w0 wq)) (fun y _=>n1 - (intOf y).toNat)
     case atStart=>exact ⟨0,rfl,by omega,HS.out,HC.out⟩
     case round =>
      clear HS HC
      obtain ⟨i,rfl,hi,HS,HC⟩:=hrel
      by_cases hil:i < n1
      ·obtain ⟨g1,rfl⟩:∃ g1,a1=some ⟨g1,0,none⟩:=by
        obtain ⟨X,h,_⟩:=HS.out
        obtain ⟨g',c',e,_⟩:=h.at0 true i hil
        simp only [T2,if_true,Value.slice.injEq] at e
        exact ⟨g',e.1⟩
       have b1:decide ((i:Int) < (n1:Int))=true:=by simp;omega
       have b2:(i:Int) < (n1:Int):=by omega
       have ad1:=add_one i (by omega)
       have ng:=neg_i i (by omega)
       go_wp2_with fail
       obtain ⟨ra,rc,hrv⟩:∃ ra rc,V true i=.slice ra (ln true i) rc:=by obtain ⟨X,h,_⟩:=HS.out;exact h.shape true i hil
       have hbl:ln true i≤20000:=by obtain ⟨X,h,_⟩:=HS.out;exact h.bd true i hil
       have HRV:=hid hrv
       clear hrv
       go_loopw [10] (fun y wq=>∃ k:Nat,y=.int .i64 (k:Int)∧k≤ln true i∧Hid (∃ X,OS wq (cn n0 n1) (T2 (some ⟨g0,0,none⟩) (some ⟨g1,0,none⟩) n0 c0 n1 c1) V ln X 20000∧full X ln false n0∧full X ln true i∧(X true i).take (k * 2)=mkX true i k)∧Hid (Chs (KA n0 n1 (T2 (some ⟨g0,0,none⟩) (some ⟨g1,0,none⟩) n0 c0 n1 c1) V) w0 wq)) (fun y _=>ln true i - (intOf y).toNat)
       case atStart=>exact ⟨0,rfl,by omega,(by obtain ⟨X,h,hpv,h2⟩:=HS.out;exact ⟨X,h,hpv,h2,by simp [mkX]⟩),HC.out⟩
       case round =>
        clear HS HC
        obtain ⟨k,rfl,hk,HS,HC⟩:=hrel
        obtain ⟨X,h,hpv,h2,h3⟩:=HS.out
        have q0:wr.cell? ⟨g1,i,none⟩=some (.slice ra (ln true i) rc):=by
         obtain ⟨g',c',e,q0⟩:=h.at0 true i hil
         simp only [T2,if_true,Bool.false_eq_true,if_false,Value.slice.injEq,Option.some.injEq,Addr.mk.injEq] at e
         obtain ⟨⟨rfl,_⟩,_⟩:=e
         rw [q0,HRV.out]
        by_cases hkl:k < ln true i
        ·have b3:decide ((k:Int) < (ln true i:Int))=true:=by simp;omega
         have b4:(k:Int) < (ln true i:Int):=by omega
         have ad2:=add_one k (by omega)
         obtain ⟨rb,hrb⟩:=h.blk true i hil HRV.out (by omega)
         subst hrb
         obtain ⟨ht,hnew,htk⟩:=h.put true i hil HRV.out k hkl h3
         have ht':wr.there rb (k * 2) 2:=ht
         have HNEW:=hid hnew
         have HTK:=hid htk
         have H2:=hid h2
         have HPV:=hid hpv
         have hcc:=Chs.setCells (A:=KA n0 n1 (T2 (some ⟨g0,0,none⟩) (some ⟨g1,0,none⟩) n0 c0 n1 c1) V) (b:=rb) ⟨.e true i,hil,by simp [bkX,HRV.out,Value.ownBlock]⟩ (mv1 true i) (k * 2) w0 wr HC.out
         have HCC:=hid hcc
         clear h h2 h3 hpv ht hnew htk hcc HS
         go_wp2_with ((with_reducible refine store49m rfl (.tmp 101) (.tmp 100) rfl rb k i ?_ ?_ ht' ?_);(rfl);(rfl))
         refine ⟨⟨k + 1,by push_cast;rfl,by omega,⟨_,HNEW.out,(fun j hj=>by simp only [Bool.false_eq_true,false_and,if_false];exact HPV.out j hj),fun j hj=>?_,?_⟩,HCC.out⟩,by simp [intOf];omega⟩
         ·have hne:¬ j=i:=by omega
          simp only [hne,and_false,if_false]
          exact H2.out j hj
         ·simp only [and_self,if_true];exact HTK.out
        ·have b3:decide ((k:Int) < (ln true i:Int))=false:=by simp;omega
         obtain rfl:k=ln true i:=by omega
         have hx:X true i=mkX true i (ln true i):=by
          rw [← h3]
          have:(X true i).length=ln true i * 2:=(h.rw true i hil).1
          rw [List.take_of_length_le (by omega)]
         have HFIN:Hid (∃ X,OS wr (cn n0 n1) (T2 (some ⟨g0,0,none⟩) (some ⟨g1,0,none⟩) n0 c0 n1 c1) V ln X 20000∧full X ln false n0∧full X ln true (i + 1)):=⟨X,h,hpv,fun j hj=>by
          by_cases e:j=i
          ·subst e;exact hx
          ·exact h2 j (by omega)⟩
         clear h h2 h3 hx HS hpv
         go_wp2
         exact ⟨⟨i + 1,by push_cast;rfl,by omega,HFIN.out,HC.out⟩,by simp [intOf];omega⟩
      ·have b1:decide ((i:Int) < (n1:Int))=false:=by simp;omega
       obtain rfl:n1=i:=by omega
       have HPX:Hid (PX w0 wr (cn n0 n1) (T2 (some ⟨g0,0,none⟩) a1 n0 c0 n1 c1) V (20000 + 60010 * 0)):=by
        obtain ⟨X,h,hpv,h2⟩:=HS.out
        refine ⟨V,ln,⟨h.tb,fun f j hj=>?_,h.dd,h.bd⟩,fun p b _ hb=>.inl hb⟩
        cases f with
        | false=>have:=h.rw false j hj;rw [hpv j hj] at this;exact this
        | true=>have:=h.rw true j hj;rw [h2 j hj] at this;exact this
       clear HS
       go_wp2_with fail
       clear b1
       go_loopw [11] (fun y wq=>∃ r:Nat,y=.int .i64 (r:Int)∧r≤5∧Hid (PX w0 wq (cn n0 n1) (T2 (some ⟨g0,0,none⟩) a1 n0 c0 n1 c1) V (20000 + 60010 * r))∧Hid (Chs (KA n0 n1 (T2 (some ⟨g0,0,none⟩) a1 n0 c0 n1 c1) V) w0 wq)) (fun y _=>5 - (intOf y).toNat)
       case atStart=>exact ⟨0,rfl,by omega,HPX.out,HC.out⟩
       case round =>
        clear HPX HC
        obtain ⟨r,rfl,hr,HPX,HC⟩:=hrel
        by_cases hrl:r < 5
        ·have b1:decide ((r:Int) < 5)=true:=by simp;omega
         have adr:=add_one r (by omega)
         go_wp2_with fail
         clear b1
         go_loopw [12] (fun y wq=>∃ i:Nat,y=.int .i64 (i:Int)∧i≤n0∧Hid (PX w0 wq (cn n0 n1) (T2 (some ⟨g0,0,none⟩) a1 n0 c0 n1 c1) V (20000 + 60010 * r + i))∧Hid (Chs (KA n0 n1 (T2 (some ⟨g0,0,none⟩) a1 n0 c0 n1 c1) V) w0 wq)) (fun y _=>n0 - (intOf y).toNat)
         case atStart=>exact ⟨0,rfl,by omega,HPX.out,HC.out⟩
         case round =>
          clear HPX HC
          obtain ⟨i,rfl,hi,HPX,HC⟩:=hrel
          by_cases hil:i < n0
          ·
           have b1:decide ((i:Int) < (n0:Int))=true:=by simp;omega
           have b2:(i:Int) < (n0:Int):=by omega
           have ad1:=add_one i (by omega)
           have ng:=neg_i i (by omega)
           obtain ⟨V',ln',h,hor⟩:=HPX.out
           obtain ⟨ra,rc,hrv⟩:=h.shape false i hil
           have hbl:=h.bd false i hil
           have q0:wr.cell? ⟨g0,i,none⟩=some (.slice ra (ln' false i) rc):=by
            obtain ⟨g',c',e,q0⟩:=h.at0 false i hil
            simp only [T2,if_true,Bool.false_eq_true,if_false,Value.slice.injEq,Option.some.injEq,Addr.mk.injEq] at e
            obtain ⟨⟨rfl,_⟩,_⟩:=e
            rw [q0,hrv]
           have hg0:g0 < wr.heap.size:=h.low (.t false) g0 trivial rfl
           have hgi:(Value.slice ra (ln' false i) rc).ownBlock≠some g0:=fun e=>by have:=h.dd (.t false) (.e false i) g0 trivial hil rfl (by simp only [bkX];rw [hrv];exact e);cases this
           have hfz:wr.frozen? ⟨g0,i,none⟩=false:=by
            have htb:wr.ownsRow 0 44 1 (.slice (some ⟨g0,0,none⟩) n0 c0) n0 ((List.range n0).map (V' false)):=h.tb false
            exact (row_there htb (j:=i) (m:=1) (by omega) 0 (by omega)).2
           have hrow:wr.ownsRow 0 86 5 (.slice ra (ln' false i) rc) (ln' false i) (mkX false i (ln' false i)):=by have:=h.rw false i hil;rw [hrv] at this;exact this
           obtain ⟨m,hm⟩:∃ m,m=ln' false i:=⟨_,rfl⟩
           rw [← hm] at q0 hgi hrow hbl
           have HR0:Hid ((wr.alloc (.cells #[.int .i64 (-1 - (i:Int)),.int .i64 0,.int .i64 0,.int .i64 0,.slice none 0 0] 86)).ownsRow 0 86 5 (.slice ra m rc) m (mkX false i m)):=hrow.alloc _
           have HL0:Hid ((wr.alloc (.cells #[.int .i64 (-1 - (i:Int)),.int .i64 0,.int .i64 0,.int .i64 0,.slice none 0 0] 86)).ownsRow 0 86 5 (.slice (some ⟨wr.heap.size,0,none⟩) 1 1) 1 (mv1 false i)):=World.ownsRow_lit (base:=0) (e:=86) (size:=5) wr #[.int .i64 (-1 - (i:Int)),.int .i64 0,.int .i64 0,.int .i64 0,.slice none 0 0] 1 (Nat.zero_le _) (by unfold maxLen;omega) rfl
           have HH:=hid h
           have HOR:=hid hor
           have HRV:=hid hrv
           have HME:=hid hm
           clear h hor hrv hm hrow HPX
           go_wp2_with (at_builtin;refine wpList_append_row rfl (.tmp 117) (.tmp 121) 44 rfl 0 86 i51 Z5 5 56 Tryz.underlying44 hi51 hz510 hz511 hz512 rfl (by decide) (.slice ra m rc) m (mkX false i m) rfl HR0.out (.slice (some ⟨wr.heap.size,0,none⟩) 1 1) 1 0 (mv1 false i) rfl HL0.out (by intro h;omega) (mv1_one _ _) (by unfold maxLen;omega) (by omega) (Nat.zero_le _) ?_;intro v3 w3 ho3 hf3 hn3;obtain ⟨y1,y3,rfl,hy3⟩:=row_shape ho3.out;have e2:w3.heap[g0]?=wr.heap[g0]?:=(hf3.out.block g0 (by (try simp) <;> omega) hgi).trans (heap_alloc_old _ _ hg0);have p1:=(cell_eq e2 i).trans q0;have p2:=(frz_eq e2 i).trans hfz;clear e2 hy3 hn3)
           have hwl:∀ b,b < wr.heap.size→(wr.alloc (.cells #[.int .i64 (-1 - (i:Int)),.int .i64 0,.int .i64 0,.int .i64 0,.slice none 0 0] 86)).heap[b]?=wr.heap[b]?:=fun b hb=>heap_alloc_old _ _ hb
           have hfr:Frm (wr.alloc (.cells #[.int .i64 (-1 - (i:Int)),.int .i64 0,.int .i64 0,.int .i64 0,.slice none 0 0] 86)) w3 (V' false i) (.slice y1 (m + 1) y3):=by rw [HRV.out,← HME.out];exact hf3.out
           obtain ⟨s1,s2⟩:=HH.out.grow false (g:=g0) (c:=c0) rfl i hil (mkX false i (m + 1)) (.slice y1 (m + 1) y3) (by simp) hwl hfr (by rw [← HME.out,mkX_succ];exact ho3.out)
           have hor:∀ b,(V' false i).ownBlock=some b→KA n0 n1 (T2 (some ⟨g0,0,none⟩) a1 n0 c0 n1 c1) V b∨w0.heap.size≤b:=fun b hb=>(HOR.out (.e false i) b hil hb).imp (fun h=>⟨.e false i,hil,h⟩) id
           have hsz3:wr.heap.size + 1≤w3.heap.size:=by have:=hf3.out.size;simpa using this
           refine ⟨⟨i + 1,by push_cast;rfl,by omega,⟨_,_,⟨s1.tb,fun f' j hj=>?_,s1.dd,fun f' j hj=>(by have:=s1.bd f' j hj;omega)⟩,fun p b hp hb=>?_⟩,⟨hf3.out.os.trans HC.out.os,hf3.out.tape.trans HC.out.tape,hf3.out.output.trans HC.out.output,by have:=HC.out.size;simp [World.setCell];omega,fun b hb hn=>?_⟩⟩,by simp [intOf];omega⟩
           ·have:=s1.rw f' j hj
            by_cases e:f'=false∧j=i
            ·obtain ⟨rfl,rfl⟩:=e
             simp only [and_self,if_true] at this ⊢
             rw [← HME.out] at this ⊢
             exact this
            ·simp only [if_neg e] at this ⊢
             exact this
           ·rcases s2 p b hp hb with h1 | h1
            ·exact HOR.out p b hp h1
            ·right;have:=HC.out.size;omega
           ·have hbr:b < wr.heap.size:=by have:=HC.out.size;omega
            exact (Below.heap_setCell _ _ _ _ (fun e=>hn ⟨.t false,trivial,by rw [e];rfl⟩)).trans ((hfr.block b (by (try simp) <;> omega) (fun h=>(hor b h).elim hn (by omega))).trans ((hwl b hbr).trans (HC.out.block b hb hn)))
          ·have b1:decide ((i:Int) < (n0:Int))=false:=by simp;omega
           obtain rfl:n0=i:=by omega
           go_wp2_with fail
           clear b1
           go_loopw [13] (fun y wq=>∃ i:Nat,y=.int .i64 (i:Int)∧i≤n1∧Hid (PX w0 wq (cn n0 n1) (T2 (some ⟨g0,0,none⟩) a1 n0 c0 n1 c1) V (20000 + 60010 * r + n0 + i))∧Hid (Chs (KA n0 n1 (T2 (some ⟨g0,0,none⟩) a1 n0 c0 n1 c1) V) w0 wq)) (fun y _=>n1 - (intOf y).toNat)
           case atStart=>exact ⟨0,rfl,by omega,HPX.out,HC.out⟩
           case round =>
            clear HPX HC
            obtain ⟨i,rfl,hi,HPX,HC⟩:=hrel
            by_cases hil:i < n1
            ·obtain ⟨g1,rfl⟩:∃ g1,a1=some ⟨g1,0,none⟩:=by
              obtain ⟨_,_,h,_⟩:=HPX.out
              obtain ⟨g',c',e,_⟩:=h.at0 true i hil
              simp only [T2,if_true,Value.slice.injEq] at e
              exact ⟨g',e.1⟩
             have b1:decide ((i:Int) < (n1:Int))=true:=by simp;omega
             have b2:(i:Int) < (n1:Int):=by omega
             have ad1:=add_one i (by omega)
             have ng:=neg_i i (by omega)
             obtain ⟨V',ln',h,hor⟩:=HPX.out
             obtain ⟨ra,rc,hrv⟩:=h.shape true i hil
             have hbl:=h.bd true i hil
             have q0:wr.cell? ⟨g1,i,none⟩=some (.slice ra (ln' true i) rc):=by
              obtain ⟨g',c',e,q0⟩:=h.at0 true i hil
              simp only [T2,if_true,Bool.false_eq_true,if_false,Value.slice.injEq,Option.some.injEq,Addr.mk.injEq] at e
              obtain ⟨⟨rfl,_⟩,_⟩:=e
              rw [q0,hrv]
             have hg0:g1 < wr.heap.size:=h.low (.t true) g1 trivial rfl
             have hgi:(Value.slice ra (ln' true i) rc).ownBlock≠some g1:=fun e=>by have:=h.dd (.t true) (.e true i) g1 trivial hil rfl (by simp only [bkX];rw [hrv];exact e);cases this
             have hfz:wr.frozen? ⟨g1,i,none⟩=false:=by
              have htb:wr.ownsRow 0 22 1 (.slice (some ⟨g1,0,none⟩) n1 c1) n1 ((List.range n1).map (V' true)):=h.tb true
              exact (row_there htb (j:=i) (m:=1) (by omega) 0 (by omega)).2
             have hrow:wr.ownsRow 0 70 2 (.slice ra (ln' true i) rc) (ln' true i) (mkX true i (ln' true i)):=by have:=h.rw true i hil;rw [hrv] at this;exact this
             obtain ⟨m,hm⟩:∃ m,m=ln' true i:=⟨_,rfl⟩
             rw [← hm] at q0 hgi hrow hbl
             have HR0:Hid ((wr.alloc (.cells #[.int .i64 (-1 - (i:Int)),.int .i64 0] 70)).ownsRow 0 70 2 (.slice ra m rc) m (mkX true i m)):=hrow.alloc _
             have HL0:Hid ((wr.alloc (.cells #[.int .i64 (-1 - (i:Int)),.int .i64 0] 70)).ownsRow 0 70 2 (.slice (some ⟨wr.heap.size,0,none⟩) 1 1) 1 (mv1 true i)):=World.ownsRow_lit (base:=0) (e:=70) (size:=2) wr #[.int .i64 (-1 - (i:Int)),.int .i64 0] 1 (Nat.zero_le _) (by unfold maxLen;omega) rfl
             have HH:=hid h
             have HOR:=hid hor
             have HRV:=hid hrv
             have HME:=hid hm
             clear h hor hrv hm hrow HPX
             go_wp2_with (at_builtin;refine wpList_append_row rfl (.tmp 135) (.tmp 139) 22 rfl 0 70 i49 (.agg #[.int .i64 0,.int .i64 0]) 2 16 Tryz.underlying22 hi49 hz490 hz491 hz492 rfl (by decide) (.slice ra m rc) m (mkX true i m) rfl HR0.out (.slice (some ⟨wr.heap.size,0,none⟩) 1 1) 1 0 (mv1 true i) rfl HL0.out (by intro h;omega) (mv1_one _ _) (by unfold maxLen;omega) (by omega) (Nat.zero_le _) ?_;intro v3 w3 ho3 hf3 hn3;obtain ⟨y1,y3,rfl,hy3⟩:=row_shape ho3.out;have e2:w3.heap[g1]?=wr.heap[g1]?:=(hf3.out.block g1 (by (try simp) <;> omega) hgi).trans (heap_alloc_old _ _ hg0);have p1:=(cell_eq e2 i).trans q0;have p2:=(frz_eq e2 i).trans hfz;clear e2 hy3 hn3)
             have hwl:∀ b,b < wr.heap.size→(wr.alloc (.cells #[.int .i64 (-1 - (i:Int)),.int .i64 0] 70)).heap[b]?=wr.heap[b]?:=fun b hb=>heap_alloc_old _ _ hb
             have hfr:Frm (wr.alloc (.cells #[.int .i64 (-1 - (i:Int)),.int .i64 0] 70)) w3 (V' true i) (.slice y1 (m + 1) y3):=by rw [HRV.out,← HME.out];exact hf3.out
             obtain ⟨s1,s2⟩:=HH.out.grow true (g:=g1) (c:=c1) rfl i hil (mkX true i (m + 1)) (.slice y1 (m + 1) y3) (by simp) hwl hfr (by rw [← HME.out,mkX_succ];exact ho3.out)
             have hor:∀ b,(V' true i).ownBlock=some b→KA n0 n1 (T2 (some ⟨g0,0,none⟩) (some ⟨g1,0,none⟩) n0 c0 n1 c1) V b∨w0.heap.size≤b:=fun b hb=>(HOR.out (.e true i) b hil hb).imp (fun h=>⟨.e true i,hil,h⟩) id
             have hsz3:wr.heap.size + 1≤w3.heap.size:=by have:=hf3.out.size;simpa using this
             refine ⟨⟨i + 1,by push_cast;rfl,by omega,⟨_,_,⟨s1.tb,fun f' j hj=>?_,s1.dd,fun f' j hj=>(by have:=s1.bd f' j hj;omega)⟩,fun p b hp hb=>?_⟩,⟨hf3.out.os.trans HC.out.os,hf3.out.tape.trans HC.out.tape,hf3.out.output.trans HC.out.output,by have:=HC.out.size;simp [World.setCell];omega,fun b hb hn=>?_⟩⟩,by simp [intOf];omega⟩
             ·have:=s1.rw f' j hj
              by_cases e:f'=true∧j=i
              ·obtain ⟨rfl,rfl⟩:=e
               simp only [and_self,if_true] at this ⊢
               rw [← HME.out] at this ⊢
               exact this
              ·simp only [if_neg e] at this ⊢
               exact this
             ·rcases s2 p b hp hb with h1 | h1
              ·exact HOR.out p b hp h1
              ·right;have:=HC.out.size;omega
             ·have hbr:b < wr.heap.size:=by have:=HC.out.size;omega
              exact (Below.heap_setCell _ _ _ _ (fun e=>hn ⟨.t true,trivial,by rw [e];rfl⟩)).trans ((hfr.block b (by (try simp) <;> omega) (fun h=>(hor b h).elim hn (by omega))).trans ((hwl b hbr).trans (HC.out.block b hb hn)))
            ·have b1:decide ((i:Int) < (n1:Int))=false:=by simp;omega
             obtain rfl:n1=i:=by omega
             go_wp2
             exact ⟨⟨r + 1,by push_cast;rfl,by omega,HPX.out.bdm (by omega),HC.out⟩,by simp [intOf];omega⟩
        ·have b1:decide ((r:Int) < 5)=false:=by simp;omega
         obtain ⟨V',ln',h,hor⟩:=HPX.out
         have HST:=hid (h.bdm (Bd':=400000) (by omega))
         clear h hor HPX
         go_wp2_with fail
         clear b1
         go_loopw [14] (fun y wq=>∃ i:Nat,y=.int .i64 (i:Int)∧i≤n0∧Hid (OS wq (cn n0 n1) (T2 (some ⟨g0,0,none⟩) a1 n0 c0 n1 c1) V' ln' (fun f j=>mkX f j (ln' f j)) 400000)∧Hid (Chs (KA n0 n1 (T2 (some ⟨g0,0,none⟩) a1 n0 c0 n1 c1) V) w0 wq)) (fun y _=>n0 - (intOf y).toNat)
         case atStart=>exact ⟨0,rfl,by omega,HST.out,HC.out⟩
         case round =>
          clear HST HC
          obtain ⟨i,rfl,hi,HST,HC⟩:=hrel
          by_cases hil:i < n0
          ·
           have b1:decide ((i:Int) < (n0:Int))=true:=by simp;omega
           have b2:(i:Int) < (n0:Int):=by omega
           have ad1:=add_one i (by omega)
           have ng:=neg_i i (by omega)
           go_wp2_with fail
           obtain ⟨ra,rc,hrv⟩:=HST.out.shape false i hil
           have hbl:=HST.out.bd false i hil
           have HRV:=hid hrv
           clear hrv
           go_loopw [15] (fun y wq=>∃ k:Nat,y=.int .i64 (k:Int)∧k≤ln' false i∧Hid (OS wq (cn n0 n1) (T2 (some ⟨g0,0,none⟩) a1 n0 c0 n1 c1) V' ln' (fun f j=>mkX f j (ln' f j)) 400000)∧Hid (Chs (KA n0 n1 (T2 (some ⟨g0,0,none⟩) a1 n0 c0 n1 c1) V) w0 wq)) (fun y _=>ln' false i - (intOf y).toNat)
           case atStart=>exact ⟨0,rfl,by omega,HST.out,HC.out⟩
           case round =>
            clear HST HC
            obtain ⟨k,rfl,hk,HST,HC⟩:=hrel
            have q0:wr.cell? ⟨g0,i,none⟩=some (.slice ra (ln' false i) rc):=by
             obtain ⟨g',c',e,q0⟩:=HST.out.at0 false i hil
             simp only [T2,if_true,Bool.false_eq_true,if_false,Value.slice.injEq,Option.some.injEq,Addr.mk.injEq] at e
             obtain ⟨⟨rfl,_⟩,_⟩:=e
             rw [q0,HRV.out]
            by_cases hkl:k < ln' false i
            ·have b3:decide ((k:Int) < (ln' false i:Int))=true:=by simp;omega
             have b4:(k:Int) < (ln' false i:Int):=by omega
             have ad2:=add_one k (by omega)
             obtain ⟨rb,hrb⟩:=HST.out.blk false i hil HRV.out (by omega)
             subst hrb
             have hrow:wr.ownsRow 0 86 5 (.slice (some ⟨rb,0,none⟩) (ln' false i) rc) (ln' false i) (mkX false i (ln' false i)):=by have:=HST.out.rw false i hil;rw [HRV.out] at this;exact this
             have m0:wr.cell? ⟨rb,k * 5,none⟩=some (.int .i64 (-1 - (i:Int))):=by rw [hrow.cellAt (k * 5) (by omega)];exact mkX_at false i (ln' false i) k hkl
             clear hrow
             go_wp2
             exact ⟨⟨k + 1,by push_cast;rfl,by omega,HST.out,HC.out⟩,by simp [intOf];omega⟩
            ·have b3:decide ((k:Int) < (ln' false i:Int))=false:=by simp;omega
             go_wp2
             exact ⟨⟨i + 1,by push_cast;rfl,by omega,HST.out,HC.out⟩,by simp [intOf];omega⟩
          ·have b1:decide ((i:Int) < (n0:Int))=false:=by simp;omega
           obtain rfl:n0=i:=by omega
           go_wp2_with fail
           clear b1
           go_loopw [16] (fun y wq=>∃ i:Nat,y=.int .i64 (i:Int)∧i≤n1∧Hid (OS wq (cn n0 n1) (T2 (some ⟨g0,0,none⟩) a1 n0 c0 n1 c1) V' ln' (fun f j=>mkX f j (ln' f j)) 400000)∧Hid (Chs (KA n0 n1 (T2 (some ⟨g0,0,none⟩) a1 n0 c0 n1 c1) V) w0 wq)) (fun y _=>n1 - (intOf y).toNat)
           case atStart=>exact ⟨0,rfl,by omega,HST.out,HC.out⟩
           case round =>
            clear HST HC
            obtain ⟨i,rfl,hi,HST,HC⟩:=hrel
            by_cases hil:i < n1
            ·obtain ⟨g1,rfl⟩:∃ g1,a1=some ⟨g1,0,none⟩:=by
              obtain ⟨g',c',e,_⟩:=HST.out.at0 true i hil
              simp only [T2,if_true,Value.slice.injEq] at e
              exact ⟨g',e.1⟩
             have b1:decide ((i:Int) < (n1:Int))=true:=by simp;omega
             have b2:(i:Int) < (n1:Int):=by omega
             have ad1:=add_one i (by omega)
             have ng:=neg_i i (by omega)
             go_wp2_with fail
             obtain ⟨ra,rc,hrv⟩:=HST.out.shape true i hil
             have hbl:=HST.out.bd true i hil
             have HRV:=hid hrv
             clear hrv
             go_loopw [17] (fun y wq=>∃ k:Nat,y=.int .i64 (k:Int)∧k≤ln' true i∧Hid (OS wq (cn n0 n1) (T2 (some ⟨g0,0,none⟩) (some ⟨g1,0,none⟩) n0 c0 n1 c1) V' ln' (fun f j=>mkX f j (ln' f j)) 400000)∧Hid (Chs (KA n0 n1 (T2 (some ⟨g0,0,none⟩) (some ⟨g1,0,none⟩) n0 c0 n1 c1) V) w0 wq)) (fun y _=>ln' true i - (intOf y).toNat)
             case atStart=>exact ⟨0,rfl,by omega,HST.out,HC.out⟩
             case round =>
              clear HST HC
              obtain ⟨k,rfl,hk,HST,HC⟩:=hrel
              have q0:wr.cell? ⟨g1,i,none⟩=some (.slice ra (ln' true i) rc):=by
               obtain ⟨g',c',e,q0⟩:=HST.out.at0 true i hil
               simp only [T2,if_true,Bool.false_eq_true,if_false,Value.slice.injEq,Option.some.injEq,Addr.mk.injEq] at e
               obtain ⟨⟨rfl,_⟩,_⟩:=e
               rw [q0,HRV.out]
              by_cases hkl:k < ln' true i
              ·have b3:decide ((k:Int) < (ln' true i:Int))=true:=by simp;omega
               have b4:(k:Int) < (ln' true i:Int):=by omega
               have ad2:=add_one k (by omega)
               obtain ⟨rb,hrb⟩:=HST.out.blk true i hil HRV.out (by omega)
               subst hrb
               have hrow:wr.ownsRow 0 70 2 (.slice (some ⟨rb,0,none⟩) (ln' true i) rc) (ln' true i) (mkX true i (ln' true i)):=by have:=HST.out.rw true i hil;rw [HRV.out] at this;exact this
               have m0:wr.cell? ⟨rb,k * 2,none⟩=some (.int .i64 (-1 - (i:Int))):=by rw [hrow.cellAt (k * 2) (by omega)];exact mkX_at true i (ln' true i) k hkl
               clear hrow
               go_wp2
               exact ⟨⟨k + 1,by push_cast;rfl,by omega,HST.out,HC.out⟩,by simp [intOf];omega⟩
              ·have b3:decide ((k:Int) < (ln' true i:Int))=false:=by simp;omega
               go_wp2
               exact ⟨⟨i + 1,by push_cast;rfl,by omega,HST.out,HC.out⟩,by simp [intOf];omega⟩
            ·have b1:decide ((i:Int) < (n1:Int))=false:=by simp;omega
             obtain rfl:n1=i:=by omega
             go_wp2
             go_ret
             exact ⟨rfl,HFINAL.out _ HC.out⟩
end Go.Proofs.YtacaanhnlfpbhaaGreat
