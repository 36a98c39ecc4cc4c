/- HELPERS: texts of ours put together. -/
import Derived.Test.YtacaanhnlfpbhaaGreatK17
import Derived.Test.YtacaanhnlfpbhaaGreatK36
import Derived.Test.YtacaanhnlfpbhaaGreatK18
import Derived.Laws.Rows
import Derived.Test.YtacaanhnlfpbhaaGreatK19
import Derived.Test.YtacaanhnlfpbhaaGreatK04
import Derived.Test.YtacaanhnlfpbhaaGreatK03
import Derived.OrdersHeld
import Derived.StillTail
import Derived.Tactics
import Derived.RowKit
import Derived.Below
import Derived.Test.YtacaanhnlfpbhaaGreatK23
import Derived.Test.YtacaanhnlfpbhaaGreatK20
import Derived.Test.YtacaanhnlfpbhaaGreatK02
import Derived.Test.YtacaanhnlfpbhaaGreatK01
import Derived.Deep.SlicePairs
import Derived.Test.YtacaanhnlfpbhaaGreatProg
import Derived.WalkKit
import Derived.ProofKit
import Derived.BigQuiet
import Derived.WalkSmall
import Derived.Deep.QuietTactic
import Derived.Deep.RegionWith
import Derived.Lib.SmallJoins
import Derived.Lib.MinMax
import Derived.Maps.AppendAt
import Derived.Laws.AppendOwnNone
import Derived.Deep.Cut
import Derived.Deep.CutRange
import Derived.Test.YtacaanhnlfpbhaaGreatK09
import Derived.Test.YtacaanhnlfpbhaaGreatK08
import Derived.Laws.EntriesVeiled
import Derived.Test.YtacaanhnlfpbhaaGreatK14
import Derived.Test.YtacaanhnlfpbhaaGreatK05
import Derived.Deep.WholeRow
import Derived.Lib.Small
import Derived.WalkLawsBesides
import Derived.Lib.LazyBuf
import Derived.Deep.MidRow
import Derived.Deep.OwnRows
import Derived.Test.YtacaanhnlfpbhaaGreatK06
import Derived.Laws.BitsLemmas
namespace Go.Proofs.YtacaanhnlfpbhaaGreat
open Go.RowKit
set_option linter.unusedVariables false
set_option linter.unusedSimpArgs false
abbrev E0:ByteArray:=⟨#[]⟩
abbrev nE:Nd:=⟨none,0,0,0,none,0,0,0,0,false,0,E0⟩
abbrev nC (rb:Nat):Nd:=⟨some ⟨rb,0,none⟩,1,1,0,none,0,0,0,0,false,0,E0⟩
abbrev nA (sb:Nat):Nd:=⟨none,0,0,0,some ⟨sb,0,none⟩,2,2,0,0,false,0,E0⟩
abbrev nG (sb:Nat):Nd:=⟨none,0,0,0,some ⟨sb,0,none⟩,1,1,0,0,false,1,E0⟩
abbrev nR (sb:Nat):Nd:=⟨none,0,0,0,some ⟨sb,0,none⟩,1,1,1,-1,false,0,E0⟩
def tE:Tn:=.mk 1 [] 0 [] 0 0 false 0 E0
def tC:Tn:=.mk 2 [(97,97)] 0 [] 0 0 false 0 E0
def tA:Tn:=.mk 5 [] 0 [tE,tC] 0 0 false 0 E0
def tG:Tn:=.mk 7 [] 0 [tA] 0 0 false 1 E0
def tR:Tn:=.mk 6 [] 0 [tG] 1 (-1) false 0 E0
structure Tre (w:World) (rb s1 s2 s3:Nat):Prop where
 r:w.heap[rb]?=some (.cells #[.int .i64 97,.int .i64 97] 70 (0,0))
 c0:N9 w s1 0 0 (nE.nv 1)
 c1:N9 w s1 0 1 ((nC rb).nv 2)
 c2:N9 w s2 0 0 ((nA s1).nv 5)
 c3:N9 w s3 0 0 ((nG s2).nv 7)
 l1:s1 < w.heap.size
 l2:s2 < w.heap.size
 l3:s3 < w.heap.size
theorem ok_small (N:Nv) (h1:I64ok N.k) (h2:I64ok N.a2) (h3:I64ok N.a4) (h4:I64ok N.a5) (h5:I64ok N.a7) (h6:N.a8.size≤10) (h7:N.r2≤N.r3∧N.r3≤10) (h8:N.s2≤N.s3∧N.s3≤10):N.ok:=
 ⟨h1,h2,h3,h4,h5,by unfold maxLen;omega,⟨h7.1,by unfold maxLen;omega⟩,⟨h8.1,by unfold maxLen;omega⟩⟩
theorem Tre.ti {w:World} {rb s1 s2 s3:Nat} (h:Tre w rb s1 s2 s3):TI w w.heap.size ((nR s3).nv 6) tR:=by
 have hE:TI w w.heap.size (nE.nv 1) tE:=.mk (N:=nE.nv 1) (R:=[]) (ts:=[]) (ND:=fun _=>default) (ok_small _ (by decide) (by decide) (by decide) (by decide) (by decide) (by decide) (by decide) (by decide)) rfl (fun h=>absurd rfl h) (fun x hx=>by cases hx) rfl (fun h=>by simp at h) (fun i hi=>by simp at hi)
 have hC:TI w w.heap.size ((nC rb).nv 2) tC:=.mk (N:=(nC rb).nv 2) (R:=[(97,97)]) (ts:=[]) (ND:=fun _=>default) (ok_small _ (by dsimp only;decide) (by dsimp only;decide) (by dsimp only;decide) (by dsimp only;decide) (by dsimp only;decide) (by dsimp only;decide) (by show 1≤1∧1≤10;decide) (by show 0≤0∧0≤10;decide)) rfl (fun _=>⟨rb,0,rfl,(Array.getElem?_eq_some_iff.1 h.r).1,fun i hi=>by
   have e:i=0:=by simp at hi;omega
   subst e
   exact ⟨Joins.cell_of_block h.r 0,Joins.cell_of_block h.r 1⟩⟩) (fun x hx=>by simp at hx;subst hx;decide) rfl (fun h=>by simp at h) (fun i hi=>by simp at hi)
 have hA:TI w w.heap.size ((nA s1).nv 5) tA:=.mk (N:=(nA s1).nv 5) (R:=[]) (ts:=[tE,tC]) (ND:=fun i=>if i=0 then nE.nv 1 else (nC rb).nv 2) (ok_small _ (by dsimp only;decide) (by dsimp only;decide) (by dsimp only;decide) (by dsimp only;decide) (by dsimp only;decide) (by dsimp only;decide) (by show 0≤0∧0≤10;decide) (by show 2≤2∧2≤10;decide)) rfl (fun h=>absurd rfl h) (fun x hx=>by cases hx) rfl (fun _=>⟨s1,0,rfl,h.l1,fun i hi=>by
   match i,hi with
   | 0,_=>exact h.c0
   | 1,_=>exact h.c1⟩) (fun i hi=>by
   match i,hi with
   | 0,_=>exact hE
   | 1,_=>exact hC)
 have hG:TI w w.heap.size ((nG s2).nv 7) tG:=.mk (N:=(nG s2).nv 7) (R:=[]) (ts:=[tA]) (ND:=fun i=>(nA s1).nv 5) (ok_small _ (by dsimp only;decide) (by dsimp only;decide) (by dsimp only;decide) (by dsimp only;decide) (by dsimp only;decide) (by dsimp only;decide) (by show 0≤0∧0≤10;decide) (by show 1≤1∧1≤10;decide)) rfl (fun h=>absurd rfl h) (fun x hx=>by cases hx) rfl (fun _=>⟨s2,0,rfl,h.l2,fun i hi=>by
   match i,hi with
   | 0,_=>exact h.c2⟩) (fun i hi=>by
   match i,hi with
   | 0,_=>exact hA)
 exact .mk (N:=(nR s3).nv 6) (R:=[]) (ts:=[tG]) (ND:=fun i=>(nG s2).nv 7) (ok_small _ (by dsimp only;decide) (by dsimp only;decide) (by dsimp only;decide) (by dsimp only;decide) (by dsimp only;decide) (by dsimp only;decide) (by show 0≤0∧0≤10;decide) (by show 1≤1∧1≤10;decide)) rfl (fun h=>absurd rfl h) (fun x hx=>by cases hx) rfl (fun _=>⟨s3,0,rfl,h.l3,fun i hi=>by
   match i,hi with
   | 0,_=>exact h.c3⟩) (fun i hi=>by
   match i,hi with
   | 0,_=>exact hG)
abbrev theParses:List (Int × List Int):=[(0,[0,0,0,0]),(1,[0,1,0,1])]
theorem ps_example {l:List (Int × List Int)} (h:PS tR 4 [97] 0 l):l=theParses:=by
 obtain ⟨E,W,n1,s',hb,hE,hg,hx,rfl⟩:=h.ex
 obtain ⟨t,e1,h | ⟨b,c,n2,e2,e3,h,hT⟩ | ⟨c,m,n3,W1,e2,e3,_⟩⟩:=Beg.rep hb
 ·obtain ⟨b,e2,_⟩:=h
  simp at e2
 ·simp at e1
  subst e1
  have hc:c=0:=by omega
  subst hc
  cases hT
  obtain ⟨t,i,n4,W4,e1,e4,rfl,e5,h⟩:=Beg.group h
  simp at e1
  subst e1
  have hi:i=1:=by omega
  subst hi
  obtain ⟨n5,Ws,rfl,rfl,hA5⟩:=Beg.alts h
  obtain ⟨n6,Ws1,W6,rfl,hA6,h6⟩:=BegA.last (ts:=[tE]) (t:=tC) hA5
  obtain ⟨n7,Ws2,W7,rfl,hA7,h7⟩:=BegA.last (ts:=[]) (t:=tE) hA6
  obtain ⟨rfl,rfl⟩:=BegA.none hA7
  obtain ⟨rfl,rfl⟩:=Beg.empties h7
  obtain ⟨rfl,rfl⟩:=Beg.classes h6
  have hW:E b=Ww b:=e5
  obtain ⟨s2,hx2,hp2⟩:=example_goes b
  have hx3:Ex [97] (fun _=>Ww b) (E b) 0 ⟨[],[0,-1,-1,-1],[]⟩ s':=Ex.env (A:=fun x=>x=b) (fun x hxb=>by subst hxb;exact ⟨hW,by rw [hW];intro y hy;simpa [Ww,Dw,Way.ags,agsL] using hy⟩) hx (by rw [hW];intro y hy;simpa [Ww,Dw,Way.ags,agsL] using hy)
  rw [hW] at hx3
  rw [hx3.det hx2,hp2]
 ·omega
theorem parsesR {w:World} {rb s1 s2 s3 tb tcap:Nat} (h:Tre w rb s1 s2 s3) (ht:w.heap[tb]?=some (.cells #[.int .i64 97] 3 (0,0))) (htc:1≤tcap) :
  Calls Tryz.prog 13 #[(nR s3).v 6,.slice (some ⟨tb,0,none⟩) 1 tcap,.int .i64 0] w fun e w'=>∃ pv,e=.returned (.tuple #[pv,.int .i64 0])∧Parsed w.heap.size w' pv theParses∧Below w.heap.size w w':=by
 refine (parses13g ((nR s3).nv 6) tR [97] (some ⟨tb,0,none⟩) 1 tcap 0 w h.ti ⟨rfl,by omega,.inr ⟨tb,0,rfl,(Array.getElem?_eq_some_iff.1 ht).1,fun k hk=>?_⟩⟩ htc).mono ?_
 ·have e:k=0:=by omega
  subst e
  exact bx0 (t:=3) ht
 ·rintro e w' ⟨pv,l,he,hP,h0,_,hb⟩
  have e0:errP tR 1 0=0:=by simp [errP,tR,tG,tA,tE,tC,Tn.sound,Tn.fine,fineL,nodeB,bareB,Tn.depth,depthL,Tn.nodes,nodesL,Tn.sz,szL,repN,rightB,rightFrom,okG,dom,gapB,empty_list]
  rw [e0] at he
  have hl:=ps_example (by have:=(h0 e0).1;exact this)
  subst hl
  exact ⟨pv,he,hP,hb⟩
set_option maxRecDepth 100000 in
set_option maxHeartbeats 4000000 in
theorem one26 (w:World):Calls Tryz.prog 41 #[.int .i64 97] w fun e w'=>e=.returned ((nC (w.heap.size + 1)).v 2)∧Below w.heap.size w w'∧w'.heap[w.heap.size + 1]?=some (.cells #[.int .i64 97,.int .i64 97] 70 (0,0))∧w'.heap.size=w.heap.size + 1 + 1:=by
 go_enter Tryz.func41,Tryz.ntmps41
 go_wp2
 have s1:(w.alloc ((nC (w.heap.size + 1)).o 2)).heap.size=w.heap.size + 1:=by simp
 have K3:((w.alloc ((nC (w.heap.size + 1)).o 2)).alloc (.cells #[.int .i64 97,.int .i64 97] 70)).heap[w.heap.size]?=some (.cells (#[.int .i64 2,.slice (some ⟨w.heap.size + 1,0,none⟩) 1 1,.int .i64 0,.slice none 0 0,.int .i64 0,.int .i64 0,.bool false,.int .i64 0,.string E0]) 25 (0,0)):=(heap_alloc_old _ _ (by omega)).trans (heap_alloc_new w _)
 refine bodyPost_ret (results_cell_row rfl _ _ w.heap.size 25 _ (0,0) _ rfl K3 Tryz.underlying25 rfl (by kernel_rfl)) rfl ?_
 refine ⟨rfl,below_two' w _ _,?_,by simp⟩
 have K4:((w.alloc ((nC (w.heap.size + 1)).o 2)).alloc (.cells #[.int .i64 97,.int .i64 97] 70)).heap[(w.alloc ((nC (w.heap.size + 1)).o 2)).heap.size]?=some (.cells #[.int .i64 97,.int .i64 97] 70 (0,0)):=heap_alloc_new _ _
 rw [s1] at K4
 exact K4
theorem six_new (w:World) (o1 o2 o3 o4 o5 o6:Obj):((((((w.alloc o1).alloc o2).alloc o3).alloc o4).alloc o5).alloc o6).heap[w.heap.size]?=some o1∧((((((w.alloc o1).alloc o2).alloc o3).alloc o4).alloc o5).alloc o6).heap[w.heap.size + 1 + 1]?=some o3∧((((((w.alloc o1).alloc o2).alloc o3).alloc o4).alloc o5).alloc o6).heap[w.heap.size + 1 + 1 + 1 + 1]?=some o5 ∧
  ((((((w.alloc o1).alloc o2).alloc o3).alloc o4).alloc o5).alloc o6).heap[w.heap.size + 1 + 1 + 1 + 1 + 1]?=some o6∧Below w.heap.size w ((((((w.alloc o1).alloc o2).alloc o3).alloc o4).alloc o5).alloc o6)∧((((((w.alloc o1).alloc o2).alloc o3).alloc o4).alloc o5).alloc o6).heap.size=w.heap.size + 6:=by
 have s1:(w.alloc o1).heap.size=w.heap.size + 1:=by simp
 have s2:((w.alloc o1).alloc o2).heap.size=w.heap.size + 1 + 1:=by simp
 have s3:(((w.alloc o1).alloc o2).alloc o3).heap.size=w.heap.size + 1 + 1 + 1:=by simp
 have s4:((((w.alloc o1).alloc o2).alloc o3).alloc o4).heap.size=w.heap.size + 1 + 1 + 1 + 1:=by simp
 have s5:(((((w.alloc o1).alloc o2).alloc o3).alloc o4).alloc o5).heap.size=w.heap.size + 1 + 1 + 1 + 1 + 1:=by simp
 refine ⟨?_,?_,?_,?_,?_,by simp⟩
 ·exact (heap_alloc_old _ _ (by omega)).trans ((heap_alloc_old _ _ (by omega)).trans ((heap_alloc_old _ _ (by omega)).trans ((heap_alloc_old _ _ (by omega)).trans ((heap_alloc_old _ _ (by omega)).trans (heap_alloc_new w o1)))))
 ·refine (heap_alloc_old _ _ (by omega)).trans ((heap_alloc_old _ _ (by omega)).trans ((heap_alloc_old _ _ (by omega)).trans ?_))
  rw [← s2];exact heap_alloc_new _ _
 ·refine (heap_alloc_old _ _ (by omega)).trans ?_
  rw [← s4];exact heap_alloc_new _ _
 ·rw [← s5];exact heap_alloc_new _ _
 ·exact (below_two' w o1 o2).trans (Joins.below_le ((below_two' _ o3 o4).trans (Joins.below_le (below_two' _ o5 o6) (by simp;try omega))) (by simp;try omega))
set_option maxRecDepth 100000 in
set_option maxHeartbeats 4000000 in
theorem awake8 (w:World):Calls Tryz.prog 10 #[] w fun e w'=>e=.returned (.bool true)∧Below w.heap.size w w':=by
 have HO:=one26 w
 go_enter Tryz.func10,Tryz.ntmps10
 go_upto_region 2 with (first | (go_at_call 41;(with_reducible refine HO.mono ?_);rintro e w1 ⟨rfl,hb1,hr1,hs1⟩;have HB1:=hid hb1;have HR1:=hid hr1;have HS1:=hid hs1;clear hb1 hr1 hs1 HO))
 obtain ⟨z,hz⟩:∃ z,z=w1.heap.size:=⟨_,rfl⟩
 obtain ⟨h1,h2,h3,h4,h5,h6⟩:=six_new w1 (.cells #[.int .i64 1,.slice none 0 0,.int .i64 0,.slice none 0 0,.int .i64 0,.int .i64 0,.bool false,.int .i64 0,.string E0,.int .i64 2,.slice (some ⟨w.heap.size + 1,0,none⟩) 1 1,.int .i64 0,.slice none 0 0,.int .i64 0,.int .i64 0,.bool false,.int .i64 0,.string E0] 25) ((nA w1.heap.size).o 5) ((nA w1.heap.size).o 5) ((nG (w1.heap.size + 1 + 1)).o 7) ((nG (w1.heap.size + 1 + 1)).o 7) (.cells #[.int .i64 97] 3)
 have hT:Tre _ (w.heap.size + 1) w1.heap.size (w1.heap.size + 1 + 1) (w1.heap.size + 1 + 1 + 1 + 1):=⟨(h5.block _ (by have:=HS1.out;omega)).trans HR1.out,
  ⟨Joins.cell_of_block h1 0,Joins.cell_of_block h1 1,Joins.cell_of_block h1 2,Joins.cell_of_block h1 3,Joins.cell_of_block h1 4,Joins.cell_of_block h1 5,Joins.cell_of_block h1 6,Joins.cell_of_block h1 7,Joins.cell_of_block h1 8⟩,
  ⟨Joins.cell_of_block h1 9,Joins.cell_of_block h1 10,Joins.cell_of_block h1 11,Joins.cell_of_block h1 12,Joins.cell_of_block h1 13,Joins.cell_of_block h1 14,Joins.cell_of_block h1 15,Joins.cell_of_block h1 16,Joins.cell_of_block h1 17⟩,
  ⟨Joins.cell_of_block h2 0,Joins.cell_of_block h2 1,Joins.cell_of_block h2 2,Joins.cell_of_block h2 3,Joins.cell_of_block h2 4,Joins.cell_of_block h2 5,Joins.cell_of_block h2 6,Joins.cell_of_block h2 7,Joins.cell_of_block h2 8⟩,
  ⟨Joins.cell_of_block h3 0,Joins.cell_of_block h3 1,Joins.cell_of_block h3 2,Joins.cell_of_block h3 3,Joins.cell_of_block h3 4,Joins.cell_of_block h3 5,Joins.cell_of_block h3 6,Joins.cell_of_block h3 7,Joins.cell_of_block h3 8⟩,
  by omega,by omega,by omega⟩
 have HC:=parsesR hT h4 (Nat.le_refl 1)
 have HXB:=hid h5
 clear h1 h2 h3 h4 h5 h6 hT
 go_upto_region 4 with (first | (go_at_call 13;(with_reducible refine HC.mono ?_);rintro e w2 ⟨pv,rfl,hP,hb2⟩;obtain ⟨cs,FF,hrow,hPR⟩:=hP;obtain ⟨pb,pcap,rfl⟩:=Joins.ownsRow_form hrow (by decide);have HP:=hid hrow;have HQ:=hid hPR;have HB2:=hid hb2;clear hb2 HC hrow hPR))
 have hQ:=HQ.out
 cases hQ with
 | @cons _ _ cv0 _ _ F1 hc0 hQ1 =>
  cases hQ1 with
  | @cons _ _ cv1 _ _ F2 hc1 hQ2 =>
   cases hQ2
   obtain ⟨d0,k0,rfl⟩:=Joins.ownsRow_form hc0 (by decide)
   obtain ⟨d1,k1,rfl⟩:=Joins.ownsRow_form hc1 (by decide)
   have p0:w2.cell? ⟨pb,0,none⟩=some (.int .i64 0):=HP.out.cellAt 0 (by decide)
   have p1:w2.cell? ⟨pb,1,none⟩=some (.slice (some ⟨d0,0,none⟩) 4 k0):=HP.out.cellAt 1 (by decide)
   have p2:w2.cell? ⟨pb,2,none⟩=some (.int .i64 1):=HP.out.cellAt 2 (by decide)
   have p3:w2.cell? ⟨pb,3,none⟩=some (.slice (some ⟨d1,0,none⟩) 4 k1):=HP.out.cellAt 3 (by decide)
   have q3:w2.cell? ⟨d0,3,none⟩=some (.int .i64 0):=hc0.cellAt 3 (by decide)
   have r2:w2.cell? ⟨d1,2,none⟩=some (.int .i64 0):=hc1.cellAt 2 (by decide)
   have r3:w2.cell? ⟨d1,3,none⟩=some (.int .i64 1):=hc1.cellAt 3 (by decide)
   clear hc0 hc1 HP HQ
   go_wp2
   go_ret
   exact ⟨rfl,HB1.out.trans (Joins.below_le (HXB.out.trans (Joins.below_le HB2.out (by simp;try omega))) HB1.out.size)⟩
end Go.Proofs.YtacaanhnlfpbhaaGreat
namespace Go.Proofs.YtacaanhnlfpbhaaGreat
open Go Go.RowKit
set_option linter.unusedVariables false
section
variable {P:Program} {ops:Array Oper} {Q:Exit→Act→World→Prop} {md:Region.Mode} {S:World→Prop} {L:Nat}
theorem wpAnyX_far {i:Nat} {oi:Oper} {v:Value} (hi:ops[i]?=some oi) (hsel:∀ (j:Nat) (o:Oper) cs b,ops[j]?=some o→o.op≠.select cs b)
  (hQ:∀ c a w,Q (.panic c) (a.put oi.dst v) w→Q (.panic c) a w) (hL:ops.size≤L) :
  ∀ (fuel:Nat) (listed:Array Bool) (a:Act) (w:World),
   (∀ j oj,ops[j]?=some oj→j≠i→listed.getD j true=false→(∀ e ∈ oj.after,Region.binds md e=true→e.on≠i)→oi.apart ops oj=true) →
   i ∈ Region.ready md ops listed→YieldsIf P ops S oi v a→S w →
   wpAnyX P md ops Q S L fuel (listed.setIfInBounds i true) (a.put oi.dst v) w→wpAnyX P md ops Q S L (fuel + 1) listed a w:=by
 intro fuel
 induction fuel with
 | zero =>
  intro listed a w _ hr hy hS H
  refine ⟨fun h=>(by rw [h] at hr;cases hr),fun j hj=>?_⟩
  by_cases hji:j=i
  ·subst hji;exact hy.wpOp hi hS ⟨fun _=>hS,H⟩
  ·have:=ready_mono hj hji
   rw [H.1] at this
   cases this
 | succ fuel ih =>
  intro listed a w hfree hr hy hS H
  refine ⟨fun h=>(by rw [h] at hr;cases hr),fun j hj=>?_⟩
  by_cases hji:j=i
  ·subst hji;exact hy.wpOp hi hS ⟨fun _=>hS,H⟩
  ·have h1:=H.2 j (ready_mono hj hji)
   obtain ⟨hjun,oj,hoj,hall⟩:=mem_ready.1 hj
   have hnot:∀ e ∈ oj.after,Region.binds md e=true→e.on≠i:=fun e he hb heq=>by
    have h1:=hall e he hb
    have h0:=(mem_ready.1 hr).1
    rw [heq] at h1
    rcases Nat.lt_or_ge i listed.size with h' | h'
    ·simp [h'] at h0 h1;rw [h0] at h1;cases h1
    ·simp [Array.getElem?_eq_none h'] at h1
   have hjL:j≠L:=fun e=>by
    have:=(Array.getElem?_eq_some_iff.1 hoj).1
    omega
   have h2:=wpOp_putIf hoj (hfree j oj hoj hji hjun hnot) (fun cs b=>hsel i oi cs b hi) (fun cs b=>hsel j oj cs b hoj) hQ hy h1
   have hfree':∀ k ok,ops[k]?=some ok→k≠i→(listed.setIfInBounds j true).getD k true=false →
     (∀ e ∈ ok.after,Region.binds md e=true→e.on≠i)→oi.apart ops ok=true:=fun k ok hk hki hun hno=>by
    refine hfree k ok hk hki ?_ hno
    by_cases hjk:j=k
    ·subst hjk;exact hjun
    ·rw [_root_.Go.getD_set_ne true hjk] at hun;exact hun
   refine wpOp_mono (fun a' w' h3=>⟨fun _=>h3.2.1 hjL,ih (listed.setIfInBounds j true) a' w' hfree' (ready_mono hr (Ne.symm hji)) h3.1 (h3.2.1 hjL) ?_⟩) h2
   rw [Array.setIfInBounds_comm _ _ hji]
   exact h3.2.2
def lexF (md:Region.Mode) (ops:Array Oper):List Nat→Array Bool→Bool
 | [],_=>true
 | k :: ks,listed=>(Region.ready md ops listed).contains k && Region.free md ops listed k && lexF md ops ks (listed.setIfInBounds k true)
theorem wpAnyX_lexF {g:Nat} {w:World} (hsel:Region.noSelect ops=true) (hS:S w) (hL:ops.size≤L) :
  ∀ (ks:List Nat) (listed:Array Bool) (a:Act),lexF md ops ks listed=true →
  wpLex P ops Q S (fun a'=>wpAnyX P md ops Q S L g (marksK ks listed) a' w) (opsAt ops ks) a→wpAnyX P md ops Q S L (ks.length + g) listed a w
 | [],listed,a,_,h=>by simpa [marksK,opsAt,wpLex] using h
 | k :: ks,listed,a,hB,h=>by
  simp only [lexF,Bool.and_eq_true] at hB
  obtain ⟨⟨hr,hf⟩,hB'⟩:=hB
  have hr':k ∈ Region.ready md ops listed:=by simpa using hr
  obtain ⟨_,o,h0,_⟩:=mem_ready.1 hr'
  simp only [opsAt,h0] at h
  obtain ⟨v,hy,hQ,hK⟩:=h
  rw [show (k :: ks).length + g=(ks.length + g) + 1 by simp only [List.length_cons];omega]
  exact wpAnyX_far h0 (Region.noSelect_spec hsel) hQ hL (ks.length + g) listed a w (Region.free_spec h0 hf) hr' hy hS
   (wpAnyX_lexF hsel hS hL ks _ _ hB' hK)
theorem wp_region_lexF {id:Nat} {a:Act} {w:World} (ks js:List Nat) (S:World→Prop) (hm:P.follows .mixedOrders=true) (hsel:Region.noSelect ops=true) (hn:ks.length + js.length=ops.size) (hB:lexF .any ops ks (Array.replicate ops.size false)=true)
  (hT:seqK .any ops js (marksK ks (Array.replicate ops.size false))=true) (hS:S w.drew)
  (h:wpLex P ops Q S (fun a'=>wpTailK P ops Q S ops.size (opsNo ops js) a' w.drew) (opsAt ops ks) a):(Code.region id ops true).wp P Q a w:=by
 have hlex:∀ (l':List Oper) (a:Act),wpLex P ops Q S (fun a'=>wpTailK P ops Q S ops.size (opsNo ops js) a' w.drew) l' a→wpLex P ops Q S (fun a'=>wpAnyX P .any ops Q S ops.size js.length (marksK ks (Array.replicate ops.size false)) a' w.drew) l' a:=by
  intro l'
  induction l' with
  | nil=>intro a h;exact wpAnyX_of_tailK (md:=.any) js _ a w.drew hT h
  | cons o l' ih=>rintro a ⟨v,h1,h2,h3⟩;exact ⟨v,h1,h2,ih _ h3⟩
 have H:=wpAnyX_lexF (md:=.any) (L:=ops.size) (Q:=Q) (g:=js.length) (P:=P) (w:=w.drew) hsel hS (Nat.le_refl _) ks (Array.replicate ops.size false) a hB (hlex _ _ h)
 rw [hn] at H
 exact wp_region_any hm (by simpa using wpAny_of_X _ _ _ _ H)
end
end Go.Proofs.YtacaanhnlfpbhaaGreat
namespace Go.Proofs.YtacaanhnlfpbhaaGreat
open Go.RowKit
set_option linter.unusedVariables false
set_option linter.unusedSimpArgs false
theorem lt_cell {w:World} {b o:Nat} {v:Value} (h:w.cell? ⟨b,o,none⟩=some v):b < w.heap.size:=by
 by_cases hb:b < w.heap.size
 ·exact hb
 ·simp [World.cell?,Array.getElem?_eq_none (Nat.le_of_not_lt hb)] at h
theorem below_drew1 (w:World):Below w.heap.size w w.drew:=⟨rfl,rfl,rfl,Nat.le_refl _,fun _ _=>rfl⟩
set_option maxRecDepth 100000 in
set_option maxHeartbeats 4000000 in
theorem sameInts41 (L:List Int) (a1 a2:Option Addr) (n c1 c2:Nat) (w:World) (h1:Look.TextAt w.heap.size w a1 n L) (h2:Look.TextAt w.heap.size w a2 n L) :
  Calls Tryz.prog 17 #[.slice a1 n c1,.slice a2 n c2] w fun e w'=>e=.returned (.bool true)∧Below w.heap.size w w':=by
 have hm:n≤35184372088832:=h1.2.1
 have H1:=hid h1
 have H2:=hid h2
 have hnn:((n:Int) != (n:Int))=false:=by simp
 clear h1 h2
 go_enter Tryz.func17,Tryz.ntmps17
 go_wp2_with fail
 go_loopw [5] (fun y wq=>∃ i:Nat,y=.int .i64 (i:Int)∧i≤n∧Hid (Below w.heap.size w wq)) (fun y _=>n - (intOf y).toNat)
 case atStart=>exact ⟨0,rfl,by omega,hid (Below.refl _ _)⟩
 case round =>
  obtain ⟨i,rfl,hi,HB⟩:=hrel
  by_cases hlt:i < n
  ·have b1:decide ((i:Int) < (n:Int))=true:=by simp;omega
   have b2:(i:Int) < (n:Int):=by omega
   have ad1:IntKind.i64.wrap ((i:Int) + 1)=(i:Int) + 1:=by simp [IntKind.wrap,IntKind.bits,IntKind.signed];omega
   obtain ⟨x,xo,rfl,-,hx⟩:=text_cell (H1.out.below HB.out) hlt
   obtain ⟨z,zo,rfl,-,hz⟩:=text_cell (H2.out.below HB.out) hlt
   obtain ⟨c,hc⟩:∃ c,c=L.getD i 0:=⟨_,rfl⟩
   rw [← hc] at hx hz
   have g1:(c != c)=false:=by simp
   have HB2:=hid (HB.out.trans (Joins.below_le (below_drew1 wr) HB.out.size))
   clear hc
   go_wp2_with fail
   go_region
   all_goals
    go_wp2_with fail
    exact ⟨⟨i + 1,by push_cast;rfl,by omega,HB2⟩,by simp [intOf];omega⟩
  ·have b1:decide ((i:Int) < (n:Int))=false:=by simp;omega
   go_wp2_with fail
   go_ret
   exact ⟨rfl,HB.out⟩
theorem Parsed.row {N:Nat} {w:World} {v:Value} {l:List (Int × List Int)} (h:Parsed N w v l) (i:Nat) (hi:i < l.length) (hl:l[i].2.length≤35184372088832):∃ b cap ad c,v=.slice (some ⟨b,0,none⟩) l.length cap∧w.cell? ⟨b,i * 2,none⟩=some (.int .i64 l[i].1)∧w.cell? ⟨b,i * 2 + 1,none⟩=some (.slice ad l[i].2.length c)∧Look.TextAt w.heap.size w ad l[i].2.length l[i].2:=by
 obtain ⟨cs,F,h1,h2⟩:=h
 obtain ⟨cv,h3,h4⟩:=h2.caps i hi
 have h5:=h2.ends i hi
 rcases Joins.ownsRow_forms h1 with ⟨_,e⟩ | ⟨b,cap,e⟩
 ·omega
 ·subst e
  obtain ⟨ad,c,rfl,_,ht⟩:=own_text h4 hl
  have hcs:=h1.1
  refine ⟨b,cap,ad,c,rfl,?_,?_,ht⟩
  ·rw [h1.cellAt (i * 2) (by omega),h5]
  ·rw [h1.cellAt (i * 2 + 1) (by omega),h3]
theorem en41:∀ (args:Array Value) (w:World),(callFunc 17 args).run Tryz.prog w=.ok (.enter 17 args) w:=enter_of Tryz.func17 (by kernel_rfl) rfl
set_option maxRecDepth 100000 in
set_option maxHeartbeats 4000000 in
theorem same19 {N1 N2:Nat} (l:List (Int × List Int)) (v1 v2:Value) (w:World) (h1:Parsed N1 w v1 l) (h2:Parsed N2 w v2 l) (hl:l.length≤1000000) (hc:∀ x ∈ l,x.2.length≤1000000) :
  Calls Tryz.prog 18 #[v1,v2] w fun e w'=>e=.returned (.bool true)∧Below w.heap.size w w':=by
 obtain ⟨a1,c1,rfl⟩:=h1.form
 obtain ⟨a2,c2,rfl⟩:=h2.form
 obtain ⟨n,hn⟩:∃ n,n=l.length:=⟨_,rfl⟩
 have HN:=hid hn
 have H1:=hid h1
 have H2:=hid h2
 have HCC:=hid hc
 rw [← hn] at hl ⊢
 have hnn:((n:Int) != (n:Int))=false:=by simp
 clear h1 h2 hc hn
 go_enter Tryz.func18,Tryz.ntmps18
 go_wp2_with fail
 go_loopw [5] (fun y wq=>∃ i:Nat,y=.int .i64 (i:Int)∧i≤n∧Hid (Below w.heap.size w wq)) (fun y _=>n - (intOf y).toNat)
 case atStart=>exact ⟨0,rfl,by omega,hid (Below.refl _ _)⟩
 case round =>
  obtain ⟨i,rfl,hi,HB⟩:=hrel
  by_cases hlt:i < n
  ·have b1:decide ((i:Int) < (n:Int))=true:=by simp;omega
   have b2:(i:Int) < (n:Int):=by omega
   have ad1:IntKind.i64.wrap ((i:Int) + 1)=(i:Int) + 1:=by simp [IntKind.wrap,IntKind.bits,IntKind.signed];omega
   have hil:i < l.length:=by rw [← HN.out];exact hlt
   have hcl:=HCC.out l[i] (List.getElem_mem hil)
   have K1:∀ V,Below w.heap.size w V→∃ b ad c,a1=some ⟨b,0,none⟩∧V.cell? ⟨b,i * 2,none⟩=some (.int .i64 l[i].1)∧V.cell? ⟨b,i * 2 + 1,none⟩=some (.slice ad l[i].2.length c)∧Look.TextAt V.heap.size V ad l[i].2.length l[i].2:=fun V hV=>by
    obtain ⟨b,cap,ad,c,e,x1,x2,x3⟩:=(H1.out.kept hV).row i hil (by omega)
    simp only [Value.slice.injEq] at e
    exact ⟨b,ad,c,e.1,x1,x2,x3⟩
   have K2:∀ V,Below w.heap.size w V→∃ b ad c,a2=some ⟨b,0,none⟩∧V.cell? ⟨b,i * 2,none⟩=some (.int .i64 l[i].1)∧V.cell? ⟨b,i * 2 + 1,none⟩=some (.slice ad l[i].2.length c)∧Look.TextAt V.heap.size V ad l[i].2.length l[i].2:=fun V hV=>by
    obtain ⟨b,cap,ad,c,e,x1,x2,x3⟩:=(H2.out.kept hV).row i hil (by omega)
    simp only [Value.slice.injEq] at e
    exact ⟨b,ad,c,e.1,x1,x2,x3⟩
   obtain ⟨p,ad,cc,rfl,x1,x2,x3⟩:=K1 wr HB.out
   obtain ⟨q,ad2,cc2,rfl,y1,y2,y3⟩:=K2 wr HB.out
   obtain ⟨m,hm⟩:∃ m,m=l[i].2.length:=⟨_,rfl⟩
   obtain ⟨e,he⟩:∃ e,e=l[i].1:=⟨_,rfl⟩
   rw [← hm] at x2 y2 x3 y3
   rw [← he] at x1 y1
   have HC:=sameInts41 l[i].2 ad ad2 m cc cc2 wr.drew x3 y3
   have HS:Hid (∀ V,Below wr.heap.size wr V→(V.cell? ⟨p,i * 2,none⟩=some (.int .i64 e)∧V.cell? ⟨q,i * 2,none⟩=some (.int .i64 e))∧V.cell? ⟨p,i * 2 + 1,none⟩=some (.slice ad m cc)∧V.cell? ⟨q,i * 2 + 1,none⟩=some (.slice ad2 m cc2)):=fun V hV=>by
    have hp:=lt_cell x1
    have hq:=lt_cell y1
    exact ⟨⟨(cell_eq (hV.block p hp) _).trans x1,(cell_eq (hV.block q hq) _).trans y1⟩,(cell_eq (hV.block p hp) _).trans x2,(cell_eq (hV.block q hq) _).trans y2⟩
   have g1:(e != e)=false:=by simp
   clear hm he x3 y3 K1 K2 hcl
   go_upto_region 6 with fail
   refine wp_region_lexF [0,1,2,3,4,5,6,7,8,9] [10,11] (fun W=>W.cell? ⟨p,i * 2 + 1,none⟩=some (.slice ad m cc)∧W.cell? ⟨q,i * 2 + 1,none⟩=some (.slice ad2 m cc2)) (by kernel_rfl) (by kernel_rfl) rfl (by kernel_rfl) (by kernel_rfl) ⟨x2,y2⟩ ?_
   simp only [opsAt,opsNo,List.getElem?_toArray,List.getElem?_cons_zero,List.getElem?_cons_succ]
   iterate 10
    refine lex_cons ?_ rfl (fun W hW=>?_) (fun _ _ _ h=>h) ?_
    rotate_left
    ·obtain ⟨s0,s1'⟩:=hW
     go_simp <;> with_reducible rfl
    simp only [Act.put,List.setIfInBounds_toArray,List.set_cons_zero,List.set_cons_succ]
   refine lex_nil (tailK_cons fun K hK=>?_)
   refine step_call2 rfl 17 (.tmp 22) (.tmp 27) 26 26 rfl en41 ?_
   refine HC.mono ?_
   rintro e' w3 ⟨rfl,hb3⟩
   have hb3':Below wr.heap.size wr w3:=(below_drew1 wr).trans hb3
   obtain ⟨⟨t1,t2⟩,t3⟩:=HS.out w3 hb3'
   refine ⟨_,rfl,hK.out _ _ (fun _=>t3) (tailK_cons fun K hK=>?_)⟩
   simp only [Act.put,List.setIfInBounds_toArray,List.set_cons_zero,List.set_cons_succ]
   go_simp
   refine hK.out _ _ (fun _=>t3) (tailK_nil ?_)
   try simp only [Act.put,List.setIfInBounds_toArray,List.set_cons_zero,List.set_cons_succ]
   have HB3:Hid (Below w.heap.size w w3):=hid (HB.out.trans (Joins.below_le hb3' HB.out.size))
   have HB4:Hid (Below w.heap.size w w3.drew):=hid (HB3.out.trans (Joins.below_le (below_drew1 w3) HB3.out.size))
   clear hb3 hb3' HC x1 x2 y1 y2 t3
   go_wp2_with fail
   go_region
   all_goals
    go_wp2_with fail
    exact ⟨⟨i + 1,by push_cast;rfl,by omega,HB4⟩,by simp [intOf];omega⟩
  ·have b1:decide ((i:Int) < (n:Int))=false:=by simp;omega
   go_wp2_with fail
   go_ret
   exact ⟨rfl,HB.out⟩
end Go.Proofs.YtacaanhnlfpbhaaGreat
namespace Go.Proofs.YtacaanhnlfpbhaaGreat
open Go.RowKit Go.Lk
set_option linter.unusedVariables false
set_option linter.unusedSimpArgs false
set_option maxHeartbeats 1000000 in
theorem nineSetR (X:World) (b:Nat) {c0 c1 c2 c3 c4 c5 c6 c7 c8:Value} {t:TypeId} (v0 v1 v2 v3 v4 v5 v6 v7 v8:Value) (h:X.heap[b]?=some (.cells #[c0,c1,c2,c3,c4,c5,c6,c7,c8] t (0,0))) :
  ((((((((((((((((((X).setCell ⟨b,0,none⟩ v0)).setCell ⟨b,1,none⟩ v1)).setCell ⟨b,2,none⟩ v2)).setCell ⟨b,3,none⟩ v3)).setCell ⟨b,4,none⟩ v4)).setCell ⟨b,5,none⟩ v5)).setCell ⟨b,6,none⟩ v6)).setCell ⟨b,7,none⟩ v7)).setCell ⟨b,8,none⟩ v8).heap[b]?=some (.cells #[v0,v1,v2,v3,v4,v5,v6,v7,v8] t (0,0))∧(∀ k,k≠b→((((((((((((((((((X).setCell ⟨b,0,none⟩ v0)).setCell ⟨b,1,none⟩ v1)).setCell ⟨b,2,none⟩ v2)).setCell ⟨b,3,none⟩ v3)).setCell ⟨b,4,none⟩ v4)).setCell ⟨b,5,none⟩ v5)).setCell ⟨b,6,none⟩ v6)).setCell ⟨b,7,none⟩ v7)).setCell ⟨b,8,none⟩ v8).heap[k]?=X.heap[k]?)∧((((((((((((((((((X).setCell ⟨b,0,none⟩ v0)).setCell ⟨b,1,none⟩ v1)).setCell ⟨b,2,none⟩ v2)).setCell ⟨b,3,none⟩ v3)).setCell ⟨b,4,none⟩ v4)).setCell ⟨b,5,none⟩ v5)).setCell ⟨b,6,none⟩ v6)).setCell ⟨b,7,none⟩ v7)).setCell ⟨b,8,none⟩ v8).heap.size=X.heap.size∧∀ {B0:Nat} {w:World},Below B0 w X→B0≤b→Below B0 w ((((((((((((((((((X).setCell ⟨b,0,none⟩ v0)).setCell ⟨b,1,none⟩ v1)).setCell ⟨b,2,none⟩ v2)).setCell ⟨b,3,none⟩ v3)).setCell ⟨b,4,none⟩ v4)).setCell ⟨b,5,none⟩ v5)).setCell ⟨b,6,none⟩ v6)).setCell ⟨b,7,none⟩ v7)).setCell ⟨b,8,none⟩ v8):=by
 refine ⟨?_,fun k hk=>?_,by simp [World.setCell],fun hB hb=>?_⟩
 ·have h0:(X.setCell ⟨b,0,none⟩ v0).heap[b]?=some (.cells #[v0,c1,c2,c3,c4,c5,c6,c7,c8] t (0,0)):=Joins.block_setCell (i:=0) h v0
  have h1:((X.setCell ⟨b,0,none⟩ v0).setCell ⟨b,1,none⟩ v1).heap[b]?=some (.cells #[v0,v1,c2,c3,c4,c5,c6,c7,c8] t (0,0)):=Joins.block_setCell (i:=1) h0 v1
  have h2:(((X.setCell ⟨b,0,none⟩ v0).setCell ⟨b,1,none⟩ v1).setCell ⟨b,2,none⟩ v2).heap[b]?=some (.cells #[v0,v1,v2,c3,c4,c5,c6,c7,c8] t (0,0)):=Joins.block_setCell (i:=2) h1 v2
  have h3:((((X.setCell ⟨b,0,none⟩ v0).setCell ⟨b,1,none⟩ v1).setCell ⟨b,2,none⟩ v2).setCell ⟨b,3,none⟩ v3).heap[b]?=some (.cells #[v0,v1,v2,v3,c4,c5,c6,c7,c8] t (0,0)):=Joins.block_setCell (i:=3) h2 v3
  have h4:(((((X.setCell ⟨b,0,none⟩ v0).setCell ⟨b,1,none⟩ v1).setCell ⟨b,2,none⟩ v2).setCell ⟨b,3,none⟩ v3).setCell ⟨b,4,none⟩ v4).heap[b]?=some (.cells #[v0,v1,v2,v3,v4,c5,c6,c7,c8] t (0,0)):=Joins.block_setCell (i:=4) h3 v4
  have h5:((((((X.setCell ⟨b,0,none⟩ v0).setCell ⟨b,1,none⟩ v1).setCell ⟨b,2,none⟩ v2).setCell ⟨b,3,none⟩ v3).setCell ⟨b,4,none⟩ v4).setCell ⟨b,5,none⟩ v5).heap[b]?=some (.cells #[v0,v1,v2,v3,v4,v5,c6,c7,c8] t (0,0)):=Joins.block_setCell (i:=5) h4 v5
  have h6:(((((((X.setCell ⟨b,0,none⟩ v0).setCell ⟨b,1,none⟩ v1).setCell ⟨b,2,none⟩ v2).setCell ⟨b,3,none⟩ v3).setCell ⟨b,4,none⟩ v4).setCell ⟨b,5,none⟩ v5).setCell ⟨b,6,none⟩ v6).heap[b]?=some (.cells #[v0,v1,v2,v3,v4,v5,v6,c7,c8] t (0,0)):=Joins.block_setCell (i:=6) h5 v6
  have h7:((((((((X.setCell ⟨b,0,none⟩ v0).setCell ⟨b,1,none⟩ v1).setCell ⟨b,2,none⟩ v2).setCell ⟨b,3,none⟩ v3).setCell ⟨b,4,none⟩ v4).setCell ⟨b,5,none⟩ v5).setCell ⟨b,6,none⟩ v6).setCell ⟨b,7,none⟩ v7).heap[b]?=some (.cells #[v0,v1,v2,v3,v4,v5,v6,v7,c8] t (0,0)):=Joins.block_setCell (i:=7) h6 v7
  have h8:(((((((((X.setCell ⟨b,0,none⟩ v0).setCell ⟨b,1,none⟩ v1).setCell ⟨b,2,none⟩ v2).setCell ⟨b,3,none⟩ v3).setCell ⟨b,4,none⟩ v4).setCell ⟨b,5,none⟩ v5).setCell ⟨b,6,none⟩ v6).setCell ⟨b,7,none⟩ v7).setCell ⟨b,8,none⟩ v8).heap[b]?=some (.cells #[v0,v1,v2,v3,v4,v5,v6,v7,v8] t (0,0)):=Joins.block_setCell (i:=8) h7 v8
  exact h8
 ·have k0:(X.setCell ⟨b,0,none⟩ v0).heap[k]?=X.heap[k]?:=Below.heap_setCell _ _ _ _ hk
  have k1:((X.setCell ⟨b,0,none⟩ v0).setCell ⟨b,1,none⟩ v1).heap[k]?=(X.setCell ⟨b,0,none⟩ v0).heap[k]?:=Below.heap_setCell _ _ _ _ hk
  have k2:(((X.setCell ⟨b,0,none⟩ v0).setCell ⟨b,1,none⟩ v1).setCell ⟨b,2,none⟩ v2).heap[k]?=((X.setCell ⟨b,0,none⟩ v0).setCell ⟨b,1,none⟩ v1).heap[k]?:=Below.heap_setCell _ _ _ _ hk
  have k3:((((X.setCell ⟨b,0,none⟩ v0).setCell ⟨b,1,none⟩ v1).setCell ⟨b,2,none⟩ v2).setCell ⟨b,3,none⟩ v3).heap[k]?=(((X.setCell ⟨b,0,none⟩ v0).setCell ⟨b,1,none⟩ v1).setCell ⟨b,2,none⟩ v2).heap[k]?:=Below.heap_setCell _ _ _ _ hk
  have k4:(((((X.setCell ⟨b,0,none⟩ v0).setCell ⟨b,1,none⟩ v1).setCell ⟨b,2,none⟩ v2).setCell ⟨b,3,none⟩ v3).setCell ⟨b,4,none⟩ v4).heap[k]?=((((X.setCell ⟨b,0,none⟩ v0).setCell ⟨b,1,none⟩ v1).setCell ⟨b,2,none⟩ v2).setCell ⟨b,3,none⟩ v3).heap[k]?:=Below.heap_setCell _ _ _ _ hk
  have k5:((((((X.setCell ⟨b,0,none⟩ v0).setCell ⟨b,1,none⟩ v1).setCell ⟨b,2,none⟩ v2).setCell ⟨b,3,none⟩ v3).setCell ⟨b,4,none⟩ v4).setCell ⟨b,5,none⟩ v5).heap[k]?=(((((X.setCell ⟨b,0,none⟩ v0).setCell ⟨b,1,none⟩ v1).setCell ⟨b,2,none⟩ v2).setCell ⟨b,3,none⟩ v3).setCell ⟨b,4,none⟩ v4).heap[k]?:=Below.heap_setCell _ _ _ _ hk
  have k6:(((((((X.setCell ⟨b,0,none⟩ v0).setCell ⟨b,1,none⟩ v1).setCell ⟨b,2,none⟩ v2).setCell ⟨b,3,none⟩ v3).setCell ⟨b,4,none⟩ v4).setCell ⟨b,5,none⟩ v5).setCell ⟨b,6,none⟩ v6).heap[k]?=((((((X.setCell ⟨b,0,none⟩ v0).setCell ⟨b,1,none⟩ v1).setCell ⟨b,2,none⟩ v2).setCell ⟨b,3,none⟩ v3).setCell ⟨b,4,none⟩ v4).setCell ⟨b,5,none⟩ v5).heap[k]?:=Below.heap_setCell _ _ _ _ hk
  have k7:((((((((X.setCell ⟨b,0,none⟩ v0).setCell ⟨b,1,none⟩ v1).setCell ⟨b,2,none⟩ v2).setCell ⟨b,3,none⟩ v3).setCell ⟨b,4,none⟩ v4).setCell ⟨b,5,none⟩ v5).setCell ⟨b,6,none⟩ v6).setCell ⟨b,7,none⟩ v7).heap[k]?=(((((((X.setCell ⟨b,0,none⟩ v0).setCell ⟨b,1,none⟩ v1).setCell ⟨b,2,none⟩ v2).setCell ⟨b,3,none⟩ v3).setCell ⟨b,4,none⟩ v4).setCell ⟨b,5,none⟩ v5).setCell ⟨b,6,none⟩ v6).heap[k]?:=Below.heap_setCell _ _ _ _ hk
  have k8:(((((((((X.setCell ⟨b,0,none⟩ v0).setCell ⟨b,1,none⟩ v1).setCell ⟨b,2,none⟩ v2).setCell ⟨b,3,none⟩ v3).setCell ⟨b,4,none⟩ v4).setCell ⟨b,5,none⟩ v5).setCell ⟨b,6,none⟩ v6).setCell ⟨b,7,none⟩ v7).setCell ⟨b,8,none⟩ v8).heap[k]?=((((((((X.setCell ⟨b,0,none⟩ v0).setCell ⟨b,1,none⟩ v1).setCell ⟨b,2,none⟩ v2).setCell ⟨b,3,none⟩ v3).setCell ⟨b,4,none⟩ v4).setCell ⟨b,5,none⟩ v5).setCell ⟨b,6,none⟩ v6).setCell ⟨b,7,none⟩ v7).heap[k]?:=Below.heap_setCell _ _ _ _ hk
  exact k8.trans (k7.trans (k6.trans (k5.trans (k4.trans (k3.trans (k2.trans (k1.trans k0)))))))
 ·exact ((((((((hB.setCell (by exact hb) v0).setCell (by exact hb) v1).setCell (by exact hb) v2).setCell (by exact hb) v3).setCell (by exact hb) v4).setCell (by exact hb) v5).setCell (by exact hb) v6).setCell (by exact hb) v7).setCell (by exact hb) v8
theorem row_baseR {w:World} {base base' e size n:Nat} {v:Value} {xs:List Value} (h:w.ownsRow base e size v n xs) (hb:base'≤base):w.ownsRow base' e size v n xs:=by
 refine ⟨h.1,?_⟩
 rcases h.2 with h | ⟨g,cap,cur,h1,h2,h3⟩
 ·exact .inl h
 ·exact .inr ⟨g,cap,cur,h1,by omega,h3⟩
theorem R2.src {w:World} {B:Nat} {ad:Option Addr} {R:List (Int × Int)} (h:R2 w B ad R) (hp:0 < R.length):∃ b f,ad=some ⟨b,f,none⟩∧∀ j u,(O2 R)[j]?=some u→w.cell? ⟨b,f + j,none⟩=some u:=by
 obtain ⟨b,f,h1,_,h3⟩:=h (fun e=>by rw [e] at hp;simp at hp)
 refine ⟨b,f,h1,fun j u hj=>?_⟩
 have hlt:j < R.length * 2:=by rw [← O2_len];exact (List.getElem?_eq_some_iff.1 hj).1
 obtain ⟨i,r,hr,rfl⟩:∃ i r,r < 2∧j=i * 2 + r:=⟨j / 2,j % 2,by omega,by omega⟩
 have h2:=O2_at R i (by omega)
 have h4:=h3 i (by omega)
 have hr':r=0∨r=1:=by omega
 rcases hr' with rfl | rfl
 ·rw [Nat.add_zero] at hj ⊢
  rw [h4.1,← hj,h2.1]
 ·rw [← Nat.add_assoc,h4.2,← hj,h2.2]
theorem getD_lt {ts:List Tn} {i:Nat} (hi:i < ts.length):ts.getD i default=ts[i]:=by simp [List.getD_eq_getElem?_getD,List.getElem?_eq_getElem hi]
abbrev BxN (w:World) (b:Nat) (N:Nv):Prop:=w.heap[b]?=some (.cells #[.int .i64 N.k,.slice N.r1 N.r2 N.r3,.int .i64 N.a2,.slice N.s1 N.s2 N.s3,.int .i64 N.a4,.int .i64 N.a5,.bool N.a6,.int .i64 N.a7,.string N.a8] 25 (0,0))
abbrev BxZ (w:World) (b:Nat):Prop:=w.heap[b]?=some (.cells #[.int .i64 0,.slice none 0 0,.int .i64 0,.slice none 0 0,.int .i64 0,.int .i64 0,.bool false,.int .i64 0,.string ⟨#[]⟩] 25 (0,0))
end Go.Proofs.YtacaanhnlfpbhaaGreat
