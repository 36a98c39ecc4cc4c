/- HELPERS: texts of ours put together. -/
import Derived.Test.YtacaanhnlfpbhaaGreatK02
import Derived.Laws.EntriesVeiled
import Derived.OrdersHeld
import Derived.StillTail
import Derived.Tactics
import Derived.RowKit
import Derived.Below
import Derived.Test.YtacaanhnlfpbhaaGreatK01
import Derived.Deep.Cut
import Derived.Deep.CutRange
import Derived.Deep.RegionHeld3
import Derived.Deep.QuietTactic
import Derived.BigQuiet
import Derived.Deep.MidRow
import Derived.Deep.OwnRows
import Derived.Laws.Rows
import Derived.WalkLawsBesides
import Derived.Maps.AppendAt
import Derived.Deep.RegionLaw
import Derived.Laws.CopyOwn
import Derived.Lib.LazyBuf
import Derived.WalkKit
import Derived.Laws.BitsLemmas
import Derived.Deep.RegionHeld2
import Derived.Lib.MinMax
namespace Go.Proofs.YtacaanhnlfpbhaaGreat
open Go.RowKit
set_option linter.unusedVariables false
set_option linter.unusedSimpArgs false
theorem hid {p:Prop} (h:p):Hid p:=h
abbrev pt (b:Nat):Value:=.pointer (some ⟨b,0,none⟩)
abbrev Bx (w:World) (b:Nat) (t:TypeId) (v:Value):Prop:=w.heap[b]?=some (.cells #[v] t (0,0))
theorem row_kept {w w':World} {base e size n:Nat} {v:Value} {xs:List Value} (h:w.ownsRow base e size v n xs) (hk:∀ b,v.ownBlock=some b→w'.heap[b]?=w.heap[b]?):w'.ownsRow base e size v n xs:=by
 refine ⟨h.1,?_⟩
 rcases h.2 with hn | ⟨g,cap,cur,rfl,hb,hgg,rest⟩
 ·exact .inl hn
 ·exact .inr ⟨g,cap,cur,rfl,hb,(hk g rfl).trans hgg,rest⟩
theorem bx0 {w:World} {b:Nat} {t:TypeId} {v:Value} (h:Bx w b t v):w.cell? ⟨b,0,none⟩=some v:=Joins.cell_of_block h 0
theorem Chg.trans {w w1 w2:World} {F F' F2:List Nat} (h:Chg w w1 F F') (h2:Chg w1 w2 F' F2):Chg w w2 F F2:=by
 refine ⟨h2.os.trans h.os,h2.tape.trans h.tape,h2.output.trans h.output,Nat.le_trans h.size h2.size,fun k hk hn=>?_,fun k hk=>?_⟩
 ·refine (h2.block k (Nat.lt_of_lt_of_le hk h.size) (fun hm=>?_)).trans (h.block k hk hn)
  rcases h.new k hm with h3 | h3
  ·exact hn h3
  ·omega
 ·rcases h2.new k hk with h3 | h3
  ·exact h.new k h3
  ·right;have:=h.size;omega
theorem Chg.refl (w:World) (F:List Nat):Chg w w F F:=⟨rfl,rfl,rfl,Nat.le_refl _,fun _ _ _=>rfl,fun _ h=>.inl h⟩
theorem Chg.alloc {w w':World} {F F':List Nat} (h:Chg w w' F F') (o:Obj):Chg w (w'.alloc o) F F':=
 ⟨h.os,h.tape,h.output,by have:=h.size;simp;omega,fun k hk hn=>(heap_alloc_old w' o (by have:=h.size;omega)).trans (h.block k hk hn),h.new⟩
theorem three_new (w:World) (o o' o2:Obj):(((w.alloc o).alloc o').alloc o2).heap[w.heap.size]?=some o∧(((w.alloc o).alloc o').alloc o2).heap[w.heap.size + 1]?=some o'∧(((w.alloc o).alloc o').alloc o2).heap[w.heap.size + 1 + 1]?=some o2 ∧
  ∀ k,k < w.heap.size→(((w.alloc o).alloc o').alloc o2).heap[k]?=w.heap[k]?:=by
 have s1:(w.alloc o).heap.size=w.heap.size + 1:=by simp
 have s2:((w.alloc o).alloc o').heap.size=w.heap.size + 1 + 1:=by simp
 refine ⟨?_,?_,?_,fun k hk=>?_⟩
 ·exact (heap_alloc_old _ _ (by omega)).trans ((heap_alloc_old _ _ (by omega)).trans (heap_alloc_new w o))
 ·refine (heap_alloc_old _ _ (by omega)).trans ?_
  rw [← s1];exact heap_alloc_new _ _
 ·rw [← s2];exact heap_alloc_new _ _
 ·exact (heap_alloc_old _ _ (by omega)).trans ((heap_alloc_old _ _ (by omega)).trans (heap_alloc_old _ _ hk))
set_option maxRecDepth 100000 in
set_option maxHeartbeats 8000000 in
theorem takes48g {w0:World} {B:Nat} {N:Nv} {t:Tn} (h:TI w0 B N t):∀ (c:Nat) (cnt d:Int) (w:World),B≤c→0≤cnt∧cnt≤200000→0≤d∧d≤10001→B≤w.heap.size→(∀ b,b < B→w.heap[b]?=w0.heap[b]?) →
  w.heap[c]?=some (.cells #[.int .i64 cnt] 129 (0,0)) →
  Calls Tryz.prog 72 #[pt c,N.v,.int .i64 d] w fun e w'=>Chg w w' [c] [c]∧((∃ c',t.tk cnt d=some c'∧e=.returned (.bool true)∧w'.heap[c]?=some (.cells #[.int .i64 c'] 129 (0,0)))∨(t.tk cnt d=none∧e=.returned (.bool false))):=by
 induction h with
 | @mk N R ts ND ok hr hR hRk hs hS hk ih =>
 intro c cnt d w hBc hcb hd hB hw hc
 have HS:∀ w',Chg w w' [c] [c]→Calls Tryz.prog 111 #[N.v] w' fun e w''=>e=.returned (.bool (nodeB N.k R N.a2 N.s2 N.a4 N.a5 N.a6 N.a7 N.a8))∧Below w'.heap.size w' w'':=fun w' hch =>
  sound61 N R w' ok hr ((hR.kept (fun b hb=>(hch.block b (by omega) (by simp;omega)).trans (hw b hb))).le (by have:=hch.size;omega))
 have hmax:=ok.s
 obtain ⟨k,r1,r2,r3,a2,s1,s2,s3,a4,a5,a6,a7,a8⟩:=N
 dsimp only at hs hS hmax HS
 simp only [Tn.tk]
 have hm2:s2≤9223372036854775807:=by have:maxLen=9223372036854775807:=rfl;omega
 rw [← hs]
 generalize nodeB k R a2 s2 a4 a5 a6 a7 a8=nb at HS ⊢
 obtain ⟨r,hrr⟩:∃ r,r=if cnt + 1≤200000∧d≤10000∧nb=true then tkL ts (cnt + 1) (d + 1) else none:=⟨_,rfl⟩
 rw [← hrr]
 have HRR:=hid hrr
 clear hrr
 have hcl:=(Array.getElem?_eq_some_iff.1 hc).1
 have c0:w.cell? ⟨c,0,none⟩=some (.int .i64 cnt):=bx0 hc
 have cf:=Joins.unfrozen_of_block hc 0
 have ad0:IntKind.i64.wrap (cnt + 1)=cnt + 1:=by simp [IntKind.wrap,IntKind.bits,IntKind.signed];omega
 have adD:IntKind.i64.wrap (d + 1)=d + 1:=by simp [IntKind.wrap,IntKind.bits,IntKind.signed];omega
 have HC0:=hid hc
 have HW:=hid hw
 have HSS:=hid hS
 have IH:=hid ih
 have HL:=hid hs
 clear hc hw hS ih hs ok hr hR hRk hk hmax
 go_enter Tryz.func72,Tryz.ntmps72
 go_upto_region 2 with fail
 obtain ⟨W,hW⟩:∃ W,W=(w.setCell ⟨c,0,none⟩ (.int .i64 (cnt + 1))).alloc (.cells #[.int .i64 k,.slice r1 r2 r3,.int .i64 a2,.slice s1 s2 s3,.int .i64 a4,.int .i64 a5,.bool a6,.int .i64 a7,.string a8] 25):=⟨_,rfl⟩
 rw [← hW]
 have hsw:(w.setCell ⟨c,0,none⟩ (.int .i64 (cnt + 1))).heap.size=w.heap.size:=by simp [World.setCell]
 have hWs:W.heap.size=w.heap.size + 1:=by rw [hW];simp [World.setCell]
 have hWz:W.heap[w.heap.size]?=some (.cells #[.int .i64 k,.slice r1 r2 r3,.int .i64 a2,.slice s1 s2 s3,.int .i64 a4,.int .i64 a5,.bool a6,.int .i64 a7,.string a8] 25 (0,0)):=by rw [hW,← hsw];exact heap_alloc_new _ _
 have hWc:W.heap[c]?=some (.cells #[.int .i64 (cnt + 1)] 129 (0,0)):=by rw [hW];exact (heap_alloc_old _ _ (by omega)).trans (Joins.block_setCell (i:=0) HC0.out _)
 have hch:Chg w W [c] [c]:=by rw [hW];exact ((Chg.refl w [c]).set (a:=⟨c,0,none⟩) _ (by simp)).alloc _
 have x0:W.cell? ⟨c,0,none⟩=some (.int .i64 (cnt + 1)):=bx0 hWc
 obtain ⟨z,hz⟩:∃ z,z=w.heap.size:=⟨_,rfl⟩
 rw [← hz] at hWz hWs ⊢
 obtain ⟨o0,o1,o2,o3,o4,o5,o6,o7,o8⟩:=nine' hWz
 have HCH:=hid hch
 have HWZ:=hid hWz
 have HWC:=hid hWc
 have HWS:=hid hWs
 have HZ:=hid hz
 have HS1:=HS W hch
 clear hW hsw hWs hWz hWc hch hz c0 cf HS
 by_cases hc1:cnt + 1≤200000
 ·have b0:decide (cnt + 1 > 200000)=false:=by simp;omega
  have b0':decide (200000 < cnt + 1)=false:=by simp;omega
  by_cases hd1:d≤10000
  ·have b00:decide (d > 10000)=false:=by simp;omega
   have b00':decide (10000 < d)=false:=by simp;omega
   cases nb
   ·go_wp2_with (first | (go_at_call 111;(with_reducible refine HS1.mono ?_);rintro e w1 ⟨rfl,hb1⟩;have HB1:=hid hb1;clear hb1 HS1))
    go_ret
    exact ⟨HCH.out.trans (Chg.of_below HB1.out),.inr ⟨by rw [HRR.out,if_neg (by simp)],rfl⟩⟩
   ·go_wp2_with (first | (go_at_call 111;(with_reducible refine HS1.mono ?_);rintro e w1 ⟨rfl,hb1⟩;have k3:w1.cell? ⟨z,3,none⟩=some (.slice s1 s2 s3):=(hb1.cell (p:=⟨z,3,none⟩) (by have:=HWS.out;show z < W.heap.size;omega)).trans o3;have HB1:=hid hb1;clear hb1 HS1))
    have hch1:Chg w w1 [c] [c]:=HCH.out.trans (Chg.of_below HB1.out)
    have hcc:w1.heap[c]?=some (.cells #[.int .i64 (cnt + 1)] 129 (0,0)):=(HB1.out.block c (by have:=HWS.out;have:=HZ.out;omega)).trans HWC.out
    have HC1:=hid hcc
    have HCH1:=hid hch1
    clear hcc hch1
    have HR:Hid (r=tkL ts (cnt + 1) (d + 1)):=HRR.out.trans (if_pos ⟨hc1,hd1,by trivial⟩)
    go_loopw [33] (fun y wq=>∃ (i:Nat) (q:Int),y=.int .i64 (i:Int)∧i≤s2∧(0≤q∧q≤200000)∧Hid (tkL (ts.drop i) q (d + 1)=r)∧Hid (Chg w wq [c] [c]∧wq.heap[c]?=some (.cells #[.int .i64 q] 129 (0,0)))) (fun y _=>s2 - (intOf y).toNat)
    case atStart=>exact ⟨0,cnt + 1,rfl,by omega,by omega,HR.out.symm,HCH1.out,HC1.out⟩
    case round =>
     obtain ⟨i,q,rfl,hi,hq,HQ,HI⟩:=hrel
     by_cases hil:i < s2
     ·have b1:decide ((i:Int) < (s2:Int))=true:=by simp;omega
      have b2:(i:Int) < (s2:Int):=by omega
      have hlt:i < ts.length:=by rw [← HL.out];exact hil
      obtain ⟨b,o,hs1,hb,hcb'⟩:=HSS.out (by omega)
      subst hs1
      have hwk:∀ b,b < B→wr.heap[b]?=w0.heap[b]?:=fun b hb=>(HI.out.1.block b (by omega) (by simp;omega)).trans (HW.out b hb)
      obtain ⟨n0,n1,n2,n3,n4,n5,n6,n7,n8⟩:=(hcb' i hlt).kept (hwk b hb)
      have HC:=IH.out i hlt c q (d + 1) (wr.alloc (.cells #[.int .i64 (ND i).k,.slice (ND i).r1 (ND i).r2 (ND i).r3,.int .i64 (ND i).a2,.slice (ND i).s1 (ND i).s2 (ND i).s3,.int .i64 (ND i).a4,.int .i64 (ND i).a5,.bool (ND i).a6,.int .i64 (ND i).a7,.string (ND i).a8] 25)) hBc hq (by omega) (by have:=HI.out.1.size;simp;omega) (fun b hb=>(heap_alloc_old _ _ (by have:=HI.out.1.size;omega)).trans (hwk b hb)) ((heap_alloc_old wr _ (by have:=HI.out.1.size;omega)).trans HI.out.2)
      rw [tkL_drop ts i hlt q (d + 1)] at HQ
      have hsp:=Tn.tk_spec ts[i] q (d + 1) hq.2 (by omega)
      have hg2:∀ c',ts[i].tk q (d + 1)=some c'→0≤c'∧c'≤200000:=fun c' hc'=>by
       rw [hsp] at hc'
       split at hc'
       ·simp at hc';omega
       ·simp at hc'
      obtain ⟨g,hg⟩:∃ g,g=ts[i].tk q (d + 1):=⟨_,rfl⟩
      rw [← hg] at HC HQ hg2
      have HG2:=hid hg2
      obtain ⟨M,hM⟩:∃ M,M=ND i:=⟨_,rfl⟩
      rw [← hM] at HC n0 n1 n2 n3 n4 n5 n6 n7 n8
      have ad1:IntKind.i64.wrap ((i:Int) + 1)=(i:Int) + 1:=by simp [IntKind.wrap,IntKind.bits,IntKind.signed];omega
      clear hM hg hwk hcb' hsp hlt hg2
      cases g with
      | none =>
       have HC':=HC.mono (R':=fun e w'=>e=.returned (.bool false)∧Chg _ w' [c] [c]) (fun e w' ⟨h1,h2⟩=>by
        rcases h2 with ⟨c',h,_⟩ | ⟨_,h⟩
        ·cases h
        ·exact ⟨h,h1⟩)
       clear HC
       have e:=HQ.out
       simp only at e
       have E:=hid e
       clear e HQ HG2
       go_wp2_with (first | (go_at_call 72;(with_reducible refine HC'.mono ?_);rintro e w2 ⟨rfl,hc2⟩;have HC2:=hid hc2;clear hc2 HC'))
       go_ret
       exact ⟨(HI.out.1.alloc _).trans HC2.out,.inr ⟨E.out.symm,rfl⟩⟩
      | some c' =>
       have HC':=HC.mono (R':=fun e w'=>e=.returned (.bool true)∧Chg _ w' [c] [c]∧w'.heap[c]?=some (.cells #[.int .i64 c'] 129 (0,0))) (fun e w' ⟨h1,h2⟩=>by
        rcases h2 with ⟨c',h,h3,h4⟩ | ⟨h,_⟩
        ·cases h;exact ⟨h3,h1,h4⟩
        ·cases h)
       clear HC
       have e:=HQ.out
       simp only at e
       have E:=hid e
       clear e HQ
       have hc'b:=HG2.out c' rfl
       clear HG2
       go_wp2_with (first | (go_at_call 72;(with_reducible refine HC'.mono ?_);rintro e w2 ⟨rfl,hc2,hb2⟩;have HC2:=hid hc2;have HB2:=hid hb2;clear hc2 hb2 HC'))
       refine ⟨⟨i + 1,c',by push_cast;rfl,by omega,hc'b,E.out,(HI.out.1.alloc _).trans HC2.out,HB2.out⟩,?_⟩
       simp [intOf]
       omega
     ·have b1:decide ((i:Int) < (s2:Int))=false:=by simp;omega
      obtain rfl:i=s2:=by omega
      have e:=HQ.out
      rw [HL.out,List.drop_length] at e
      simp only [tkL] at e
      have E:=hid e
      clear e
      go_wp2
      go_ret
      exact ⟨HI.out.1,.inl ⟨q,E.out.symm,rfl,HI.out.2⟩⟩
  ·have b00:decide (d > 10000)=true:=by simp;omega
   have b00':decide (10000 < d)=true:=by simp;omega
   go_wp2
   go_ret
   exact ⟨HCH.out,.inr ⟨by rw [HRR.out,if_neg (by omega)],rfl⟩⟩
 ·have b0:decide (cnt + 1 > 200000)=true:=by simp;omega
  have b0':decide (200000 < cnt + 1)=true:=by simp;omega
  go_wp2
  go_ret
  exact ⟨HCH.out,.inr ⟨by rw [HRR.out,if_neg (by omega)],rfl⟩⟩
theorem sound29g {w:World} {N:Nv} {t:Tn} (h:TI w w.heap.size N t):Calls Tryz.prog 42 #[N.v] w fun e w'=>e=.returned (.int .i64 (if t.sound then 0 else 50))∧Below w.heap.size w w':=by
 have HC:=takes48g h (w.heap.size + 1) 0 1 ((w.alloc (.cells #[.int .i64 N.k,.slice N.r1 N.r2 N.r3,.int .i64 N.a2,.slice N.s1 N.s2 N.s3,.int .i64 N.a4,.int .i64 N.a5,.bool N.a6,.int .i64 N.a7,.string N.a8] 25)).alloc (.cells #[.int .i64 0] 129)) (by omega) (by omega) (by omega) (by simp;omega) (fun b hb=>(heap_alloc_old _ _ (by simp;omega)).trans (heap_alloc_old w _ hb)) (two_new w _ _ _)
 have HS:=sound_tk t
 obtain ⟨k,r1,r2,r3,a2,s1,s2,s3,a4,a5,a6,a7,a8⟩:=N
 dsimp only at HC
 obtain ⟨g,hg⟩:∃ g,g=t.tk 0 1:=⟨_,rfl⟩
 rw [← hg] at HC HS
 rw [← HS]
 clear hg HS
 cases g with
 | none =>
  have HC':=HC.mono (R':=fun e w'=>e=.returned (.bool false)∧Chg _ w' [w.heap.size + 1] [w.heap.size + 1]) (fun e w' ⟨h1,h2⟩=>by
   rcases h2 with ⟨c',h,_⟩ | ⟨_,h⟩
   ·cases h
   ·exact ⟨h,h1⟩)
  clear HC
  go_enter Tryz.func42,Tryz.ntmps42
  go_wp2_with (first | (go_at_call 72;(with_reducible refine HC'.mono ?_);rintro e w2 ⟨rfl,hc2⟩;have HC2:=hid hc2;clear hc2 HC'))
  go_ret
  exact ⟨rfl,(below_two' w _ _).trans (HC2.out.below (by simp;omega) (fun k hk=>by simp at hk;omega))⟩
 | some c' =>
  have HC':=HC.mono (R':=fun e w'=>e=.returned (.bool true)∧Chg _ w' [w.heap.size + 1] [w.heap.size + 1]) (fun e w' ⟨h1,h2⟩=>by
   rcases h2 with ⟨c',h,h3,h4⟩ | ⟨h,_⟩
   ·exact ⟨h3,h1⟩
   ·cases h)
  clear HC
  go_enter Tryz.func42,Tryz.ntmps42
  go_wp2_with (first | (go_at_call 72;(with_reducible refine HC'.mono ?_);rintro e w2 ⟨rfl,hc2⟩;have HC2:=hid hc2;clear hc2 HC'))
  go_ret
  exact ⟨rfl,(below_two' w _ _).trans (HC2.out.below (by simp;omega) (fun k hk=>by simp at hk;omega))⟩
def RP (w:World) (A:Nat→Prop) (ad:Option Addr) (R:List (Int × Int)):Prop:=
 R≠[]→∃ b o,ad=some ⟨b,o,none⟩∧A b∧∀ i (hi:i < R.length),w.cell? ⟨b,o + i * 2,none⟩=some (.int .i64 R[i].1)∧w.cell? ⟨b,o + i * 2 + 1,none⟩=some (.int .i64 R[i].2)
inductive TP (w:World) (A:Nat→Prop):Nv→Tn→Prop
 | mk {N:Nv} {R:List (Int × Int)} {ts:List Tn} {ND:Nat→Nv} (ok:N.ok) (hr:N.r2=R.length) (hR:RP w A N.r1 R) (hRk:∀ x ∈ R,I64ok x.1∧I64ok x.2) (hs:N.s2=ts.length)
   (hS:0 < ts.length→∃ b o,N.s1=some ⟨b,o,none⟩∧A b∧∀ i,i < ts.length→N9 w b o i (ND i)) (hk:∀ i (hi:i < ts.length),TP w A (ND i) ts[i]) :
   TP w A N (.mk N.k R N.a2 ts N.a4 N.a5 N.a6 N.a7 N.a8)
theorem RP.kept {w w':World} {A A':Nat→Prop} {ad:Option Addr} {R:List (Int × Int)} (h:RP w A ad R) (hk:∀ b,A b→w'.heap[b]?=w.heap[b]?) (hA:∀ b,A b→A' b):RP w' A' ad R:=fun hn=>by
 obtain ⟨b,o,h1,h2,h3⟩:=h hn
 exact ⟨b,o,h1,hA b h2,fun i hi=>⟨(cell_eq (hk b h2) _).trans (h3 i hi).1,(cell_eq (hk b h2) _).trans (h3 i hi).2⟩⟩
theorem TP.kept {w w':World} {A A':Nat→Prop} {N:Nv} {t:Tn} (h:TP w A N t) (hk:∀ b,A b→w'.heap[b]?=w.heap[b]?) (hA:∀ b,A b→A' b):TP w' A' N t:=by
 induction h with
 | mk ok hr hR hRk hs hS hkk ih =>
  refine .mk ok hr (hR.kept hk hA) hRk hs (fun hp=>?_) ih
  obtain ⟨b,o,h1,h2,h3⟩:=hS hp
  exact ⟨b,o,h1,hA b h2,fun i hi=>(h3 i hi).kept (hk b h2)⟩
theorem TP.ti {w:World} {A:Nat→Prop} {B:Nat} {N:Nv} {t:Tn} (h:TP w A N t) (hA:∀ b,A b→b < B):TI w B N t:=by
 induction h with
 | mk ok hr hR hRk hs hS hkk ih =>
  refine .mk ok hr (fun hn=>?_) hRk hs (fun hp=>?_) ih
  ·obtain ⟨b,o,h1,h2,h3⟩:=hR hn;exact ⟨b,o,h1,hA b h2,h3⟩
  ·obtain ⟨b,o,h1,h2,h3⟩:=hS hp;exact ⟨b,o,h1,hA b h2,h3⟩
theorem TP.ok {w:World} {A:Nat→Prop} {N:Nv} {t:Tn} (h:TP w A N t):N.ok:=by cases h;assumption
theorem flat9 (MS:List Nv):∀ (j k:Nat) (hj:j < MS.length),k < 9→(MS.flatMap Nv.cs)[j * 9 + k]?=(Nv.cs MS[j])[k]?:=by
 induction MS with
 | nil=>intro j k hj;simp at hj
 | cons M MS ih =>
  intro j k hj hk
  rw [List.flatMap_cons]
  have e9:(Nv.cs M).length=9:=rfl
  cases j with
  | zero=>rw [List.getElem?_append_left (by rw [e9];omega)];simp
  | succ j =>
   rw [List.getElem?_append_right (by rw [e9];omega)]
   have:=ih j k (by simpa using hj) hk
   rw [e9,show (j + 1) * 9 + k - 9=j * 9 + k by omega,this]
   rfl
end Go.Proofs.YtacaanhnlfpbhaaGreat
namespace Go.Proofs.YtacaanhnlfpbhaaGreat
open Go Go.RowKit
set_option linter.unusedVariables false
section
variable {P:Program} {ops:Array Oper} {Q:Exit→Act→World→Prop} {md:Region.Mode} {S:World→Prop} {L:Nat}
def wpAnyX (P:Program) (md:Region.Mode) (ops:Array Oper) (Q:Exit→Act→World→Prop) (S:World→Prop) (L:Nat):Nat→Array Bool→Act→World→Prop
 | 0,listed,a,w=>Region.ready md ops listed=[]∧Q .normal a w
 | fuel + 1,listed,a,w =>
  (Region.ready md ops listed=[]→Q .normal a w) ∧
  ∀ i ∈ Region.ready md ops listed,wpOp P ops Q i (fun a' w'=>(i≠L→S w')∧wpAnyX P md ops Q S L fuel (listed.setIfInBounds i true) a' w') a w
theorem wpAny_of_X:∀ (fuel:Nat) (listed:Array Bool) (a:Act) (w:World),wpAnyX P md ops Q S L fuel listed a w→wpAny P md ops Q fuel listed a w
 | 0,_,_,_,h=>h
 | fuel + 1,_,_,_,h=>⟨h.1,fun i hi=>wpOp_mono (fun a' w' h'=>wpAny_of_X fuel _ a' w' h'.2) (h.2 i hi)⟩
theorem wpAnyX_first {i:Nat} {oi:Oper} {v:Value} (hi:ops[i]?=some oi) (hsel:∀ (j:Nat) (o:Oper) cs b,ops[j]?=some o→o.op≠.select cs b)
  (hQ:∀ c a w,Q (.panic c) (a.put oi.dst v) w→Q (.panic c) a w) (hL:Region.waitsFor md ops L i=true) :
  ∀ (fuel:Nat) (listed:Array Bool) (a:Act) (w:World),
   (∀ j oj,ops[j]?=some oj→j≠i→listed.getD j true=false→(∀ e ∈ oj.after,Region.binds md e=true→e.on≠i)→oi.apart ops oj=true) →
   i ∈ Region.ready md ops listed→YieldsIf P ops S oi v a→S w →
   wpAnyX P md ops Q S L fuel (listed.setIfInBounds i true) (a.put oi.dst v) w→wpAnyX P md ops Q S L (fuel + 1) listed a w:=by
 intro fuel
 induction fuel with
 | zero =>
  intro listed a w _ hr hy hS H
  refine ⟨fun h=>(by rw [h] at hr;cases hr),fun j hj=>?_⟩
  by_cases hji:j=i
  ·subst hji;exact hy.wpOp hi hS ⟨fun _=>hS,H⟩
  ·have:=ready_mono hj hji
   rw [H.1] at this
   cases this
 | succ fuel ih =>
  intro listed a w hfree hr hy hS H
  refine ⟨fun h=>(by rw [h] at hr;cases hr),fun j hj=>?_⟩
  by_cases hji:j=i
  ·subst hji;exact hy.wpOp hi hS ⟨fun _=>hS,H⟩
  ·have h1:=H.2 j (ready_mono hj hji)
   obtain ⟨hjun,oj,hoj,hall⟩:=mem_ready.1 hj
   have hnot:∀ e ∈ oj.after,Region.binds md e=true→e.on≠i:=fun e he hb heq=>by
    have h1:=hall e he hb
    have h0:=(mem_ready.1 hr).1
    rw [heq] at h1
    rcases Nat.lt_or_ge i listed.size with h' | h'
    ·simp [h'] at h0 h1;rw [h0] at h1;cases h1
    ·simp [Array.getElem?_eq_none h'] at h1
   have hjL:j≠L:=fun e=>by
    subst e
    obtain ⟨o',ho',e,he,hb,hon⟩:=Region.waitsFor_spec hL
    have:o'=oj:=Option.some.inj (ho'.symm.trans hoj)
    subst this
    exact hnot e he hb hon
   have h2:=wpOp_putIf hoj (hfree j oj hoj hji hjun hnot) (fun cs b=>hsel i oi cs b hi) (fun cs b=>hsel j oj cs b hoj) hQ hy h1
   have hfree':∀ k ok,ops[k]?=some ok→k≠i→(listed.setIfInBounds j true).getD k true=false →
     (∀ e ∈ ok.after,Region.binds md e=true→e.on≠i)→oi.apart ops ok=true:=fun k ok hk hki hun hno=>by
    refine hfree k ok hk hki ?_ hno
    by_cases hjk:j=k
    ·subst hjk;exact hjun
    ·rw [getD_set_ne true hjk] at hun;exact hun
   refine wpOp_mono (fun a' w' h3=>⟨fun _=>h3.2.1 hjL,ih (listed.setIfInBounds j true) a' w' hfree' (ready_mono hr (Ne.symm hji)) h3.1 (h3.2.1 hjL) ?_⟩) h2
   rw [Array.setIfInBounds_comm _ _ hji]
   exact h3.2.2
def wpLex (P:Program) (ops:Array Oper) (Q:Exit→Act→World→Prop) (S:World→Prop) (K:Act→Prop):List Oper→Act→Prop
 | [],a=>K a
 | o :: l,a=>∃ v,YieldsIf P ops S o v a∧(∀ c a w,Q (.panic c) (a.put o.dst v) w→Q (.panic c) a w)∧wpLex P ops Q S K l (a.put o.dst v)
theorem lex_cons {K:Act→Prop} {o:Oper} {l:List Oper} {a:Act} (v:Value) (hw:Region.wanted o (yielded ops a.tmps)=true) (hv:∀ w,S w→(execOp a.eval o).run P w=.ok (.value v) w)
  (hQ:∀ c a w,Q (.panic c) (a.put o.dst v) w→Q (.panic c) a w) (h:wpLex P ops Q S K l (a.put o.dst v)):wpLex P ops Q S K (o :: l) a:=⟨v,.inl ⟨hw,hv⟩,hQ,h⟩
theorem lex_nil {K:Act→Prop} {a:Act} (h:K a):wpLex P ops Q S K [] a:=h
end
end Go.Proofs.YtacaanhnlfpbhaaGreat
namespace Go.Proofs.YtacaanhnlfpbhaaGreat
open Go.RowKit
set_option linter.unusedVariables false
set_option linter.unusedSimpArgs false
structure Iv where
 op:Int
 x:Int
 y:Int
 a:Int
 r1:Option Addr
 r2:Nat
 r3:Nat
instance:Inhabited Iv:=⟨⟨0,0,0,0,none,0,0⟩⟩
structure In where
 op:Int
 x:Int
 y:Int
 a:Int
 R:List (Int × Int)
instance:Inhabited In:=⟨⟨0,0,0,0,[]⟩⟩
abbrev pv (ad:Option Addr) (n c:Nat) (s k:Int):Value:=.agg #[.slice ad n c,.int .i64 s,.int .i64 k]
theorem run_append_moveN {P:Program} (w:World) (base:Nat) (t ty e:TypeId) (i:TypeInfo) (z:Value) (size bytes:Nat) (ht:P.underlying t=some (.slice e)) (hi:P.info? e=some i) (hz:i.zero=some z)
  (hsize:i.size=size) (hby:i.bytes=bytes) (hzs:z.cells.size=size) (hpos:0 < size)
  (v:Value) (n:Nat) (xs:List Value) (hown:w.ownsRow base e size v n xs)
  (a:Addr) (m c:Nat) (news:List Value) (hl:news.length=m * size) (hm:0 < m) (hnews:∀ j u,news[j]?=some u→w.cell? (a.add j)=some u) (h1:∀ u ∈ news,u.oneCell'=true)
  (h63:n + m≤maxLen) (hbytes:(n + m) * bytes≤140737488355328) (hbase:base≤w.heap.size) :
  ∃ v' w',(Builtin.append_ #[t,t] ty #[v,.slice (some a) m c]).run P w=.ok v' w'∧w'.ownsRow base e size v' (n + m) (xs ++ news)∧Moved w w' v v':=by
 obtain ⟨v',w',hrun,h2,h3,h4,h5⟩:=run_append_own_at (P:=P) w base t ty e i z size bytes ht hi hz hsize hby hzs hpos v n xs hown a m c news hl hnews h1 h63 hbytes hbase
 refine ⟨v',w',hrun,h2,?_⟩
 rcases hown.2 with ⟨rfl,rfl⟩ | ⟨g,cap,cur,rfl,hbg,hg,hnc,hcm,hcs,htake⟩
 ·rcases h5 with h5 | h5
  ·exact .inl ⟨h5,h3⟩
  ·exact .inr ⟨h5,h3⟩
 ·by_cases hroom:n + m≤cap
  ·have hr:=run_append_room (P:=P) w t ty e i ht hi g n cap cur hg a m c news (by rw [hsize];omega) hnews h1 hroom (by rw [hsize,hcs,hl,← Nat.add_mul];exact Nat.mul_le_mul_right _ hroom)
   have he:=hrun.symm.trans hr
   injection he with e1 e2
   left
   exact ⟨by rw [e1];rfl,h3⟩
  ·have holds:∀ j u,xs[j]?=some u→w.cell? ((⟨g,0,none⟩:Addr).add j)=some u:=hown.cells (g:=g) rfl
   have hr:=run_append_grow (P:=P) w t ty e i z ht hi hz ⟨g,0,none⟩ n cap xs (by rw [hsize];exact hown.1) holds a m c news (by rw [hsize];omega) hnews (by omega) (by unfold maxLen at h63;omega) (growslice_fits (by omega) (by rw [hby];exact hbytes))
   have he:=hrun.symm.trans hr
   injection he with e1 e2
   right
   refine ⟨by rw [e1];rfl,?_⟩
   rw [e2]
   exact ⟨rfl,rfl,rfl,by simp,fun k hk _=>heap_alloc_old w.drew _ hk⟩
theorem wpList_append_moveN {P:Program} {w:World} {ops:Array Oper} {rest:List Oper} {o:Oper} {a:Act} {Q:Exit→Act→World→Prop} (hgd:o.guard=none) (s x:Operand) (t:TypeId)
  (ho:o.op=.call { callee:=.builtin .append,args:=#[s,x],argTypes:=#[t,t] })
  (base:Nat) (e:TypeId) (i:TypeInfo) (z:Value) (size bytes:Nat) (ht:P.underlying t=some (.slice e)) (hi:P.info? e=some i) (hz:i.zero=some z)
  (hsize:i.size=size) (hby:i.bytes=bytes) (hzs:z.cells.size=size) (hpos:0 < size)
  (v:Value) (n:Nat) (xs:List Value) (hs:a.eval s=v) (hown:w.ownsRow base e size v n xs)
  (ad:Addr) (m c:Nat) (news:List Value) (hx:a.eval x=.slice (some ad) m c) (hl:news.length=m * size) (hm:0 < m) (hnews:∀ j u,news[j]?=some u→w.cell? (ad.add j)=some u) (h1:∀ u ∈ news,u.oneCell'=true)
  (h63:n + m≤maxLen) (hbytes:(n + m) * bytes≤140737488355328) (hbase:base≤w.heap.size)
  (h:∀ v' w',Hid (w'.ownsRow base e size v' (n + m) (xs ++ news))→Hid (Moved w w' v v')→wpList P ops Q rest (a.put o.dst v') w'):wpList P ops Q (o :: rest) a w:=by
 refine wpList_plain hgd fun K hK=>?_
 obtain ⟨v',w',hr,h2,h3⟩:=run_append_moveN (P:=P) w base t o.type e i z size bytes ht hi hz hsize hby hzs hpos v n xs hown ad m c news hl hm hnews h1 h63 hbytes hbase
 unfold Oper.wp execOp
 simp only [ho,resolve,invoke,builtin,Sem.run_bind,Sem.run_pure,Result.andThen_ok,List.map_toArray,List.map_cons,List.map_nil,hs,hx,hr]
 exact hK _ _ (h v' w' h2 h3)
theorem moved_old' {w w':World} {v v':Value} {k:Nat} (h:Moved w w' v v') (hk:k < w.heap.size) (hn:v.ownBlock≠some k):w'.heap[k]?=w.heap[k]?:=by
 rcases h with ⟨_,h⟩ | ⟨_,h⟩
 ·exact h.block k hk (fun e=>hn e.symm)
 ·exact h.block k hk (by simp)
theorem run_append_nil0 {P:Program} (t ty e:TypeId) (i:TypeInfo) (ht:P.underlying t=some (.slice e)) (hi:P.info? e=some i) (ad:Option Addr) (c:Nat) (w:World) :
  (Builtin.append_ #[t,t] ty #[.slice none 0 0,.slice ad 0 c]).run P w=.ok (.slice none 0 0) w:=by
 cases ad with
 | none=>simp [Builtin.append_,run_underlying ht,sizeOf,typeInfo,hi,Builtin.lenOf,Builtin.firstCells]
 | some a=>simp [Builtin.append_,run_underlying ht,sizeOf,typeInfo,hi,Builtin.lenOf,Builtin.firstCells,loadCells,loadCellsFrom]
theorem wpList_append_nil {P:Program} {w:World} {ops:Array Oper} {rest:List Oper} {o:Oper} {a:Act} {Q:Exit→Act→World→Prop} (hgd:o.guard=none) (s x:Operand) (t:TypeId)
  (ho:o.op=.call { callee:=.builtin .append,args:=#[s,x],argTypes:=#[t,t] })
  (e:TypeId) (i:TypeInfo) (z:Value) (size bytes:Nat) (ht:P.underlying t=some (.slice e)) (hi:P.info? e=some i) (hz:i.zero=some z)
  (hsize:i.size=size) (hby:i.bytes=bytes) (hzs:z.cells.size=size) (hpos:0 < size) (hs:a.eval s=.slice none 0 0)
  (ad:Option Addr) (m c:Nat) (news:List Value) (hx:a.eval x=.slice ad m c) (hl:news.length=m * size) (hnews:0 < m→∃ b f,ad=some ⟨b,f,none⟩∧∀ j u,news[j]?=some u→w.cell? ⟨b,f + j,none⟩=some u) (h1:∀ u ∈ news,u.oneCell'=true)
  (h63:m≤maxLen) (hbytes:m * bytes≤140737488355328)
  (h:∀ v' w',Hid (w'.ownsRow w.heap.size e size v' m news)→Hid (Below w.heap.size w w')→Hid (∀ b,v'.ownBlock=some b→b < w'.heap.size)→wpList P ops Q rest (a.put o.dst v') w'):wpList P ops Q (o :: rest) a w:=by
 refine wpList_plain hgd fun K hK=>?_
 rcases Nat.eq_zero_or_pos m with h0 | h0
 ·subst h0
  have hn:news=[]:=List.length_eq_zero_iff.1 (by omega)
  subst hn
  have hr:=run_append_nil0 (P:=P) t o.type e i ht hi ad c w
  unfold Oper.wp execOp
  simp only [ho,resolve,invoke,builtin,Sem.run_bind,Sem.run_pure,Result.andThen_ok,List.map_toArray,List.map_cons,List.map_nil,hs,hx,hr]
  exact hK _ _ (h _ _ (World.ownsRow_nil _ _ _ _) (Below.refl _ _) (fun b hb=>by cases hb))
 ·obtain ⟨b,f,rfl,hc⟩:=hnews h0
  obtain ⟨v',w',hr,h2,h3⟩:=run_append_moveN (P:=P) w w.heap.size t o.type e i z size bytes ht hi hz hsize hby hzs hpos (.slice none 0 0) 0 [] (World.ownsRow_nil _ _ _ _) ⟨b,f,none⟩ m c news hl h0 (fun j u hj=>by rw [Addr.add_mid];exact hc j u hj) h1 (by omega) (by rw [Nat.zero_add];exact hbytes) (Nat.le_refl _)
  unfold Oper.wp execOp
  simp only [ho,resolve,invoke,builtin,Sem.run_bind,Sem.run_pure,Result.andThen_ok,List.map_toArray,List.map_cons,List.map_nil,hs,hx,hr]
  have hb:Below w.heap.size w w':=by
   rcases h3 with ⟨_,h⟩ | ⟨_,h⟩ <;> exact ⟨h.os,h.tape,h.output,h.size,fun k hk=>h.block k hk (by simp [Value.ownBlock])⟩
  have h2':w'.ownsRow w.heap.size e size v' m news:=by simpa using h2
  exact hK _ _ (h v' w' h2' hb (fun b hb=>(h2.lt b hb).2))
theorem block_setCells {b:Nat} {t:TypeId}:∀ (vs:List Value) (o:Nat) (w:World) (arr:Array Value),w.heap[b]?=some (.cells arr t (0,0))→∃ arr',(w.setCells b o vs).heap[b]?=some (.cells arr' t (0,0))∧arr'.size=arr.size
 | [],_,_,arr,h=>⟨arr,h,rfl⟩
 | v :: vs,o,w,arr,h=>by
  obtain ⟨arr',h1,h2⟩:=block_setCells vs (o + 1) (w.setCell ⟨b,o,none⟩ v) _ (Joins.block_setCell (i:=o) h v)
  exact ⟨arr',h1,by simpa using h2⟩
abbrev O2 (R:List (Int × Int)):List Value:=R.flatMap fun x=>[.int .i64 x.1,.int .i64 x.2]
theorem O2_len (R:List (Int × Int)):(O2 R).length=R.length * 2:=by
 induction R with
 | nil=>rfl
 | cons x R ih=>simp only [O2,List.flatMap_cons,List.length_append,List.length_cons,List.length_nil] at ih ⊢;omega
theorem O2_at:∀ (R:List (Int × Int)) (i:Nat) (hi:i < R.length),(O2 R)[i * 2]?=some (.int .i64 R[i].1)∧(O2 R)[i * 2 + 1]?=some (.int .i64 R[i].2):=by
 intro R
 induction R with
 | nil=>intro i hi;simp at hi
 | cons x R ih =>
  intro i hi
  cases i with
  | zero=>simp [O2]
  | succ i =>
   have:=ih i (by simpa using hi)
   have hf:O2 (x :: R)=[.int .i64 x.1,.int .i64 x.2] ++ O2 R:=by simp [O2]
   rw [hf,show (i + 1) * 2=i * 2 + 2 by omega,List.getElem?_append_right (by simp),show i * 2 + 2 + 1=i * 2 + 1 + 2 by omega,List.getElem?_append_right (by simp)]
   simpa using this
theorem O2_one (R:List (Int × Int)):∀ u ∈ O2 R,u.oneCell'=true:=by
 intro u hu
 simp only [O2,List.mem_flatMap] at hu
 obtain ⟨x,_,hx⟩:=hu
 simp at hx
 rcases hx with rfl | rfl <;> rfl
theorem row_len {w:World} {base e size n:Nat} {a:Option Addr} {l c:Nat} {xs:List Value} (h:w.ownsRow base e size (.slice a l c) n xs):l=n:=by
 rcases h.2 with ⟨e,h0⟩ | ⟨g,cap,cur,e,_⟩
 ·simp only [Value.slice.injEq] at e;omega
 ·simp only [Value.slice.injEq] at e;omega
structure Frm (w w':World) (v v':Value):Prop where
 os:w'.os=w.os
 tape:w'.tape=w.tape
 output:w'.output=w.output
 size:w.heap.size≤w'.heap.size
 block:∀ k,k < w.heap.size→v.ownBlock≠some k→w'.heap[k]?=w.heap[k]?
 own:∀ k,v'.ownBlock=some k→v.ownBlock=some k∨k=w.heap.size
theorem Moved.frm {w w':World} {v v':Value} (h:Moved w w' v v'):Frm w w' v v':=by
 rcases h with ⟨e,h⟩ | ⟨e,h⟩
 ·exact ⟨h.os,h.tape,h.output,h.size,fun k hk hn=>h.block k hk (fun e=>hn e.symm),fun k hk=>.inl (by rw [← e];exact hk)⟩
 ·exact ⟨h.os,h.tape,h.output,h.size,fun k hk hn=>h.block k hk (by simp),fun k hk=>.inr (by rw [e] at hk;simp at hk;exact hk.symm)⟩
theorem Frm.refl (w:World) (v:Value):Frm w w v v:=⟨rfl,rfl,rfl,Nat.le_refl _,fun _ _ _=>rfl,fun k hk=>.inl hk⟩
theorem step_append_moveN {P:Program} {ops:Array Oper} {o:Oper} {a:Act} {w:World} {K:Act→World→Prop} {Q:Exit→Act→World→Prop} {E:Prop}
  (hg:o.guard=none) (s x:Operand) (t:TypeId) (hop:o.op=Op.call { callee:=Callee.builtin Builtin.append,args:=#[s,x],argTypes:=#[t,t] })
  (base:Nat) (e:TypeId) (i:TypeInfo) (z:Value) (size bytes:Nat) (h1:P.underlying t=some (.slice e)) (h2:P.info? e=some i) (h3:i.zero=some z) (h4:i.size=size) (h5:i.bytes=bytes) (h6:z.cells.size=size) (h7:0 < size)
  (v:Value) (n:Nat) (xs:List Value) (hs:a.eval s=v) (hown:w.ownsRow base e size v n xs)
  (ad:Addr) (m c:Nat) (news:List Value) (hx:a.eval x=.slice (some ad) m c) (hn:news.length=m * size) (hm:0 < m) (hc:∀ j u,news[j]?=some u→w.cell? (ad.add j)=some u) (h1c:∀ u ∈ news,u.oneCell'=true)
  (b1:n + m≤maxLen) (b2:(n + m) * bytes≤140737488355328) (hb:base≤w.heap.size)
  (hK:∀ v' w',w'.ownsRow base e size v' (n + m) (xs ++ news)→Moved w w' v v'→K (a.put o.dst v') w') :
  if Region.wanted o (yielded ops a.tmps)=true then Oper.wp P o a w K Q else E:=by
 have hw:Region.wanted o (yielded ops a.tmps)=true:=by simp [Region.wanted,hg]
 rw [if_pos hw]
 obtain ⟨v',w',hrun,r1,r2⟩:=run_append_moveN (P:=P) w base t o.type e i z size bytes h1 h2 h3 h4 h5 h6 h7 v n xs hown ad m c news hn hm hc h1c b1 b2 hb
 unfold Oper.wp
 simp [execOp,hop,resolve,invoke,builtin,hs,hx,hrun,Result.andThen]
 exact hK v' w' r1 r2
structure Chs (A:Nat→Prop) (w w':World):Prop where
 os:w'.os=w.os
 tape:w'.tape=w.tape
 output:w'.output=w.output
 size:w.heap.size≤w'.heap.size
 block:∀ b,b < w.heap.size→¬ A b→w'.heap[b]?=w.heap[b]?
theorem Chs.refl (A:Nat→Prop) (w:World):Chs A w w:=⟨rfl,rfl,rfl,Nat.le_refl _,fun _ _ _=>rfl⟩
theorem Chs.trans {A A' A2:Nat→Prop} {w w' w2:World} (h:Chs A w w') (h':Chs A' w' w2) (h1:∀ b,A b→A2 b) (h2:∀ b,A' b→A2 b):Chs A2 w w2:=
 ⟨h'.os.trans h.os,h'.tape.trans h.tape,h'.output.trans h.output,Nat.le_trans h.size h'.size,fun b hb hn=>(h'.block b (by have:=h.size;omega) (fun h=>hn (h2 b h))).trans (h.block b hb (fun h=>hn (h1 b h)))⟩
theorem Chs.of_below {A:Nat→Prop} {w w':World} (h:Below w.heap.size w w'):Chs A w w':=⟨h.os,h.tape,h.output,h.size,fun b hb _=>h.block b hb⟩
theorem Chs.set {A:Nat→Prop} {w w':World} (h:Chs A w w') {a:Addr} (ha:A a.block) (v:Value):Chs A w (w'.setCell a v):=
 ⟨h.os,h.tape,h.output,by have:=h.size;simpa [World.setCell] using this,fun b hb hn=>(Below.heap_setCell _ _ _ _ (by intro e;apply hn;rw [e];exact ha)).trans (h.block b hb hn)⟩
theorem row_shape {w:World} {base e size n:Nat} {v:Value} {xs:List Value} (h:w.ownsRow base e size v n xs):∃ a c,v=.slice a n c∧n≤c∧c≤maxLen:=by
 rcases h.2 with ⟨rfl,rfl⟩ | ⟨g,cap,cur,h1,h2,h3,h4,h5,_⟩
 ·exact ⟨none,0,rfl,Nat.le_refl _,by simp [maxLen]⟩
 ·exact ⟨_,cap,h1,h4,h5⟩
theorem row_there {w:World} {base e size n b c:Nat} {xs:List Value} (h:w.ownsRow base e size (.slice (some ⟨b,0,none⟩) n c) n xs) {j m:Nat} (hj:j + m≤n * size):w.there b j m:=fun k hk=>by
 rcases h.2 with ⟨he,_⟩ | ⟨g,cap,cur,he,hb,hgg,h1,h2,h3,h4⟩
 ·cases he
 ·simp only [Value.slice.injEq,Option.some.injEq,Addr.mk.injEq] at he
  obtain ⟨⟨rfl,_⟩,_,rfl⟩:=he
  refine ⟨?_,Joins.unfrozen_of_block hgg _⟩
  rw [Joins.cell_of_block hgg,Array.getElem?_eq_getElem (by have:=Nat.mul_le_mul_right size h1;omega)]
  rfl
abbrev Z9:Value:=.agg #[.int .i64 0,.slice none 0 0,.int .i64 0,.slice none 0 0,.int .i64 0,.int .i64 0,.bool false,.int .i64 0,.string ⟨#[]⟩]
theorem info25:(Tryz.prog.info? 25).map (fun i=>(i.zero,i.size,i.bytes))=some (some Z9,9,112):=by kernel_rfl
theorem info53:(Tryz.prog.info? 70).map (fun i=>(i.zero,i.size,i.bytes))=some (some (.agg #[.int .i64 0,.int .i64 0]),2,16):=by kernel_rfl
theorem one9 (M:Nv):∀ u ∈ Nv.cs M,u.oneCell'=true:=by
 intro u hu
 simp only [Nv.cs,List.mem_cons,List.not_mem_nil,or_false] at hu
 rcases hu with rfl | rfl | rfl | rfl | rfl | rfl | rfl | rfl | rfl <;> rfl
end Go.Proofs.YtacaanhnlfpbhaaGreat
namespace Go.Lk
open Go.RowKit
set_option linter.unusedVariables false
set_option linter.unusedSimpArgs false
def back:Nat→Nat
 | 0=>2
 | 1=>1
 | 2=>8
 | 3=>4
 | 4=>16
 | _=>32
def bk:Nat→Nat→Nat
 | 0,_=>0
 | k + 1,m=>if m.testBit k then bk k m ||| back k else bk k m
def put (k:Nat) (x:Int):Int:=x - x % 64 + (bk k (x % 64).toNat:Nat)
end Go.Lk
namespace Go.Proofs.YtacaanhnlfpbhaaGreat
open Go.RowKit Go.Lk
set_option linter.unusedVariables false
set_option linter.unusedSimpArgs false
theorem fineL_get {ts:List Tn} (h:fineL ts=true):∀ (i:Nat) (hi:i < ts.length),ts[i].fine=true:=by
 induction ts with
 | nil=>intro i hi;simp at hi
 | cons t ts ih =>
  simp only [fineL,Bool.and_eq_true] at h
  intro i hi
  cases i with
  | zero=>exact h.1
  | succ i=>exact ih h.2 i (by simpa using hi)
theorem nodes_ge (ts:List Tn):ts.length≤nodesL ts:=by
 induction ts with
 | nil=>simp
 | cons t ts ih=>simp only [nodesL,List.length_cons];have:=t.pos;omega
theorem nodes_get (ts:List Tn):∀ (i:Nat) (hi:i < ts.length),ts[i].nodes≤nodesL ts:=by
 induction ts with
 | nil=>intro i hi;simp at hi
 | cons t ts ih =>
  intro i hi
  cases i with
  | zero=>simp only [nodesL,List.getElem_cons_zero];omega
  | succ i=>have:=ih i (by simpa using hi);simp only [nodesL,List.getElem_cons_succ];omega
end Go.Proofs.YtacaanhnlfpbhaaGreat
namespace Go.Proofs.YtacaanhnlfpbhaaGreat
open Go.RowKit
set_option linter.unusedVariables false
set_option linter.unusedSimpArgs false
abbrev Nv.rb (N:Nv):Option Nat:=(Value.slice N.r1 N.r2 N.r3).ownBlock
abbrev Nv.sb (N:Nv):Option Nat:=(Value.slice N.s1 N.s2 N.s3).ownBlock
theorem row_nine {w:World} {base n:Nat} {a:Option Addr} {l c:Nat} {MS:List Nv} (h:w.ownsRow base 25 9 (.slice a l c) n (MS.flatMap Nv.cs)) (hn:n=MS.length) (hp:0 < n):∃ b,a=some ⟨b,0,none⟩∧(Value.slice a l c).ownBlock=some b∧∀ i (hi:i < MS.length),N9 w b 0 i MS[i]:=by
 rcases h.2 with ⟨e,h0⟩ | ⟨b,cap,cur,e,_⟩
 ·omega
 ·rw [e] at h
  simp only [Value.slice.injEq] at e
  refine ⟨b,e.1,by rw [e.1];rfl,fun i hi=>?_⟩
  have c:∀ k,k < 9→w.cell? ⟨b,0 + i * 9 + k,none⟩=(Nv.cs MS[i])[k]?:=fun k hk=>by
   rw [Nat.zero_add,h.cellAt (i * 9 + k) (by omega),flat9 MS i k hi hk]
  exact ⟨c 0 (by omega),c 1 (by omega),c 2 (by omega),c 3 (by omega),c 4 (by omega),c 5 (by omega),c 6 (by omega),c 7 (by omega),c 8 (by omega)⟩
theorem moved_below {w:World} {B:Nat} {W w3:World} {v v':Value} (hb:Below B W w) (hB:B≤w.heap.size) (hv:∀ k,v.ownBlock=some k→B≤k) (hm:Moved w w3 v v'):Below B W w3∧w.heap.size≤w3.heap.size:=by
 have hs3:w.heap.size≤w3.heap.size:=by rcases hm with ⟨_,h⟩ | ⟨_,h⟩ <;> exact h.size
 have hold:∀ k,k < B→w3.heap[k]?=w.heap[k]?:=fun k hk=>moved_old' hm (by omega) (fun e=>by have:=hv k e;omega)
 refine ⟨⟨?_,?_,?_,by have:=hb.size;omega,fun k hk=>(hold k hk).trans (hb.block k hk)⟩,hs3⟩
 ·rcases hm with ⟨_,h⟩ | ⟨_,h⟩ <;> exact h.os.trans hb.os
 ·rcases hm with ⟨_,h⟩ | ⟨_,h⟩ <;> exact h.tape.trans hb.tape
 ·rcases hm with ⟨_,h⟩ | ⟨_,h⟩ <;> exact h.output.trans hb.output
end Go.Proofs.YtacaanhnlfpbhaaGreat
