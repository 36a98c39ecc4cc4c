/- HELPERS: texts of ours put together. -/
import Derived.Test.YtacaanhnlfpbhaaGreatK02
import Derived.Laws.EntriesVeiled
import Derived.OrdersHeld
import Derived.StillTail
import Derived.Tactics
import Derived.RowKit
import Derived.Below
import Derived.Test.YtacaanhnlfpbhaaGreatK01
import Derived.Deep.Cut
import Derived.Deep.CutRange
import Derived.Deep.RegionHeld3
import Derived.Deep.QuietTactic
import Derived.BigQuiet
namespace Go.Proofs.YtacaanhnlfpbhaaGreat
open Go.RowKit
set_option linter.unusedVariables false
set_option linter.unusedSimpArgs false
theorem hid {p:Prop} (h:p):Hid p:=h
abbrev pt (b:Nat):Value:=.pointer (some ⟨b,0,none⟩)
abbrev Bx (w:World) (b:Nat) (t:TypeId) (v:Value):Prop:=w.heap[b]?=some (.cells #[v] t (0,0))
theorem row_kept {w w':World} {base e size n:Nat} {v:Value} {xs:List Value} (h:w.ownsRow base e size v n xs) (hk:∀ b,v.ownBlock=some b→w'.heap[b]?=w.heap[b]?):w'.ownsRow base e size v n xs:=by
 refine ⟨h.1,?_⟩
 rcases h.2 with hn | ⟨g,cap,cur,rfl,hb,hgg,rest⟩
 ·exact .inl hn
 ·exact .inr ⟨g,cap,cur,rfl,hb,(hk g rfl).trans hgg,rest⟩
theorem bx0 {w:World} {b:Nat} {t:TypeId} {v:Value} (h:Bx w b t v):w.cell? ⟨b,0,none⟩=some v:=Joins.cell_of_block h 0
theorem Chg.trans {w w1 w2:World} {F F' F2:List Nat} (h:Chg w w1 F F') (h2:Chg w1 w2 F' F2):Chg w w2 F F2:=by
 refine ⟨h2.os.trans h.os,h2.tape.trans h.tape,h2.output.trans h.output,Nat.le_trans h.size h2.size,fun k hk hn=>?_,fun k hk=>?_⟩
 ·refine (h2.block k (Nat.lt_of_lt_of_le hk h.size) (fun hm=>?_)).trans (h.block k hk hn)
  rcases h.new k hm with h3 | h3
  ·exact hn h3
  ·omega
 ·rcases h2.new k hk with h3 | h3
  ·exact h.new k h3
  ·right;have:=h.size;omega
theorem Chg.refl (w:World) (F:List Nat):Chg w w F F:=⟨rfl,rfl,rfl,Nat.le_refl _,fun _ _ _=>rfl,fun _ h=>.inl h⟩
theorem Chg.alloc {w w':World} {F F':List Nat} (h:Chg w w' F F') (o:Obj):Chg w (w'.alloc o) F F':=
 ⟨h.os,h.tape,h.output,by have:=h.size;simp;omega,fun k hk hn=>(heap_alloc_old w' o (by have:=h.size;omega)).trans (h.block k hk hn),h.new⟩
theorem three_new (w:World) (o o' o2:Obj):(((w.alloc o).alloc o').alloc o2).heap[w.heap.size]?=some o∧(((w.alloc o).alloc o').alloc o2).heap[w.heap.size + 1]?=some o'∧(((w.alloc o).alloc o').alloc o2).heap[w.heap.size + 1 + 1]?=some o2 ∧
  ∀ k,k < w.heap.size→(((w.alloc o).alloc o').alloc o2).heap[k]?=w.heap[k]?:=by
 have s1:(w.alloc o).heap.size=w.heap.size + 1:=by simp
 have s2:((w.alloc o).alloc o').heap.size=w.heap.size + 1 + 1:=by simp
 refine ⟨?_,?_,?_,fun k hk=>?_⟩
 ·exact (heap_alloc_old _ _ (by omega)).trans ((heap_alloc_old _ _ (by omega)).trans (heap_alloc_new w o))
 ·refine (heap_alloc_old _ _ (by omega)).trans ?_
  rw [← s1];exact heap_alloc_new _ _
 ·rw [← s2];exact heap_alloc_new _ _
 ·exact (heap_alloc_old _ _ (by omega)).trans ((heap_alloc_old _ _ (by omega)).trans (heap_alloc_old _ _ hk))
set_option maxRecDepth 100000 in
set_option maxHeartbeats 8000000 in
theorem takes48g {w0:World} {B:Nat} {N:Nv} {t:Tn} (h:TI w0 B N t):∀ (c:Nat) (cnt d:Int) (w:World),B≤c→0≤cnt∧cnt≤200000→0≤d∧d≤10001→B≤w.heap.size→(∀ b,b < B→w.heap[b]?=w0.heap[b]?) →
  w.heap[c]?=some (.cells #[.int .i64 cnt] 129 (0,0)) →
  Calls Tryz.prog 72 #[pt c,N.v,.int .i64 d] w fun e w'=>Chg w w' [c] [c]∧((∃ c',t.tk cnt d=some c'∧e=.returned (.bool true)∧w'.heap[c]?=some (.cells #[.int .i64 c'] 129 (0,0)))∨(t.tk cnt d=none∧e=.returned (.bool false))):=by
 induction h with
 | @mk N R ts ND ok hr hR hRk hs hS hk ih =>
 intro c cnt d w hBc hcb hd hB hw hc
 have HS:∀ w',Chg w w' [c] [c]→Calls Tryz.prog 111 #[N.v] w' fun e w''=>e=.returned (.bool (nodeB N.k R N.a2 N.s2 N.a4 N.a5 N.a6 N.a7 N.a8))∧Below w'.heap.size w' w'':=fun w' hch =>
  sound61 N R w' ok hr ((hR.kept (fun b hb=>(hch.block b (by omega) (by simp;omega)).trans (hw b hb))).le (by have:=hch.size;omega))
 have hmax:=ok.s
 obtain ⟨k,r1,r2,r3,a2,s1,s2,s3,a4,a5,a6,a7,a8⟩:=N
 dsimp only at hs hS hmax HS
 simp only [Tn.tk]
 have hm2:s2≤9223372036854775807:=by have:maxLen=9223372036854775807:=rfl;omega
 rw [← hs]
 generalize nodeB k R a2 s2 a4 a5 a6 a7 a8=nb at HS ⊢
 obtain ⟨r,hrr⟩:∃ r,r=if cnt + 1≤200000∧d≤10000∧nb=true then tkL ts (cnt + 1) (d + 1) else none:=⟨_,rfl⟩
 rw [← hrr]
 have HRR:=hid hrr
 clear hrr
 have hcl:=(Array.getElem?_eq_some_iff.1 hc).1
 have c0:w.cell? ⟨c,0,none⟩=some (.int .i64 cnt):=bx0 hc
 have cf:=Joins.unfrozen_of_block hc 0
 have ad0:IntKind.i64.wrap (cnt + 1)=cnt + 1:=by simp [IntKind.wrap,IntKind.bits,IntKind.signed];omega
 have adD:IntKind.i64.wrap (d + 1)=d + 1:=by simp [IntKind.wrap,IntKind.bits,IntKind.signed];omega
 have HC0:=hid hc
 have HW:=hid hw
 have HSS:=hid hS
 have IH:=hid ih
 have HL:=hid hs
 clear hc hw hS ih hs ok hr hR hRk hk hmax
 go_enter Tryz.func72,Tryz.ntmps72
 go_upto_region 2 with fail
 obtain ⟨W,hW⟩:∃ W,W=(w.setCell ⟨c,0,none⟩ (.int .i64 (cnt + 1))).alloc (.cells #[.int .i64 k,.slice r1 r2 r3,.int .i64 a2,.slice s1 s2 s3,.int .i64 a4,.int .i64 a5,.bool a6,.int .i64 a7,.string a8] 25):=⟨_,rfl⟩
 rw [← hW]
 have hsw:(w.setCell ⟨c,0,none⟩ (.int .i64 (cnt + 1))).heap.size=w.heap.size:=by simp [World.setCell]
 have hWs:W.heap.size=w.heap.size + 1:=by rw [hW];simp [World.setCell]
 have hWz:W.heap[w.heap.size]?=some (.cells #[.int .i64 k,.slice r1 r2 r3,.int .i64 a2,.slice s1 s2 s3,.int .i64 a4,.int .i64 a5,.bool a6,.int .i64 a7,.string a8] 25 (0,0)):=by rw [hW,← hsw];exact heap_alloc_new _ _
 have hWc:W.heap[c]?=some (.cells #[.int .i64 (cnt + 1)] 129 (0,0)):=by rw [hW];exact (heap_alloc_old _ _ (by omega)).trans (Joins.block_setCell (i:=0) HC0.out _)
 have hch:Chg w W [c] [c]:=by rw [hW];exact ((Chg.refl w [c]).set (a:=⟨c,0,none⟩) _ (by simp)).alloc _
 have x0:W.cell? ⟨c,0,none⟩=some (.int .i64 (cnt + 1)):=bx0 hWc
 obtain ⟨z,hz⟩:∃ z,z=w.heap.size:=⟨_,rfl⟩
 rw [← hz] at hWz hWs ⊢
 obtain ⟨o0,o1,o2,o3,o4,o5,o6,o7,o8⟩:=nine' hWz
 have HCH:=hid hch
 have HWZ:=hid hWz
 have HWC:=hid hWc
 have HWS:=hid hWs
 have HZ:=hid hz
 have HS1:=HS W hch
 clear hW hsw hWs hWz hWc hch hz c0 cf HS
 by_cases hc1:cnt + 1≤200000
 ·have b0:decide (cnt + 1 > 200000)=false:=by simp;omega
  have b0':decide (200000 < cnt + 1)=false:=by simp;omega
  by_cases hd1:d≤10000
  ·have b00:decide (d > 10000)=false:=by simp;omega
   have b00':decide (10000 < d)=false:=by simp;omega
   cases nb
   ·go_wp2_with (first | (go_at_call 111;(with_reducible refine HS1.mono ?_);rintro e w1 ⟨rfl,hb1⟩;have HB1:=hid hb1;clear hb1 HS1))
    go_ret
    exact ⟨HCH.out.trans (Chg.of_below HB1.out),.inr ⟨by rw [HRR.out,if_neg (by simp)],rfl⟩⟩
   ·go_wp2_with (first | (go_at_call 111;(with_reducible refine HS1.mono ?_);rintro e w1 ⟨rfl,hb1⟩;have k3:w1.cell? ⟨z,3,none⟩=some (.slice s1 s2 s3):=(hb1.cell (p:=⟨z,3,none⟩) (by have:=HWS.out;show z < W.heap.size;omega)).trans o3;have HB1:=hid hb1;clear hb1 HS1))
    have hch1:Chg w w1 [c] [c]:=HCH.out.trans (Chg.of_below HB1.out)
    have hcc:w1.heap[c]?=some (.cells #[.int .i64 (cnt + 1)] 129 (0,0)):=(HB1.out.block c (by have:=HWS.out;have:=HZ.out;omega)).trans HWC.out
    have HC1:=hid hcc
    have HCH1:=hid hch1
    clear hcc hch1
    have HR:Hid (r=tkL ts (cnt + 1) (d + 1)):=HRR.out.trans (if_pos ⟨hc1,hd1,by trivial⟩)
    go_loopw [33] (fun y wq=>∃ (i:Nat) (q:Int),y=.int .i64 (i:Int)∧i≤s2∧(0≤q∧q≤200000)∧Hid (tkL (ts.drop i) q (d + 1)=r)∧Hid (Chg w wq [c] [c]∧wq.heap[c]?=some (.cells #[.int .i64 q] 129 (0,0)))) (fun y _=>s2 - (intOf y).toNat)
    case atStart=>exact ⟨0,cnt + 1,rfl,by omega,by omega,HR.out.symm,HCH1.out,HC1.out⟩
    case round =>
     obtain ⟨i,q,rfl,hi,hq,HQ,HI⟩:=hrel
     by_cases hil:i < s2
     ·have b1:decide ((i:Int) < (s2:Int))=true:=by simp;omega
      have b2:(i:Int) < (s2:Int):=by omega
      have hlt:i < ts.length:=by rw [← HL.out];exact hil
      obtain ⟨b,o,hs1,hb,hcb'⟩:=HSS.out (by omega)
      subst hs1
      have hwk:∀ b,b < B→wr.heap[b]?=w0.heap[b]?:=fun b hb=>(HI.out.1.block b (by omega) (by simp;omega)).trans (HW.out b hb)
      obtain ⟨n0,n1,n2,n3,n4,n5,n6,n7,n8⟩:=(hcb' i hlt).kept (hwk b hb)
      have HC:=IH.out i hlt c q (d + 1) (wr.alloc (.cells #[.int .i64 (ND i).k,.slice (ND i).r1 (ND i).r2 (ND i).r3,.int .i64 (ND i).a2,.slice (ND i).s1 (ND i).s2 (ND i).s3,.int .i64 (ND i).a4,.int .i64 (ND i).a5,.bool (ND i).a6,.int .i64 (ND i).a7,.string (ND i).a8] 25)) hBc hq (by omega) (by have:=HI.out.1.size;simp;omega) (fun b hb=>(heap_alloc_old _ _ (by have:=HI.out.1.size;omega)).trans (hwk b hb)) ((heap_alloc_old wr _ (by have:=HI.out.1.size;omega)).trans HI.out.2)
      rw [tkL_drop ts i hlt q (d + 1)] at HQ
      have hsp:=Tn.tk_spec ts[i] q (d + 1) hq.2 (by omega)
      have hg2:∀ c',ts[i].tk q (d + 1)=some c'→0≤c'∧c'≤200000:=fun c' hc'=>by
       rw [hsp] at hc'
       split at hc'
       ·simp at hc';omega
       ·simp at hc'
      obtain ⟨g,hg⟩:∃ g,g=ts[i].tk q (d + 1):=⟨_,rfl⟩
      rw [← hg] at HC HQ hg2
      have HG2:=hid hg2
      obtain ⟨M,hM⟩:∃ M,M=ND i:=⟨_,rfl⟩
      rw [← hM] at HC n0 n1 n2 n3 n4 n5 n6 n7 n8
      have ad1:IntKind.i64.wrap ((i:Int) + 1)=(i:Int) + 1:=by simp [IntKind.wrap,IntKind.bits,IntKind.signed];omega
      clear hM hg hwk hcb' hsp hlt hg2
      cases g with
      | none =>
       have HC':=HC.mono (R':=fun e w'=>e=.returned (.bool false)∧Chg _ w' [c] [c]) (fun e w' ⟨h1,h2⟩=>by
        rcases h2 with ⟨c',h,_⟩ | ⟨_,h⟩
        ·cases h
        ·exact ⟨h,h1⟩)
       clear HC
       have e:=HQ.out
       simp only at e
       have E:=hid e
       clear e HQ HG2
       go_wp2_with (first | (go_at_call 72;(with_reducible refine HC'.mono ?_);rintro e w2 ⟨rfl,hc2⟩;have HC2:=hid hc2;clear hc2 HC'))
       go_ret
       exact ⟨(HI.out.1.alloc _).trans HC2.out,.inr ⟨E.out.symm,rfl⟩⟩
      | some c' =>
       have HC':=HC.mono (R':=fun e w'=>e=.returned (.bool true)∧Chg _ w' [c] [c]∧w'.heap[c]?=some (.cells #[.int .i64 c'] 129 (0,0))) (fun e w' ⟨h1,h2⟩=>by
        rcases h2 with ⟨c',h,h3,h4⟩ | ⟨h,_⟩
        ·cases h;exact ⟨h3,h1,h4⟩
        ·cases h)
       clear HC
       have e:=HQ.out
       simp only at e
       have E:=hid e
       clear e HQ
       have hc'b:=HG2.out c' rfl
       clear HG2
       go_wp2_with (first | (go_at_call 72;(with_reducible refine HC'.mono ?_);rintro e w2 ⟨rfl,hc2,hb2⟩;have HC2:=hid hc2;have HB2:=hid hb2;clear hc2 hb2 HC'))
       refine ⟨⟨i + 1,c',by push_cast;rfl,by omega,hc'b,E.out,(HI.out.1.alloc _).trans HC2.out,HB2.out⟩,?_⟩
       simp [intOf]
       omega
     ·have b1:decide ((i:Int) < (s2:Int))=false:=by simp;omega
      obtain rfl:i=s2:=by omega
      have e:=HQ.out
      rw [HL.out,List.drop_length] at e
      simp only [tkL] at e
      have E:=hid e
      clear e
      go_wp2
      go_ret
      exact ⟨HI.out.1,.inl ⟨q,E.out.symm,rfl,HI.out.2⟩⟩
  ·have b00:decide (d > 10000)=true:=by simp;omega
   have b00':decide (10000 < d)=true:=by simp;omega
   go_wp2
   go_ret
   exact ⟨HCH.out,.inr ⟨by rw [HRR.out,if_neg (by omega)],rfl⟩⟩
 ·have b0:decide (cnt + 1 > 200000)=true:=by simp;omega
  have b0':decide (200000 < cnt + 1)=true:=by simp;omega
  go_wp2
  go_ret
  exact ⟨HCH.out,.inr ⟨by rw [HRR.out,if_neg (by omega)],rfl⟩⟩
theorem sound29g {w:World} {N:Nv} {t:Tn} (h:TI w w.heap.size N t):Calls Tryz.prog 42 #[N.v] w fun e w'=>e=.returned (.int .i64 (if t.sound then 0 else 50))∧Below w.heap.size w w':=by
 have HC:=takes48g h (w.heap.size + 1) 0 1 ((w.alloc (.cells #[.int .i64 N.k,.slice N.r1 N.r2 N.r3,.int .i64 N.a2,.slice N.s1 N.s2 N.s3,.int .i64 N.a4,.int .i64 N.a5,.bool N.a6,.int .i64 N.a7,.string N.a8] 25)).alloc (.cells #[.int .i64 0] 129)) (by omega) (by omega) (by omega) (by simp;omega) (fun b hb=>(heap_alloc_old _ _ (by simp;omega)).trans (heap_alloc_old w _ hb)) (two_new w _ _ _)
 have HS:=sound_tk t
 obtain ⟨k,r1,r2,r3,a2,s1,s2,s3,a4,a5,a6,a7,a8⟩:=N
 dsimp only at HC
 obtain ⟨g,hg⟩:∃ g,g=t.tk 0 1:=⟨_,rfl⟩
 rw [← hg] at HC HS
 rw [← HS]
 clear hg HS
 cases g with
 | none =>
  have HC':=HC.mono (R':=fun e w'=>e=.returned (.bool false)∧Chg _ w' [w.heap.size + 1] [w.heap.size + 1]) (fun e w' ⟨h1,h2⟩=>by
   rcases h2 with ⟨c',h,_⟩ | ⟨_,h⟩
   ·cases h
   ·exact ⟨h,h1⟩)
  clear HC
  go_enter Tryz.func42,Tryz.ntmps42
  go_wp2_with (first | (go_at_call 72;(with_reducible refine HC'.mono ?_);rintro e w2 ⟨rfl,hc2⟩;have HC2:=hid hc2;clear hc2 HC'))
  go_ret
  exact ⟨rfl,(below_two' w _ _).trans (HC2.out.below (by simp;omega) (fun k hk=>by simp at hk;omega))⟩
 | some c' =>
  have HC':=HC.mono (R':=fun e w'=>e=.returned (.bool true)∧Chg _ w' [w.heap.size + 1] [w.heap.size + 1]) (fun e w' ⟨h1,h2⟩=>by
   rcases h2 with ⟨c',h,h3,h4⟩ | ⟨h,_⟩
   ·exact ⟨h3,h1⟩
   ·cases h)
  clear HC
  go_enter Tryz.func42,Tryz.ntmps42
  go_wp2_with (first | (go_at_call 72;(with_reducible refine HC'.mono ?_);rintro e w2 ⟨rfl,hc2⟩;have HC2:=hid hc2;clear hc2 HC'))
  go_ret
  exact ⟨rfl,(below_two' w _ _).trans (HC2.out.below (by simp;omega) (fun k hk=>by simp at hk;omega))⟩
def RP (w:World) (A:Nat→Prop) (ad:Option Addr) (R:List (Int × Int)):Prop:=
 R≠[]→∃ b o,ad=some ⟨b,o,none⟩∧A b∧∀ i (hi:i < R.length),w.cell? ⟨b,o + i * 2,none⟩=some (.int .i64 R[i].1)∧w.cell? ⟨b,o + i * 2 + 1,none⟩=some (.int .i64 R[i].2)
inductive TP (w:World) (A:Nat→Prop):Nv→Tn→Prop
 | mk {N:Nv} {R:List (Int × Int)} {ts:List Tn} {ND:Nat→Nv} (ok:N.ok) (hr:N.r2=R.length) (hR:RP w A N.r1 R) (hRk:∀ x ∈ R,I64ok x.1∧I64ok x.2) (hs:N.s2=ts.length)
   (hS:0 < ts.length→∃ b o,N.s1=some ⟨b,o,none⟩∧A b∧∀ i,i < ts.length→N9 w b o i (ND i)) (hk:∀ i (hi:i < ts.length),TP w A (ND i) ts[i]) :
   TP w A N (.mk N.k R N.a2 ts N.a4 N.a5 N.a6 N.a7 N.a8)
theorem RP.kept {w w':World} {A A':Nat→Prop} {ad:Option Addr} {R:List (Int × Int)} (h:RP w A ad R) (hk:∀ b,A b→w'.heap[b]?=w.heap[b]?) (hA:∀ b,A b→A' b):RP w' A' ad R:=fun hn=>by
 obtain ⟨b,o,h1,h2,h3⟩:=h hn
 exact ⟨b,o,h1,hA b h2,fun i hi=>⟨(cell_eq (hk b h2) _).trans (h3 i hi).1,(cell_eq (hk b h2) _).trans (h3 i hi).2⟩⟩
theorem TP.kept {w w':World} {A A':Nat→Prop} {N:Nv} {t:Tn} (h:TP w A N t) (hk:∀ b,A b→w'.heap[b]?=w.heap[b]?) (hA:∀ b,A b→A' b):TP w' A' N t:=by
 induction h with
 | mk ok hr hR hRk hs hS hkk ih =>
  refine .mk ok hr (hR.kept hk hA) hRk hs (fun hp=>?_) ih
  obtain ⟨b,o,h1,h2,h3⟩:=hS hp
  exact ⟨b,o,h1,hA b h2,fun i hi=>(h3 i hi).kept (hk b h2)⟩
theorem TP.ti {w:World} {A:Nat→Prop} {B:Nat} {N:Nv} {t:Tn} (h:TP w A N t) (hA:∀ b,A b→b < B):TI w B N t:=by
 induction h with
 | mk ok hr hR hRk hs hS hkk ih =>
  refine .mk ok hr (fun hn=>?_) hRk hs (fun hp=>?_) ih
  ·obtain ⟨b,o,h1,h2,h3⟩:=hR hn;exact ⟨b,o,h1,hA b h2,h3⟩
  ·obtain ⟨b,o,h1,h2,h3⟩:=hS hp;exact ⟨b,o,h1,hA b h2,h3⟩
theorem flat9 (MS:List Nv):∀ (j k:Nat) (hj:j < MS.length),k < 9→(MS.flatMap Nv.cs)[j * 9 + k]?=(Nv.cs MS[j])[k]?:=by
 induction MS with
 | nil=>intro j k hj;simp at hj
 | cons M MS ih =>
  intro j k hj hk
  rw [List.flatMap_cons]
  have e9:(Nv.cs M).length=9:=rfl
  cases j with
  | zero=>rw [List.getElem?_append_left (by rw [e9];omega)];simp
  | succ j =>
   rw [List.getElem?_append_right (by rw [e9];omega)]
   have:=ih j k (by simpa using hj) hk
   rw [e9,show (j + 1) * 9 + k - 9=j * 9 + k by omega,this]
   rfl
theorem flat9_len (MS:List Nv):(MS.flatMap Nv.cs).length=MS.length * 9:=by
 induction MS with
 | nil=>rfl
 | cons M MS ih =>
  have e9:(Nv.cs M).length=9:=rfl
  rw [List.flatMap_cons,List.length_append,ih,e9,List.length_cons]
  omega
end Go.Proofs.YtacaanhnlfpbhaaGreat
namespace Go.Proofs.YtacaanhnlfpbhaaGreat
open Go Go.RowKit
set_option linter.unusedVariables false
section
variable {P:Program} {ops:Array Oper} {Q:Exit→Act→World→Prop} {md:Region.Mode} {S:World→Prop} {L:Nat}
def wpAnyX (P:Program) (md:Region.Mode) (ops:Array Oper) (Q:Exit→Act→World→Prop) (S:World→Prop) (L:Nat):Nat→Array Bool→Act→World→Prop
 | 0,listed,a,w=>Region.ready md ops listed=[]∧Q .normal a w
 | fuel + 1,listed,a,w =>
  (Region.ready md ops listed=[]→Q .normal a w) ∧
  ∀ i ∈ Region.ready md ops listed,wpOp P ops Q i (fun a' w'=>(i≠L→S w')∧wpAnyX P md ops Q S L fuel (listed.setIfInBounds i true) a' w') a w
theorem wpAny_of_X:∀ (fuel:Nat) (listed:Array Bool) (a:Act) (w:World),wpAnyX P md ops Q S L fuel listed a w→wpAny P md ops Q fuel listed a w
 | 0,_,_,_,h=>h
 | fuel + 1,_,_,_,h=>⟨h.1,fun i hi=>wpOp_mono (fun a' w' h'=>wpAny_of_X fuel _ a' w' h'.2) (h.2 i hi)⟩
theorem wpAnyX_first {i:Nat} {oi:Oper} {v:Value} (hi:ops[i]?=some oi) (hsel:∀ (j:Nat) (o:Oper) cs b,ops[j]?=some o→o.op≠.select cs b)
  (hQ:∀ c a w,Q (.panic c) (a.put oi.dst v) w→Q (.panic c) a w) (hL:Region.waitsFor md ops L i=true) :
  ∀ (fuel:Nat) (listed:Array Bool) (a:Act) (w:World),
   (∀ j oj,ops[j]?=some oj→j≠i→listed.getD j true=false→(∀ e ∈ oj.after,Region.binds md e=true→e.on≠i)→oi.apart ops oj=true) →
   i ∈ Region.ready md ops listed→YieldsIf P ops S oi v a→S w →
   wpAnyX P md ops Q S L fuel (listed.setIfInBounds i true) (a.put oi.dst v) w→wpAnyX P md ops Q S L (fuel + 1) listed a w:=by
 intro fuel
 induction fuel with
 | zero =>
  intro listed a w _ hr hy hS H
  refine ⟨fun h=>(by rw [h] at hr;cases hr),fun j hj=>?_⟩
  by_cases hji:j=i
  ·subst hji;exact hy.wpOp hi hS ⟨fun _=>hS,H⟩
  ·have:=ready_mono hj hji
   rw [H.1] at this
   cases this
 | succ fuel ih =>
  intro listed a w hfree hr hy hS H
  refine ⟨fun h=>(by rw [h] at hr;cases hr),fun j hj=>?_⟩
  by_cases hji:j=i
  ·subst hji;exact hy.wpOp hi hS ⟨fun _=>hS,H⟩
  ·have h1:=H.2 j (ready_mono hj hji)
   obtain ⟨hjun,oj,hoj,hall⟩:=mem_ready.1 hj
   have hnot:∀ e ∈ oj.after,Region.binds md e=true→e.on≠i:=fun e he hb heq=>by
    have h1:=hall e he hb
    have h0:=(mem_ready.1 hr).1
    rw [heq] at h1
    rcases Nat.lt_or_ge i listed.size with h' | h'
    ·simp [h'] at h0 h1;rw [h0] at h1;cases h1
    ·simp [Array.getElem?_eq_none h'] at h1
   have hjL:j≠L:=fun e=>by
    subst e
    obtain ⟨o',ho',e,he,hb,hon⟩:=Region.waitsFor_spec hL
    have:o'=oj:=Option.some.inj (ho'.symm.trans hoj)
    subst this
    exact hnot e he hb hon
   have h2:=wpOp_putIf hoj (hfree j oj hoj hji hjun hnot) (fun cs b=>hsel i oi cs b hi) (fun cs b=>hsel j oj cs b hoj) hQ hy h1
   have hfree':∀ k ok,ops[k]?=some ok→k≠i→(listed.setIfInBounds j true).getD k true=false →
     (∀ e ∈ ok.after,Region.binds md e=true→e.on≠i)→oi.apart ops ok=true:=fun k ok hk hki hun hno=>by
    refine hfree k ok hk hki ?_ hno
    by_cases hjk:j=k
    ·subst hjk;exact hjun
    ·rw [getD_set_ne true hjk] at hun;exact hun
   refine wpOp_mono (fun a' w' h3=>⟨fun _=>h3.2.1 hjL,ih (listed.setIfInBounds j true) a' w' hfree' (ready_mono hr (Ne.symm hji)) h3.1 (h3.2.1 hjL) ?_⟩) h2
   rw [Array.setIfInBounds_comm _ _ hji]
   exact h3.2.2
def wpLex (P:Program) (ops:Array Oper) (Q:Exit→Act→World→Prop) (S:World→Prop) (K:Act→Prop):List Oper→Act→Prop
 | [],a=>K a
 | o :: l,a=>∃ v,YieldsIf P ops S o v a∧(∀ c a w,Q (.panic c) (a.put o.dst v) w→Q (.panic c) a w)∧wpLex P ops Q S K l (a.put o.dst v)
theorem lex_cons {K:Act→Prop} {o:Oper} {l:List Oper} {a:Act} (v:Value) (hw:Region.wanted o (yielded ops a.tmps)=true) (hv:∀ w,S w→(execOp a.eval o).run P w=.ok (.value v) w)
  (hQ:∀ c a w,Q (.panic c) (a.put o.dst v) w→Q (.panic c) a w) (h:wpLex P ops Q S K l (a.put o.dst v)):wpLex P ops Q S K (o :: l) a:=⟨v,.inl ⟨hw,hv⟩,hQ,h⟩
theorem lex_nil {K:Act→Prop} {a:Act} (h:K a):wpLex P ops Q S K [] a:=h
def lexB (md:Region.Mode) (ops:Array Oper) (L:Nat):Nat→Nat→Array Bool→Bool
 | 0,_,_=>true
 | f + 1,k,listed=>(Region.ready md ops listed).contains k && Region.free md ops listed k && Region.waitsFor md ops L k && lexB md ops L f (k + 1) (listed.setIfInBounds k true)
def marks:Nat→Nat→Array Bool→Array Bool
 | 0,_,listed=>listed
 | f + 1,k,listed=>marks f (k + 1) (listed.setIfInBounds k true)
theorem wpAnyX_lex {g:Nat} {w:World} (hsel:Region.noSelect ops=true) (hS:S w) :
  ∀ (l:List Oper) (k:Nat) (listed:Array Bool) (a:Act),(∀ j,j < l.length→l[j]?=ops[k + j]?)→lexB md ops L l.length k listed=true →
  wpLex P ops Q S (fun a'=>wpAnyX P md ops Q S L g (marks l.length k listed) a' w) l a→wpAnyX P md ops Q S L (l.length + g) listed a w
 | [],k,listed,a,_,_,h=>by simpa [marks,wpLex] using h
 | o :: l,k,listed,a,hl,hB,h=>by
  have h0:ops[k]?=some o:=by simpa using (hl 0 (by simp)).symm
  simp only [List.length_cons,lexB,Bool.and_eq_true] at hB
  obtain ⟨⟨⟨hr,hf⟩,hL⟩,hB'⟩:=hB
  obtain ⟨v,hy,hQ,hK⟩:=h
  rw [show (o :: l).length + g=(l.length + g) + 1 by simp only [List.length_cons];omega]
  exact wpAnyX_first h0 (Region.noSelect_spec hsel) hQ hL (l.length + g) listed a w (Region.free_spec h0 hf) (by simpa using hr) hy hS
   (wpAnyX_lex hsel hS l (k + 1) _ _ (fun j hj=>by have:=hl (j + 1) (by simp;omega);simpa [Nat.add_assoc,Nat.add_comm 1 j] using this) hB' hK)
def wpTail (P:Program) (ops:Array Oper) (Q:Exit→Act→World→Prop) (S:World→Prop) (L:Nat):List Oper→Nat→Act→World→Prop
 | [],_,a,w=>Q .normal a w
 | o :: l,k,a,w=>∀ K:Act→World→Prop,Hid (∀ a' w',(k≠L→S w')→wpTail P ops Q S L l (k + 1) a' w'→K a' w')→if Region.wanted o (yielded ops a.tmps)=true then Oper.wp P o a w K Q else K (a.put o.dst undef) w
theorem tail_cons {o:Oper} {l:List Oper} {k:Nat} {a:Act} {w:World} (h:∀ K:Act→World→Prop,Hid (∀ a' w',(k≠L→S w')→wpTail P ops Q S L l (k + 1) a' w'→K a' w')→if Region.wanted o (yielded ops a.tmps)=true then Oper.wp P o a w K Q else K (a.put o.dst undef) w):wpTail P ops Q S L (o :: l) k a w:=h
theorem tail_nil {k:Nat} {a:Act} {w:World} (h:Q .normal a w):wpTail P ops Q S L [] k a w:=h
theorem wpAnyX_of_tail:∀ (l:List Oper) (k:Nat) (listed:Array Bool) (a:Act) (w:World),(∀ j,l[j]?=ops[k + j]?) →
  Region.seqB md ops l.length k listed=true→wpTail P ops Q S L l k a w→wpAnyX P md ops Q S L l.length listed a w
 | [],_,_,_,_,_,hB,h=>⟨by simpa [Region.seqB] using hB,h⟩
 | o :: l,k,listed,a,w,hl,hB,h=>by
  have h0:ops[k]?=some o:=by simpa using (hl 0).symm
  simp only [List.length_cons,Region.seqB,Bool.and_eq_true,decide_eq_true_eq] at hB
  refine ⟨fun h1=>absurd (hB.1.symm.trans h1) (by simp),fun j hj=>?_⟩
  rw [hB.1] at hj
  have:j=k:=by simpa using hj
  subst this
  have h1:=h (fun a' w'=>(j≠L→S w')∧wpAnyX P md ops Q S L l.length (listed.setIfInBounds j true) a' w') ((fun a' w' h1 h2=>⟨h1,wpAnyX_of_tail l (j + 1) _ a' w' (fun i=>by have:=hl (i + 1);simpa [Nat.add_assoc,Nat.add_comm 1 i] using this) hB.2 h2⟩))
  unfold wpOp
  simp only [h0]
  split
  ·rename_i hw;rw [if_pos hw] at h1;exact .inl h1
  ·rename_i hw;rw [if_neg hw] at h1;exact h1
theorem wp_region_lex {id:Nat} {a:Act} {w:World} {l:List Oper} (n L:Nat) (S:World→Prop) (hm:P.follows .mixedOrders=true) (hsel:Region.noSelect l.toArray=true) (hn:n≤l.length) (hB:lexB .any l.toArray L n 0 (Array.replicate l.length false)=true)
  (hT:Region.seqB .any l.toArray (l.length - n) n (marks n 0 (Array.replicate l.length false))=true) (hS:S w.drew)
  (h:wpLex P l.toArray Q S (fun a'=>wpTail P l.toArray Q S L (l.drop n) n a' w.drew) (l.take n) a):(Code.region id l.toArray true).wp P Q a w:=by
 have htl:(l.take n).length=n:=by simp;omega
 have hdl:(l.drop n).length=l.length - n:=by simp
 have hlex:∀ (l':List Oper) (a:Act),wpLex P l.toArray Q S (fun a'=>wpTail P l.toArray Q S L (l.drop n) n a' w.drew) l' a→wpLex P l.toArray Q S (fun a'=>wpAnyX P .any l.toArray Q S L (l.length - n) (marks n 0 (Array.replicate l.length false)) a' w.drew) l' a:=by
  intro l'
  induction l' with
  | nil=>intro a h;have:=wpAnyX_of_tail (md:=.any) (ops:=l.toArray) (Q:=Q) (S:=S) (L:=L) (P:=P) (l.drop n) n (marks n 0 (Array.replicate l.length false)) a w.drew (fun j=>by simp [List.getElem?_drop]) (by rw [hdl];exact hT) h;rw [hdl] at this;exact this
  | cons o l' ih=>rintro a ⟨v,h1,h2,h3⟩;exact ⟨v,h1,h2,ih _ h3⟩
 have H:=wpAnyX_lex (md:=.any) (L:=L) (Q:=Q) (g:=l.length - n) (P:=P) (w:=w.drew) hsel hS (l.take n) 0 (Array.replicate l.length false) a (fun j hj=>by
  rw [htl] at hj
  simp [hj]) (by rw [htl];exact hB) (by rw [htl];exact hlex _ _ h)
 rw [htl,show n + (l.length - n)=l.length by omega] at H
 exact wp_region_any hm (by simpa using wpAny_of_X _ _ _ _ H)
end
end Go.Proofs.YtacaanhnlfpbhaaGreat
namespace Go.Proofs.YtacaanhnlfpbhaaGreat
open Go.RowKit
set_option linter.unusedVariables false
set_option linter.unusedSimpArgs false
def belowB (n c:Int):Bool:=decide (0≤n) && decide (n < c)
def capsB (c:Int):Bool:=decide (2≤c) && decide (c≤1002) && (c % 2 == 0)
def hasXB (op:Int):Bool:=op == 1 || op == 2 || op == 3 || op == 4 || op == 7
def hasYB (op:Int):Bool:=op == 2
def isTargetB (too:Int) (has:Bool) (c:Int):Bool:=if has then belowB too c else too == 0
def isArgB (op arg caps:Int):Bool:=if op == 3 then belowB arg caps else if op == 4 then assertB arg else if op == 5 then belowB arg 100 else if op == 1 || op == 2 || op == 6 || op == 7 then arg == 0 else false
def isRangesB (op:Int) (R:List (Int × Int)):Bool:=if op == 1 then decide (0 < R.length) && rightB R else R.length == 0
structure Iv where
 op:Int
 x:Int
 y:Int
 a:Int
 r1:Option Addr
 r2:Nat
 r3:Nat
instance:Inhabited Iv:=⟨⟨0,0,0,0,none,0,0⟩⟩
abbrev Iv.cs (N:Iv):List Value:=[.int .i64 N.op,.int .i64 N.x,.int .i64 N.y,.int .i64 N.a,.slice N.r1 N.r2 N.r3]
abbrev Iv.v (N:Iv):Value:=.agg #[.int .i64 N.op,.int .i64 N.x,.int .i64 N.y,.int .i64 N.a,.slice N.r1 N.r2 N.r3]
structure In where
 op:Int
 x:Int
 y:Int
 a:Int
 R:List (Int × Int)
instance:Inhabited In:=⟨⟨0,0,0,0,[]⟩⟩
def In.okB (I:In) (n caps:Int):Bool:=isTargetB I.x (hasXB I.op) n && isTargetB I.y (hasYB I.op) n && isArgB I.op I.a caps && isRangesB I.op I.R
theorem five {w:World} {b:Nat} {v0 v1 v2 v3 v4:Value} {t:TypeId} {fr:Nat × Nat} (h:w.heap[b]?=some (.cells #[v0,v1,v2,v3,v4] t fr)):w.cell? ⟨b,0,none⟩=some v0∧w.cell? ⟨b,1,none⟩=some v1∧w.cell? ⟨b,2,none⟩=some v2∧w.cell? ⟨b,3,none⟩=some v3∧w.cell? ⟨b,4,none⟩=some v4:=
 ⟨Joins.cell_of_block h 0,Joins.cell_of_block h 1,Joins.cell_of_block h 2,Joins.cell_of_block h 3,Joins.cell_of_block h 4⟩
def I5 (w:World) (b o i:Nat) (N:Iv):Prop:=w.cell? ⟨b,o + i * 5,none⟩=some (.int .i64 N.op)∧w.cell? ⟨b,o + i * 5 + 1,none⟩=some (.int .i64 N.x)∧w.cell? ⟨b,o + i * 5 + 2,none⟩=some (.int .i64 N.y)∧w.cell? ⟨b,o + i * 5 + 3,none⟩=some (.int .i64 N.a)∧w.cell? ⟨b,o + i * 5 + 4,none⟩=some (.slice N.r1 N.r2 N.r3)
theorem I5.kept {w w':World} {b o i:Nat} {N:Iv} (h:I5 w b o i N) (hk:w'.heap[b]?=w.heap[b]?):I5 w' b o i N:=by
 obtain ⟨h0,h1,h2,h3,h4⟩:=h
 exact ⟨(cell_eq hk _).trans h0,(cell_eq hk _).trans h1,(cell_eq hk _).trans h2,(cell_eq hk _).trans h3,(cell_eq hk _).trans h4⟩
structure IM (w:World) (B:Nat) (N:Iv) (I:In):Prop where
 op:N.op=I.op
 x:N.x=I.x
 y:N.y=I.y
 a:N.a=I.a
 len:N.r2=I.R.length
 sm:N.r2 * 16≤140737488351232
 row:RowAt B w (.slice N.r1 N.r2 N.r3) I.R
theorem IM.kept {w w':World} {B B':Nat} {N:Iv} {I:In} (h:IM w B N I) (hb:Below B w w') (hB:B≤B'):IM w' B' N I:=⟨h.op,h.x,h.y,h.a,h.len,h.sm,h.row.below hb (Nat.le_refl _) hB⟩
structure PI (w:World) (B:Nat) (ad:Option Addr) (n:Nat) (l:List In):Prop where
 len:n=l.length
 mem:0 < n→∃ (b o:Nat) (ND:Nat→Iv),ad=some ⟨b,o,none⟩∧b < B∧∀ i (hi:i < l.length),I5 w b o i (ND i)∧IM w B (ND i) l[i]
theorem PI.kept {w w':World} {B B':Nat} {ad:Option Addr} {n:Nat} {l:List In} (h:PI w B ad n l) (hb:Below B w w') (hB:B≤B'):PI w' B' ad n l:=by
 refine ⟨h.len,fun hp=>?_⟩
 obtain ⟨b,o,ND,e,h1,h2⟩:=h.mem hp
 exact ⟨b,o,ND,e,by omega,fun i hi=>⟨(h2 i hi).1.kept (hb.block b h1),(h2 i hi).2.kept hb hB⟩⟩
def mayB (l:List In) (s k:Int):Bool:=decide (l.length≤20000) && belowB s l.length && capsB k && l.all fun I=>I.okB l.length k
abbrev pv (ad:Option Addr) (n c:Nat) (s k:Int):Value:=.agg #[.slice ad n c,.int .i64 s,.int .i64 k]
end Go.Proofs.YtacaanhnlfpbhaaGreat
