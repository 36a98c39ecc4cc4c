/- HELPERS: texts of ours put together. -/
import Derived.Test.YtbdhiichhcihgaaK19
import Derived.Test.YtbdhiichhcihgaaK01
import Derived.Test.YtbdhiichhcihgaaK17
import Derived.Test.YtbdhiichhcihgaaK21
import Derived.Laws.StructEq
import Derived.Deep.DrawnRows
namespace Go.Proofs.Ytbdhiichhcihgaa
open Go.RowKit
set_option linter.unusedVariables false
set_option linter.unusedSimpArgs false
set_option maxRecDepth 100000 in
set_option maxHeartbeats 8000000 in
theorem takes48g {w0:World} {B:Nat} {N:Nv} {t:Tn} (h:TI w0 B N t):∀ (c:Nat) (cnt d:Int) (w:World),B ≤ c → 0 ≤ cnt ∧ cnt ≤ 200000 → 0 ≤ d ∧ d ≤ 10001 → B ≤ w.heap.size → (∀ b,b < B → w.heap[b]? = w0.heap[b]?) →
  w.heap[c]? = some (.cells #[.int .i64 cnt] 60 (0,0)) →
  Calls Try.prog 21 #[pt c,N.v,.int .i64 d] w fun e w' => Chg w w' [c] [c] ∧ ((∃ c',t.tk cnt d = some c' ∧ e = .returned (.bool true) ∧ w'.heap[c]? = some (.cells #[.int .i64 c'] 60 (0,0))) ∨ (t.tk cnt d = none ∧ e = .returned (.bool false))):=by
 induction h with
 | @mk N R ts ND ok hr hR hRk hs hS hk ih =>
 intro c cnt d w hBc hcb hd hB hw hc
 have HS:∀ w',Chg w w' [c] [c] → Calls Try.prog 35 #[N.v] w' fun e w'' => e = .returned (.bool (nodeB N.k R N.a2 N.s2 N.a4 N.a5 N.a6 N.a7 N.a8)) ∧ Below w'.heap.size w' w'':=fun w' hch =>
  sound61 N R w' ok hr ((hR.kept (fun b hb => (hch.block b (by omega) (by simp;omega)).trans (hw b hb))).le (by have:=hch.size;omega))
 have hmax:=ok.s
 obtain ⟨k,r1,r2,r3,a2,s1,s2,s3,a4,a5,a6,a7,a8⟩:=N
 dsimp only at hs hS hmax HS
 simp only [Tn.tk]
 have hm2:s2 ≤ 9223372036854775807:=by have:maxLen = 9223372036854775807:=rfl;omega
 rw [← hs]
 generalize nodeB k R a2 s2 a4 a5 a6 a7 a8 = nb at HS ⊢
 obtain ⟨r,hrr⟩:∃ r,r = if cnt + 1 ≤ 200000 ∧ d ≤ 10000 ∧ nb = true then tkL ts (cnt + 1) (d + 1) else none:=⟨_,rfl⟩
 rw [← hrr]
 have HRR:=hid hrr
 clear hrr
 have hcl:=(Array.getElem?_eq_some_iff.1 hc).1
 have c0:w.cell? ⟨c,0,none⟩ = some (.int .i64 cnt):=bx0 hc
 have cf:=Joins.unfrozen_of_block hc 0
 have ad0:IntKind.i64.wrap (cnt + 1) = cnt + 1:=by simp [IntKind.wrap,IntKind.bits,IntKind.signed];omega
 have adD:IntKind.i64.wrap (d + 1) = d + 1:=by simp [IntKind.wrap,IntKind.bits,IntKind.signed];omega
 have HC0:=hid hc
 have HW:=hid hw
 have HSS:=hid hS
 have IH:=hid ih
 have HL:=hid hs
 clear hc hw hS ih hs ok hr hR hRk hk hmax
 go_enter Try.func21,Try.ntmps21
 go_upto_region 2 with fail
 obtain ⟨W,hW⟩:∃ W,W = (w.setCell ⟨c,0,none⟩ (.int .i64 (cnt + 1))).alloc (.cells #[.int .i64 k,.slice r1 r2 r3,.int .i64 a2,.slice s1 s2 s3,.int .i64 a4,.int .i64 a5,.bool a6,.int .i64 a7,.string a8] 25):=⟨_,rfl⟩
 rw [← hW]
 have hsw:(w.setCell ⟨c,0,none⟩ (.int .i64 (cnt + 1))).heap.size = w.heap.size:=by simp [World.setCell]
 have hWs:W.heap.size = w.heap.size + 1:=by rw [hW];simp [World.setCell]
 have hWz:W.heap[w.heap.size]? = some (.cells #[.int .i64 k,.slice r1 r2 r3,.int .i64 a2,.slice s1 s2 s3,.int .i64 a4,.int .i64 a5,.bool a6,.int .i64 a7,.string a8] 25 (0,0)):=by rw [hW,← hsw];exact heap_alloc_new _ _
 have hWc:W.heap[c]? = some (.cells #[.int .i64 (cnt + 1)] 60 (0,0)):=by rw [hW];exact (heap_alloc_old _ _ (by omega)).trans (Joins.block_setCell (i:=0) HC0.out _)
 have hch:Chg w W [c] [c]:=by rw [hW];exact ((Chg.refl w [c]).set (a:=⟨c,0,none⟩) _ (by simp)).alloc _
 have x0:W.cell? ⟨c,0,none⟩ = some (.int .i64 (cnt + 1)):=bx0 hWc
 obtain ⟨z,hz⟩:∃ z,z = w.heap.size:=⟨_,rfl⟩
 rw [← hz] at hWz hWs ⊢
 obtain ⟨o0,o1,o2,o3,o4,o5,o6,o7,o8⟩:=nine' hWz
 have HCH:=hid hch
 have HWZ:=hid hWz
 have HWC:=hid hWc
 have HWS:=hid hWs
 have HZ:=hid hz
 have HS1:=HS W hch
 clear hW hsw hWs hWz hWc hch hz c0 cf HS
 by_cases hc1:cnt + 1 ≤ 200000
 ·have b0:decide (cnt + 1 > 200000) = false:=by simp;omega
  have b0':decide (200000 < cnt + 1) = false:=by simp;omega
  by_cases hd1:d ≤ 10000
  ·have b00:decide (d > 10000) = false:=by simp;omega
   have b00':decide (10000 < d) = false:=by simp;omega
   cases nb
   ·go_wp2_with (first | (go_at_call 35;(with_reducible refine HS1.mono ?_);rintro e w1 ⟨rfl,hb1⟩;have HB1:=hid hb1;clear hb1 HS1))
    go_ret
    exact ⟨HCH.out.trans (Chg.of_below HB1.out),.inr ⟨by rw [HRR.out,if_neg (by simp)],rfl⟩⟩
   ·go_wp2_with (first | (go_at_call 35;(with_reducible refine HS1.mono ?_);rintro e w1 ⟨rfl,hb1⟩;have k3:w1.cell? ⟨z,3,none⟩ = some (.slice s1 s2 s3):=(hb1.cell (p:=⟨z,3,none⟩) (by have:=HWS.out;show z < W.heap.size;omega)).trans o3;have HB1:=hid hb1;clear hb1 HS1))
    have hch1:Chg w w1 [c] [c]:=HCH.out.trans (Chg.of_below HB1.out)
    have hcc:w1.heap[c]? = some (.cells #[.int .i64 (cnt + 1)] 60 (0,0)):=(HB1.out.block c (by have:=HWS.out;have:=HZ.out;omega)).trans HWC.out
    have HC1:=hid hcc
    have HCH1:=hid hch1
    clear hcc hch1
    have HR:Hid (r = tkL ts (cnt + 1) (d + 1)):=HRR.out.trans (if_pos ⟨hc1,hd1,by trivial⟩)
    go_loopw [33] (fun y wq => ∃ (i:Nat) (q:Int),y = .int .i64 (i:Int) ∧ i ≤ s2 ∧ (0 ≤ q ∧ q ≤ 200000) ∧ Hid (tkL (ts.drop i) q (d + 1) = r) ∧ Hid (Chg w wq [c] [c] ∧ wq.heap[c]? = some (.cells #[.int .i64 q] 60 (0,0)))) (fun y _ => s2 - (intOf y).toNat)
    case atStart => exact ⟨0,cnt + 1,rfl,by omega,by omega,HR.out.symm,HCH1.out,HC1.out⟩
    case round =>
     obtain ⟨i,q,rfl,hi,hq,HQ,HI⟩:=hrel
     by_cases hil:i < s2
     ·have b1:decide ((i:Int) < (s2:Int)) = true:=by simp;omega
      have b2:(i:Int) < (s2:Int):=by omega
      have hlt:i < ts.length:=by rw [← HL.out];exact hil
      obtain ⟨b,o,hs1,hb,hcb'⟩:=HSS.out (by omega)
      subst hs1
      have hwk:∀ b,b < B → wr.heap[b]? = w0.heap[b]?:=fun b hb => (HI.out.1.block b (by omega) (by simp;omega)).trans (HW.out b hb)
      obtain ⟨n0,n1,n2,n3,n4,n5,n6,n7,n8⟩:=(hcb' i hlt).kept (hwk b hb)
      have HC:=IH.out i hlt c q (d + 1) (wr.alloc (.cells #[.int .i64 (ND i).k,.slice (ND i).r1 (ND i).r2 (ND i).r3,.int .i64 (ND i).a2,.slice (ND i).s1 (ND i).s2 (ND i).s3,.int .i64 (ND i).a4,.int .i64 (ND i).a5,.bool (ND i).a6,.int .i64 (ND i).a7,.string (ND i).a8] 25)) hBc hq (by omega) (by have:=HI.out.1.size;simp;omega) (fun b hb => (heap_alloc_old _ _ (by have:=HI.out.1.size;omega)).trans (hwk b hb)) ((heap_alloc_old wr _ (by have:=HI.out.1.size;omega)).trans HI.out.2)
      rw [tkL_drop ts i hlt q (d + 1)] at HQ
      have hsp:=Tn.tk_spec ts[i] q (d + 1) hq.2 (by omega)
      have hg2:∀ c',ts[i].tk q (d + 1) = some c' → 0 ≤ c' ∧ c' ≤ 200000:=fun c' hc' => by
       rw [hsp] at hc'
       split at hc'
       ·simp at hc';omega
       ·simp at hc'
      obtain ⟨g,hg⟩:∃ g,g = ts[i].tk q (d + 1):=⟨_,rfl⟩
      rw [← hg] at HC HQ hg2
      have HG2:=hid hg2
      obtain ⟨M,hM⟩:∃ M,M = ND i:=⟨_,rfl⟩
      rw [← hM] at HC n0 n1 n2 n3 n4 n5 n6 n7 n8
      have ad1:IntKind.i64.wrap ((i:Int) + 1) = (i:Int) + 1:=by simp [IntKind.wrap,IntKind.bits,IntKind.signed];omega
      clear hM hg hwk hcb' hsp hlt hg2
      cases g with
      | none =>
       have HC':=HC.mono (R':=fun e w' => e = .returned (.bool false) ∧ Chg _ w' [c] [c]) (fun e w' ⟨h1,h2⟩ => by
        rcases h2 with ⟨c',h,_⟩ | ⟨_,h⟩
        ·cases h
        ·exact ⟨h,h1⟩)
       clear HC
       have e:=HQ.out
       simp only at e
       have E:=hid e
       clear e HQ HG2
       go_wp2_with (first | (go_at_call 21;(with_reducible refine HC'.mono ?_);rintro e w2 ⟨rfl,hc2⟩;have HC2:=hid hc2;clear hc2 HC'))
       go_ret
       exact ⟨(HI.out.1.alloc _).trans HC2.out,.inr ⟨E.out.symm,rfl⟩⟩
      | some c' =>
       have HC':=HC.mono (R':=fun e w' => e = .returned (.bool true) ∧ Chg _ w' [c] [c] ∧ w'.heap[c]? = some (.cells #[.int .i64 c'] 60 (0,0))) (fun e w' ⟨h1,h2⟩ => by
        rcases h2 with ⟨c',h,h3,h4⟩ | ⟨h,_⟩
        ·cases h;exact ⟨h3,h1,h4⟩
        ·cases h)
       clear HC
       have e:=HQ.out
       simp only at e
       have E:=hid e
       clear e HQ
       have hc'b:=HG2.out c' rfl
       clear HG2
       go_wp2_with (first | (go_at_call 21;(with_reducible refine HC'.mono ?_);rintro e w2 ⟨rfl,hc2,hb2⟩;have HC2:=hid hc2;have HB2:=hid hb2;clear hc2 hb2 HC'))
       refine ⟨⟨i + 1,c',by push_cast;rfl,by omega,hc'b,E.out,(HI.out.1.alloc _).trans HC2.out,HB2.out⟩,?_⟩
       simp [intOf]
       omega
     ·have b1:decide ((i:Int) < (s2:Int)) = false:=by simp;omega
      obtain rfl:i = s2:=by omega
      have e:=HQ.out
      rw [HL.out,List.drop_length] at e
      simp only [tkL] at e
      have E:=hid e
      clear e
      go_wp2
      go_ret
      exact ⟨HI.out.1,.inl ⟨q,E.out.symm,rfl,HI.out.2⟩⟩
  ·have b00:decide (d > 10000) = true:=by simp;omega
   have b00':decide (10000 < d) = true:=by simp;omega
   go_wp2
   go_ret
   exact ⟨HCH.out,.inr ⟨by rw [HRR.out,if_neg (by omega)],rfl⟩⟩
 ·have b0:decide (cnt + 1 > 200000) = true:=by simp;omega
  have b0':decide (200000 < cnt + 1) = true:=by simp;omega
  go_wp2
  go_ret
  exact ⟨HCH.out,.inr ⟨by rw [HRR.out,if_neg (by omega)],rfl⟩⟩
theorem sound29g {w:World} {N:Nv} {t:Tn} (h:TI w w.heap.size N t):Calls Try.prog 13 #[N.v] w fun e w' => e = .returned (.int .i64 (if t.sound then 0 else 50)) ∧ Below w.heap.size w w':=by
 have HC:=takes48g h (w.heap.size + 1) 0 1 ((w.alloc (.cells #[.int .i64 N.k,.slice N.r1 N.r2 N.r3,.int .i64 N.a2,.slice N.s1 N.s2 N.s3,.int .i64 N.a4,.int .i64 N.a5,.bool N.a6,.int .i64 N.a7,.string N.a8] 25)).alloc (.cells #[.int .i64 0] 60)) (by omega) (by omega) (by omega) (by simp;omega) (fun b hb => (heap_alloc_old _ _ (by simp;omega)).trans (heap_alloc_old w _ hb)) (two_new w _ _ _)
 have HS:=sound_tk t
 obtain ⟨k,r1,r2,r3,a2,s1,s2,s3,a4,a5,a6,a7,a8⟩:=N
 dsimp only at HC
 obtain ⟨g,hg⟩:∃ g,g = t.tk 0 1:=⟨_,rfl⟩
 rw [← hg] at HC HS
 rw [← HS]
 clear hg HS
 cases g with
 | none =>
  have HC':=HC.mono (R':=fun e w' => e = .returned (.bool false) ∧ Chg _ w' [w.heap.size + 1] [w.heap.size + 1]) (fun e w' ⟨h1,h2⟩ => by
   rcases h2 with ⟨c',h,_⟩ | ⟨_,h⟩
   ·cases h
   ·exact ⟨h,h1⟩)
  clear HC
  go_enter Try.func13,Try.ntmps13
  go_wp2_with (first | (go_at_call 21;(with_reducible refine HC'.mono ?_);rintro e w2 ⟨rfl,hc2⟩;have HC2:=hid hc2;clear hc2 HC'))
  go_ret
  exact ⟨rfl,(below_two' w _ _).trans (HC2.out.below (by simp;omega) (fun k hk => by simp at hk;omega))⟩
 | some c' =>
  have HC':=HC.mono (R':=fun e w' => e = .returned (.bool true) ∧ Chg _ w' [w.heap.size + 1] [w.heap.size + 1]) (fun e w' ⟨h1,h2⟩ => by
   rcases h2 with ⟨c',h,h3,h4⟩ | ⟨h,_⟩
   ·exact ⟨h3,h1⟩
   ·cases h)
  clear HC
  go_enter Try.func13,Try.ntmps13
  go_wp2_with (first | (go_at_call 21;(with_reducible refine HC'.mono ?_);rintro e w2 ⟨rfl,hc2⟩;have HC2:=hid hc2;clear hc2 HC'))
  go_ret
  exact ⟨rfl,(below_two' w _ _).trans (HC2.out.below (by simp;omega) (fun k hk => by simp at hk;omega))⟩
end Go.Proofs.Ytbdhiichhcihgaa
namespace Go.Proofs.Ytbdhiichhcihgaa
open Go.RowKit Go.Lk
set_option linter.unusedVariables false
set_option linter.unusedSimpArgs false
theorem results_cell_tmp {P:Program} {fn:Func} {p u:Tmp} {ty:TypeId} (h:fn.results = #[.cell p ty,.tmp u]) (tmps:Array Value) (w:World) (g:Nat) (t:TypeId) (cs:Array Value) (fr:Nat × Nat) (d:TypeDesc)
  (hp:tmps.getD p undef = .pointer (some ⟨g,0,none⟩)) (hg:w.heap[g]? = some (.cells cs t fr))
  (hu:P.underlying ty = some d) (hd:(match d with | .struct _ | .array _ _ => true | _ => false) = true) (hi:(P.info? ty).map (·.size) = some cs.size) :
  (results fn tmps).run P w = .ok (.tuple #[.agg cs,tmps.getD u undef]) w:=by
 have hp':tmps[p]?.getD undef = .pointer (some ⟨g,0,none⟩):=by simpa using hp
 simp [results,h,hp',asAddr,run_loadVar_row w g t ty cs fr d hg hu hd hi]
set_option maxRecDepth 100000 in
set_option maxHeartbeats 8000000 in
theorem mirror10_ok {w:World} {N:Nv} {t:Tn} (h:TI w w.heap.size N t) (hs:t.sound = true):Calls Try.prog 8 #[N.v] w fun e w' => ∃ M A,e = .returned (.tuple #[Nv.v M,.int .i64 0]) ∧ TO w' M t.mir A ∧ (∀ b,A b → w.heap.size ≤ b) ∧ Below w.heap.size w w':=by
 have HC:Calls Try.prog 13 #[N.v] ((w.alloc (.cells #[.int .i64 N.k,.slice N.r1 N.r2 N.r3,.int .i64 N.a2,.slice N.s1 N.s2 N.s3,.int .i64 N.a4,.int .i64 N.a5,.bool N.a6,.int .i64 N.a7,.string N.a8] 25)).alloc (.cells #[.int .i64 0,.slice none 0 0,.int .i64 0,.slice none 0 0,.int .i64 0,.int .i64 0,.bool false,.int .i64 0,.string ⟨#[]⟩] 25)) fun e w' => _:=
  sound29g ((h.kept fun b hb => (heap_alloc_old _ _ (by simp;omega)).trans (heap_alloc_old w _ hb)).le (by simp;omega))
 rw [hs] at HC
 simp only [Tn.sound,Bool.and_eq_true,decide_eq_true_eq] at hs
 have HM:=mirror27 h hs.1.1 hs.2
 obtain ⟨k,r1,r2,r3,a2,s1,s2,s3,a4,a5,a6,a7,a8⟩:=N
 dsimp only at HC
 clear h hs
 simp only [if_true] at HC
 have HMM:=hid HM
 clear HM
 go_enter Try.func8,Try.ntmps8
 go_wp2_with (first | (go_at_call 13;(with_reducible refine HC.mono ?_);rintro e w2 ⟨rfl,hb2⟩;have hX:BxN w2 w.heap.size ⟨k,r1,r2,r3,a2,s1,s2,s3,a4,a5,a6,a7,a8⟩:=(hb2.block w.heap.size (by simp;omega)).trans ((heap_alloc_old _ _ (by simp)).trans (heap_alloc_new w _));obtain ⟨q0,q1,q2,q3,q4,q5,q6,q7,q8⟩:=nine' hX;have HB2:=hid hb2;have hsz2:w.heap.size + 1 < w2.heap.size:=(by have:=hb2.size;simp at this;omega);have HC27:=HMM.out w2 (by omega) (fun b hb => (hb2.block b (by simp;omega)).trans ((heap_alloc_old _ _ (by simp;omega)).trans (heap_alloc_old w _ hb)));clear hX hb2 HC) | (go_at_call 14;(with_reducible refine HC27.mono ?_);rintro e w3 ⟨M,A,rfl,hM,hA,hb3⟩;clear q0 q1 q2 q3 q4 q5 q6 q7 q8;have hY:BxZ w3 (w.heap.size + 1):=(hb3.block (w.heap.size + 1) hsz2).trans ((HB2.out.block (w.heap.size + 1) (by simp)).trans (two_new w _ _ _));have f0:=Joins.unfrozen_of_block hY 0;have f1:=Joins.unfrozen_of_block hY 1;have f2:=Joins.unfrozen_of_block hY 2;have f3:=Joins.unfrozen_of_block hY 3;have f4:=Joins.unfrozen_of_block hY 4;have f5:=Joins.unfrozen_of_block hY 5;have f6:=Joins.unfrozen_of_block hY 6;have f7:=Joins.unfrozen_of_block hY 7;have f8:=Joins.unfrozen_of_block hY 8;obtain ⟨q0,q1,q2,q3,q4,q5,q6,q7,q8⟩:=nine' hY;have HYY:=hid hY;have HM:=hid hM;have HA:=hid hA;have HB3:=hid hb3;clear hY hM hA hb3 HC27))
 obtain ⟨y1,y2,y3,y4⟩:=nineSet w3 (w.heap.size + 1) (.int .i64 M.k) (.slice M.r1 M.r2 M.r3) (.int .i64 M.a2) (.slice M.s1 M.s2 M.s3) (.int .i64 M.a4) (.int .i64 M.a5) (.bool M.a6) (.int .i64 M.a7) (.string M.a8) HYY.out
 obtain ⟨Y,hY⟩:∃ Y,Y = ((((((((((((((((((w3).setCell ⟨w.heap.size + 1,0,none⟩ (.int .i64 M.k))).setCell ⟨w.heap.size + 1,1,none⟩ (.slice M.r1 M.r2 M.r3))).setCell ⟨w.heap.size + 1,2,none⟩ (.int .i64 M.a2))).setCell ⟨w.heap.size + 1,3,none⟩ (.slice M.s1 M.s2 M.s3))).setCell ⟨w.heap.size + 1,4,none⟩ (.int .i64 M.a4))).setCell ⟨w.heap.size + 1,5,none⟩ (.int .i64 M.a5))).setCell ⟨w.heap.size + 1,6,none⟩ (.bool M.a6))).setCell ⟨w.heap.size + 1,7,none⟩ (.int .i64 M.a7))).setCell ⟨w.heap.size + 1,8,none⟩ (.string M.a8)):=⟨_,rfl⟩
 rw [← hY] at y1 y2 y3 y4
 have y4':=y4 (((below_two' w _ _).trans (Joins.below_le HB2.out (by simp;omega))).trans (Joins.below_le HB3.out (by omega))) (by omega)
 rw [← hY]
 refine bodyPost_ret (results_cell_tmp rfl _ _ (w.heap.size + 1) 25 _ (0,0) _ rfl y1 Try.underlying25 rfl (by kernel_rfl)) rfl ?_
 exact ⟨M,A,rfl,HM.out.kept (fun b hb => y2 b (by have:=HA.out b hb;omega)),fun b hb => by have:=HA.out b hb;omega,y4'⟩
end Go.Proofs.Ytbdhiichhcihgaa
namespace Go.Proofs.Ytbdhiichhcihgaa
open Go.RowKit
set_option linter.unusedVariables false
set_option linter.unusedSimpArgs false
attribute [local go_sem ↓] Go.wp_at_zero Go.wp_at_succ
theorem fields53:Try.prog.underlying 39 = some (.struct (Try.prog.fieldsOf 39)):=by kernel_rfl
theorem held53:Try.prog.stoodInHeld 39 = false:=by kernel_rfl
theorem guard53:Try.prog.eqGuardType Try.prog.depth 39 = false:=by kernel_rfl
set_option maxRecDepth 100000 in
theorem rng_neq (lo hi:Int) (W:World):(binOp .neq 39 (.agg #[.int .i64 lo,.int .i64 hi]) (.agg #[.int .i64 lo,.int .i64 hi])).run Try.prog W = .ok (.bool false) W:=by
 have he:∀ (a b:Int),(Op.equalIn 9999 3 (.int .i64 a) (.int .i64 b)).run Try.prog W = .ok (a == b) W:=fun a b => run_equalIn_int W 9998 3 .i64 .i64 a b Try.underlying3
 rw [run_neq_struct,show Op.equalIn 10000 39 = Op.equalIn (9999 + 1) 39 from rfl,run_equalIn_agg W 9999 39 _ _ fields53 held53]
 have hp:∀ (xs:Array Value) (o:Nat) (v:Value),xs[o]? = some v → (part 3 xs o).run Try.prog W = .ok v W:=by
  intro xs o v h
  simp [part,Try.isAgg3,h,Result.andThen]
 simp [Program.fieldsOf,Try.underlying39,Op.eqFields,hp,he,Result.andThen]
theorem rng_guard (x y:Operand) (lo hi lo' hi':Int) (W:World):(eqGuard .neq 39 x y (.agg #[.int .i64 lo,.int .i64 hi]) (.agg #[.int .i64 lo',.int .i64 hi'])).run Try.prog W = .ok () W:=run_eqGuard_agg W .neq 39 x y _ _ guard53
theorem TI.inv {w:World} {B:Nat} {N:Nv} {t:Tn} (h:TI w B N t):∃ (R:List (Int × Int)) (ts:List Tn) (ND:Nat → Nv),t = .mk N.k R N.a2 ts N.a4 N.a5 N.a6 N.a7 N.a8 ∧ N.ok ∧ N.r2 = R.length ∧ R2 w B N.r1 R ∧ (∀ x ∈ R,I64ok x.1 ∧ I64ok x.2) ∧ N.s2 = ts.length ∧
  (0 < ts.length → ∃ b o,N.s1 = some ⟨b,o,none⟩ ∧ b < B ∧ ∀ i,i < ts.length → N9 w b o i (ND i)) ∧ ∀ i (hi:i < ts.length),TI w B (ND i) ts[i]:=by
 cases h with
 | mk ok hr hR hRk hs hS hk => exact ⟨_,_,_,rfl,ok,hr,hR,hRk,hs,hS,hk⟩
set_option maxRecDepth 100000 in
set_option maxHeartbeats 8000000 in
theorem same13g {w0:World} {B:Nat} {N:Nv} {t:Tn} (h:TI w0 B N t):∀ (N':Nv),TI w0 B N' t → ∀ (w:World),B ≤ w.heap.size → (∀ b,b < B → w.heap[b]? = w0.heap[b]?) →
  Calls Try.prog 11 #[N.v,N'.v] w fun e w' => e = .returned (.bool true) ∧ Below w.heap.size w w':=by
 induction h with
 | @mk N R ts ND ok hr hR hRk hs hS hk ih =>
 intro N' h' w hB hw
 obtain ⟨R',ts',ND',e,ok',hr',hR',hRk',hs',hS',hk'⟩:=h'.inv
 obtain ⟨k,r1,r2,r3,a2,s1,s2,s3,a4,a5,a6,a7,a8⟩:=N
 obtain ⟨k',p1,p2,p3,b2,q1,q2,q3,b4,b5,b6,b7,b8⟩:=N'
 simp only [Tn.mk.injEq] at e
 obtain ⟨rfl,rfl,rfl,rfl,rfl,rfl,rfl,rfl,rfl⟩:=e
 dsimp only at hs hS hr hR hs' hS' hr' hR' ok ok'
 have e1:p2 = r2:=by omega
 have e2:q2 = s2:=by omega
 subst e1 e2
 have kr:p2 ≤ 9223372036854775807:=by have:=ok.r;dsimp only at this;have:maxLen = 9223372036854775807:=rfl;omega
 have ks:q2 ≤ 9223372036854775807:=by have:=ok.s;dsimp only at this;have:maxLen = 9223372036854775807:=rfl;omega
 have HRW:Hid (∀ w1:World,(∀ b,b < B → w1.heap[b]? = w0.heap[b]?) → R2 w1 B r1 R ∧ R2 w1 B p1 R):=fun w1 h1 => ⟨hR.kept h1,hR'.kept h1⟩
 have HW:=hid hw
 have HS:=hid hS
 have HS':=hid hS'
 have HIH:=hid ih
 have HK:=hid hk'
 have HL:=hid hs
 have HRL:=hid hr
 clear ok ok' hr hR hRk hs hS hk ih hr' hR' hRk' hs' hS' hk' h' hw
 go_enter Try.func11,Try.ntmps11
 go_wp2_with fail
 obtain ⟨W,hW⟩:∃ W,W = (w.alloc (.cells #[.int .i64 k,.slice r1 p2 r3,.int .i64 a2,.slice s1 q2 s3,.int .i64 a4,.int .i64 a5,.bool a6,.int .i64 a7,.string a8] 25)).alloc (.cells #[.int .i64 k,.slice p1 p2 p3,.int .i64 a2,.slice q1 q2 q3,.int .i64 a4,.int .i64 a5,.bool a6,.int .i64 a7,.string a8] 25):=⟨_,rfl⟩
 have HBW:Hid (Below w.heap.size w W):=by rw [hW];exact below_two' w _ _
 have HX1:Hid (W.heap[w.heap.size]? = some (.cells #[.int .i64 k,.slice r1 p2 r3,.int .i64 a2,.slice s1 q2 s3,.int .i64 a4,.int .i64 a5,.bool a6,.int .i64 a7,.string a8] 25 (0,0))):=by
  rw [hW]
  exact (heap_alloc_old _ _ (by simp)).trans (heap_alloc_new w _)
 have HX2:Hid (W.heap[w.heap.size + 1]? = some (.cells #[.int .i64 k,.slice p1 p2 p3,.int .i64 a2,.slice q1 q2 q3,.int .i64 a4,.int .i64 a5,.bool a6,.int .i64 a7,.string a8] 25 (0,0))):=by
  rw [hW]
  exact two_new w _ _ _
 have l1:w.heap.size < W.heap.size:=(Array.getElem?_eq_some_iff.1 HX1.out).1
 have l2:w.heap.size + 1 < W.heap.size:=(Array.getElem?_eq_some_iff.1 HX2.out).1
 rw [← hW]
 obtain ⟨x1,hx1⟩:∃ x1,x1 = w.heap.size:=⟨_,rfl⟩
 obtain ⟨x2,hx2⟩:∃ x2,x2 = w.heap.size + 1:=⟨_,rfl⟩
 rw [← hx2] at HX2 l2 ⊢
 rw [← hx1] at HX1 l1 ⊢
 have HWW:Hid (∀ b,b < B → W.heap[b]? = w0.heap[b]?):=fun b hb => (HBW.out.block b (by omega)).trans (HW.out b hb)
 have HBW':Hid (Below x1 w W):=by rw [hx1];exact HBW.out
 have hBW:B ≤ W.heap.size:=by omega
 have HXX:=hid hx1
 clear hW HW HBW hx1 hx2
 go_loopw [5] (fun x wq => ∃ i:Nat,x = .int .i64 (i:Int) ∧ i ≤ p2 ∧ Hid (Below W.heap.size W wq)) (fun x _ => p2 - (intOf x).toNat)
 case atStart => exact ⟨0,rfl,by omega,Below.refl _ _⟩
 case round =>
  obtain ⟨i,rfl,hi,BK⟩:=hrel
  obtain ⟨o0,o1,o2,o3,o4,o5,o6,o7,o8⟩:=nine' ((BK.out.block x1 l1).trans HX1.out)
  obtain ⟨u0,u1,u2,u3,u4,u5,u6,u7,u8⟩:=nine' ((BK.out.block x2 l2).trans HX2.out)
  by_cases hil:i < p2
  ·have b1:decide ((i:Int) < (p2:Int)) = true:=by simp;omega
   have b2:(i:Int) < (p2:Int):=by omega
   have hlt:i < R.length:=by have:=HRL.out;omega
   have hwk:∀ b,b < B → wr.heap[b]? = w0.heap[b]?:=fun b hb => (BK.out.block b (by omega)).trans (HWW.out b hb)
   obtain ⟨hq1,hq2⟩:=HRW.out wr hwk
   have hne:R ≠ []:=fun e => by rw [e] at hlt;simp at hlt
   obtain ⟨rb,ro,e1,_,hc1⟩:=hq1 hne
   obtain ⟨pb,po,e2,_,hc2⟩:=hq2 hne
   subst e1 e2
   obtain ⟨m0,m1⟩:=hc1 i hlt
   obtain ⟨v0,v1⟩:=hc2 i hlt
   obtain ⟨⟨lo,hi'⟩,hv⟩:∃ v,R[i]'hlt = v:=⟨_,rfl⟩
   rw [hv] at m0 m1 v0 v1
   simp only at m0 m1 v0 v1
   have ad1:IntKind.i64.wrap ((i:Int) + 1) = (i:Int) + 1:=by simp [IntKind.wrap,IntKind.bits,IntKind.signed];omega
   have hneq:=fun W' => rng_neq lo hi' W'
   have hgd:=fun x y W' => rng_guard x y lo hi' lo hi' W'
   clear hc1 hc2 hq1 hq2 hwk hv hne
   go_wp2_with fail
   go_quiet (fail)
   go_wp2
   exact ⟨⟨i + 1,by push_cast;rfl,by omega,BK.out.trans ⟨rfl,rfl,rfl,Nat.le_refl _,fun _ _ => rfl⟩⟩,by simp [intOf];omega⟩
  ·have b1:decide ((i:Int) < (p2:Int)) = false:=by simp;omega
   go_wp2_with fail
   clear b1 o0 o1 o2 o3 o4 o5 o6 o7 o8 u0 u1 u2 u3 u4 u5 u6 u7 u8
   go_loopw [6] (fun x wq => ∃ i2:Nat,x = .int .i64 (i2:Int) ∧ i2 ≤ q2 ∧ Hid (Below W.heap.size W wq)) (fun x _ => q2 - (intOf x).toNat)
   case atStart => exact ⟨0,rfl,by omega,BK⟩
   case round =>
    clear BK
    obtain ⟨i2,rfl,hi2,BK⟩:=hrel
    obtain ⟨o0,o1,o2,o3,o4,o5,o6,o7,o8⟩:=nine' ((BK.out.block x1 l1).trans HX1.out)
    obtain ⟨u0,u1,u2,u3,u4,u5,u6,u7,u8⟩:=nine' ((BK.out.block x2 l2).trans HX2.out)
    by_cases hil2:i2 < q2
    ·have b1:decide ((i2:Int) < (q2:Int)) = true:=by simp;omega
     have b2:(i2:Int) < (q2:Int):=by omega
     have hlt:i2 < ts.length:=by have:=HL.out;omega
     have hwk:∀ b,b < B → wr.heap[b]? = w0.heap[b]?:=fun b hb => (BK.out.block b (by omega)).trans (HWW.out b hb)
     obtain ⟨b,o,e1,hb,hc⟩:=HS.out (by omega)
     obtain ⟨b',o',e2,hb',hc'⟩:=HS'.out (by omega)
     subst e1 e2
     obtain ⟨n0,n1,n2,n3,n4,n5,n6,n7,n8⟩:=(hc i2 hlt).kept (hwk b hb)
     obtain ⟨k0,k1,k2,k3,k4,k5,k6,k7,k8⟩:=(hc' i2 hlt).kept (hwk b' hb')
     have C1:∀ W',Below wr.heap.size wr W' → Calls Try.prog 11 #[(ND i2).v,(ND' i2).v] W' fun e w' => e = .returned (.bool true) ∧ Hid (Below wr.heap.size wr w'):=fun W' hBl =>
      (HIH.out i2 hlt (ND' i2) (HK.out i2 hlt) W' (by have:=hBl.size;have:=BK.out.size;omega) (fun b hb => (hBl.block b (by have:=BK.out.size;omega)).trans (hwk b hb))).mono fun e w' h => ⟨h.1,hBl.trans (Joins.below_le h.2 hBl.size)⟩
     obtain ⟨P,hP⟩:∃ P,P = ND i2:=⟨_,rfl⟩
     obtain ⟨P',hP'⟩:∃ P,P = ND' i2:=⟨_,rfl⟩
     rw [← hP,← hP'] at C1
     rw [← hP] at n0 n1 n2 n3 n4 n5 n6 n7 n8
     rw [← hP'] at k0 k1 k2 k3 k4 k5 k6 k7 k8
     clear hc hc' hwk hP hP'
     have ad1:IntKind.i64.wrap ((i2:Int) + 1) = (i2:Int) + 1:=by simp [IntKind.wrap,IntKind.bits,IntKind.signed];omega
     go_wp2_with fail
     go_region_with (go_at_call 11;(with_reducible refine (C1 _ ?_).mono ?_);(exact ⟨rfl,rfl,rfl,Nat.le_refl _,fun _ _ => rfl⟩);rintro e w6 ⟨rfl,HB6⟩)
     all_goals go_wp2
     all_goals exact ⟨⟨i2 + 1,by push_cast;rfl,by omega,BK.out.trans (Joins.below_le HB6.out BK.out.size)⟩,by simp [intOf];omega⟩
    ·have b1:decide ((i2:Int) < (q2:Int)) = false:=by simp;omega
     go_wp2
     go_ret
     refine ⟨rfl,?_⟩
     rw [← HXX.out]
     exact HBW'.out.trans (Joins.below_le BK.out (by omega))
theorem same13 {w:World} {N N':Nv} {t:Tn} (h:TI w w.heap.size N t) (h':TI w w.heap.size N' t):Calls Try.prog 11 #[N.v,N'.v] w fun e w' => e = .returned (.bool true) ∧ Below w.heap.size w w':=same13g h N' h' w (Nat.le_refl _) fun _ _ => rfl
end Go.Proofs.Ytbdhiichhcihgaa
