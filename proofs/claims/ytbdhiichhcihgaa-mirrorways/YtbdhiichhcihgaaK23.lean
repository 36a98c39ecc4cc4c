/- HELPERS: texts of ours put together. -/
import Derived.Test.YtbdhiichhcihgaaK22
import Derived.Test.YtbdhiichhcihgaaK18
import Derived.Test.YtbdhiichhcihgaaK01
import Derived.Test.YtbdhiichhcihgaaRows
import Derived.Deep.SlicePairs
import Derived.RowKit
import Derived.JoinedCond
import Derived.OpenShut
import Derived.SizedLaws
import Derived.Lib.SmallJoins
import Derived.Test.YtbdhiichhcihgaaK02
import Derived.Test.YtbdhiichhcihgaaProg
import Derived.WalkKit
import Derived.ProofKit
import Derived.BigQuiet
import Derived.WalkSmall
import Derived.Deep.QuietTactic
import Derived.Deep.RegionWith
import Derived.Laws.EntriesVeiled
import Derived.Deep.WholeRow
import Derived.Lib.Small
namespace Go.Proofs.Ytbdhiichhcihgaa
open Go.RowKit Go.Lk
set_option linter.unusedVariables false
set_option linter.unusedSimpArgs false
def SrcI (w:World) (ad:Option Addr) (l:List Int):Prop:=0 < l.length → ∃ b o,ad = some ⟨b,o,none⟩ ∧ b < w.heap.size ∧ ∀ k (hk:k < l.length),w.cell? ⟨b,o + k,none⟩ = some (.int .i64 l[k])
abbrev RIm (w:World) (b:Nat) (l:List Int):Prop:=w.heap[b]? = some (.cells (l.map (Value.int .i64)).toArray 3 (0,0))
theorem RIm.src {w:World} {b:Nat} {l:List Int} (h:RIm w b l):SrcI w (some ⟨b,0,none⟩) l:=fun hp => ⟨b,0,rfl,(Array.getElem?_eq_some_iff.1 h).1,fun k hk => by
 rw [Nat.zero_add,Joins.cell_of_block h]
 simp [List.getElem?_eq_getElem hk]⟩
theorem SrcI.kept {w w':World} {ad:Option Addr} {l:List Int} (h:SrcI w ad l) (hb:Below w.heap.size w w'):SrcI w' ad l:=fun hp => by
 obtain ⟨b,o,h1,h2,h3⟩:=h hp
 exact ⟨b,o,h1,by have:=hb.size;omega,fun k hk => (cell_eq (hb.block b h2) _).trans (h3 k hk)⟩
theorem makeI (c:Nat) (hc:c * 8 ≤ 281474976710656) (w:World):(Instr.makeSlice 26 (.int .i64 (c:Int)) (.int .i64 (c:Int))).run Try.prog w = .ok (.slice (some ⟨w.heap.size,0,none⟩) c c) (w.alloc (.cells (madeCells #[.int .i64 0] c) 3)):=
 run_make_row' (P:=Try.prog) 26 3 (.int .i64 0) 8 Try.underlying26 info3 rfl .i64 .i64 c (by omega) (by omega) w
set_option maxRecDepth 100000 in
set_option maxHeartbeats 4000000 in
theorem turned29 (l:List Int) (n:Nat) (ad:Option Addr) (cap:Nat) (w:World) (hl:n = l.length) (hn:n * 8 ≤ 140737488351232) (hs:SrcI w ad l) :
  Calls Try.prog 15 #[.slice ad n cap] w fun e w' => e = .returned (.slice (some ⟨w.heap.size,0,none⟩) n n) ∧ RIm w' w.heap.size l.reverse ∧ Below w.heap.size w w':=by
 have hmk:=makeI n (by omega) w
 have h0:=heap_alloc_new w (.cells (madeCells #[.int .i64 0] n) 3)
 have hB0:=Joins.below_alloc1 w (.cells (madeCells #[.int .i64 0] n) 3)
 obtain ⟨V0,hV0⟩:∃ V,V = w.alloc (.cells (madeCells #[.int .i64 0] n) 3):=⟨_,rfl⟩
 rw [← hV0] at h0 hB0 hmk
 have HS:=hid hs
 obtain ⟨x,hx⟩:∃ x,x = w.heap.size:=⟨_,rfl⟩
 rw [← hx] at h0 hB0 hmk ⊢
 have H0:=hid h0
 have HB0:=hid hB0
 have HX:=hid hx
 have HL:=hid hl
 clear h0 hB0 hV0 hs hx hl
 go_enter Try.func15,Try.ntmps15
 go_wp2_with fail
 go_loopw [10] (fun y wq => ∃ i:Nat,y = .int .i64 (i:Int) ∧ i ≤ n ∧ Hid (∃ arr:Array Value,wq.heap[x]? = some (.cells arr 3 (0,0)) ∧ arr.size = n ∧ ∀ j (hj:j < l.length),j < i → arr[n - 1 - j]? = some (.int .i64 l[j])) ∧ Hid (Below x w wq)) (fun y _ => n - (intOf y).toNat)
 case atStart => exact ⟨0,rfl,by omega,⟨_,H0.out,size_madeCells _ _,fun j _ hj => by omega⟩,HB0.out⟩
 case round =>
  obtain ⟨i,rfl,hi,HF,BK⟩:=hrel
  by_cases hil:i < n
  ·have b1:decide ((i:Int) < (n:Int)) = true:=by simp;omega
   have b2:(i:Int) < (n:Int):=by omega
   have hlt:i < l.length:=by have:=HL.out;omega
   have s1:IntKind.i64.wrap ((n:Int) - 1) = ((n - 1:Nat):Int):=by simp [IntKind.wrap,IntKind.bits,IntKind.signed];omega
   have s2:IntKind.i64.wrap (((n - 1:Nat):Int) - (i:Int)) = ((n - 1 - i:Nat):Int):=by simp [IntKind.wrap,IntKind.bits,IntKind.signed];omega
   have b3:((n - 1 - i:Nat):Int) < (n:Int):=by omega
   have ad1:IntKind.i64.wrap ((i:Int) + 1) = (i:Int) + 1:=by simp [IntKind.wrap,IntKind.bits,IntKind.signed];omega
   obtain ⟨b,o,rfl,hb,hc⟩:=HS.out (by omega)
   obtain ⟨arr,h1,h2,h3⟩:=HF.out
   have n0:=(cell_eq (BK.out.block b (by have:=HX.out;omega)) _).trans (hc i hlt)
   obtain ⟨q,hq⟩:∃ q,q = n - 1 - i:=⟨_,rfl⟩
   rw [← hq] at s2 b3
   have f0:=Joins.unfrozen_of_block h1 q
   have c0:wr.cell? ⟨x,q,none⟩ = some (arr[q]'(by omega)):=by rw [Joins.cell_of_block h1,Array.getElem?_eq_getElem]
   obtain ⟨v0,hv0⟩:∃ v0,v0 = arr[q]'(by omega):=⟨_,rfl⟩
   rw [← hv0] at c0
   have hst:(wr.setCell ⟨x,q,none⟩ (.int .i64 l[i])).heap[x]? = some (.cells (arr.setIfInBounds q (.int .i64 l[i])) 3 (0,0)):=Joins.block_setCell (i:=q) h1 _
   obtain ⟨z,hz⟩:∃ z,z = l[i]:=⟨_,rfl⟩
   rw [← hz] at n0 hst
   have HQ:=hid hq
   have HZ:=hid hz
   have HST:=hid hst
   have H2:=hid h2
   have H3:=hid h3
   clear hc h1 h2 h3 hz hq hst HF hv0
   go_wp2
   refine ⟨⟨i + 1,by push_cast;rfl,by omega,⟨_,HST.out,by simp [H2.out],fun j hj hji => ?_⟩,BK.out.setCell (by exact Nat.le_refl _) _⟩,by simp [intOf];omega⟩
   by_cases e:j = i
   ·subst e
    rw [HQ.out,HZ.out,Array.getElem?_setIfInBounds_self,if_pos (by rw [H2.out];omega)]
   ·rw [Array.getElem?_setIfInBounds_ne (by rw [HQ.out];omega)]
    exact H3.out j hj (by omega)
  ·have b1:decide ((i:Int) < (n:Int)) = false:=by simp;omega
   go_wp2
   go_ret
   obtain ⟨arr,h1,h2,h3⟩:=HF.out
   refine ⟨rfl,?_,BK.out⟩
   have e:arr = (l.reverse.map (Value.int .i64)).toArray:=by
    apply Array.ext_getElem?
    intro j
    have hl:=HL.out
    by_cases hj:j < n
    ·have:=h3 (n - 1 - j) (by omega) (by omega)
     rw [show n - 1 - (n - 1 - j) = j by omega] at this
     rw [this]
     simp only [List.getElem?_toArray,List.getElem?_map,List.getElem?_reverse (show j < l.length by omega),← hl]
     rw [List.getElem?_eq_getElem (by omega)]
     rfl
    ·rw [Array.getElem?_eq_none (by omega)]
     simp only [List.getElem?_toArray,List.getElem?_map]
     rw [List.getElem?_eq_none (by simp;omega)]
     rfl
   show wr.heap[x]? = some (.cells (l.reverse.map (Value.int .i64)).toArray 3 (0,0))
   rw [← e]
   exact h1
set_option maxRecDepth 100000 in
set_option maxHeartbeats 4000000 in
theorem back20 (l:List Int) (n:Nat) (ad:Option Addr) (cap:Nat) (w:World) (hl:n = l.length) (hn:n * 8 ≤ 140737488351232) (hs:SrcI w ad l) :
  Calls Try.prog 9 #[.slice ad n cap] w fun e w' => e = .returned (.slice (some ⟨w.heap.size,0,none⟩) n n) ∧ RIm w' w.heap.size l.reverse ∧ Below w.heap.size w w':=by
 have HC:=turned29 l n ad cap w hl hn hs
 clear hs hl
 go_enter Try.func9,Try.ntmps9
 go_wp2_with (first | (go_at_call 15;(with_reducible refine HC.mono ?_);rintro e w2 ⟨rfl,h2,hb2⟩;have H2:=hid h2;have HB2:=hid hb2;clear h2 hb2 HC))
 go_ret
 exact ⟨rfl,H2.out,HB2.out⟩
theorem ok0:I64ok 0:=by decide
theorem ok2:I64ok 2:=by decide
theorem ok4:I64ok 4:=by decide
abbrev clsT (c:Int):Tn:=.mk 2 [(c,c)] 0 [] 0 0 false 0 ⟨#[]⟩
abbrev clsN (b:Nat):Nv:=⟨2,some ⟨b,0,none⟩,1,1,0,none,0,0,0,0,false,0,⟨#[]⟩⟩
abbrev catT (c d:Int):Tn:=.mk 4 [] 0 [clsT c,clsT d] 0 0 false 0 ⟨#[]⟩
abbrev catN (b:Nat):Nv:=⟨4,none,0,0,0,some ⟨b,0,none⟩,2,2,0,0,false,0,⟨#[]⟩⟩
theorem cls_ti {w:World} {B b:Nat} {c:Int} (hc:I64ok c) (h:w.heap[b]? = some (.cells #[.int .i64 c,.int .i64 c] 39 (0,0))) (hb:b < B):TI w B (clsN b) (clsT c):=by
 have hm:(1:Nat) ≤ maxLen:=by unfold maxLen;omega
 refine .mk (N:=clsN b) (R:=[(c,c)]) (ts:=[]) (ND:=fun _ => default) ⟨ok2,ok0,ok0,ok0,ok0,by show 0 ≤ maxLen;omega,⟨Nat.le_refl _,hm⟩,⟨Nat.le_refl _,by show 0 ≤ maxLen;omega⟩⟩ rfl (fun _ => ⟨b,0,rfl,hb,fun i hi => ?_⟩) (by simpa using hc) rfl (fun h => by simp at h) (fun i hi => by simp at hi)
 have e:i = 0:=by simpa using hi
 subst e
 exact ⟨Joins.cell_of_block h 0,Joins.cell_of_block h 1⟩
theorem cat_ti {w:World} {B b b1 b2:Nat} {c d:Int} (hc:I64ok c) (hd:I64ok d) (h1:w.heap[b1]? = some (.cells #[.int .i64 c,.int .i64 c] 39 (0,0))) (h2:w.heap[b2]? = some (.cells #[.int .i64 d,.int .i64 d] 39 (0,0)))
  (h:w.heap[b]? = some (.cells ((clsN b1).cs ++ (clsN b2).cs).toArray 25 (0,0))) (hb:b < B ∧ b1 < B ∧ b2 < B):TI w B (catN b) (catT c d):=by
 have hm:(2:Nat) ≤ maxLen:=by unfold maxLen;omega
 have hz:(0:Nat) ≤ maxLen:=by omega
 refine .mk (N:=catN b) (R:=[]) (ts:=[clsT c,clsT d]) (ND:=fun i => if i = 0 then clsN b1 else clsN b2) ⟨ok4,ok0,ok0,ok0,ok0,hz,⟨Nat.le_refl _,hz⟩,⟨Nat.le_refl _,hm⟩⟩ rfl (fun h => absurd rfl h) (by simp) rfl (fun _ => ⟨b,0,rfl,hb.1,fun i hi => ?_⟩) (fun i hi => ?_)
 ·have e:i = 0 ∨ i = 1:=by simp at hi;omega
  rcases e with rfl | rfl
  ·exact ⟨Joins.cell_of_block h 0,Joins.cell_of_block h 1,Joins.cell_of_block h 2,Joins.cell_of_block h 3,Joins.cell_of_block h 4,Joins.cell_of_block h 5,Joins.cell_of_block h 6,Joins.cell_of_block h 7,Joins.cell_of_block h 8⟩
  ·exact ⟨Joins.cell_of_block h 9,Joins.cell_of_block h 10,Joins.cell_of_block h 11,Joins.cell_of_block h 12,Joins.cell_of_block h 13,Joins.cell_of_block h 14,Joins.cell_of_block h 15,Joins.cell_of_block h 16,Joins.cell_of_block h 17⟩
 ·have e:i = 0 ∨ i = 1:=by simp at hi;omega
  rcases e with rfl | rfl
  ·exact cls_ti hc h1 hb.2.1
  ·exact cls_ti hd h2 hb.2.2
theorem cat_sound:(catT 97 98).sound = true:=by decide +kernel
theorem cat_mir:(catT 97 98).mir = catT 98 97:=by simp [Tn.mir,mirL,flip0]
set_option maxRecDepth 100000 in
set_option maxHeartbeats 8000000 in
theorem awake8 (w:World):Calls Try.prog 5 #[] w fun e w' => e = .returned (.bool true) ∧ Below w.heap.size w w':=by
 go_enter Try.func5,Try.ntmps5
 go_upto_region 3 with fail
 obtain ⟨W,hW⟩:∃ W,W = (((w.alloc (.cells #[.int .i64 97,.int .i64 97] 39)).alloc (.cells #[.int .i64 2,.slice (some ⟨w.heap.size,0,none⟩) 1 1,.int .i64 0,.slice none 0 0,.int .i64 0,.int .i64 0,.bool false,.int .i64 0,.string ⟨#[]⟩] 25)).alloc (.cells #[.int .i64 98,.int .i64 98] 39)).alloc (.cells #[.int .i64 2,.slice (some ⟨w.heap.size + 1 + 1,0,none⟩) 1 1,.int .i64 0,.slice none 0 0,.int .i64 0,.int .i64 0,.bool false,.int .i64 0,.string ⟨#[]⟩] 25):=⟨_,rfl⟩
 rw [← hW]
 have hs:W.heap.size = w.heap.size + 4:=by rw [hW];simp
 have h0:W.heap[w.heap.size]? = some (.cells #[.int .i64 97,.int .i64 97] 39 (0,0)):=by rw [hW];exact (heap_alloc_old _ _ (by simp;omega)).trans ((heap_alloc_old _ _ (by simp;omega)).trans ((heap_alloc_old _ _ (by simp)).trans (heap_alloc_new w _)))
 have h1:BxN W (w.heap.size + 1) (clsN w.heap.size):=by rw [hW];exact (heap_alloc_old _ _ (by simp <;> omega)).trans ((heap_alloc_old _ _ (by simp)).trans (two_new w _ _ _))
 have h2:W.heap[w.heap.size + 1 + 1]? = some (.cells #[.int .i64 98,.int .i64 98] 39 (0,0)):=by
  rw [hW]
  refine (heap_alloc_old _ _ (by simp)).trans ?_
  have:=two_new (w.alloc (.cells #[.int .i64 97,.int .i64 97] 39)) (.cells #[.int .i64 2,.slice (some ⟨w.heap.size,0,none⟩) 1 1,.int .i64 0,.slice none 0 0,.int .i64 0,.int .i64 0,.bool false,.int .i64 0,.string ⟨#[]⟩] 25) #[.int .i64 98,.int .i64 98] 39
  simpa using this
 have h3:BxN W (w.heap.size + 1 + 1 + 1) (clsN (w.heap.size + 1 + 1)):=by
  rw [hW]
  have:=two_new ((w.alloc (.cells #[.int .i64 97,.int .i64 97] 39)).alloc (.cells #[.int .i64 2,.slice (some ⟨w.heap.size,0,none⟩) 1 1,.int .i64 0,.slice none 0 0,.int .i64 0,.int .i64 0,.bool false,.int .i64 0,.string ⟨#[]⟩] 25)) (.cells #[.int .i64 98,.int .i64 98] 39) #[.int .i64 2,.slice (some ⟨w.heap.size + 1 + 1,0,none⟩) 1 1,.int .i64 0,.slice none 0 0,.int .i64 0,.int .i64 0,.bool false,.int .i64 0,.string ⟨#[]⟩] 25
  have s2:∀ o o':Obj,((w.alloc o).alloc o').heap.size = w.heap.size + 1 + 1:=fun o o' => by simp
  rw [s2] at this
  exact this
 have hb:Below w.heap.size w W:=by rw [hW];exact ((((Below.refl _ _).alloc (Nat.le_refl _) _).alloc (by simp) _).alloc (by simp;omega) _).alloc (by simp;omega) _
 obtain ⟨x,hx⟩:∃ x,x = w.heap.size:=⟨_,rfl⟩
 rw [← hx] at hs h0 h1 h2 h3 hb ⊢
 have HX:=hid hx
 have HB:=hid hb
 have H0:=hid h0
 have H1:=hid h1
 have H2:=hid h2
 have H3:=hid h3
 clear hW hx hb h0 h2
 have HC:Calls Try.prog 8 #[.agg #[.int .i64 4,.slice none 0 0,.int .i64 0,.slice (some ⟨x + 4,0,none⟩) 2 2,.int .i64 0,.int .i64 0,.bool false,.int .i64 0,.string ⟨#[]⟩]] (W.alloc (.cells #[.int .i64 2,.slice (some ⟨x,0,none⟩) 1 1,.int .i64 0,.slice none 0 0,.int .i64 0,.int .i64 0,.bool false,.int .i64 0,.string ⟨#[]⟩,.int .i64 2,.slice (some ⟨x + 1 + 1,0,none⟩) 1 1,.int .i64 0,.slice none 0 0,.int .i64 0,.int .i64 0,.bool false,.int .i64 0,.string ⟨#[]⟩] 25)) fun e w' => ∃ M A,e = .returned (.tuple #[Nv.v M,.int .i64 0]) ∧ TO w' M (catT 98 97) A ∧ (∀ b,A b → x + 4 ≤ b) ∧ Below (x + 5) (W.alloc (.cells #[.int .i64 2,.slice (some ⟨x,0,none⟩) 1 1,.int .i64 0,.slice none 0 0,.int .i64 0,.int .i64 0,.bool false,.int .i64 0,.string ⟨#[]⟩,.int .i64 2,.slice (some ⟨x + 1 + 1,0,none⟩) 1 1,.int .i64 0,.slice none 0 0,.int .i64 0,.int .i64 0,.bool false,.int .i64 0,.string ⟨#[]⟩] 25)) w':=by
  have hsz:(W.alloc (.cells #[.int .i64 2,.slice (some ⟨x,0,none⟩) 1 1,.int .i64 0,.slice none 0 0,.int .i64 0,.int .i64 0,.bool false,.int .i64 0,.string ⟨#[]⟩,.int .i64 2,.slice (some ⟨x + 1 + 1,0,none⟩) 1 1,.int .i64 0,.slice none 0 0,.int .i64 0,.int .i64 0,.bool false,.int .i64 0,.string ⟨#[]⟩] 25)).heap.size = x + 5:=by simp;omega
  have hti:TI (W.alloc (.cells #[.int .i64 2,.slice (some ⟨x,0,none⟩) 1 1,.int .i64 0,.slice none 0 0,.int .i64 0,.int .i64 0,.bool false,.int .i64 0,.string ⟨#[]⟩,.int .i64 2,.slice (some ⟨x + 1 + 1,0,none⟩) 1 1,.int .i64 0,.slice none 0 0,.int .i64 0,.int .i64 0,.bool false,.int .i64 0,.string ⟨#[]⟩] 25)) (W.alloc (.cells #[.int .i64 2,.slice (some ⟨x,0,none⟩) 1 1,.int .i64 0,.slice none 0 0,.int .i64 0,.int .i64 0,.bool false,.int .i64 0,.string ⟨#[]⟩,.int .i64 2,.slice (some ⟨x + 1 + 1,0,none⟩) 1 1,.int .i64 0,.slice none 0 0,.int .i64 0,.int .i64 0,.bool false,.int .i64 0,.string ⟨#[]⟩] 25)).heap.size (catN (x + 4)) (catT 97 98):=by
   refine cat_ti (b1:=x) (b2:=x + 1 + 1) (by decide) (by decide) ((heap_alloc_old _ _ (by omega)).trans H0.out) ((heap_alloc_old _ _ (by omega)).trans H2.out) ?_ ⟨by omega,by omega,by omega⟩
   rw [← hs]
   exact heap_alloc_new W _
  have:=mirror10_ok hti cat_sound
  rw [cat_mir,hsz] at this
  refine this.mono ?_
  rintro e w' ⟨M,A,q1,q2,q3,q4⟩
  exact ⟨M,A,q1,q2,fun b hb => by have:=q3 b hb;omega,q4⟩
 obtain ⟨o0,o1,o2,o3,o4,o5,o6,o7,o8⟩:=nine' h1
 obtain ⟨n0,n1,n2,n3,n4,n5,n6,n7,n8⟩:=nine' h3
 clear h1 h3
 have HSZ:=hid hs
 go_upto_region 4 with (go_at_call 8;(with_reducible refine HC.mono ?_);rintro e w5 ⟨M,A,rfl,hM,hA,hb5⟩;have HM:=hid hM;have HA:=hid hA;have HB5:=hid hb5;clear hM hA hb5 HC)
 obtain ⟨V,hV⟩:∃ V,V = w5.alloc (.cells #[.int .i64 M.k,.slice M.r1 M.r2 M.r3,.int .i64 M.a2,.slice M.s1 M.s2 M.s3,.int .i64 M.a4,.int .i64 M.a5,.bool M.a6,.int .i64 M.a7,.string M.a8] 25):=⟨_,rfl⟩
 rw [← hV]
 have hs5:x + 5 ≤ w5.heap.size:=by have:=HB5.out.size;simp at this;omega
 have hVs:V.heap.size = w5.heap.size + 1:=by rw [hV];simp
 have hVo:∀ b,b < w5.heap.size → V.heap[b]? = w5.heap[b]?:=fun b hb => by rw [hV];exact heap_alloc_old _ _ hb
 have hVx:∀ b,b < x + 4 → V.heap[b]? = W.heap[b]?:=fun b hb => (hVo b (by omega)).trans ((HB5.out.block b (by omega)).trans (heap_alloc_old _ _ (by omega)))
 have hVM:BxN V w5.heap.size M:=by rw [hV];exact heap_alloc_new w5 _
 have hVT:TO V M (catT 98 97) A:=HM.out.kept fun b hb => hVo b (HM.out.low b hb)
 have hbV:Below x w V:=by
  have h1:Below x w w5:=⟨HB5.out.os.trans HB.out.os,HB5.out.tape.trans HB.out.tape,HB5.out.output.trans HB.out.output,by have:=HB.out.size;omega,fun b hb => (HB5.out.block b (by omega)).trans ((heap_alloc_old _ _ (by omega)).trans (HB.out.block b hb))⟩
  rw [hV];exact h1.alloc (by omega) _
 have HBK:Calls Try.prog 9 #[.slice (some ⟨w5.heap.size + 1,0,none⟩) 2 2] (V.alloc (.cells #[.int .i64 7,.int .i64 8] 3)) fun e w' => e = .returned (.slice (some ⟨w5.heap.size + 2,0,none⟩) 2 2) ∧ w'.heap[w5.heap.size + 2]? = some (.cells #[.int .i64 8,.int .i64 7] 3 (0,0)) ∧ Below (w5.heap.size + 2) (V.alloc (.cells #[.int .i64 7,.int .i64 8] 3)) w':=by
  have hri:RIm (V.alloc (.cells #[.int .i64 7,.int .i64 8] 3)) V.heap.size [7,8]:=heap_alloc_new V _
  have:=back20 [7,8] 2 (some ⟨V.heap.size,0,none⟩) 2 (V.alloc (.cells #[.int .i64 7,.int .i64 8] 3)) rfl (by omega) hri.src
  have hsz:(V.alloc (.cells #[.int .i64 7,.int .i64 8] 3)).heap.size = w5.heap.size + 2:=by simp;omega
  rw [hsz,hVs] at this
  exact this
 obtain ⟨z,hz⟩:∃ z,z = w5.heap.size:=⟨_,rfl⟩
 rw [← hz] at hs5 hVs hVM HBK ⊢
 have HVX:=hid hVx
 have HVM:=hid hVM
 have HVT:=hid hVT
 have HBV:=hid hbV
 have HZ:Hid (∀ b,A b → b < z):=fun b hb => by rw [hz];exact HM.out.low b hb
 clear o0 o1 o2 o3 o4 o5 o6 o7 o8 n0 n1 n2 n3 n4 n5 n6 n7 n8 hV hVo hVx hVM hVT hbV hz HM HB5 hs HB
 go_upto_region 5 with (go_at_call 9;(with_reducible refine HBK.mono ?_);rintro e w6 ⟨rfl,hr6,hb6⟩;have HR6:=hid hr6;have HB6:=hid hb6;clear hr6 hb6 HBK)
 have hs6:z + 3 ≤ w6.heap.size:=by have:=(Array.getElem?_eq_some_iff.1 HR6.out).1;omega
 have hold6:∀ b,b < z + 1 → w6.heap[b]? = V.heap[b]?:=fun b hb => (HB6.out.block b (by omega)).trans (heap_alloc_old _ _ (by omega))
 have h1:BxN w6 (x + 1) (clsN x):=(hold6 _ (by omega)).trans ((HVX.out _ (by omega)).trans H1.out)
 have h3:BxN w6 (x + 1 + 1 + 1) (clsN (x + 1 + 1)):=(hold6 _ (by omega)).trans ((HVX.out _ (by omega)).trans H3.out)
 have h5:BxN w6 z M:=(hold6 _ (by omega)).trans HVM.out
 have HSM:Calls Try.prog 11 #[M.v,.agg #[.int .i64 4,.slice none 0 0,.int .i64 0,.slice (some ⟨w6.heap.size,0,none⟩) 2 2,.int .i64 0,.int .i64 0,.bool false,.int .i64 0,.string ⟨#[]⟩]] (w6.alloc (.cells #[.int .i64 2,.slice (some ⟨x + 1 + 1,0,none⟩) 1 1,.int .i64 0,.slice none 0 0,.int .i64 0,.int .i64 0,.bool false,.int .i64 0,.string ⟨#[]⟩,.int .i64 2,.slice (some ⟨x,0,none⟩) 1 1,.int .i64 0,.slice none 0 0,.int .i64 0,.int .i64 0,.bool false,.int .i64 0,.string ⟨#[]⟩] 25)) fun e w' => e = .returned (.bool true) ∧ Below (w6.heap.size + 1) (w6.alloc (.cells #[.int .i64 2,.slice (some ⟨x + 1 + 1,0,none⟩) 1 1,.int .i64 0,.slice none 0 0,.int .i64 0,.int .i64 0,.bool false,.int .i64 0,.string ⟨#[]⟩,.int .i64 2,.slice (some ⟨x,0,none⟩) 1 1,.int .i64 0,.slice none 0 0,.int .i64 0,.int .i64 0,.bool false,.int .i64 0,.string ⟨#[]⟩] 25)) w':=by
  have hti:TI (w6.alloc (.cells #[.int .i64 2,.slice (some ⟨x + 1 + 1,0,none⟩) 1 1,.int .i64 0,.slice none 0 0,.int .i64 0,.int .i64 0,.bool false,.int .i64 0,.string ⟨#[]⟩,.int .i64 2,.slice (some ⟨x,0,none⟩) 1 1,.int .i64 0,.slice none 0 0,.int .i64 0,.int .i64 0,.bool false,.int .i64 0,.string ⟨#[]⟩] 25)) (w6.alloc (.cells #[.int .i64 2,.slice (some ⟨x + 1 + 1,0,none⟩) 1 1,.int .i64 0,.slice none 0 0,.int .i64 0,.int .i64 0,.bool false,.int .i64 0,.string ⟨#[]⟩,.int .i64 2,.slice (some ⟨x,0,none⟩) 1 1,.int .i64 0,.slice none 0 0,.int .i64 0,.int .i64 0,.bool false,.int .i64 0,.string ⟨#[]⟩] 25)).heap.size (catN w6.heap.size) (catT 98 97):=by
   refine cat_ti (b1:=x + 1 + 1) (b2:=x) (by decide) (by decide) ((heap_alloc_old _ _ (by omega)).trans ((hold6 _ (by omega)).trans ((HVX.out _ (by omega)).trans H2.out))) ((heap_alloc_old _ _ (by omega)).trans ((hold6 _ (by omega)).trans ((HVX.out _ (by omega)).trans H0.out))) (heap_alloc_new w6 _) ⟨by simp,by simp;omega,by simp;omega⟩
  have hM:TI (w6.alloc (.cells #[.int .i64 2,.slice (some ⟨x + 1 + 1,0,none⟩) 1 1,.int .i64 0,.slice none 0 0,.int .i64 0,.int .i64 0,.bool false,.int .i64 0,.string ⟨#[]⟩,.int .i64 2,.slice (some ⟨x,0,none⟩) 1 1,.int .i64 0,.slice none 0 0,.int .i64 0,.int .i64 0,.bool false,.int .i64 0,.string ⟨#[]⟩] 25)) (w6.alloc (.cells #[.int .i64 2,.slice (some ⟨x + 1 + 1,0,none⟩) 1 1,.int .i64 0,.slice none 0 0,.int .i64 0,.int .i64 0,.bool false,.int .i64 0,.string ⟨#[]⟩,.int .i64 2,.slice (some ⟨x,0,none⟩) 1 1,.int .i64 0,.slice none 0 0,.int .i64 0,.int .i64 0,.bool false,.int .i64 0,.string ⟨#[]⟩] 25)).heap.size M (catT 98 97):=
   ((HVT.out.tp.kept (fun b hb => (heap_alloc_old _ _ (by have:=HZ.out b hb;omega)).trans (hold6 b (by have:=HZ.out b hb;omega))) (fun b hb => hb))).ti (fun b hb => by have:=HZ.out b hb;simp;omega)
  have:=same13 hM hti
  simpa using this
 obtain ⟨o0,o1,o2,o3,o4,o5,o6,o7,o8⟩:=nine' h1
 obtain ⟨n0,n1,n2,n3,n4,n5,n6,n7,n8⟩:=nine' h3
 obtain ⟨m0,m1,m2,m3,m4,m5,m6,m7,m8⟩:=nine' h5
 clear h1 h3 h5
 have HOLD6:=hid hold6
 clear hold6
 go_wp2_with (first | (go_at_call 11;(with_reducible refine HSM.mono ?_);rintro e w7 ⟨rfl,hb7⟩;have hr7:w7.heap[z + 2]? = some (.cells #[.int .i64 8,.int .i64 7] 3 (0,0)):=(hb7.block _ (by omega)).trans ((heap_alloc_old _ _ (by omega)).trans HR6.out);have p0:w7.cell? ⟨z + 2,0,none⟩ = some (.int .i64 8):=Joins.cell_of_block hr7 0;have p1:w7.cell? ⟨z + 2,1,none⟩ = some (.int .i64 7):=Joins.cell_of_block hr7 1;have HB7:=hid hb7;clear hr7 hb7 HSM))
 go_ret
 refine ⟨rfl,?_⟩
 rw [← HX.out]
 exact ⟨HB7.out.os.trans (HB6.out.os.trans HBV.out.os),HB7.out.tape.trans (HB6.out.tape.trans HBV.out.tape),HB7.out.output.trans (HB6.out.output.trans HBV.out.output),by have:=HB7.out.size;simp at this;have:=HBV.out.size;omega,fun b hb => (HB7.out.block b (by omega)).trans ((heap_alloc_old _ _ (by omega)).trans ((HOLD6.out b (by omega)).trans (HBV.out.block b hb)))⟩
theorem TextAt.srcI {w:World} {ad:Option Addr} {n:Nat} {l:List Int} (h:Look.TextAt w.heap.size w ad n l):SrcI w ad l:=fun hp => by
 obtain ⟨h1,h2,h3 | ⟨b,off,h4,h5,h6⟩⟩:=h
 ·omega
 ·exact ⟨b,off,h4,h5,fun k hk => by rw [h6 k (by omega)];simp [List.getD_eq_getElem?_getD,hk]⟩
theorem ri_text {w:World} {b:Nat} {l:List Int} {n:Nat} (h:RIm w b l) (hn:n = l.length) (hm:n ≤ 1000):Look.TextAt w.heap.size w (some ⟨b,0,none⟩) n l:=
 ⟨hn,by omega,.inr ⟨b,0,rfl,(Array.getElem?_eq_some_iff.1 h).1,fun k hk => by rw [Nat.zero_add,Joins.cell_of_block h];simp [List.getD_eq_getElem?_getD,show k < l.length by omega]⟩⟩
theorem errP_mir {t:Tn} {tn:Nat} (h:errP t tn 0 = 0):errP t.mir tn 0 = 0:=by
 obtain ⟨p1,p2,p3,p4,p5⟩:=errP_parts h
 have:=mir_sz t (sound_parts p2).1
 unfold errP
 rw [if_neg (by omega),if_neg (by simp [Tn.mir_sound p2]),if_neg (by omega),if_neg (by omega)]
set_option maxRecDepth 100000 in
set_option maxHeartbeats 32000000 in
theorem ways3 {w:World} {N:Nv} {t:Tn} {tad:Option Addr} {tn tc:Nat} {tx:List Int} (h:TI w w.heap.size N t) (hT:Look.TextAt w.heap.size w tad tn tx) (htc:tn ≤ tc) :
  Calls Try.prog 3 #[N.v,.slice tad tn tc] w fun e w' => e = .returned (.bool true) ∧ Below w.heap.size w w':=by
 obtain ⟨U,hU⟩:∃ U,U = w.alloc (.cells #[.int .i64 N.k,.slice N.r1 N.r2 N.r3,.int .i64 N.a2,.slice N.s1 N.s2 N.s3,.int .i64 N.a4,.int .i64 N.a5,.bool N.a6,.int .i64 N.a7,.string N.a8] 25):=⟨_,rfl⟩
 have hbU:Below w.heap.size w U:=by rw [hU];exact Joins.below_alloc1 w _
 have hX:BNo U w.heap.size N:=by rw [hU];exact heap_alloc_new w _
 have hxU:w.heap.size < U.heap.size:=(Array.getElem?_eq_some_iff.1 hX).1
 have tiw:∀ (W:World),Below w.heap.size w W → TI W W.heap.size N t:=fun W hW => (h.kept fun b hb => hW.block b hb).le hW.size
 have HD:=deep10 (tiw _ hbU)
 have TIW:=hid tiw
 have HTW:Hid (∀ W,Below w.heap.size w W → Look.TextAt W.heap.size W tad tn tx):=fun W h => (hT.below h).mono h.size
 have HTL:=hid hT.1
 obtain ⟨x,hx⟩:∃ x,x = w.heap.size:=⟨_,rfl⟩
 have HK0:Hid (∀ W,Below U.heap.size U W → BNo W x N ∧ Below w.heap.size w W):=fun W h => by rw [hx];exact ⟨(h.block _ (by omega)).trans hX,hbU.trans (Joins.below_le h hbU.size)⟩
 clear hbU hX tiw h hT hxU
 go_enter Try.func3,Try.ntmps3
 go_upto_region 1 with fail
 rw [← hU,← hx]
 clear hU hx
 obtain ⟨c0,c1,c2,c3,c4,c5,c6,c7,c8⟩:=nine' (HK0.out U (Below.refl _ _)).1
 by_cases hdp:4194304 < t.nodes
 ·rw [decide_eq_true hdp] at HD
  go_wp2_with (first | (go_at_call 4;(with_reducible refine HD.mono ?_);rintro e U1 ⟨rfl,hb⟩;have HB1:=hid hb;clear hb HD))
  all_goals go_ret
  all_goals exact ⟨rfl,(HK0.out _ HB1.out).2⟩
 rw [decide_eq_false hdp] at HD
 go_upto_region 4 with (go_at_call 4;(with_reducible refine HD.mono ?_);rintro e U1 ⟨rfl,hb⟩;have HB1:=hid hb;clear hb HD)
 clear c0 c1 c2 c3 c4 c5 c6 c7 c8
 have HA:=awake8 U1
 by_cases ht12:12 < tn
 ·have g1:decide ((tn:Int) > 12) = true:=by simp;omega
  have g2:decide ((12:Int) < (tn:Int)) = true:=by simp;omega
  go_wp2_with (go_at_call 5;(with_reducible refine HA.mono ?_);rintro e U2 ⟨rfl,hb⟩;have HB2:=hid (HB1.out.trans (Joins.below_le hb HB1.out.size));clear hb HA)
  all_goals go_ret
  all_goals exact ⟨rfl,(HK0.out _ HB2.out).2⟩
 have ht12':tn ≤ 12:=by omega
 have g1:decide ((tn:Int) > 12) = false:=by simp;omega
 have g2:decide ((12:Int) < (tn:Int)) = false:=by simp;omega
 go_upto_region 7 with (go_at_call 5;(with_reducible refine HA.mono ?_);rintro e U2 ⟨rfl,hb⟩;have HB2:=hid (HB1.out.trans (Joins.below_le hb HB1.out.size));clear hb HA)
 clear g1 g2
 have HG:=great14 (TIW.out _ (HK0.out _ HB2.out).2)
 obtain ⟨c0,c1,c2,c3,c4,c5,c6,c7,c8⟩:=nine' (HK0.out U2 HB2.out).1
 by_cases hbg:200000 < t.nodes
 ·rw [decide_eq_true hbg] at HG
  go_wp2_with (go_at_call 6;(with_reducible refine HG.mono ?_);rintro e U3 ⟨rfl,hb⟩;have HB3:=hid (HB2.out.trans (Joins.below_le hb HB2.out.size));clear hb HG)
  all_goals go_ret
  all_goals exact ⟨rfl,(HK0.out _ HB3.out).2⟩
 rw [decide_eq_false hbg] at HG
 go_upto_region 10 with (go_at_call 6;(with_reducible refine HG.mono ?_);rintro e U3 ⟨rfl,hb⟩;have HB3:=hid (HB2.out.trans (Joins.below_le hb HB2.out.size));clear hb HG)
 clear c0 c1 c2 c3 c4 c5 c6 c7 c8
 obtain ⟨c0,c1,c2,c3,c4,c5,c6,c7,c8⟩:=nine' (HK0.out U3 HB3.out).1
 by_cases hE:errP t tn 0 = 0
 case neg =>
  have HR:=reaches7_no (TIW.out _ (HK0.out _ HB3.out).2) (HTW.out _ (HK0.out _ HB3.out).2) htc ht12' hE
  clear hE
  go_wp2_with (go_at_call 7;(with_reducible refine HR.mono ?_);rintro e U4 ⟨ra,rc,rfl,hb⟩;have HB4:=hid (HB3.out.trans (Joins.below_le hb HB3.out.size));clear hb HR)
  all_goals go_ret
  all_goals exact ⟨rfl,(HK0.out _ HB4.out).2⟩
 have HR:=reaches7_ok (TIW.out _ (HK0.out _ HB3.out).2) (HTW.out _ (HK0.out _ HB3.out).2) htc ht12' hE
 unfold ReaC at HR
 obtain ⟨n,hn⟩:∃ n,n = tn + 1:=⟨_,rfl⟩
 obtain ⟨K,hK⟩:∃ K,K = n * n:=⟨_,rfl⟩
 rw [← hn,← hK] at HR
 have HNE:=hid hn
 have HKE:=hid hK
 have HE:=hid hE
 clear hn hK hE
 go_upto_region 13 with (go_at_call 7;(with_reducible refine HR.mono ?_);rintro e U4 ⟨oa,f,rfl,hoa,hfr,hfm,hb⟩;have HFR:=hid hfr;have HFM:=hid hfm;have HB4:=hid (HB3.out.trans (Joins.below_le hb HB3.out.size));clear hoa hb hfr hfm HR)
 clear c0 c1 c2 c3 c4 c5 c6 c7 c8
 obtain ⟨p1,p2,p3,p4,p5⟩:=errP_parts HE.out
 have HM:=mirror10_ok (TIW.out _ (HK0.out _ HB4.out).2) p2
 obtain ⟨c0,c1,c2,c3,c4,c5,c6,c7,c8⟩:=nine' (HK0.out U4 HB4.out).1
 have HSD:=hid p2
 clear p1 p2 p3 p4 p5 hdp hbg HB1 HB2 HB3
 go_upto_region 14 with (go_at_call 8;(with_reducible refine HM.mono ?_);rintro e W5 ⟨M,A,rfl,hto,hA,hb⟩;have HTO:=hid hto;have HB5:=hid hb;clear hb hto hA HM)
 clear c0 c1 c2 c3 c4 c5 c6 c7 c8
 obtain ⟨U5,hU5⟩:∃ U5,U5 = W5.alloc (.cells #[.int .i64 M.k,.slice M.r1 M.r2 M.r3,.int .i64 M.a2,.slice M.s1 M.s2 M.s3,.int .i64 M.a4,.int .i64 M.a5,.bool M.a6,.int .i64 M.a7,.string M.a8] 25):=⟨_,rfl⟩
 obtain ⟨z,hz⟩:∃ z,z = W5.heap.size:=⟨_,rfl⟩
 rw [← hU5,← hz]
 have hb5:Below W5.heap.size W5 U5:=by rw [hU5];exact Joins.below_alloc1 W5 _
 have hV5:BNo U5 z M:=by rw [hU5,hz];exact heap_alloc_new W5 _
 have hb45:Below U4.heap.size U4 U5:=HB5.out.trans (Joins.below_le hb5 HB5.out.size)
 have HU5:Hid (Below U.heap.size U U5):=HB4.out.trans (Joins.below_le hb45 HB4.out.size)
 have hz5:z < U5.heap.size:=(Array.getElem?_eq_some_iff.1 hV5).1
 have hti5:TI U5 U5.heap.size M t.mir:=(HTO.out.kept fun b hb => hb5.block b (HTO.out.low b hb)).ti
 have HV5:Hid (∀ W,Below U5.heap.size U5 W → BNo W z M ∧ TI W W.heap.size M t.mir ∧ BRw W oa K f ∧ Below U.heap.size U W):=fun W h => ⟨(h.block z hz5).trans hV5,(hti5.kept fun b hb => h.block b hb).le h.size,HFR.out.kept (((h.block oa (by have:=HFR.out.lt;have:=hb45.size;omega)).trans (hb45.block oa HFR.out.lt))),HU5.out.trans (Joins.below_le h HU5.out.size)⟩
 have HBK:=back20 tx tn tad tc U5 HTL.out (by omega) (TextAt.srcI (HTW.out _ (HK0.out _ HU5.out).2))
 clear hU5 hz hb5 hV5 hb45 HB5 HTO hti5 hz5
 go_upto_region 15 with (go_at_call 9;(with_reducible refine HBK.mono ?_);rintro e U6 ⟨rfl,hri,hb⟩;have HRI:=hid hri;have HB6:=hid hb;clear hb hri HBK)
 have hrl:tx.reverse.length = tn:=by rw [List.length_reverse];exact HTL.out.symm
 have hTX:=ri_text HRI.out hrl.symm (by omega)
 obtain ⟨hz6,hti6,_,_⟩:=HV5.out U6 HB6.out
 have HR:=reaches7_ok hti6 hTX (Nat.le_refl _) ht12' (errP_mir HE.out)
 unfold ReaC at HR
 rw [← HNE.out,← HKE.out] at HR
 obtain ⟨c0,c1,c2,c3,c4,c5,c6,c7,c8⟩:=nine' hz6
 obtain ⟨bk,hbk⟩:∃ bk,bk = U5.heap.size:=⟨_,rfl⟩
 rw [← hbk] at HR ⊢
 clear hTX hti6 hz6 hbk hrl
 go_upto_region 18 with (go_at_call 7;(with_reducible refine HR.mono ?_);rintro e U7 ⟨ob,g,rfl,hob,hgr,hgm,hb⟩;have HGR:=hid hgr;have HGM:=hid hgm;have HB7:=hid (HB6.out.trans (Joins.below_le hb HB6.out.size));clear hb hgr hgm hob HR)
 clear c0 c1 c2 c3 c4 c5 c6 c7 c8
 have HSYM:Hid (∀ b y,b ≤ tn → y ≤ tn → f (b * n + y) = g ((tn - y) * n + (tn - b))):=fun b y hb hy => by
  have hs:=mt_mir tx t (sound_parts HSD.out).1 b y (by rw [← HTL.out];exact hb) (by rw [← HTL.out];exact hy)
  rw [← HTL.out] at hs
  have e1:=HFM.out b y hb hy
  have e2:=HGM.out (tn - y) (tn - b) (by omega) (by omega)
  have:=e1.trans (hs.trans e2.symm)
  cases hf:f (b * n + y) <;> cases hg:g ((tn - y) * n + (tn - b)) <;> simp_all
 have HFC:Hid (∀ W,Below U7.heap.size U7 W → BRw W oa K f ∧ BRw W ob K g ∧ Below w.heap.size w W):=fun W h => by
  obtain ⟨_,_,h1,h2⟩:=HV5.out W (HB7.out.trans (Joins.below_le h HB7.out.size))
  exact ⟨h1,HGR.out.kept (h.block ob HGR.out.lt),(HK0.out W h2).2⟩
 clear HFM HGM HGR HV5 HB7 HB6 HRI HU5 HB4 HFR HSD HE TIW HTW HTL HK0
 have hn1:n = tn + 1:=HNE.out
 have a0:IntKind.i64.wrap ((tn:Int) + 1) = (n:Int):=by rw [wrap_ok _ (by omega) (by omega)];omega
 clear hn1
 go_wp2_with fail
 go_loopw [16] (fun u wq => ∃ i:Nat,u = .int .i64 (i:Int) ∧ i ≤ tn + 1 ∧ Hid (Below U7.heap.size U7 wq)) (fun u _ => tn + 1 - (intOf u).toNat)
 case atStart => exact ⟨0,rfl,by omega,Below.refl _ _⟩
 case round =>
  obtain ⟨i,rfl,hi,HBQ⟩:=hrel
  by_cases hit:i ≤ tn
  case neg =>
   have g1:decide ((i:Int) ≤ (tn:Int)) = false:=by simp;omega
   have HWW:=hid (HFC.out _ HBQ.out).2.2
   go_wp2
   all_goals go_ret
   all_goals exact ⟨rfl,HWW.out⟩
  have g1:decide ((i:Int) ≤ (tn:Int)) = true:=by simp;omega
  have a1:IntKind.i64.wrap ((i:Int) + 1) = (i:Int) + 1:=by rw [wrap_ok _ (by omega) (by omega)]
  go_upto_region 25 with fail
  go_loopw [17] (fun u wq => ∃ y:Nat,u = .int .i64 (y:Int) ∧ y ≤ tn + 1 ∧ Hid (Below U7.heap.size U7 wq)) (fun u _ => tn + 1 - (intOf u).toNat)
  case atStart => exact ⟨0,rfl,by omega,HBQ.out⟩
  case round =>
   obtain ⟨y,rfl,hy,HBY⟩:=hrel
   by_cases hyt:y ≤ tn
   case neg =>
    have g2:decide ((y:Int) ≤ (tn:Int)) = false:=by simp;omega
    go_wp2
    refine ⟨⟨i + 1,by push_cast;rfl,by omega,HBY.out⟩,by simp [intOf];omega⟩
   have g2:decide ((y:Int) ≤ (tn:Int)) = true:=by simp;omega
   have a2:IntKind.i64.wrap ((y:Int) + 1) = (y:Int) + 1:=by rw [wrap_ok _ (by omega) (by omega)]
   have hn1:n = tn + 1:=HNE.out
   have hK1:K = n * n:=HKE.out
   have hM2:K ≤ 10000:=by rw [hK1];exact Nat.le_trans (Nat.mul_le_mul (show n ≤ 13 by omega) (show n ≤ 13 by omega)) (by omega)
   obtain ⟨j1,hj1⟩:∃ j1,j1 = i * n + y:=⟨_,rfl⟩
   obtain ⟨j2,hj2⟩:∃ j2,j2 = (tn - y) * n + (tn - i):=⟨_,rfl⟩
   have l1:j1 < K:=by rw [hj1,hK1];exact idx_lt (by omega) (by omega)
   have l2:j2 < K:=by rw [hj2,hK1];exact idx_lt (by omega) (by omega)
   have hs:=HSYM.out i y hit hyt
   rw [← hj1,← hj2] at hs
   obtain ⟨hr1,hr2,_⟩:=HFC.out wr HBY.out
   have k1:=hr1.cell l1
   have k2:=hr2.cell l2
   rw [← hs] at k2
   generalize f j1 = vv at k1 k2
   have e1:IntKind.i64.wrap ((i:Int) * (n:Int)) = ((i * n:Nat):Int):=by rw [← Int.natCast_mul,wrap_ok _ (by omega) (by omega)]
   have e2:IntKind.i64.wrap (((i * n:Nat):Int) + (y:Int)) = (j1:Int):=by rw [← Int.natCast_add,← hj1,wrap_ok _ (by omega) (by omega)]
   have e3:IntKind.i64.wrap ((tn:Int) - (y:Int)) = ((tn - y:Nat):Int):=by rw [wrap_ok _ (by omega) (by omega)];omega
   have e4:IntKind.i64.wrap (((tn - y:Nat):Int) * (n:Int)) = (((tn - y) * n:Nat):Int):=by rw [← Int.natCast_mul,wrap_ok _ (by omega) (by omega)]
   have e5:IntKind.i64.wrap ((((tn - y) * n:Nat):Int) + (tn:Int)) = (((tn - y) * n + tn:Nat):Int):=by rw [← Int.natCast_add,wrap_ok _ (by omega) (by omega)]
   have e6:IntKind.i64.wrap ((((tn - y) * n + tn:Nat):Int) - (i:Int)) = (j2:Int):=by rw [wrap_ok _ (by omega) (by omega)];omega
   have b1:(j1:Int) < (K:Int):=by omega
   have b2:(j2:Int) < (K:Int):=by omega
   have b3:(vv != vv) = false:=by cases vv <;> rfl
   generalize i * n = in1 at e1 e2
   generalize tn - y = ty at e3 e4 e5 e6
   generalize ty * n = ty1 at e4 e5 e6
   generalize ty1 + tn = ty2 at e5 e6
   clear hr1 hr2 hs hj1 hj2 hn1 hK1 l1 l2
   go_wp2_with fail
   go_quiet (fail)
   go_wp2
   refine ⟨⟨y + 1,by push_cast;rfl,by omega,below_drewN' HBY.out _⟩,by simp [intOf];omega⟩
end Go.Proofs.Ytbdhiichhcihgaa
namespace Go.Proofs.Ytbdhiichhcihgaa
open Go.ChangeShapes Go.WideShapes Go.ChangeAt Go.RowKit Go.Deep
set_option linter.unusedVariables false
set_option linter.unusedSimpArgs false
set_option maxRecDepth 100000 in
theorem text_arg {H:Type} {enc:TypeId × Value → H} {W:World} {base:Nat} {v:Value} {d:DataW H} {p:List MemPlace} (hok:Value.okWide Try.prog W .any base 26 v)
  (h0:DataW.Trod enc Try.prog W 0 (fun _ => true) true 26 v d p) (hsz:∀ n ∈ d.weights Try.prog 26,n ≤ reachBytes) :
  ∃ (l:List Int) (ad:Option Addr) (n cap:Nat),v = .slice ad n cap ∧ n ≤ cap ∧ Look.TextAt W.heap.size W ad n l:=by
 obtain ⟨a0,len,cap,rfl⟩:=okWide_slice Try.underlying26 hok
 obtain ⟨fuel,hf⟩:=h0
 rcases open_ints Try.underlying26 Try.underlying3 cells3a hf with ⟨hcs,hx⟩ | ⟨a,len',cap',zs,hcs,_,hl,hm,hz,hx,hcell,hwz⟩
 ·simp [Value.cells] at hcs
  obtain ⟨rfl,rfl,rfl⟩:=hcs
  exact ⟨[],none,0,0,rfl,Nat.le_refl _,rfl,by omega,.inl rfl⟩
 ·simp [Value.cells] at hcs
  obtain ⟨rfl,rfl,rfl⟩:=hcs
  simp only [if_true] at hz
  obtain ⟨rfl,rfl⟩:=Prod.mk.inj hx
  have hb3:Try.prog.bytesOf 3 = 8:=by kernel_rfl
  have hs:=hsz (((lits (H:=H) .i64 (zs.take len)).length + (lits (H:=H) .i64 (zs.drop len)).length) * Try.prog.bytesOf 3) (by simp [DataW.weights,Try.underlying26,lits])
  rw [hb3,show reachBytes = 140737488351232 from rfl] at hs
  simp only [lits,List.length_map,List.length_take,List.length_drop] at hs
  have htl:(zs.take len).length = len:=by rw [List.length_take];omega
  refine ⟨zs.take len,some a,len,cap,rfl,by omega,htl.symm,by omega,?_⟩
  rcases Nat.eq_zero_or_pos len with h0 | h0
  ·exact .inl h0
  ·right
   obtain ⟨b,off,rfl,hc⟩:=ints_at hcell (by omega)
   refine ⟨b,off,rfl,lt_of_cell (hc 0 (by omega)),fun k hk => ?_⟩
   have hk':k < zs.length:=by omega
   rw [hc k hk']
   simp [List.getD_eq_getElem?_getD,List.getElem?_take_of_lt hk,List.getElem?_eq_getElem hk']
end Go.Proofs.Ytbdhiichhcihgaa
