/- HELPERS: texts of ours put together. -/
import Derived.Test.YtacaanhnlfpbhaaGreatK15
import Derived.Test.YtacaanhnlfpbhaaGreatK03
import Derived.Test.YtacaanhnlfpbhaaGreatK05
import Derived.WalkKit
import Derived.Laws.BitsLemmas
import Derived.Test.YtacaanhnlfpbhaaGreatK14
import Derived.LoopN
import Derived.Deep.OwnRows
import Derived.Laws.IdiomCopy
import Derived.Test.YtacaanhnlfpbhaaGreatK02
import Derived.Test.YtacaanhnlfpbhaaGreatK13
import Derived.Laws.EntriesVeiled
import Derived.WalkLawsBesides
import Derived.Lib.SliceRun
import Derived.Deep.Cut
import Derived.Deep.CutRange
import Derived.Test.YtacaanhnlfpbhaaGreatK04
import Derived.OrdersHeld
import Derived.StillTail
import Derived.Tactics
import Derived.RowKit
import Derived.Below
import Derived.Deep.Onto
import Derived.Deep.RegionHeld3
import Derived.Laws.Rows
import Derived.Lib.MinMax
import Derived.Test.YtacaanhnlfpbhaaGreatK10
import Derived.Lib.AppendZerosOnto
import Derived.Deep.RegionHeld2
import Derived.Deep.LoopGhost
import Derived.WalkMore
namespace Go.Proofs.YtacaanhnlfpbhaaGreat
open Go.RowKit
set_option linter.unusedVariables false
set_option linter.unusedSimpArgs false
mutual
def Tn.gi:Tn → Int
 | .mk _ _ _ s _ _ _ ix _ => giL s ix
def giL:List Tn → Int → Int
 | [],m => m
 | t :: ts,m => giL ts (max m t.gi)
end
theorem giL_drop (ts:List Tn) (i:Nat) (hi:i < ts.length) (m:Int):giL (ts.drop i) m = giL (ts.drop (i + 1)) (max m ts[i].gi):=by
 rw [List.drop_eq_getElem_cons hi]
 simp only [giL]
def repN (mn mx:Int) (n:Nat):Nat:=if mx = -1 then max mn.toNat 1 * n + 1 else max 1 (mn.toNat * n + (mx - mn).toNat * (1 + n))
mutual
def Tn.sz:Tn → Nat
 | .mk k _ _ s mn mx _ _ _ => if k = 6 then repN mn mx (szL s) else 1 + szL s
def szL:List Tn → Nat
 | [] => 0
 | t :: ts => t.sz + szL ts
end
theorem szL_take (ts:List Tn):∀ (i:Nat) (hi:i < ts.length),szL (ts.take (i + 1)) = szL (ts.take i) + ts[i].sz:=by
 induction ts with
 | nil => intro i hi;simp at hi
 | cons t ts ih =>
  intro i hi
  cases i with
  | zero => simp [szL]
  | succ i =>
   have h:=ih i (by simpa using hi)
   simp only [List.take_succ_cons,szL,List.getElem_cons_succ] at h ⊢
   omega
theorem repN_cap (C:Nat) (mn mx:Int) (n:Nat):min C (repN mn mx (min C n)) = min C (repN mn mx n):=by
 by_cases hn:n ≤ C
 ·rw [Nat.min_eq_right hn]
 ·have hc:min C n = C:=by omega
  rw [hc]
  unfold repN
  by_cases hx:mx = -1
  ·simp only [hx,if_true]
   have h1:C ≤ max mn.toNat 1 * C:=Nat.le_mul_of_pos_left _ (by omega)
   have h2:n ≤ max mn.toNat 1 * n:=Nat.le_mul_of_pos_left _ (by omega)
   omega
  ·simp only [hx,if_false]
   generalize mn.toNat = a
   generalize (mx - mn).toNat = b
   by_cases ha:a = 0
   ·subst ha
    by_cases hb:b = 0
    ·subst hb;simp
    ·have h1:1 + C ≤ b * (1 + C):=Nat.le_mul_of_pos_left _ (by omega)
     have h2:1 + n ≤ b * (1 + n):=Nat.le_mul_of_pos_left _ (by omega)
     omega
   ·have h1:C ≤ a * C:=Nat.le_mul_of_pos_left _ (by omega)
    have h2:n ≤ a * n:=Nat.le_mul_of_pos_left _ (by omega)
    omega
structure FineNZ (k:Int) (R:List (Int × Int)) (a:Int) (n:Nat) (mn mx:Int) (lz:Bool) (ix:Int) (nm:ByteArray):Prop where
 kind:k = 1 ∨ k = 2 ∨ k = 3 ∨ k = 4 ∨ k = 5 ∨ k = 6 ∨ k = 7
 leaf:k = 1 ∨ k = 2 ∨ k = 3 → n = 0
 rep:k = 6 → n = 1 ∧ 0 ≤ mn ∧ mn ≤ 1000 ∧ (mx = -1 ∨ mn ≤ mx ∧ mx ≤ 1000)
 grp:k = 7 → n = 1 ∧ 1 ≤ ix ∧ ix ≤ 500
 idx:k ≠ 7 → ix = 0
 two:k = 4 ∨ k = 5 → 2 ≤ n
 cls:k = 2 → rightB R = true
 ast:k = 3 → assertB a = true
theorem fine_nodeZ {k:Int} {R:List (Int × Int)} {a:Int} {n:Nat} {mn mx:Int} {lz:Bool} {ix:Int} {nm:ByteArray} (h:nodeB k R a n mn mx lz ix nm = true):FineNZ k R a n mn mx lz ix nm:=by
 have hk:k = 1 ∨ k = 2 ∨ k = 3 ∨ k = 4 ∨ k = 5 ∨ k = 6 ∨ k = 7:=by
  by_cases h':k ≠ 1 ∧ k ≠ 2 ∧ k ≠ 3 ∧ k ≠ 4 ∧ k ≠ 5 ∧ k ≠ 6 ∧ k ≠ 7
  ·rw [nodeB_ne h'] at h;cases h
  ·omega
 rcases hk with rfl | rfl | rfl | rfl | rfl | rfl | rfl <;> simp [nodeB,bareB] at h <;> refine ⟨by omega,by omega,by omega,by omega,by omega,by omega,?_,?_⟩ <;> first | (intro h';omega) | (intro _;exact h.1)
mutual
inductive Beg (E:Nat → Way):Tn → Int → Way → Int → Way → Prop
 | empty {R:List (Int × Int)} {a:Int} {s:List Tn} {mn mx:Int} {lz:Bool} {ix:Int} {nm:ByteArray} {n:Int} {B:Way}:Beg E (.mk 1 R a s mn mx lz ix nm) n B (n + 1) (.once (n + 1) B)
 | cls {R:List (Int × Int)} {a:Int} {s:List Tn} {mn mx:Int} {lz:Bool} {ix:Int} {nm:ByteArray} {n:Int} {B:Way}:Beg E (.mk 2 R a s mn mx lz ix nm) n B (n + 1) (.once (n + 1) (.runeOf R B))
 | ast {R:List (Int × Int)} {a:Int} {s:List Tn} {mn mx:Int} {lz:Bool} {ix:Int} {nm:ByteArray} {n:Int} {B:Way}:Beg E (.mk 3 R a s mn mx lz ix nm) n B (n + 1) (.once (n + 1) (.ifHolds a B))
 | cat {R:List (Int × Int)} {a:Int} {s:List Tn} {mn mx:Int} {lz:Bool} {ix:Int} {nm:ByteArray} {n n':Int} {B W:Way} (h:BegC E s n B n' W):Beg E (.mk 4 R a s mn mx lz ix nm) n B n' W
 | alt {R:List (Int × Int)} {a:Int} {s:List Tn} {mn mx:Int} {lz:Bool} {ix:Int} {nm:ByteArray} {n n':Int} {B:Way} {Ws:List Way} (h:BegA E s n B n' Ws):Beg E (.mk 5 R a s mn mx lz ix nm) n B (n' + 1) (.once (n' + 1) (.inOrder Ws))
 | grp {R:List (Int × Int)} {a:Int} {t:Tn} {mn mx:Int} {lz:Bool} {i:Nat} {nm:ByteArray} {n n':Int} {B W:Way} (h:Beg E t n (.noted (2 * i + 1) B) n' W):Beg E (.mk 7 R a [t] mn mx lz (i:Int) nm) n B (n' + 1) (.once (n' + 1) (.noted (2 * i) W))
 | any0 {R:List (Int × Int)} {a:Int} {t:Tn} {lz:Bool} {ix:Int} {nm:ByteArray} {n n2:Int} {b:Nat} {B:Way} (h:Beg E t (n + 1) (Dcd lz n b B) n2 (E b)):Beg E (.mk 6 R a [t] 0 (-1) lz ix nm) n B n2 (Dcd lz n b B)
 | any {R:List (Int × Int)} {a:Int} {t:Tn} {c:Nat} {lz:Bool} {ix:Int} {nm:ByteArray} {n n2 n3:Int} {b:Nat} {B W3:Way} (h:Beg E t (n + 1) (Dcd lz n b B) n2 (E b)) (hT:BegT E t c n2 (E b) n3 W3):Beg E (.mk 6 R a [t] ((c:Int) + 1) (-1) lz ix nm) n B n3 W3
 | bnd {R:List (Int × Int)} {a:Int} {t:Tn} {c m:Nat} {lz:Bool} {ix:Int} {nm:ByteArray} {n n1 n2:Int} {B W1 W2:Way} (hO:BegO E t lz B m n n1 W1) (hT:BegT E t c n1 W1 n2 W2):Beg E (.mk 6 R a [t] (c:Int) ((c:Int) + (m:Int)) lz ix nm) n B n2 W2
inductive BegC (E:Nat → Way):List Tn → Int → Way → Int → Way → Prop
 | nil {n:Int} {B:Way}:BegC E [] n B n B
 | cons {t:Tn} {ts:List Tn} {n n1 n2:Int} {B W1 W2:Way} (h:BegC E ts n B n1 W1) (h2:Beg E t n1 W1 n2 W2):BegC E (t :: ts) n B n2 W2
inductive BegA (E:Nat → Way):List Tn → Int → Way → Int → List Way → Prop
 | nil {n:Int} {B:Way}:BegA E [] n B n []
 | snoc {t:Tn} {ts:List Tn} {n n1 n2:Int} {B W2:Way} {Ws:List Way} (h:BegA E ts n B n1 Ws) (h2:Beg E t n1 B n2 W2):BegA E (ts ++ [t]) n B n2 (Ws ++ [W2])
inductive BegT (E:Nat → Way):Tn → Nat → Int → Way → Int → Way → Prop
 | zero {t:Tn} {n:Int} {W:Way}:BegT E t 0 n W n W
 | succ {t:Tn} {c:Nat} {n n1 n2:Int} {W W1 W2:Way} (h:BegT E t c n W n1 W1) (h2:Beg E t n1 W1 n2 W2):BegT E t (c + 1) n W n2 W2
inductive BegO (E:Nat → Way):Tn → Bool → Way → Nat → Int → Int → Way → Prop
 | zero {t:Tn} {lz:Bool} {B:Way} {n:Int}:BegO E t lz B 0 n n B
 | succ {t:Tn} {lz:Bool} {B:Way} {c:Nat} {n n1 n2:Int} {W1 W2:Way} (h:BegO E t lz B c n n1 W1) (h2:Beg E t n1 W1 n2 W2):BegO E t lz B (c + 1) n (n2 + 1) (.once (n2 + 1) (.inOrder (if lz = true then [B,W2] else [W2,B])))
end
set_option maxRecDepth 100000 in
set_option maxHeartbeats 8000000 in
theorem greatest15 {w0:World} {B:Nat} {N:Nv} {t:Tn} (h:TI w0 B N t):∀ (w:World),B ≤ w.heap.size → (∀ b,b < B → w.heap[b]? = w0.heap[b]?) →
  Calls Tryz.prog 40 #[N.v] w fun e w' => e = .returned (.int .i64 t.gi) ∧ Below w.heap.size w w':=by
 induction h with
 | @mk N R ts ND ok hr hR hRk hs hS hk ih =>
 intro w hB hw
 have hmax:=ok.s
 obtain ⟨k,r1,r2,r3,a2,s1,s2,s3,a4,a5,a6,a7,a8⟩:=N
 simp only at hs hS hmax
 simp only [Tn.gi]
 obtain ⟨r,hrr⟩:∃ r,r = giL ts a7:=⟨_,rfl⟩
 rw [← hrr]
 have HR:=hid' hrr
 have HW:=hid' hw
 have HS:=hid' hS
 have IH:=hid' ih
 have hm2:s2 ≤ 9223372036854775807:=by have:maxLen = 9223372036854775807:=rfl;omega
 have HL:=hid' hs
 clear ok hr hR hRk hk hS hw hrr ih hmax hs
 go_enter Tryz.func40,Tryz.ntmps40
 go_wp2_with fail
 go_loopw [3,4] (fun u y wq => ∃ i:Nat,y = .int .i64 (i:Int) ∧ i ≤ s2 ∧ (∃ q,u = .int .i64 q ∧ Hid (giL (ts.drop i) q = r)) ∧ Hid (Below w.heap.size w wq) ∧ Hid (wq.heap[w.heap.size]? = some (.cells #[.int .i64 k,.slice r1 r2 r3,.int .i64 a2,.slice s1 s2 s3,.int .i64 a4,.int .i64 a5,.bool a6,.int .i64 a7,.string a8] 25 (0,0)))) (fun _ y _ => s2 - (intOf y).toNat)
 case atStart => exact ⟨0,rfl,by omega,⟨a7,rfl,HR.out.symm⟩,Joins.below_alloc1 w _,heap_alloc_new w _⟩
 case round =>
  obtain ⟨i,rfl,hi,⟨q,rfl,HQ⟩,BK,BX⟩:=hrel
  obtain ⟨o0,o1,o2,o3,o4,o5,o6,o7,o8⟩:=nine' BX.out
  by_cases hil:i < s2
  ·have b1:decide ((i:Int) < (s2:Int)) = true:=by simp;omega
   have b2:(i:Int) < (s2:Int):=by omega
   have hlt:i < ts.length:=by rw [← HL.out];exact hil
   obtain ⟨b,o,hs1,hb,hc⟩:=HS.out (by omega)
   subst hs1
   have hwk:∀ b,b < B → wr.heap[b]? = w0.heap[b]?:=fun b hb => (BK.out.block b (by omega)).trans (HW.out b hb)
   obtain ⟨n0,n1,n2,n3,n4,n5,n6,n7,n8⟩:=(hc i hlt).kept (hwk b hb)
   have HC:=IH.out i hlt wr (by have:=BK.out.size;omega) hwk
   rw [giL_drop ts i hlt q] at HQ
   obtain ⟨g,hg⟩:∃ g,g = ts[i].gi:=⟨_,rfl⟩
   rw [← hg] at HC HQ
   obtain ⟨M,hM⟩:∃ M,M = ND i:=⟨_,rfl⟩
   rw [← hM] at HC n0 n1 n2 n3 n4 n5 n6 n7 n8
   have ad1:IntKind.i64.wrap ((i:Int) + 1) = (i:Int) + 1:=by simp [IntKind.wrap,IntKind.bits,IntKind.signed];omega
   clear hM hg hwk hc hlt
   go_wp2_with (first | (go_at_call 40;(with_reducible refine HC.mono ?_);rintro e w2 ⟨rfl,hb2⟩;have HB2:=hid' hb2;clear hb2 HC))
   refine ⟨⟨i + 1,by push_cast;rfl,by omega,⟨_,rfl,HQ.out⟩,?_,?_⟩,?_⟩
   ·exact BK.out.trans (Joins.below_le HB2.out BK.out.size)
   ·exact (HB2.out.block _ (by have:=(Array.getElem?_eq_some_iff.1 BX.out).1;omega)).trans BX.out
   ·simp [intOf]
    omega
  ·have b1:decide ((i:Int) < (s2:Int)) = false:=by simp;omega
   obtain rfl:i = s2:=by omega
   have e:=HQ.out
   rw [HL.out,List.drop_length] at e
   simp only [giL] at e
   go_wp2
   go_ret
   exact ⟨by first | rfl | exact ret_int e,BK.out⟩
set_option maxRecDepth 100000 in
set_option maxHeartbeats 8000000 in
theorem refsize28 {w0:World} {B:Nat} {N:Nv} {t:Tn} (h:TI w0 B N t):t.fine = true → ∀ (w:World),B ≤ w.heap.size → (∀ b,b < B → w.heap[b]? = w0.heap[b]?) →
  Calls Tryz.prog 33 #[N.v] w fun e w' => e = .returned (.int .i64 (min 1073741824 t.sz:Nat)) ∧ Below w.heap.size w w':=by
 induction h with
 | @mk N R ts ND ok hr hR hRk hs hS hk ih =>
 intro hf w hB hw
 have hmax:=ok.s
 obtain ⟨k,r1,r2,r3,a2,s1,s2,s3,a4,a5,a6,a7,a8⟩:=N
 simp only at hs hS hmax
 simp only [Tn.fine,Bool.and_eq_true] at hf
 have FN:=fine_nodeZ hf.1
 have HFG:=hid' (fineL_get hf.2)
 simp only [Tn.sz]
 obtain ⟨r,hrr⟩:∃ r:Nat,r = min 1073741824 (if k = 6 then repN a4 a5 (szL ts) else 1 + szL ts):=⟨_,rfl⟩
 rw [← hrr]
 have HR:=hid' hrr
 have HW:=hid' hw
 have HS:=hid' hS
 have IH:=hid' ih
 have HFN:=hid' FN
 have hm2:s2 ≤ 9223372036854775807:=by have:maxLen = 9223372036854775807:=rfl;omega
 have HL:=hid' hs
 clear ok hr hR hRk hk hS hw hrr ih hmax hs hf FN
 go_enter Tryz.func33,Tryz.ntmps33
 go_wp2_with fail
 go_loopw [3,4] (fun u y wq => ∃ (i q:Nat),y = .int .i64 (i:Int) ∧ i ≤ s2 ∧ u = .int .i64 (q:Int) ∧ q ≤ 1073741824 ∧ Hid (q = min 1073741824 (szL (ts.take i))) ∧ Hid (Below w.heap.size w wq) ∧ Hid (wq.heap[w.heap.size]? = some (.cells #[.int .i64 k,.slice r1 r2 r3,.int .i64 a2,.slice s1 s2 s3,.int .i64 a4,.int .i64 a5,.bool a6,.int .i64 a7,.string a8] 25 (0,0)))) (fun _ y _ => s2 - (intOf y).toNat)
 case atStart => exact ⟨0,0,rfl,by omega,rfl,by omega,by show (0:Nat) = _;simp [szL],Joins.below_alloc1 w _,heap_alloc_new w _⟩
 case round =>
  obtain ⟨i,q,rfl,hi,rfl,hq,HQ,BK,BX⟩:=hrel
  obtain ⟨o0,o1,o2,o3,o4,o5,o6,o7,o8⟩:=nine' BX.out
  by_cases hil:i < s2
  ·have b1:decide ((i:Int) < (s2:Int)) = true:=by simp;omega
   have b2:(i:Int) < (s2:Int):=by omega
   have hlt:i < ts.length:=by rw [← HL.out];exact hil
   obtain ⟨b,o,hs1,hb,hc⟩:=HS.out (by omega)
   subst hs1
   have hwk:∀ b,b < B → wr.heap[b]? = w0.heap[b]?:=fun b hb => (BK.out.block b (by omega)).trans (HW.out b hb)
   obtain ⟨n0,n1,n2,n3,n4,n5,n6,n7,n8⟩:=(hc i hlt).kept (hwk b hb)
   have HC:=IH.out i hlt (HFG.out i hlt) wr (by have:=BK.out.size;omega) hwk
   have hst:=szL_take ts i hlt
   obtain ⟨g,hg⟩:∃ g,g = min 1073741824 ts[i].sz:=⟨_,rfl⟩
   rw [← hg] at HC
   have hgb:g ≤ 1073741824:=by omega
   have HQ':Hid (min 1073741824 (q + g) = min 1073741824 (szL (ts.take (i + 1)))):=by
    have h1:=HQ.out
    show _ = _
    omega
   obtain ⟨M,hM⟩:∃ M,M = ND i:=⟨_,rfl⟩
   rw [← hM] at HC n0 n1 n2 n3 n4 n5 n6 n7 n8
   have ad1:IntKind.i64.wrap ((i:Int) + 1) = (i:Int) + 1:=by simp [IntKind.wrap,IntKind.bits,IntKind.signed];omega
   have ad2:IntKind.i64.wrap ((q:Int) + (g:Int)) = (q:Int) + (g:Int):=by simp [IntKind.wrap,IntKind.bits,IntKind.signed];omega
   clear hM hg hwk hc hlt hst HQ
   go_wp2_with (first | (go_at_call 33;(with_reducible refine HC.mono ?_);rintro e w2 ⟨rfl,hb2⟩;have HB2:=hid' hb2;clear hb2 HC))
   refine ⟨⟨i + 1,min 1073741824 (q + g),by push_cast;rfl,by omega,by congr 1;omega,by omega,HQ'.out,?_,?_⟩,?_⟩
   ·exact BK.out.trans (Joins.below_le HB2.out BK.out.size)
   ·exact (HB2.out.block _ (Array.getElem?_eq_some_iff.1 BX.out).1).trans BX.out
   ·simp [intOf]
    omega
  ·have b1:decide ((i:Int) < (s2:Int)) = false:=by simp;omega
   obtain rfl:i = s2:=by omega
   have e:=HQ.out
   rw [HL.out,List.take_length] at e
   have hr':=HR.out
   by_cases k6:k = 6
   ·subst k6
    simp only [if_true] at hr'
    obtain ⟨_,m0,m1,mx⟩:=HFN.out.rep rfl
    rw [← repN_cap,← e] at hr'
    have HR':=hid' hr'
    clear e hr' HR HQ HFN
    rcases mx with rfl | ⟨mx0,mx1⟩
    ·by_cases hz:a4 = 0
     ·subst hz
      have ad2:IntKind.i64.wrap (1 + (q:Int)) = 1 + (q:Int):=by simp [IntKind.wrap,IntKind.bits,IntKind.signed];omega
      go_wp2
      go_ret
      exact ⟨ret_int (by have:=HR'.out;simp [repN] at this;omega),BK.out⟩
     ·have hz':(a4 == 0) = false:=by simpa using hz
      have hp:0 ≤ a4 * (q:Int) ∧ a4 * (q:Int) ≤ 1000 * 1073741824:=⟨Int.mul_nonneg m0 (by omega),Int.mul_le_mul m1 (by omega) (by omega) (by omega)⟩
      have ad1:IntKind.i64.wrap (a4 * (q:Int)) = a4 * (q:Int):=by simp [IntKind.wrap,IntKind.bits,IntKind.signed];omega
      have ad2:IntKind.i64.wrap (a4 * (q:Int) + 1) = a4 * (q:Int) + 1:=by simp [IntKind.wrap,IntKind.bits,IntKind.signed];omega
      have hre:((repN a4 (-1) q:Nat):Int) = a4 * q + 1:=by
       simp only [repN,if_true]
       rw [Nat.max_eq_left (by omega)]
       push_cast
       rw [Int.toNat_of_nonneg m0]
      go_wp2
      go_ret
      exact ⟨ret_int (by have:=HR'.out;omega),BK.out⟩
    ·have mxn:a5 ≠ -1:=by omega
     have c0:decide (a5 < 0) = false:=by simp;omega
     have hp:0 ≤ a4 * (q:Int) ∧ a4 * (q:Int) ≤ 1000 * 1073741824:=⟨Int.mul_nonneg m0 (by omega),Int.mul_le_mul m1 (by omega) (by omega) (by omega)⟩
     have hp2:0 ≤ (a5 - a4) * (1 + (q:Int)) ∧ (a5 - a4) * (1 + (q:Int)) ≤ 1000 * 1073741825:=⟨Int.mul_nonneg (by omega) (by omega),Int.mul_le_mul (by omega) (by omega) (by omega) (by omega)⟩
     have hre:((repN a4 a5 q:Nat):Int) = max 1 (a4 * q + (a5 - a4) * (1 + q)):=by
      have e:((a4.toNat * q + (a5 - a4).toNat * (1 + q):Nat):Int) = a4 * q + (a5 - a4) * (1 + q):=by
       push_cast
       rw [Int.toNat_of_nonneg m0,Int.toNat_of_nonneg (by omega)]
      simp only [repN,if_neg mxn]
      generalize a4.toNat * q + (a5 - a4).toNat * (1 + q) = X at e
      omega
     have ad1:IntKind.i64.wrap (a4 * (q:Int)) = a4 * (q:Int):=by simp [IntKind.wrap,IntKind.bits,IntKind.signed];omega
     have ad2:IntKind.i64.wrap (a5 - a4) = a5 - a4:=by simp [IntKind.wrap,IntKind.bits,IntKind.signed];omega
     have ad3:IntKind.i64.wrap (1 + (q:Int)) = 1 + (q:Int):=by simp [IntKind.wrap,IntKind.bits,IntKind.signed];omega
     have ad4:IntKind.i64.wrap ((a5 - a4) * (1 + (q:Int))) = (a5 - a4) * (1 + (q:Int)):=by simp [IntKind.wrap,IntKind.bits,IntKind.signed];omega
     have ad5:IntKind.i64.wrap (a4 * (q:Int) + (a5 - a4) * (1 + (q:Int))) = a4 * (q:Int) + (a5 - a4) * (1 + (q:Int)):=by simp [IntKind.wrap,IntKind.bits,IntKind.signed];omega
     go_wp2
     go_ret
     exact ⟨ret_int (by have:=HR'.out;omega),BK.out⟩
   ·have k6':(k == 6) = false:=by simpa using k6
    simp only [k6,if_false] at hr'
    have HR':=hid' hr'
    have HE:=hid' e
    by_cases kl:k = 4 ∨ k = 5 ∨ k = 7
    ·have ad2:IntKind.i64.wrap (1 + (q:Int)) = 1 + (q:Int):=by simp [IntKind.wrap,IntKind.bits,IntKind.signed];omega
     clear e hr' HR HQ HFN k6
     rcases kl with rfl | rfl | rfl
     ·go_wp2
      go_ret
      exact ⟨ret_int (by have:=HR'.out;have:=HE.out;omega),BK.out⟩
     ·go_wp2
      go_ret
      exact ⟨ret_int (by have:=HR'.out;have:=HE.out;omega),BK.out⟩
     ·go_wp2
      go_ret
      exact ⟨ret_int (by have:=HR'.out;have:=HE.out;omega),BK.out⟩
    ·have h0:=HFN.out.leaf (by have:=HFN.out.kind;omega)
     have k4:(k == 4) = false:=by simp;omega
     have k5:(k == 5) = false:=by simp;omega
     have k7:(k == 7) = false:=by simp;omega
     have ht:ts = []:=List.length_eq_zero_iff.1 h0
     subst ht
     simp only [szL] at hr'
     subst hr'
     clear e HR HQ HFN k6 HR' HE kl h0
     go_wp2
     go_ret
     exact ⟨rfl,BK.out⟩
theorem giL_ge (ts:List Tn):∀ (m:Int),m ≤ giL ts m ∧ ∀ (i:Nat) (hi:i < ts.length),ts[i].gi ≤ giL ts m:=by
 induction ts with
 | nil => intro m;exact ⟨by simp [giL],fun i hi => by simp at hi⟩
 | cons t ts ih =>
  intro m
  simp only [giL]
  obtain ⟨h1,h2⟩:=ih (max m t.gi)
  refine ⟨by omega,fun i hi => ?_⟩
  cases i with
  | zero => simp only [List.getElem_cons_zero];omega
  | succ i => simpa using h2 i (by simpa using hi)
abbrev M1:Value:=.int .i64 (-1)
theorem makeN (c:Nat) (hc:c ≤ 10000) (w:World):(Instr.makeSlice 26 (.int .i64 (c:Int)) (.int .i64 (c:Int))).run Tryz.prog w = .ok (.slice (some ⟨w.heap.size,0,none⟩) c c) (w.alloc (.cells (madeCells #[.int .i64 0] c) 3)):=
 run_make_row' (P:=Tryz.prog) 26 3 (.int .i64 0) 8 Tryz.underlying26 info3 rfl .i64 .i64 c (by omega) (by omega) w
def RI (nb c n:Nat) (W:World):Prop:=∃ arr:Array Value,W.heap[nb]? = some (.cells arr 3 (0,0)) ∧ arr.size = c ∧ ∀ i,i < n → arr[i]? = some M1
theorem RI.next {nb c n:Nat} {W:World} (h:RI nb c n W) (hn:n < c):RI nb c (n + 1) (W.setCell ⟨nb,n,none⟩ M1):=by
 obtain ⟨arr,h1,h2,h3⟩:=h
 refine ⟨arr.setIfInBounds n M1,Joins.block_setCell (i:=n) h1 _,by simp [h2],fun i hi => ?_⟩
 by_cases e:i = n
 ·subst e;simp [h2,hn]
 ·rw [Array.getElem?_setIfInBounds_ne (by omega)];exact h3 i (by omega)
theorem RI.some {nb c n:Nat} {W:World} (h:RI nb c n W) {i:Nat} (hi:i < c):(W.cell? ⟨nb,i,none⟩).isSome = true:=by
 obtain ⟨arr,h1,h2,h3⟩:=h
 rw [Joins.cell_of_block h1 i]
 simp [h2,hi]
theorem RI.free {nb c n:Nat} {W:World} (h:RI nb c n W) (i:Nat):W.frozen? ⟨nb,i,none⟩ = false:=by
 obtain ⟨arr,h1,h2,h3⟩:=h
 exact Joins.unfrozen_of_block h1 i
end Go.Proofs.YtacaanhnlfpbhaaGreat
namespace Go.Proofs.YtacaanhnlfpbhaaGreat
set_option linter.unusedVariables false
set_option linter.unusedSimpArgs false
inductive Ac where
 | alt (x y:Nat)
 | go (x:Nat)
 | cap (x a:Nat)
 | rune (x:Nat)
 | fit (a:Int)
 | stop
abbrev Th:=Nat × List Int
abbrev Fd:=Option (Int × List Int)
structure Vst where
 met:List Nat
 next:List Th
 found:Fd
 over:Bool
abbrev Pt:=Nat × Nat
inductive Df (A:Nat → Nat → Ac):List Pt → Nat → Nat → List Int → List Pt → Fd → Prop
 | old (m:List Pt) (i j:Nat) (c:List Int):(i,j) ∈ m → Df A m i j c m none
 | fit (m:List Pt) (i j:Nat) (c:List Int) (a:Int):(i,j) ∉ m → A j i = .fit a → Df A m i j c (m ++ [(i,j)]) (some (a,c))
 | stop (m:List Pt) (i j:Nat) (c:List Int):(i,j) ∉ m → A j i = .stop → Df A m i j c (m ++ [(i,j)]) none
 | go (m:List Pt) (i j:Nat) (c:List Int) (x:Nat) (m':List Pt) (r:Fd):(i,j) ∉ m → A j i = .go x → Df A (m ++ [(i,j)]) x j c m' r → Df A m i j c m' r
 | cap (m:List Pt) (i j:Nat) (c:List Int) (x a:Nat) (m':List Pt) (r:Fd):(i,j) ∉ m → A j i = .cap x a → Df A (m ++ [(i,j)]) x j (c.set a (j:Int)) m' r → Df A m i j c m' r
 | rune (m:List Pt) (i j:Nat) (c:List Int) (x:Nat) (m':List Pt) (r:Fd):(i,j) ∉ m → A j i = .rune x → Df A (m ++ [(i,j)]) x (j + 1) c m' r → Df A m i j c m' r
 | altx (m:List Pt) (i j:Nat) (c:List Int) (x y:Nat) (m':List Pt) (z:Int × List Int):(i,j) ∉ m → A j i = .alt x y → Df A (m ++ [(i,j)]) x j c m' (some z) → Df A m i j c m' (some z)
 | alty (m:List Pt) (i j:Nat) (c:List Int) (x y:Nat) (m1 m':List Pt) (r:Fd):(i,j) ∉ m → A j i = .alt x y → Df A (m ++ [(i,j)]) x j c m1 none → Df A m1 y j c m' r → Df A m i j c m' r
inductive Tk where
 | go (i j:Nat)
 | un (a:Nat) (o:Int)
def nx (A:Nat → Nat → Ac) (i j:Nat) (c:List Int):List Tk × List Int:=
 match A j i with
 | .alt x y => ([.go x j,.go y j],c)
 | .go x => ([.go x j],c)
 | .cap x a => ([.go x j,.un a (c.getD a 0)],c.set a (j:Int))
 | .rune x => ([.go x (j + 1)],c)
 | .fit _ => ([],c)
 | .stop => ([],c)
inductive Ev (A:Nat → Nat → Ac):Nat → List Tk → List Pt → List Int → Fd → List Pt → Prop
 | nil (m:List Pt) (c:List Int):Ev A 0 [] m c none m
 | un (n a:Nat) (o:Int) (st:List Tk) (m:List Pt) (c:List Int) (r:Fd) (m':List Pt):Ev A n st m (c.set a o) r m' → Ev A (n + 1) (.un a o :: st) m c r m'
 | old (n i j:Nat) (st:List Tk) (m:List Pt) (c:List Int) (r:Fd) (m':List Pt):(i,j) ∈ m → Ev A n st m c r m' → Ev A (n + 1) (.go i j :: st) m c r m'
 | fit (i j:Nat) (st:List Tk) (m:List Pt) (c:List Int) (a:Int):(i,j) ∉ m → A j i = .fit a → Ev A 0 (.go i j :: st) m c (some (a,c)) (m ++ [(i,j)])
 | step (n i j:Nat) (st:List Tk) (m:List Pt) (c:List Int) (r:Fd) (m':List Pt):(i,j) ∉ m → (∀ a,A j i ≠ .fit a) → Ev A n ((nx A i j c).1 ++ st) (m ++ [(i,j)]) (nx A i j c).2 r m' → Ev A (n + 1) (.go i j :: st) m c r m'
theorem set_old (c:List Int) (a:Nat) (v:Int):(c.set a v).set a (c.getD a 0) = c:=by
 rw [List.set_set]
 by_cases h:a < c.length
 ·simp [List.getD_eq_getElem?_getD,List.getElem?_eq_getElem h]
 ·rw [List.set_eq_of_length_le (by omega)]
theorem df_ev {A:Nat → Nat → Ac} {m:List Pt} {i j:Nat} {c:List Int} {m':List Pt} {r:Fd} (h:Df A m i j c m' r):∀ st,(∀ y,r = some y → ∃ n,Ev A n (.go i j :: st) m c (some y) m') ∧ (r = none → ∀ k r2 m2,Ev A k st m' c r2 m2 → ∃ n,Ev A n (.go i j :: st) m c r2 m2):=by
 induction h with
 | old m i j c hm => intro st;exact ⟨fun y h => (by cases h),fun _ k r2 m2 h => ⟨_,.old _ _ _ _ _ _ _ _ hm h⟩⟩
 | fit m i j c a hm e => intro st;exact ⟨fun y h => (by cases h;exact ⟨_,.fit _ _ _ _ _ _ hm e⟩),fun h => (by cases h)⟩
 | stop m i j c hm e =>
  intro st
  refine ⟨fun y h => (by cases h),fun _ k r2 m2 h => ⟨_,.step k _ _ _ _ _ _ _ hm (by simp [e]) ?_⟩⟩
  simp only [nx,e];exact h
 | go m i j c x m' r hm e hd ih =>
  intro st
  obtain ⟨h1,h2⟩:=ih st
  refine ⟨fun y h => ?_,fun h k r2 m2 hk => ?_⟩
  ·obtain ⟨n,hn⟩:=h1 y h
   exact ⟨_,.step n _ _ _ _ _ _ _ hm (by simp [e]) (by simp only [nx,e];exact hn)⟩
  ·obtain ⟨n,hn⟩:=h2 h k r2 m2 hk
   exact ⟨_,.step n _ _ _ _ _ _ _ hm (by simp [e]) (by simp only [nx,e];exact hn)⟩
 | cap m i j c x a m' r hm e hd ih =>
  intro st
  obtain ⟨h1,h2⟩:=ih (.un a (c.getD a 0) :: st)
  refine ⟨fun y h => ?_,fun h k r2 m2 hk => ?_⟩
  ·obtain ⟨n,hn⟩:=h1 y h
   exact ⟨_,.step n _ _ _ _ _ _ _ hm (by simp [e]) (by simp only [nx,e];exact hn)⟩
  ·obtain ⟨n,hn⟩:=h2 h (k + 1) r2 m2 (.un _ _ _ _ _ _ _ _ (by rw [set_old];exact hk))
   exact ⟨_,.step n _ _ _ _ _ _ _ hm (by simp [e]) (by simp only [nx,e];exact hn)⟩
 | rune m i j c x m' r hm e hd ih =>
  intro st
  obtain ⟨h1,h2⟩:=ih st
  refine ⟨fun y h => ?_,fun h k r2 m2 hk => ?_⟩
  ·obtain ⟨n,hn⟩:=h1 y h
   exact ⟨_,.step n _ _ _ _ _ _ _ hm (by simp [e]) (by simp only [nx,e];exact hn)⟩
  ·obtain ⟨n,hn⟩:=h2 h k r2 m2 hk
   exact ⟨_,.step n _ _ _ _ _ _ _ hm (by simp [e]) (by simp only [nx,e];exact hn)⟩
 | altx m i j c x y m' z hm e hd ih =>
  intro st
  obtain ⟨h1,_⟩:=ih (.go y j :: st)
  refine ⟨fun y h => ?_,fun h => by cases h⟩
  obtain ⟨n,hn⟩:=h1 y h
  exact ⟨_,.step n _ _ _ _ _ _ _ hm (by simp [e]) (by simp only [nx,e];exact hn)⟩
 | alty m i j c x y m1 m' r hm e hd hd2 ih ih2 =>
  intro st
  obtain ⟨_,h2⟩:=ih (.go y j :: st)
  obtain ⟨g1,g2⟩:=ih2 st
  refine ⟨fun z h => ?_,fun h k r2 m2 hk => ?_⟩
  ·obtain ⟨n,hn⟩:=g1 z h
   obtain ⟨n2,hn2⟩:=h2 rfl _ _ _ hn
   exact ⟨_,.step n2 _ _ _ _ _ _ _ hm (by simp [e]) (by simp only [nx,e];exact hn2)⟩
  ·obtain ⟨n,hn⟩:=g2 h k r2 m2 hk
   obtain ⟨n2,hn2⟩:=h2 rfl _ _ _ hn
   exact ⟨_,.step n2 _ _ _ _ _ _ _ hm (by simp [e]) (by simp only [nx,e];exact hn2)⟩
theorem df_ev1 {A:Nat → Nat → Ac} {m:List Pt} {i j:Nat} {c:List Int} {m':List Pt} {r:Fd} (h:Df A m i j c m' r):∃ n,Ev A n [.go i j] m c r m':=by
 obtain ⟨h1,h2⟩:=df_ev h []
 cases r with
 | some y => exact h1 y rfl
 | none => exact h2 rfl _ _ _ (.nil _ _)
def base:List Tk → List Int → List Int
 | [],c => c
 | .un a o :: st,c => base st (c.set a o)
 | .go _ _ :: st,c => base st c
end Go.Proofs.YtacaanhnlfpbhaaGreat
namespace Go.Lk
open Go.RowKit
set_option linter.unusedVariables false
set_option linter.unusedSimpArgs false
theorem wrap_i64 (n:Int):IntKind.i64.wrap n = if 9223372036854775808 ≤ n % 18446744073709551616 then n % 18446744073709551616 - 18446744073709551616 else n % 18446744073709551616:=by
 simp [IntKind.wrap,IntKind.bits,IntKind.signed]
def holdsB (x y:Int):Bool:=bits .andNot .i64 x y == 0
end Go.Lk
namespace Go.Proofs.YtacaanhnlfpbhaaGreat
open Go.RowKit Go.Lk
set_option linter.unusedVariables false
set_option linter.unusedSimpArgs false
theorem wrap_ok (x:Int) (h:-9223372036854775808 ≤ x) (h2:x < 9223372036854775808):IntKind.i64.wrap x = x:=by simp [IntKind.wrap,IntKind.bits,IntKind.signed];omega
theorem may_ok {l:List In} {s k:Int} (h:mayB l s k = true):l.length ≤ 20000 ∧ 0 ≤ s ∧ s < l.length ∧ 2 ≤ k ∧ k ≤ 1002 ∧ ∀ I ∈ l,I.okB l.length k = true:=by
 simp only [mayB,belowB,capsB,Bool.and_eq_true,decide_eq_true_eq,List.all_eq_true] at h
 exact ⟨h.1.1.1,h.1.1.2.1,h.1.1.2.2,h.1.2.1.1,h.1.2.1.2,h.2⟩
theorem ok_op {I:In} {n k:Int} (h:I.okB n k = true):(I.op = 1 ∨ I.op = 2 ∨ I.op = 3 ∨ I.op = 4 ∨ I.op = 5 ∨ I.op = 6 ∨ I.op = 7):=by
 simp only [In.okB,Bool.and_eq_true] at h
 have h3:=h.1.2
 unfold isArgB at h3
 split at h3
 ·rename_i e;simp at e;omega
 ·split at h3
  ·rename_i e;simp at e;omega
  ·split at h3
   ·rename_i e;simp at e;omega
   ·split at h3
    ·rename_i e;simp at e;omega
    ·cases h3
def actI (tx:List Int) (I:In) (j:Nat):Ac:=
 if I.op = 2 then .alt I.x.toNat I.y.toNat
 else if I.op = 7 then .go I.x.toNat
 else if I.op = 3 then .cap I.x.toNat I.a.toNat
 else if I.op = 4 then (if holdsB I.a (atP tx j) = true then .go I.x.toNat else .stop)
 else if I.op = 1 then (if (decide (j < tx.length) && hsB I.R (tx.getD j 0)) = true then .rune I.x.toNat else .stop)
 else if I.op = 5 then .fit I.a
 else .stop
def act (l:List In) (tx:List Int) (j i:Nat):Ac:=actI tx (l.getD i default) j
structure Mv where
 ad:Option Addr
 n:Nat
 c:Nat
 S:Nat
 K:Nat
 tad:Option Addr
 tn:Nat
 tc:Nat
 j:Nat
 sb:Nat
 bits:Int
 z1:Option Addr
 n1:Nat
 c1:Nat
 k1:Nat
 z2:Option Addr
 n2:Nat
 c2:Nat
 k2:Nat
 ub:Nat
 uc:Nat
 fok:Bool
 f1:Option Addr
 f2:Nat
 f3:Nat
 fw:Int
 fs:Nat
structure Bk where
 ad:Option Addr
 n:Nat
 c:Nat
 S:Nat
 K:Nat
 tad:Option Addr
 tn:Nat
 tc:Nat
 ub:Nat
 a:Nat
structure Bv where
 w1:Option Addr
 w2:Nat
 w3:Nat
 z1:Option Addr
 z2:Nat
 z3:Nat
 most:Nat
 fok:Bool
 f1:Option Addr
 f2:Nat
 f3:Nat
 fw:Int
 fs:Nat
section
variable {w w':World} {B b:Nat} {l:List In} {tx:List Int} {C:Bk} {V V':Bv} {st:List Tk} {m:List Pt} {cp:List Int} {W:List Nat}
end
structure En where
 i:Nat
 b:Nat
 c:List Int
instance:Inhabited En:=⟨⟨0,0,[]⟩⟩
theorem own_pop {w:World} {bs e size n c:Nat} {z:Option Addr} {xs ys:List Value} (h:w.ownsRow bs e size (.slice z (n + 1) c) (n + 1) (xs ++ ys)) (hx:xs.length = n * size):w.ownsRow bs e size (.slice z n c) n xs:=by
 refine ⟨hx,?_⟩
 rcases h.2 with ⟨_,h0⟩ | ⟨g,cap,cur,e1,h1,h2,h3,h4,h5,h6⟩
 ·omega
 ·simp only [Value.slice.injEq] at e1
  obtain ⟨rfl,_,rfl⟩:=e1
  refine .inr ⟨g,c,cur,rfl,h1,h2,by omega,h4,h5,?_⟩
  have:(cur.toList.take ((n + 1) * size)).take (n * size) = (xs ++ ys).take (n * size):=by rw [h6]
  rw [List.take_take,Nat.min_eq_left (Nat.mul_le_mul_right _ (by omega)),← hx,List.take_left] at this
  rw [← hx]
  exact this
theorem step_call2 {P:Program} {ops:Array Oper} {o:Oper} {a:Act} {w:World} {K:Act → World → Prop} {Q:Exit → Act → World → Prop} {E:Prop} (hg:o.guard = none) (f:FuncId) (x y:Operand) (t u:TypeId)
  (hop:o.op = Op.call { callee:=Callee.value (.func f),args:=#[x,y],argTypes:=#[t,u] }) (hen:∀ args w,(callFunc f args).run P w = .ok (.enter f args) w)
  (hc:Calls P f #[a.eval x,a.eval y] w fun e w' => ∃ v,e = .returned v ∧ K (a.put o.dst v) w') :
  if Region.wanted o (yielded ops a.tmps) = true then Oper.wp P o a w K Q else E:=by
 have hw:Region.wanted o (yielded ops a.tmps) = true:=by simp [Region.wanted,hg]
 rw [if_pos hw]
 have h2:=hen #[a.eval x,a.eval y] w
 unfold Oper.wp
 have ev:a.eval (.func f) = .func (.func f) #[] #[]:=rfl
 simp [execOp,hop,resolve,invoke,ev,Deferred.ofValue,h2,Result.andThen]
 show Calls P f #[a.eval x,a.eval y] w _
 refine hc.mono fun e w' h => ?_
 obtain ⟨v,rfl,hk⟩:=h
 exact hk
end Go.Proofs.YtacaanhnlfpbhaaGreat
namespace Go.Proofs.YtacaanhnlfpbhaaGreat
open Go.RowKit
set_option linter.unusedVariables false
set_option linter.unusedSimpArgs false
def Parsed (N:Nat) (w:World) (pv:Value) (l:List (Int × List Int)):Prop:=∃ cs F,w.ownsRow N 57 2 pv l.length cs ∧ PR N w cs l F
end Go.Proofs.YtacaanhnlfpbhaaGreat
