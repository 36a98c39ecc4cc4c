/- HELPERS: texts of ours put together. -/
import Derived.Test.YtacaanhnlfpbhaaGreatK02
import Derived.Test.YtacaanhnlfpbhaaGreatK03
import Derived.Test.YtacaanhnlfpbhaaGreatK01
import Derived.Laws.EntriesVeiled
import Derived.OrdersHeld
import Derived.StillTail
import Derived.Tactics
import Derived.RowKit
import Derived.Below
import Derived.Deep.Cut
import Derived.Deep.MidRow
import Derived.Deep.OwnRows
import Derived.Laws.Rows
import Derived.WalkLawsBesides
import Derived.Maps.AppendAt
import Derived.Deep.RegionLaw
import Derived.Laws.CopyOwn
import Derived.Lib.LazyBuf
import Derived.BigQuiet
import Derived.Deep.QuietTactic
import Derived.Test.YtacaanhnlfpbhaaGreatProg
import Derived.WalkKit
import Derived.ProofKit
import Derived.WalkSmall
import Derived.Deep.RegionWith
import Derived.Deep.WholeRow
namespace Go.Proofs.YtacaanhnlfpbhaaGreat
open Go.RowKit
set_option linter.unusedVariables false
set_option linter.unusedSimpArgs false
theorem head_no {l:List In} {s k:Int} (h:(decide (l.length≤20000) && belowB s l.length && capsB k)=false):mayB l s k=false:=by
 unfold mayB
 rw [h]
 rfl
set_option maxRecDepth 100000 in
set_option maxHeartbeats 4000000 in
theorem maybe24_no {w:World} {ad:Option Addr} {n c:Nat} {l:List In} {s k:Int} (hl:n=l.length) (hno:(decide (l.length≤20000) && belowB s l.length && capsB k)=false) :
  Calls Tryz.prog 89 #[pv ad n c s k] w fun e w'=>e=.returned (.bool (mayB l s k))∧Below w.heap.size w w':=by
 rw [head_no hno]
 rw [← hl] at hno
 clear hl
 have T1:=fun W=>below38 s n W
 have T2:=fun W=>caps39 k W
 by_cases hA:n≤20000
 ·have b1:decide ((n:Int) > 20000)=false:=by simp;omega
  have b1':decide ((20000:Int) < (n:Int))=false:=by simp;omega
  cases g1:belowB s n
  ·simp only [g1] at T1
   go_enter Tryz.func89,Tryz.ntmps89
   go_wp2_with (first | (go_at_call 126;(with_reducible refine (T1 _).mono ?_);rintro e w2 ⟨rfl,rfl⟩))
   all_goals go_ret
   all_goals exact ⟨rfl,Joins.below_alloc1 w _⟩
  ·simp only [g1] at T1
   have g2:capsB k=false:=by simpa [g1,hA] using hno
   simp only [g2] at T2
   go_enter Tryz.func89,Tryz.ntmps89
   go_wp2_with (first | (go_at_call 126;(with_reducible refine (T1 _).mono ?_);rintro e w2 ⟨rfl,rfl⟩) | (go_at_call 127;(with_reducible refine (T2 _).mono ?_);rintro e w2 ⟨rfl,rfl⟩))
   all_goals go_ret
   all_goals exact ⟨rfl,Joins.below_alloc1 w _⟩
 ·have b1:decide ((n:Int) > 20000)=true:=by simp;omega
  have b1':decide ((20000:Int) < (n:Int))=true:=by simp;omega
  go_enter Tryz.func89,Tryz.ntmps89
  go_wp2
  all_goals go_ret
  all_goals exact ⟨rfl,Joins.below_alloc1 w _⟩
theorem three_cells {w:World} {b:Nat} {v0 v1 v2:Value} {t:TypeId} {fr:Nat × Nat} (h:w.heap[b]?=some (.cells #[v0,v1,v2] t fr)):w.cell? ⟨b,0,none⟩=some v0∧w.cell? ⟨b,1,none⟩=some v1∧w.cell? ⟨b,2,none⟩=some v2:=
 ⟨Joins.cell_of_block h 0,Joins.cell_of_block h 1,Joins.cell_of_block h 2⟩
set_option maxRecDepth 100000 in
set_option maxHeartbeats 4000000 in
theorem maybe24_ok {w:World} {ad:Option Addr} {n c:Nat} {l:List In} {s k:Int} (h:PI w w.heap.size ad n l) (hyes:(decide (l.length≤20000) && belowB s l.length && capsB k)=true) :
  Calls Tryz.prog 89 #[pv ad n c s k] w fun e w'=>e=.returned (.bool (mayB l s k))∧Below w.heap.size w w':=by
 have hm:mayB l s k=l.all fun I=>I.okB l.length k:=by unfold mayB;rw [hyes];rfl
 rw [hm]
 have hl:=h.len
 rw [← hl] at hyes ⊢
 simp only [Bool.and_eq_true,decide_eq_true_eq] at hyes
 obtain ⟨⟨hA,g1⟩,g2⟩:=hyes
 have T1:=fun W=>below38 s n W
 have T2:=fun W=>caps39 k W
 simp only [g1] at T1
 simp only [g2] at T2
 have b1:decide ((n:Int) > 20000)=false:=by simp;omega
 have b1':decide ((20000:Int) < (n:Int))=false:=by simp;omega
 obtain ⟨U,hU⟩:∃ U,U=w.alloc (.cells #[.slice ad n c,.int .i64 s,.int .i64 k] 46):=⟨_,rfl⟩
 have hb:Below w.heap.size w U:=by rw [hU];exact Joins.below_alloc1 w _
 have hX:U.heap[w.heap.size]?=some (.cells #[.slice ad n c,.int .i64 s,.int .i64 k] 46 (0,0)):=by rw [hU];exact heap_alloc_new w _
 have hsz:w.heap.size < U.heap.size:=(Array.getElem?_eq_some_iff.1 hX).1
 have HP:=hid' (h.kept hb hb.size)
 have HB:=hid' hb
 have HX:=hid' hX
 have HL:=hid' hl
 have hz:w.heap.size≤w.heap.size:=Nat.le_refl _
 clear h hl hb hX hm hz
 obtain ⟨b,hbe⟩:∃ b,b=w.heap.size:=⟨_,rfl⟩
 go_enter Tryz.func89,Tryz.ntmps89
 go_upto_region 1 with fail
 rw [← hU,← hbe]
 rw [← hbe] at hsz HX HB
 have HBE:=hid' hbe
 clear hU hbe
 obtain ⟨c0,c1,c2⟩:=three_cells HX.out
 go_wp2_with (first | (go_at_call 126;(with_reducible refine (T1 _).mono ?_);rintro e w2 ⟨rfl,hw⟩;have hw':=hw.symm;clear hw;subst hw') | (go_at_call 127;(with_reducible refine (T2 _).mono ?_);rintro e w2 ⟨rfl,hw⟩;have hw':=hw.symm;clear hw;subst hw'))
 clear c0 c1 c2 T1 T2 b1 b1'
 go_loopw [27] (fun y wq=>∃ i:Nat,y=.int .i64 (i:Int)∧i≤n∧Hid (Below U.heap.size U wq)∧Hid (∀ j (hj:j < l.length),j < i→(l[j]).okB n k=true)) (fun y _=>n - (intOf y).toNat)
 case atStart=>exact ⟨0,rfl,by omega,Below.refl _ _,fun j hj h0=>by omega⟩
 case round =>
  obtain ⟨i,rfl,hi,BK,HA⟩:=hrel
  by_cases hil:i < n
  ·have b1:decide ((i:Int) < (n:Int))=true:=by simp;omega
   have b2:(i:Int) < (n:Int):=by omega
   have ad1:IntKind.i64.wrap ((i:Int) + 1)=(i:Int) + 1:=by simp [IntKind.wrap,IntKind.bits,IntKind.signed];omega
   have hlt:i < l.length:=by have:=HL.out;omega
   obtain ⟨q,o,ND,e,hq,hcs⟩:=HP.out.mem (by omega)
   subst e
   obtain ⟨m0,m1,m2,m3,m4⟩:=(hcs i hlt).1.kept (BK.out.block q hq)
   have hIM:=(hcs i hlt).2.kept BK.out BK.out.size
   obtain ⟨M,hM⟩:∃ M,M=ND i:=⟨_,rfl⟩
   rw [← hM] at m0 m1 m2 m3 m4 hIM
   have hbw:b < wr.heap.size:=by have:=BK.out.size;omega
   have hcc:wr.cell? ⟨b,2,none⟩=some (.int .i64 k):=(three_cells ((BK.out.block b hsz).trans HX.out)).2.2
   obtain ⟨V,hV⟩:∃ V,V=wr.alloc (.cells #[.int .i64 M.op,.int .i64 M.x,.int .i64 M.y,.int .i64 M.a,.slice M.r1 M.r2 M.r3] 86):=⟨_,rfl⟩
   have hbV:Below wr.heap.size wr V:=by rw [hV];exact Joins.below_alloc1 wr _
   have hIV:=hIM.kept hbV hbV.size
   have HC:=inst40 M l[i].R n k V hIV.len hIV.sm hIV.row
   rw [hIV.op,hIV.x,hIV.y,hIV.a] at HC
   have HBV:=hid' hbV
   have hVe:In.okB ⟨l[i].op,l[i].x,l[i].y,l[i].a,l[i].R⟩ n k=l[i].okB n k:=rfl
   rw [hVe] at HC
   rw [hV] at HC HBV
   clear hM hIM hIV hbV hV hVe hcs
   cases g:l[i].okB n k
   ·rw [g] at HC
    go_wp2_with (first | (go_at_call 128;(with_reducible refine HC.mono ?_);rintro e w2 ⟨rfl,hb2⟩;have HB2:=hid' hb2;clear hb2 HC))
    all_goals go_ret
    all_goals refine ⟨ret_bool ?_,?_⟩
    ·symm
     rw [List.all_eq_false]
     exact ⟨l[i],List.getElem_mem hlt,by rw [g];simp⟩
    ·rw [← HBE.out]
     exact HB.out.trans (Joins.below_le (BK.out.trans (Joins.below_le (HBV.out.trans (Joins.below_le HB2.out HBV.out.size)) BK.out.size)) (by omega))
   ·rw [g] at HC
    go_wp2_with (first | (go_at_call 128;(with_reducible refine HC.mono ?_);rintro e w2 ⟨rfl,hb2⟩;have HB2:=hid' hb2;clear hb2 HC))
    refine ⟨⟨i + 1,by push_cast;rfl,by omega,BK.out.trans (Joins.below_le (HBV.out.trans (Joins.below_le HB2.out HBV.out.size)) BK.out.size),fun j hj h1=>?_⟩,by simp [intOf];omega⟩
    by_cases e:j=i
    ·subst e;exact g
    ·exact HA.out j hj (by omega)
  ·have b1:decide ((i:Int) < (n:Int))=false:=by simp;omega
   go_wp2
   all_goals go_ret
   all_goals refine ⟨ret_bool ?_,?_⟩
   ·symm
    rw [List.all_eq_true]
    intro I hI
    obtain ⟨j,hj,rfl⟩:=List.getElem_of_mem hI
    exact HA.out j hj (by have:=HL.out;omega)
   ·rw [← HBE.out]
    exact HB.out.trans (Joins.below_le BK.out (by omega))
theorem maybe24 {w:World} {ad:Option Addr} {n c:Nat} {l:List In} {s k:Int} (h:PI w w.heap.size ad n l):Calls Tryz.prog 89 #[pv ad n c s k] w fun e w'=>e=.returned (.bool (mayB l s k))∧Below w.heap.size w w':=by
 cases hh:decide (l.length≤20000) && belowB s l.length && capsB k with
 | false=>exact maybe24_no h.len hh
 | true=>exact maybe24_ok h hh
theorem check10 {w:World} {ad:Option Addr} {n c:Nat} {l:List In} {s k:Int} (h:PI w w.heap.size ad n l):Calls Tryz.prog 50 #[pv ad n c s k] w fun e w'=>e=.returned (.int .i64 (if mayB l s k then 0 else 90))∧Below w.heap.size w w':=by
 have hb:=Joins.below_alloc1 w (.cells #[.slice ad n c,.int .i64 s,.int .i64 k] 46)
 have HC:=maybe24 (c:=c) (s:=s) (k:=k) (h.kept hb hb.size)
 have HB:=hid' hb
 clear h hb
 cases g:mayB l s k
 ·rw [g] at HC
  go_enter Tryz.func50,Tryz.ntmps50
  go_wp2_with (first | (go_at_call 89;(with_reducible refine HC.mono ?_);rintro e w2 ⟨rfl,hb2⟩;have HB2:=hid' hb2;clear hb2 HC))
  all_goals go_ret
  all_goals exact ⟨rfl,HB.out.trans (Joins.below_le HB2.out HB.out.size)⟩
 ·rw [g] at HC
  go_enter Tryz.func50,Tryz.ntmps50
  go_wp2_with (first | (go_at_call 89;(with_reducible refine HC.mono ?_);rintro e w2 ⟨rfl,hb2⟩;have HB2:=hid' hb2;clear hb2 HC))
  all_goals go_ret
  all_goals exact ⟨rfl,HB.out.trans (Joins.below_le HB2.out HB.out.size)⟩
theorem row_setC {w:World} {base e size n b c:Nat} {xs:List Value} (h:w.ownsRow base e size (.slice (some ⟨b,0,none⟩) n c) n xs) (j:Nat) (v:Value):(w.setCell ⟨b,j,none⟩ v).ownsRow base e size (.slice (some ⟨b,0,none⟩) n c) n (xs.set j v):=by
 obtain ⟨hl,hr⟩:=h
 rcases hr with ⟨he,_⟩ | ⟨g,cap,cur,he,hb,hgg,h1,h2,h3,h4⟩
 ·cases he
 ·simp only [Value.slice.injEq,Option.some.injEq,Addr.mk.injEq] at he
  obtain ⟨⟨rfl,_⟩,_,rfl⟩:=he
  refine ⟨by simp [hl],.inr ⟨b,c,cur.setIfInBounds j v,rfl,hb,Joins.block_setCell hgg _,h1,h2,by simpa using h3,?_⟩⟩
  simp only [Array.toList_setIfInBounds]
  rw [List.take_set,h4]
def inB (R:List (Int × Int)) (r:Int):Bool:=R.any fun x=>decide (x.1≤r) && decide (r≤x.2)
def hsB (R:List (Int × Int)) (r:Int):Bool:=rightB R && inB R r
def cmpI (a b:Int):Int:=if a < b then -1 else if b < a then 1 else 0
set_option maxRecDepth 100000 in
theorem nan74 (a:Int) (W:World):Calls Tryz.prog 237 #[.int .i64 a] W fun e w'=>e=.returned (.bool false)∧w'=W:=by
 go_enter Tryz.func237,Tryz.ntmps237
 go_wp2
 all_goals go_ret
 all_goals exact ⟨rfl,rfl⟩
set_option maxRecDepth 100000 in
set_option maxHeartbeats 1000000 in
theorem compare69 (a b:Int) (W:World):Calls Tryz.prog 218 #[.int .i64 a,.int .i64 b] W fun e w'=>e=.returned (.int .i64 (cmpI a b))∧w'=W:=by
 have H1:=fun W=>nan74 a W
 have H2:=fun W=>nan74 b W
 by_cases h1:a < b
 ·have e:cmpI a b=-1:=by unfold cmpI;rw [if_pos h1]
  rw [e]
  go_enter Tryz.func218,Tryz.ntmps218
  go_wp2_with (go_at_call 237;(first | (with_reducible refine (H1 _).mono ?_) | (with_reducible refine (H2 _).mono ?_));rintro e w' ⟨rfl,rfl⟩)
  all_goals go_ret
  all_goals exact ⟨rfl,rfl⟩
 ·by_cases h2:b < a
  ·have e:cmpI a b=1:=by unfold cmpI;rw [if_neg h1,if_pos h2]
   rw [e]
   go_enter Tryz.func218,Tryz.ntmps218
   go_wp2_with (go_at_call 237;(first | (with_reducible refine (H1 _).mono ?_) | (with_reducible refine (H2 _).mono ?_));rintro e w' ⟨rfl,rfl⟩)
   all_goals go_ret
   all_goals exact ⟨rfl,rfl⟩
  ·have e:cmpI a b=0:=by unfold cmpI;rw [if_neg h1,if_neg h2]
   rw [e]
   go_enter Tryz.func218,Tryz.ntmps218
   go_wp2_with (go_at_call 237;(first | (with_reducible refine (H1 _).mono ?_) | (with_reducible refine (H2 _).mono ?_));rintro e w' ⟨rfl,rfl⟩)
   all_goals go_ret
   all_goals exact ⟨rfl,rfl⟩
theorem cmp_lt (a b:Int):cmpI a b < 0↔a < b:=by
 unfold cmpI
 by_cases h1:a < b
 ·simp [h1]
 ·by_cases h2:b < a <;> simp [h1,h2]
theorem right_rise (L:List (Int × Int)):∀ (ls:Int) (k:Nat),rightFrom ls L=true→k + 1 < L.length→(L.getD k (0,0)).2 < (L.getD (k + 1) (0,0)).1∧(L.getD (k + 1) (0,0)).1≤(L.getD (k + 1) (0,0)).2:=by
 induction L with
 | nil=>intro ls k _ h;simp at h
 | cons a t ih =>
  intro ls k h hk
  simp only [rightFrom,Bool.and_eq_true] at h
  cases k with
  | zero =>
   cases t with
   | nil=>simp at hk
   | cons b t =>
    have h2:=h.2
    simp only [rightFrom,okG,Bool.and_eq_true,decide_eq_true_eq] at h2
    have:=h2.1.1.1.1.1
    have:=h2.1.1.1.1.2
    simp
    omega
  | succ k=>simpa using ih _ k h.2 (by simpa using hk)
theorem right_mono (L:List (Int × Int)) (ls:Int) (h:rightFrom ls L=true):∀ (d k:Nat),k + d < L.length→(L.getD k (0,0)).2≤(L.getD (k + d) (0,0)).2:=by
 intro d
 induction d with
 | zero=>intro k _;simp
 | succ d ih =>
  intro k hk
  have h1:=ih k (by omega)
  have h2:=right_rise L ls (k + d) h (by omega)
  have e:k + (d + 1)=k + d + 1:=by omega
  rw [e]
  omega
theorem right_lo (L:List (Int × Int)) (ls:Int) (h:rightFrom ls L=true) (a b:Nat) (hab:a < b) (hb:b < L.length):(L.getD a (0,0)).2 < (L.getD b (0,0)).1:=by
 obtain ⟨d,rfl⟩:=Nat.exists_eq_add_of_le (show a + 1≤b by omega)
 have h1:=right_mono L ls h d a (by omega)
 have h2:=right_rise L ls (a + d) h (by omega)
 have e:a + 1 + d=a + d + 1:=by omega
 rw [e]
 omega
theorem has_search (L:List (Int × Int)) (r:Int) (i:Nat) (h:rightB L=true) (hi:i≤L.length) (h0:i=0∨(L.getD (i - 1) (0,0)).2 < r) (h1:i=L.length∨r≤(L.getD i (0,0)).2) :
  inB L r=(decide (i < L.length) && decide ((L.getD i (0,0)).1≤r)):=by
 have hr:rightFrom 0 L=true:=by unfold rightB at h;rw [Bool.and_eq_true] at h;exact h.2
 have hge:∀ k (hk:k < L.length),L[k]=L.getD k (0,0):=fun k hk=>by simp [List.getD,hk]
 rw [Bool.eq_iff_iff]
 unfold inB
 rw [List.any_eq_true]
 simp only [Bool.and_eq_true,decide_eq_true_eq]
 constructor
 ·rintro ⟨g,hg,ha,hb⟩
  obtain ⟨k,hk,rfl⟩:=List.getElem_of_mem hg
  rw [hge k hk] at ha hb
  have hki:¬ k < i:=fun hlt=>by
   rcases h0 with h0 | h0
   ·omega
   ·have:=right_mono L 0 hr (i - 1 - k) k (by omega)
    rw [show k + (i - 1 - k)=i - 1 by omega] at this
    omega
  have hik:¬ i < k:=fun hlt=>by
   rcases h1 with h1 | h1
   ·omega
   ·have:=right_lo L 0 hr i k hlt hk
    omega
  obtain rfl:k=i:=by omega
  exact ⟨hk,ha⟩
 ·rintro ⟨hk,ha⟩
  refine ⟨L[i],List.getElem_mem hk,?_⟩
  rw [hge i hk]
  rcases h1 with h1 | h1
  ·omega
  ·exact ⟨ha,h1⟩
end Go.Proofs.YtacaanhnlfpbhaaGreat
namespace Go.Proofs.YtacaanhnlfpbhaaGreat.Look
open Go.RowKit
set_option linter.unusedVariables false
set_option linter.unusedSimpArgs false
theorem wpList_store_new {P:Program} {ops:Array Oper} {rest:List Oper} {op:Oper} {a:Act} {w:World} {Q:Exit→Act→World→Prop} (hgd:op.guard=none) (ty:TypeId) (x y:Operand) (ho:op.op=.store ty x y)
  (c c':Array Value) (hx:a.eval x=.pointer (some ⟨w.heap.size,0,none⟩)) (hy:a.eval y=.agg c') (hi:(P.info? ty).map (·.size)=some c'.size) (hc:c.size=c'.size) (h1:c'.all (·.oneCell')=true)
  (h:wpList P ops Q rest (a.put op.dst undef) (w.alloc (.cells c' ty))):wpList P ops Q (op :: rest) a (w.alloc (.cells c ty)):=
 wpList_plain hgd fun K hK=>by
  unfold Oper.wp execOp
  simp only [ho,hx,hy,Sem.run_bind,Sem.run_pure,Result.andThen_ok,run_storeAt_new w ty c c' hi hc h1]
  exact hK _ _ h
theorem results_cell1 {fn:Func} {p:Tmp} {ty:TypeId} (h:fn.results=#[.cell p ty]) (tmps:Array Value) (P:Program) (w:World) :
  (results fn tmps).run P w=((asAddr (tmps.getD p undef)).run P w).andThen fun a w₁=>((loadVar ty a).run P w₁).andThen fun v w₂=>.ok v w₂:=by
 simp only [results,h]
 simp [Sem.run_bind,Result.andThen]
 cases (asAddr (tmps[p]?.getD undef)).run P w with
 | halt h w=>rfl
 | ok a w=>show (loadVar ty a).run P w=_;cases h:(loadVar ty a).run P w <;> simp [h]
def fv (f:Nat):Value:=.func (.func f) #[] #[]
def rowsV:Array Value:=#[.int .i64 1,.int .i64 2,fv 174,.int .i64 2,.int .i64 1,fv 175,.int .i64 4,.int .i64 8,fv 176,.int .i64 8,.int .i64 4,fv 177,.int .i64 16,.int .i64 16,fv 178,.int .i64 32,.int .i64 32,fv 179]
theorem info37:(Tryz.prog.info? 173).map (·.size)=some 18:=by kernel_rfl
theorem one37:(rowsV.all (·.oneCell'))=true:=by simp [rowsV,fv,Value.oneCell']
set_option maxRecDepth 100000 in
theorem rows17 (w:World):Calls Tryz.prog 112 #[] w fun e w'=>e=.returned (.agg rowsV)∧w'=w.alloc (.cells rowsV 173):=by
 go_enter Tryz.func112,Tryz.ntmps112
 go_wp2_with (refine wpList_store_new rfl 173 (.tmp 0) (.tmp 7) rfl _ rowsV rfl rfl info37 rfl one37 ?_)
 refine bodyPost_ret (v:=.agg rowsV) ?_ rfl ⟨rfl,rfl⟩
 rw [results_cell1 Tryz.results112]
 have h:=run_loadVar_new (P:=Tryz.prog) w 173 rowsV 6 172 Tryz.underlying173 info37
 simp [asAddr,Result.andThen,h,Act.put]
theorem holds13 (x y:Int) (w:World):Calls Tryz.prog 167 #[.int .i64 x,.int .i64 y] w fun e w'=>e=.returned (.bool (bits .andNot .i64 x y == 0))∧w'=w:=by
 go_enter Tryz.func167,Tryz.ntmps167
 go_wp2
 go_ret
 exact ⟨rfl,rfl⟩
def wordR (r:Int):Bool:=decide (48≤r∧r≤57∨65≤r∧r≤90∨97≤r∧r≤122∨r=95)
theorem dom28 (r:Int) (w:World):Calls Tryz.prog 222 #[.int .i64 r] w fun e w'=>e=.returned (.bool (dom r))∧w'=w:=by
 go_enter Tryz.func222,Tryz.ntmps222
 go_wp2
 all_goals go_ret
 all_goals exact ⟨ret_bool (by rw [Bool.eq_iff_iff];simp [dom];omega),rfl⟩
theorem word27 (r:Int) (w:World):Calls Tryz.prog 225 #[.int .i64 r] w fun e w'=>e=.returned (.bool (wordR r))∧w'=w:=by
 have hd:=dom28 r w
 by_cases hD:dom r=true
 ·rw [hD] at hd
  have hr:0≤r∧r≤1114111:=by simp [dom] at hD;omega
  have hw:IntKind.i32.wrap r=r:=by simp [IntKind.wrap,IntKind.bits,IntKind.signed];omega
  clear hD
  go_enter Tryz.func225,Tryz.ntmps225
  go_wp2_with (go_at_call 222;refine hd.mono ?_;rintro e w' ⟨rfl,rfl⟩)
  all_goals go_ret
  all_goals exact ⟨ret_bool (by rw [Bool.eq_iff_iff];simp [wordR,hw];omega),rfl⟩
 ·have hD':dom r=false:=by simpa using hD
  rw [hD'] at hd
  have hr:wordR r=false:=by simp [dom] at hD;simp [wordR];omega
  rw [hr]
  go_enter Tryz.func225,Tryz.ntmps225
  go_wp2_with (go_at_call 222;refine hd.mono ?_;rintro e w' ⟨rfl,rfl⟩)
  go_ret
  exact ⟨rfl,rfl⟩
def TextAt (N:Nat) (w:World) (ad:Option Addr) (n:Nat) (l:List Int):Prop:=
 n=l.length∧n≤35184372088832∧(n=0∨∃ b off,ad=some ⟨b,off,none⟩∧b < N∧∀ k,k < n→w.cell? ⟨b,off + k,none⟩=some (.int .i64 (l.getD k 0)))
theorem TextAt.below {N:Nat} {w w':World} {ad:Option Addr} {n:Nat} {l:List Int} (h:TextAt N w ad n l) (hb:Below N w w'):TextAt N w' ad n l:=by
 obtain ⟨h1,h2,h | ⟨b,off,ha,hbN,hc⟩⟩:=h
 ·exact ⟨h1,h2,.inl h⟩
 ·exact ⟨h1,h2,.inr ⟨b,off,ha,hbN,fun k hk=>(hb.cell (p:=⟨b,off + k,none⟩) hbN).trans (hc k hk)⟩⟩
theorem TextAt.mono {N M:Nat} {w:World} {ad:Option Addr} {n:Nat} {l:List Int} (h:TextAt N w ad n l) (hNM:N≤M):TextAt M w ad n l:=by
 obtain ⟨h1,h2,h | ⟨b,off,ha,hbN,hc⟩⟩:=h
 ·exact ⟨h1,h2,.inl h⟩
 ·exact ⟨h1,h2,.inr ⟨b,off,ha,by omega,hc⟩⟩
def begB (p:Nat):Bool:=decide (p=0)
def endB (l:List Int) (p:Nat):Bool:=decide (p=l.length)
def blB (l:List Int) (p:Nat):Bool:=decide (p=0) || decide (l.getD (p - 1) 0=10)
def elB (l:List Int) (p:Nat):Bool:=decide (p=l.length) || decide (l.getD p 0=10)
def waB (l:List Int) (p:Nat):Bool:=decide (0 < p) && wordR (l.getD (p - 1) 0)
def wbB (l:List Int) (p:Nat):Bool:=decide (p < l.length) && wordR (l.getD p 0)
theorem beg19 (ad:Option Addr) (n cap p:Nat) (w:World):Calls Tryz.prog 174 #[.agg #[.slice ad n cap,.int .i64 p]] w fun e w'=>e=.returned (.bool (begB p))∧Below w.heap.size w w':=by
 go_enter Tryz.func174,Tryz.ntmps174
 go_wp2
 go_ret
 exact ⟨ret_bool (by rw [Bool.eq_iff_iff];simp [begB]),(Below.refl _ _).alloc (Nat.le_refl _) _⟩
theorem end20 (ad:Option Addr) (n cap p:Nat) (l:List Int) (w:World) (hn:n=l.length):Calls Tryz.prog 175 #[.agg #[.slice ad n cap,.int .i64 p]] w fun e w'=>e=.returned (.bool (endB l p))∧Below w.heap.size w w':=by
 go_enter Tryz.func175,Tryz.ntmps175
 go_wp2
 go_ret
 exact ⟨ret_bool (by rw [Bool.eq_iff_iff];simp [endB,hn];omega),(Below.refl _ _).alloc (Nat.le_refl _) _⟩
theorem box_cells {w w':World} {v:Value} {p:Int} (hb:Below (w.alloc (.cells #[v,.int .i64 p] 169)).heap.size (w.alloc (.cells #[v,.int .i64 p] 169)) w') :
  w'.cell? ⟨w.heap.size,0,none⟩=some v∧w'.cell? ⟨w.heap.size,1,none⟩=some (.int .i64 p)∧(∀ b o:Nat,b < w.heap.size→w'.cell? ⟨b,o,none⟩=w.cell? ⟨b,o,none⟩)∧Below w.heap.size w w':=by
 refine ⟨(hb.cell (p:=⟨w.heap.size,0,none⟩) (by simp)).trans ?_,(hb.cell (p:=⟨w.heap.size,1,none⟩) (by simp)).trans ?_,fun b o ha=>(hb.cell (p:=⟨b,o,none⟩) (by simp;omega)).trans ?_,((Below.refl _ _).alloc (Nat.le_refl _) _).trans (hb.mono (by simp))⟩
 ·rw [World.cell?_alloc_at _ _ _ _ rfl];rfl
 ·rw [World.cell?_alloc_at _ _ _ _ rfl];rfl
 ·exact World.cell?_alloc_past _ _ _ (by omega)
set_option maxHeartbeats 1000000 in
theorem bl21 (ad:Option Addr) (n cap p:Nat) (l:List Int) (w:World) (hT:Hid (TextAt w.heap.size w ad n l)) (hp:p≤n):Calls Tryz.prog 176 #[.agg #[.slice ad n cap,.int .i64 p]] w fun e w'=>e=.returned (.bool (blB l p))∧Below w.heap.size w w':=by
 have hbeg:=fun w=>beg19 ad n cap p w
 by_cases h0:p=0
 ·subst h0
  have e1:begB 0=true:=by decide
  have e2:blB l 0=true:=by simp [blB]
  rw [e1] at hbeg
  rw [e2]
  go_enter Tryz.func176,Tryz.ntmps176
  go_wp2_with (go_at_call 174;refine (hbeg _).mono ?_;rintro e w' ⟨rfl,hb⟩)
  go_ret
  exact ⟨rfl,((Below.refl _ _).alloc (Nat.le_refl _) _).trans (hb.mono (by simp))⟩
 ·have e1:begB p=false:=by simp [begB,h0]
  have e2:blB l p=decide (l.getD (p - 1) 0=10):=by simp [blB,h0]
  rw [e1] at hbeg
  rw [e2]
  obtain ⟨hn,hmax,h | ⟨b,off,rfl,hbN,hc⟩⟩:=hT.out
  ·omega
  ·have d0:=hc (p - 1) (by omega)
   generalize l.getD (p - 1) 0=x at d0
   clear hc e1 e2 hn
   go_enter Tryz.func176,Tryz.ntmps176
   go_wp2_with fail
   refine (hbeg _).mono ?_
   rintro e w' ⟨rfl,hb⟩
   obtain ⟨c0,c1,hk,hb2⟩:=box_cells hb
   have d1:=(hk b (off + (p - 1)) hbN).trans d0
   clear hb hk d0 hbeg
   go_wp2
   go_ret
   exact ⟨ret_bool (by rw [Bool.eq_iff_iff];simp),hb2⟩
set_option maxHeartbeats 1000000 in
theorem el22 (ad:Option Addr) (n cap p:Nat) (l:List Int) (w:World) (hT:Hid (TextAt w.heap.size w ad n l)) (hp:p≤n):Calls Tryz.prog 177 #[.agg #[.slice ad n cap,.int .i64 p]] w fun e w'=>e=.returned (.bool (elB l p))∧Below w.heap.size w w':=by
 have hend:=fun w=>end20 ad n cap p l w hT.out.1
 have hn:=hT.out.1
 by_cases h0:p=n
 ·subst h0
  have e1:endB l p=true:=by simp [endB,hn]
  have e2:elB l p=true:=by simp [elB,hn]
  rw [e1] at hend
  rw [e2]
  clear hn e1 e2
  go_enter Tryz.func177,Tryz.ntmps177
  go_wp2_with (go_at_call 175;refine (hend _).mono ?_;rintro e w' ⟨rfl,hb⟩)
  go_ret
  exact ⟨rfl,((Below.refl _ _).alloc (Nat.le_refl _) _).trans (hb.mono (by simp))⟩
 ·have e1:endB l p=false:=by simp [endB];omega
  have e2:elB l p=decide (l.getD p 0=10):=by
   have:¬ p=l.length:=by omega
   simp [elB,this]
  rw [e1] at hend
  rw [e2]
  obtain ⟨hn',hmax,h | ⟨b,off,rfl,hbN,hc⟩⟩:=hT.out
  ·omega
  ·have d0:=hc p (by omega)
   generalize l.getD p 0=x at d0
   have hp2:p < n:=by omega
   clear hc e1 e2 hn hn'
   go_enter Tryz.func177,Tryz.ntmps177
   go_wp2_with fail
   refine (hend _).mono ?_
   rintro e w' ⟨rfl,hb⟩
   obtain ⟨c0,c1,hk,hb2⟩:=box_cells hb
   have d1:=(hk b (off + p) hbN).trans d0
   clear hb hk d0 hend
   go_wp2
   go_ret
   exact ⟨ret_bool (by rw [Bool.eq_iff_iff];simp),hb2⟩
set_option maxHeartbeats 1000000 in
theorem wa25 (ad:Option Addr) (n cap p:Nat) (l:List Int) (w:World) (hT:Hid (TextAt w.heap.size w ad n l)) (hp:p≤n):Calls Tryz.prog 226 #[.agg #[.slice ad n cap,.int .i64 p]] w fun e w'=>e=.returned (.bool (waB l p))∧Below w.heap.size w w':=by
 have hbeg:=fun w=>beg19 ad n cap p w
 by_cases h0:p=0
 ·subst h0
  have e1:begB 0=true:=by decide
  have e2:waB l 0=false:=by simp [waB]
  rw [e1] at hbeg
  rw [e2]
  go_enter Tryz.func226,Tryz.ntmps226
  go_wp2_with (go_at_call 174;refine (hbeg _).mono ?_;rintro e w' ⟨rfl,hb⟩)
  go_ret
  exact ⟨rfl,((Below.refl _ _).alloc (Nat.le_refl _) _).trans (hb.mono (by simp))⟩
 ·have e1:begB p=false:=by simp [begB,h0]
  have e2:waB l p=wordR (l.getD (p - 1) 0):=by
   have:0 < p:=by omega
   simp [waB,this]
  rw [e1] at hbeg
  rw [e2]
  obtain ⟨hn,hmax,h | ⟨b,off,rfl,hbN,hc⟩⟩:=hT.out
  ·omega
  ·have d0:=hc (p - 1) (by omega)
   generalize l.getD (p - 1) 0=x at d0
   have hword:=fun w=>word27 x w
   clear hc e1 e2 hn
   generalize wordR x=bx at hword
   go_enter Tryz.func226,Tryz.ntmps226
   go_wp2_with fail
   refine (hbeg _).mono ?_
   rintro e w' ⟨rfl,hb⟩
   obtain ⟨c0,c1,hk,hb2⟩:=box_cells hb
   have d1:=(hk b (off + (p - 1)) hbN).trans d0
   clear hb hk d0 hbeg
   go_wp2_with (go_at_call 225;refine (hword _).mono ?_;rintro e w'' ⟨rfl,rfl⟩)
   go_ret
   exact ⟨rfl,hb2⟩
set_option maxHeartbeats 1000000 in
theorem wb26 (ad:Option Addr) (n cap p:Nat) (l:List Int) (w:World) (hT:Hid (TextAt w.heap.size w ad n l)) (hp:p≤n):Calls Tryz.prog 227 #[.agg #[.slice ad n cap,.int .i64 p]] w fun e w'=>e=.returned (.bool (wbB l p))∧Below w.heap.size w w':=by
 have hend:=fun w=>end20 ad n cap p l w hT.out.1
 have hn:=hT.out.1
 by_cases h0:p=n
 ·subst h0
  have e1:endB l p=true:=by simp [endB,hn]
  have e2:wbB l p=false:=by simp [wbB,hn]
  rw [e1] at hend
  rw [e2]
  clear hn e1 e2
  go_enter Tryz.func227,Tryz.ntmps227
  go_wp2_with (go_at_call 175;refine (hend _).mono ?_;rintro e w' ⟨rfl,hb⟩)
  go_ret
  exact ⟨rfl,((Below.refl _ _).alloc (Nat.le_refl _) _).trans (hb.mono (by simp))⟩
 ·have e1:endB l p=false:=by simp [endB];omega
  have e2:wbB l p=wordR (l.getD p 0):=by
   have:p < l.length:=by omega
   simp [wbB,this]
  rw [e1] at hend
  rw [e2]
  obtain ⟨hn',hmax,h | ⟨b,off,rfl,hbN,hc⟩⟩:=hT.out
  ·omega
  ·have d0:=hc p (by omega)
   generalize l.getD p 0=x at d0
   have hp2:p < n:=by omega
   have hword:=fun w=>word27 x w
   clear hc e1 e2 hn hn'
   generalize wordR x=bx at hword
   go_enter Tryz.func227,Tryz.ntmps227
   go_wp2_with fail
   refine (hend _).mono ?_
   rintro e w' ⟨rfl,hb⟩
   obtain ⟨c0,c1,hk,hb2⟩:=box_cells hb
   have d1:=(hk b (off + p) hbN).trans d0
   clear hb hk d0 hend
   go_wp2_with (go_at_call 225;refine (hword _).mono ?_;rintro e w'' ⟨rfl,rfl⟩)
   go_ret
   exact ⟨rfl,hb2⟩
end Go.Proofs.YtacaanhnlfpbhaaGreat.Look
