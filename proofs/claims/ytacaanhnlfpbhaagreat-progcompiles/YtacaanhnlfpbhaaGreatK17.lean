/- HELPERS: texts of ours put together. -/
import Derived.Test.YtacaanhnlfpbhaaGreatK16
import Derived.Test.YtacaanhnlfpbhaaGreatK10
import Derived.Laws.Rows
import Derived.Test.YtacaanhnlfpbhaaGreatK03
import Derived.Test.YtacaanhnlfpbhaaGreatK11
import Derived.Test.YtacaanhnlfpbhaaGreatK09
import Derived.Test.YtacaanhnlfpbhaaGreatK01
import Derived.Test.YtacaanhnlfpbhaaGreatProg
import Derived.WalkKit
import Derived.ProofKit
import Derived.BigQuiet
import Derived.WalkSmall
import Derived.Deep.QuietTactic
import Derived.Deep.RegionWith
import Derived.Lib.SmallJoins
import Derived.Lib.MinMax
import Derived.Maps.AppendAt
import Derived.Laws.AppendOwnNone
import Derived.Lib.Small
import Derived.Deep.SlicePairs
import Derived.RowKit
import Derived.Deep.Cut
import Derived.Deep.CutRange
namespace Go.Proofs.YtacaanhnlfpbhaaGreat
open Go.RowKit
set_option linter.unusedVariables false
set_option linter.unusedSimpArgs false
mutual
theorem top_in:∀ (t:Tn) (q:Gk),t.inG q→q.1≤t.top
 | .mk k R a s mn mx lz ix nm,q,h=>by
  simp only [Tn.inG] at h
  simp only [Tn.top]
  rcases h.2 with ⟨_,h1⟩ | h1
  ·rw [← h1];exact topL_ge s ix
  ·exact topL_in s ix q h1
theorem topL_in:∀ (ts:List Tn) (a:Int) (q:Gk),inGL q ts→q.1≤topL ts a
 | [],a,q,h=>by simp [inGL] at h
 | t :: ts,a,q,h=>by
  simp only [inGL] at h
  simp only [topL]
  rcases h with h | h
  ·have:=top_in t q h;have:=topL_ge ts (max a t.top);omega
  ·exact topL_in ts _ q h
end
theorem fork_ok {r p:Nat} {lz:Bool} {c caps:Int} (hr:(r:Int) < c) (hp:(p:Int) < c):(forkI r p lz).okB c caps=true:=by
 unfold forkI
 cases lz <;> simp [In.okB,isTargetB,hasXB,hasYB,belowB,isArgB,isRangesB] <;> omega
theorem layL_ok {c:Nat} {caps:Int}:∀ (s:List Tn),(∀ u ∈ s,∀ n,n + u.len < c→∀ I ∈ u.lay n,I.okB c caps=true)→∀ n,n + lenL s < c→∀ I ∈ layL s n,I.okB c caps=true
 | [],_,_,_=>fun I hI=>by simp [layL] at hI
 | t :: ts,h,n,hn=>fun I hI=>by
  simp only [lenL] at hn
  simp only [layL,List.mem_append] at hI
  rcases hI with hI | hI
  ·exact h t (by simp) n (by omega) I hI
  ·exact layL_ok ts (fun u hu=>h u (by simp [hu])) (n + t.len) (by omega) I hI
theorem layA_ok {c:Nat} {caps:Int}:∀ (s:List Tn),(∀ u ∈ s,∀ n,n + u.len < c→∀ I ∈ u.lay n,I.okB c caps=true)→∀ (n f:Nat),f < c→n + (lenL s + 2 * (s.length - 1)) < c→∀ I ∈ layA s n (f:Int),I.okB c caps=true
 | [],_,_,_,_,_=>fun I hI=>by simp [layA] at hI
 | [t],h,n,f,hf,hn=>fun I hI=>by
  simp only [layA] at hI
  simp only [lenL] at hn
  exact h t (by simp) n (by omega) I hI
 | t :: u :: ts,h,n,f,hf,hn=>fun I hI=>by
  simp only [layA,List.mem_cons,List.mem_append] at hI
  simp only [lenL,List.length_cons] at hn
  rcases hI with rfl | hI | rfl | hI
  ·simp [In.okB,isTargetB,hasXB,hasYB,belowB,isArgB,isRangesB];omega
  ·exact h t (by simp) (n + 1) (by omega) I hI
  ·simp [In.okB,isTargetB,hasXB,hasYB,belowB,isArgB,isRangesB];omega
  ·exact layA_ok (u :: ts) (fun v hv=>h v (by simp at hv ⊢;exact .inr hv)) (n + t.len + 2) f hf (by simp only [lenL,List.length_cons];omega) I hI
theorem lay_ok {t:Tn} (h:Nf t) {c:Nat} {caps:Int}:(∀ q,t.inG q→1≤q.1∧2 * q.1 + 2≤caps)→∀ n,n + t.len < c→∀ I ∈ t.lay n,I.okB c caps=true:=by
 induction h with
 | @leaf k R a mn mx lz ix nm hk hn =>
  intro hg n hl I hI
  rcases hk with rfl | rfl | rfl
  ·simp [Tn.lay] at hI
  ·simp [Tn.len] at hl
   simp [nodeB,bareB] at hn
   simp only [Tn.lay,if_true] at hI
   split at hI
   ·simp at hI;subst hI;simp [In.okB,isTargetB,hasXB,hasYB,belowB,isArgB,isRangesB]
   ·rename_i hR
    simp at hI;subst hI
    simp [In.okB,isTargetB,hasXB,hasYB,belowB,isArgB,isRangesB,hn.1]
    exact ⟨by omega,by cases R with | nil=>simp at hR | cons x R=>simp⟩
  ·simp [Tn.len] at hl
   simp [nodeB,bareB] at hn
   simp [Tn.lay] at hI;subst hI
   simp [In.okB,isTargetB,hasXB,hasYB,belowB,isArgB,isRangesB,hn]
   omega
 | @cat s h2 h hs ih =>
  intro hg n hl I hI
  have e:(zN 4 s).len=lenL s:=by simp [Tn.len]
  rw [e] at hl
  have e2:(zN 4 s).lay n=layL s n:=by simp [Tn.lay]
  rw [e2] at hI
  exact layL_ok s (fun u hu=>ih u hu fun q hq=>hg q (by simp only [Tn.inG];exact ⟨by omega,.inr (inGL_iff.2 ⟨u,hu,hq⟩)⟩)) n hl I hI
 | @alt s h2 h hs ih =>
  intro hg n hl I hI
  have e:(zN 5 s).len=lenL s + 2 * (s.length - 1):=by simp [Tn.len]
  rw [e] at hl
  have e2:(zN 5 s).lay n=layA s n ((n + (lenL s + 2 * (s.length - 1)):Nat):Int):=by simp [Tn.lay]
  rw [e2] at hI
  exact layA_ok s (fun u hu=>ih u hu fun q hq=>hg q (by simp only [Tn.inG];exact ⟨by omega,.inr (inGL_iff.2 ⟨u,hu,hq⟩)⟩)) n _ hl hl I hI
 | @loop mn mx lz y h hy ih =>
  intro hg n hl I hI
  have ih':=ih fun q hq=>hg q (by simp only [Tn.inG,inGL];exact ⟨by omega,.inr (.inl hq)⟩)
  have hL:∀ n,n + lenL [y] < c→∀ I ∈ layL [y] n,I.okB c caps=true:=layL_ok [y] (fun u hu=>by simp at hu;subst hu;exact ih')
  rcases h with ⟨rfl,rfl⟩ | ⟨rfl,rfl⟩ | ⟨rfl,rfl⟩
  ·have e:(loopT 0 1 lz y).len=lenL [y] + 1:=by simp [Tn.len]
   rw [e] at hl
   have e2:(loopT 0 1 lz y).lay n=forkI (n + 1) (n + 1 + lenL [y]) lz :: layL [y] (n + 1):=by simp [Tn.lay]
   rw [e2,List.mem_cons] at hI
   rcases hI with rfl | hI
   ·exact fork_ok (by omega) (by omega)
   ·exact hL (n + 1) (by omega) I hI
  ·have e:(loopT 0 (-1) lz y).len=lenL [y] + 2:=by simp [Tn.len]
   rw [e] at hl
   have e2:(loopT 0 (-1) lz y).lay n=forkI (n + 1) (n + 1 + lenL [y] + 1) lz :: (layL [y] (n + 1) ++ [⟨7,(n:Int),0,0,[]⟩]):=by simp [Tn.lay]
   rw [e2,List.mem_cons,List.mem_append,List.mem_singleton] at hI
   rcases hI with rfl | hI | rfl
   ·exact fork_ok (by omega) (by omega)
   ·exact hL (n + 1) (by omega) I hI
   ·simp [In.okB,isTargetB,hasXB,hasYB,belowB,isArgB,isRangesB];omega
  ·have e:(loopT 1 (-1) lz y).len=lenL [y] + 1:=by simp [Tn.len]
   rw [e] at hl
   have e2:(loopT 1 (-1) lz y).lay n=layL [y] n ++ [forkI n (n + lenL [y] + 1) lz]:=by simp [Tn.lay]
   rw [e2,List.mem_append,List.mem_singleton] at hI
   rcases hI with hI | rfl
   ·exact hL n (by omega) I hI
   ·exact fork_ok (by omega) (by omega)
 | @grp ix nm y hn hy ih =>
  intro hg n hl I hI
  have h0:=hg (ix,nm.toList) (by simp only [Tn.inG];exact ⟨by omega,.inl ⟨trivial,trivial⟩⟩)
  simp only at h0
  have ih':=ih fun q hq=>hg q (by simp only [Tn.inG,inGL];exact ⟨by omega,.inr (.inl hq)⟩)
  have hL:∀ n,n + lenL [y] < c→∀ I ∈ layL [y] n,I.okB c caps=true:=layL_ok [y] (fun u hu=>by simp at hu;subst hu;exact ih')
  have e:(Tn.mk 7 [] 0 [y] 0 0 false ix nm).len=lenL [y] + 2:=by simp [Tn.len]
  rw [e] at hl
  have e2:(Tn.mk 7 [] 0 [y] 0 0 false ix nm).lay n=⟨3,((n + 1:Nat):Int),0,2 * ix,[]⟩ :: (layL [y] (n + 1) ++ [⟨3,((n + 1 + lenL [y] + 1:Nat):Int),0,2 * ix + 1,[]⟩]):=by simp [Tn.lay]
  rw [e2,List.mem_cons,List.mem_append,List.mem_singleton] at hI
  rcases hI with rfl | hI | rfl
  ·simp [In.okB,isTargetB,hasXB,hasYB,belowB,isArgB,isRangesB];omega
  ·exact hL (n + 1) (by omega) I hI
  ·simp [In.okB,isTargetB,hasXB,hasYB,belowB,isArgB,isRangesB];omega
mutual
theorem inG_pos:∀ (t:Tn),t.fine=true→∀ q:Gk,t.inG q→1≤q.1
 | .mk k R a s mn mx lz ix nm,h=>fun q hq=>by
  simp only [Tn.fine,Bool.and_eq_true] at h
  simp only [Tn.inG] at hq
  rcases hq.2 with ⟨h7,h1⟩ | h1
  ·have:=fine_kind h.1;rw [← h1];simp only;omega
  ·exact inGL_pos s h.2 q h1
theorem inGL_pos:∀ (ts:List Tn),fineL ts=true→∀ q:Gk,inGL q ts→1≤q.1
 | [],_=>fun q h=>by simp [inGL] at h
 | t :: ts,h=>fun q hq=>by
  simp only [fineL,Bool.and_eq_true] at h
  simp only [inGL] at hq
  rcases hq with hq | hq
  ·exact inG_pos t h.1 q hq
  ·exact inGL_pos ts h.2 q hq
end
def progT (t:Tn):List In:=⟨3,1,0,0,[]⟩ :: (t.S.lay 1 ++ [⟨3,((t.S.len + 2:Nat):Int),0,1,[]⟩,⟨5,0,0,0,[]⟩])
theorem prog_len (t:Tn):(progT t).length=t.S.len + 3:=by simp [progT,lay_len]
theorem prog_may {t:Tn} (hf:t.fine=true) (hn:t.S.len + 3≤20000):mayB (progT t) 0 (2 + 2 * t.top)=true:=by
 have ht:=top_fine t hf
 unfold mayB
 rw [prog_len]
 have hall:((progT t).all fun I=>I.okB ((t.S.len + 3:Nat):Int) (2 + 2 * t.top))=true:=by
  rw [List.all_eq_true]
  intro I hI
  simp only [progT,List.mem_cons,List.mem_append,List.not_mem_nil,or_false] at hI
  rcases hI with rfl | hI | rfl | rfl
  ·simp [In.okB,isTargetB,hasXB,hasYB,belowB,isArgB,isRangesB];omega
  ·refine lay_ok (nf_S t hf) (fun q hq=>?_) 1 (by omega) I hI
   have h1:=(S_inG t q hf).1 hq
   exact ⟨inG_pos t hf q h1,by have:=top_in t q h1;omega⟩
  ·simp [In.okB,isTargetB,hasXB,hasYB,belowB,isArgB,isRangesB];omega
  ·simp [In.okB,isTargetB,hasXB,hasYB,belowB,isArgB,isRangesB]
 rw [hall]
 simp [belowB,capsB]
 omega
theorem lnL_app (a b:List Tn) (n:Nat):lnL (a ++ b) n=lnL b (lnL a n):=by
 induction a generalizing n with
 | nil=>rfl
 | cons t a ih=>simp only [List.cons_append,lnL,ih]
theorem lnL_take (ts:List Tn) (i:Nat) (hi:i < ts.length):lnL (ts.take (i + 1)) 0=min (lnL (ts.take i) 0 + ts[i].ln) 20001:=by
 rw [List.take_succ_eq_append_getElem hi,lnL_app];rfl
theorem lnL_le (ts:List Tn):∀ a,a≤20001→lnL ts a≤20001:=by
 induction ts with
 | nil=>exact fun a h=>h
 | cons t ts ih=>exact fun a h=>ih _ (by omega)
theorem topL_app (a b:List Tn) (n:Int):topL (a ++ b) n=topL b (topL a n):=by
 induction a generalizing n with
 | nil=>rfl
 | cons t a ih=>simp only [List.cons_append,topL,ih]
theorem topL_take (ts:List Tn) (i:Nat) (hi:i < ts.length) (a:Int):topL (ts.take (i + 1)) a=max (topL (ts.take i) a) ts[i].top:=by
 rw [List.take_succ_eq_append_getElem hi,topL_app];rfl
def repLn (p:Nat) (mx:Int) (s:Nat):Nat:=if mx≠-1 then p * s + (mx - p).toNat * (1 + s) else if p=0 then s + 2 else p * s + 1
theorem repLn_le {p s:Nat} {mx:Int} (hp:p≤1000) (hm:mx=-1∨(p:Int)≤mx∧mx≤1000) (hs:s≤20001):repLn p mx s≤50000000:=by
 unfold repLn
 have h1:p * s≤1000 * 20001:=Nat.mul_le_mul hp hs
 have h2:(mx - p).toNat * (1 + s)≤1000 * 20002:=Nat.mul_le_mul (by omega) (by omega)
 split
 ·omega
 ·split <;> omega
theorem ln_le (t:Tn) (h:t.fine=true) (hn:t.nodes≤200000):t.ln≤50000000:=by
 obtain ⟨k,R,a,s,mn,mx,lz,ix,nm⟩:=t
 simp only [Tn.fine,Bool.and_eq_true] at h
 have hfk:=fine_kind0 h.1
 have hl:=lnL_le s 0 (by omega)
 have hg:=nodes_ge s
 simp only [Tn.nodes] at hn
 simp only [Tn.ln]
 split
 ·omega
 split
 ·omega
 split
 ·omega
 split
 ·rename_i k6
  have hr:=repLn_le (p:=mn.toNat) (s:=lnL s 0) (mx:=mx) (by omega) (by omega) hl
  unfold repLn at hr
  rw [show ((mn.toNat:Nat):Int)=mn by omega] at hr
  by_cases h0:mn=0
  ·subst h0;simpa using hr
  ·rw [if_neg (show ¬ mn.toNat=0 by omega)] at hr;rw [if_neg h0];exact hr
 ·omega
set_option maxRecDepth 100000 in
set_option maxHeartbeats 4000000 in
theorem rep67 (p s:Nat) (mx:Int) (w:World) (hp:p≤1000) (hm:mx=-1∨(p:Int)≤mx∧mx≤1000) (hs:s≤20001):Calls Tryz.prog 129 #[.int .i64 (p:Int),.int .i64 mx,.int .i64 (s:Int)] w fun e w'=>e=.returned (.int .i64 ((repLn p mx s:Nat):Int))∧w'=w:=by
 obtain ⟨a,ha⟩:∃ a:Nat,a=p * s:=⟨_,rfl⟩
 have h1:a≤1000 * 20001:=by rw [ha];exact Nat.mul_le_mul hp hs
 have hps:(p:Int) * (s:Int)=(a:Int):=by rw [ha];push_cast;rfl
 have w1:IntKind.i64.wrap ((p:Int) * (s:Int))=(a:Int):=by rw [hps];simp [IntKind.wrap,IntKind.bits,IntKind.signed];omega
 by_cases hx:mx=-1
 ·subst hx
  by_cases h0:p=0
  ·subst h0
   have w2:IntKind.i64.wrap ((s:Int) + 2)=(s:Int) + 2:=by simp [IntKind.wrap,IntKind.bits,IntKind.signed];omega
   have e:((repLn 0 (-1) s:Nat):Int)=(s:Int) + 2:=by simp [repLn]
   rw [e]
   go_enter Tryz.func129,Tryz.ntmps129
   go_wp2
   all_goals go_ret
   all_goals exact ⟨rfl,rfl⟩
  ·have g0:((p:Int) == 0)=false:=by simp [h0]
   have w2:IntKind.i64.wrap ((a:Int) + 1)=(a:Int) + 1:=by simp [IntKind.wrap,IntKind.bits,IntKind.signed];omega
   have e:((repLn p (-1) s:Nat):Int)=(a:Int) + 1:=by simp [repLn,h0,ha]
   rw [e]
   clear hps ha
   go_enter Tryz.func129,Tryz.ntmps129
   go_wp2
   all_goals go_ret
   all_goals exact ⟨rfl,rfl⟩
 ·obtain ⟨q,hq⟩:∃ q:Nat,mx - (p:Int)=(q:Int):=⟨(mx - p).toNat,by omega⟩
  obtain ⟨b,hb⟩:∃ b:Nat,b=q * (1 + s):=⟨_,rfl⟩
  have h2:b≤1000 * 20002:=by rw [hb];exact Nat.mul_le_mul (by omega) (by omega)
  have g0:(mx == -1)=false:=by simp [hx]
  have w2:IntKind.i64.wrap (mx - (p:Int))=(q:Int):=by rw [hq];simp [IntKind.wrap,IntKind.bits,IntKind.signed];omega
  have w3:IntKind.i64.wrap (1 + (s:Int))=1 + (s:Int):=by simp [IntKind.wrap,IntKind.bits,IntKind.signed];omega
  have w4:IntKind.i64.wrap ((q:Int) * (1 + (s:Int)))=(b:Int):=by
   have:(q:Int) * (1 + (s:Int))=(b:Int):=by rw [hb];push_cast;rfl
   rw [this];simp [IntKind.wrap,IntKind.bits,IntKind.signed];omega
  have w5:IntKind.i64.wrap ((a:Int) + (b:Int))=(a:Int) + (b:Int):=by simp [IntKind.wrap,IntKind.bits,IntKind.signed];omega
  have e:((repLn p mx s:Nat):Int)=(a:Int) + (b:Int):=by
   unfold repLn
   rw [if_pos hx,hq,ha,hb]
   simp
  rw [e]
  clear hps ha hb hq
  go_enter Tryz.func129,Tryz.ntmps129
  go_wp2
  all_goals go_ret
  all_goals exact ⟨rfl,rfl⟩
set_option maxRecDepth 100000 in
set_option maxHeartbeats 8000000 in
theorem length45 {w0:World} {B:Nat} {N:Nv} {t:Tn} (h:TI w0 B N t):t.fine=true→t.nodes≤200000→∀ (w:World),B≤w.heap.size→(∀ b,b < B→w.heap[b]?=w0.heap[b]?) →
  Calls Tryz.prog 90 #[N.v] w fun e w'=>e=.returned (.int .i64 ((t.ln:Nat):Int))∧Below w.heap.size w w':=by
 induction h with
 | @mk N R ts ND ok hr hR hRk hs hS hk ih =>
 intro hf hno w hB hw
 simp only [Tn.fine,Bool.and_eq_true] at hf
 simp only [Tn.nodes] at hno
 have hfk:=fine_kind0 hf.1
 have hlen:ts.length≤200000:=by have:=nodes_ge ts;omega
 have ihS:∀ i (hi:i < ts.length),∀ w1:World,B≤w1.heap.size→(∀ b,b < B→w1.heap[b]?=w0.heap[b]?)→Calls Tryz.prog 90 #[(ND i).v] w1 fun e w'=>e=.returned (.int .i64 ((ts[i].ln:Nat):Int))∧Below w1.heap.size w1 w':=fun i hi=>ih i hi (fineL_get hf.2 i hi) (by have:=nodes_get ts i hi;omega)
 have hLe:∀ i (hi:i < ts.length),ts[i].ln≤50000000:=fun i hi=>ln_le _ (fineL_get hf.2 i hi) (by have:=nodes_get ts i hi;omega)
 obtain ⟨k,r1,r2,r3,a2,s1,s2,s3,a4,a5,a6,a7,a8⟩:=N
 dsimp only at hs hS hfk
 obtain ⟨W,hW⟩:∃ W,W=w.alloc (.cells #[.int .i64 k,.slice r1 r2 r3,.int .i64 a2,.slice s1 s2 s3,.int .i64 a4,.int .i64 a5,.bool a6,.int .i64 a7,.string a8] 25):=⟨_,rfl⟩
 have hBW:Below w.heap.size w W:=by rw [hW];exact Joins.below_alloc1 w _
 have hSW:W.heap.size=w.heap.size + 1:=by rw [hW];simp
 have hBN:BNo W w.heap.size ⟨k,r1,r2,r3,a2,s1,s2,s3,a4,a5,a6,a7,a8⟩:=by rw [hW];exact heap_alloc_new w _
 obtain ⟨z,hz⟩:∃ z,z=w.heap.size:=⟨_,rfl⟩
 rw [← hz] at hBN hSW hB
 have hwW:∀ b,b < B→W.heap[b]?=w0.heap[b]?:=fun b hb=>(hBW.block b (by omega)).trans (hw b hb)
 obtain ⟨q0,q1,q2,q3,q4,q5,q6,q7,q8⟩:=nine' hBN
 have hm2:s2≤200000:=by omega
 have HBN:=hid hBN
 have HBW:=hid hBW
 have HSW:=hid hSW
 have HZ:=hid hz
 have HWW:=hid hwW
 have HIS:=hid ihS
 have HLE:=hid hLe
 have HS:=hid hS
 have HL:=hid hs
 have HFK:=hid hfk
 have HT:Hid ((Tn.mk k R a2 ts a4 a5 a6 a7 a8).ln=(Tn.mk k R a2 ts a4 a5 a6 a7 a8).ln):=rfl
 obtain ⟨TL0,hTL⟩:∃ x:Nat,x=(Tn.mk k R a2 ts a4 a5 a6 a7 a8).ln:=⟨_,rfl⟩
 show Calls Tryz.prog 90 _ w fun e w'=>e=.returned (.int .i64 (((Tn.mk k R a2 ts a4 a5 a6 a7 a8).ln:Nat):Int))∧_
 rw [← hTL]
 have HTL:=hid hTL
 clear hw hBN hBW hSW hwW ihS hLe hS hk ih hf hno hfk hlen ok hr hR hRk hs HT hTL
 go_enter Tryz.func90,Tryz.ntmps90
 go_upto_region 1 with fail
 rw [← hz,← hW]
 clear hz hW
 go_wp2_with fail
 go_loopw [3,9] (fun u y wq=>∃ (i a:Nat),u=.int .i64 (a:Int)∧y=.int .i64 (i:Int)∧i≤s2∧a≤20001∧Hid (a=lnL (ts.take i) 0)∧Hid (Below W.heap.size W wq)) (fun _ y _=>s2 - (intOf y).toNat)
 case atStart=>exact ⟨0,0,rfl,rfl,by omega,by omega,by show _=_;simp [lnL],Below.refl _ _⟩
 case round =>
  obtain ⟨i,a,rfl,rfl,hi,ha,HA,HB⟩:=hrel
  have hbs:=HB.out.size
  have hsw:=HSW.out
  have bN:=(HB.out.block z (by omega)).trans HBN.out
  clear q0 q1 q2 q3 q4 q5 q6 q7 q8
  obtain ⟨q0,q1,q2,q3,q4,q5,q6,q7,q8⟩:=nine' bN
  clear bN
  by_cases hil:i < s2
  ·have b1:decide ((i:Int) < (s2:Int))=true:=by simp;omega
   have b2:(i:Int) < (s2:Int):=by omega
   have ad1:IntKind.i64.wrap ((i:Int) + 1)=(i:Int) + 1:=by simp [IntKind.wrap,IntKind.bits,IntKind.signed];omega
   have hlt:i < ts.length:=by have:=HL.out;omega
   obtain ⟨b,o,hs1,hbl,h9⟩:=HS.out (by omega)
   subst hs1
   have hwk:∀ b,b < B→wr.heap[b]?=w0.heap[b]?:=fun b hb=>(HB.out.block b (by omega)).trans (HWW.out b hb)
   obtain ⟨n0,n1,n2,n3,n4,n5,n6,n7,n8⟩:=(h9 i hlt).kept (hwk b hbl)
   obtain ⟨M,hMe⟩:∃ M,M=ND i:=⟨_,rfl⟩
   have hIH:=HIS.out i hlt
   have hle:=HLE.out i hlt
   have htk:=lnL_take ts i hlt
   rw [← HA.out] at htk
   obtain ⟨l,hl⟩:∃ l,l=ts[i].ln:=⟨_,rfl⟩
   rw [← hl] at hIH hle htk
   rw [← hMe] at hIH n0 n1 n2 n3 n4 n5 n6 n7 n8
   have HTK:=hid htk
   have ad2:IntKind.i64.wrap ((a:Int) + (l:Int))=(a:Int) + (l:Int):=by simp [IntKind.wrap,IntKind.bits,IntKind.signed];omega
   obtain ⟨c,hc⟩:∃ c:Nat,min ((a:Int) + (l:Int)) 20001=(c:Int):=⟨min (a + l) 20001,by omega⟩
   have HCC:Hid (c=min (a + l) 20001):=by show _=_;omega
   have HIH:=hid hIH
   have HWK:=hid hwk
   clear h9 hMe hl htk hIH hwk
   go_upto_region 5 with fail
   obtain ⟨X,hX⟩:∃ X,X=wr.alloc (.cells #[.int .i64 M.k,.slice M.r1 M.r2 M.r3,.int .i64 M.a2,.slice M.s1 M.s2 M.s3,.int .i64 M.a4,.int .i64 M.a5,.bool M.a6,.int .i64 M.a7,.string M.a8] 25):=⟨_,rfl⟩
   rw [← hX]
   have hXb:Below wr.heap.size wr X:=by rw [hX];exact Joins.below_alloc1 wr _
   have hXn:BNo X wr.heap.size M:=by rw [hX];exact heap_alloc_new wr _
   have HC:=HIH.out X (by have:=hXb.size;omega) (fun b hb=>(hXb.block b (by omega)).trans (HWK.out b hb))
   obtain ⟨x0,x1,x2,x3,x4,x5,x6,x7,x8⟩:=nine' hXn
   have HXB:=hid hXb
   clear hX hXb hXn n0 n1 n2 n3 n4 n5 n6 n7 n8 q0 q1 q2 q3 q4 q5 q6 q7 q8
   go_wp2_with (first | (go_at_call 90;(with_reducible refine HC.mono ?_);rintro e w2 ⟨rfl,hb2⟩;have HB2:=hid hb2;clear hb2 HC))
   refine ⟨⟨i + 1,c,rfl,by push_cast;rfl,by omega,by have:=HCC.out;omega,?_,?_⟩,by simp [intOf];omega⟩
   ·show _=_
    rw [HTK.out,HCC.out]
   ·exact (HB.out.trans (Joins.below_le HXB.out hbs)).trans (Joins.below_le HB2.out (by have:=HXB.out.size;omega))
  ·have b1:decide ((i:Int) < (s2:Int))=false:=by simp;omega
   obtain rfl:i=s2:=by omega
   have htk:ts.take i=ts:=by rw [HL.out,List.take_length]
   have hA:=HA.out
   rw [htk] at hA
   have hfin:Below w.heap.size w wr:=HBW.out.trans (Joins.below_le HB.out HBW.out.size)
   have HFIN:=hid hfin
   have hTL:=HTL.out
   simp only [Tn.ln] at hTL
   rw [← hA] at hTL
   have HHL:=hid HL.out
   clear hfin htk hA HA HB HIS HLE HS HWW
   by_cases k2:k=2
   ·subst k2
    have e:TL0=1:=by rw [hTL];simp
    subst e
    clear hTL
    go_wp2
    all_goals go_ret
    all_goals exact ⟨rfl,HFIN.out⟩
   have g2:(k == 2)=false:=by simp [k2]
   by_cases k3:k=3
   ·subst k3
    have e:TL0=1:=by rw [hTL];simp
    subst e
    clear hTL
    go_wp2
    all_goals go_ret
    all_goals exact ⟨rfl,HFIN.out⟩
   have g3:(k == 3)=false:=by simp [k3]
   by_cases k7:k=7
   ·subst k7
    have e:(TL0:Int)=(a:Int) + 2:=by rw [hTL];simp
    have w2:IntKind.i64.wrap ((a:Int) + 2)=(a:Int) + 2:=by simp [IntKind.wrap,IntKind.bits,IntKind.signed];omega
    clear hTL
    go_wp2
    all_goals go_ret
    all_goals first | exact ⟨rfl,HFIN.out⟩ | exact ⟨by rw [e],HFIN.out⟩
   have g7:(k == 7)=false:=by simp [k7]
   by_cases k5:k=5
   ·subst k5
    have hge:2≤i:=by have:=HFK.out;have:=HHL.out;omega
    obtain ⟨d,rfl⟩:∃ d,i=d + 1:=⟨i - 1,by omega⟩
    have e:(TL0:Int)=(a:Int) + 2 * (d:Int):=by rw [hTL];simp;have:=HHL.out;omega
    have w2:IntKind.i64.wrap (((d + 1:Nat):Int) - 1)=(d:Int):=by simp [IntKind.wrap,IntKind.bits,IntKind.signed];omega
    have w3:IntKind.i64.wrap (2 * (d:Int))=2 * (d:Int):=by simp [IntKind.wrap,IntKind.bits,IntKind.signed];omega
    have w4:IntKind.i64.wrap ((a:Int) + 2 * (d:Int))=(a:Int) + 2 * (d:Int):=by simp [IntKind.wrap,IntKind.bits,IntKind.signed];omega
    have w5:IntKind.i64.wrap ((d:Int) + 1 - 1)=(d:Int):=by simp [IntKind.wrap,IntKind.bits,IntKind.signed];omega
    clear hTL
    go_wp2
    all_goals go_ret
    all_goals first | exact ⟨rfl,HFIN.out⟩ | exact ⟨by rw [e],HFIN.out⟩
   have g5:(k == 5)=false:=by simp [k5]
   by_cases k6:k=6
   ·subst k6
    obtain ⟨p,hp⟩:∃ p:Nat,a4=(p:Int):=⟨a4.toNat,by have:=HFK.out;omega⟩
    subst hp
    have e:TL0=repLn p a5 a:=by rw [hTL];simp [repLn]
    subst e
    have HC:=fun W'=>rep67 p a a5 W' (by have:=HFK.out;omega) (by have:=HFK.out;omega) ha
    clear hTL
    go_wp2_with (first | (go_at_call 129;(with_reducible refine (HC _).mono ?_);rintro e w3 ⟨rfl,hw3⟩;have hw4:=hw3.symm;clear hw3;subst hw4))
    all_goals go_ret
    all_goals exact ⟨rfl,HFIN.out⟩
   have g6:(k == 6)=false:=by simp [k6]
   have e:TL0=a:=by rw [hTL];simp [k2,k3,k5,k6,k7]
   subst e
   clear hTL
   go_wp2
   all_goals go_ret
   all_goals exact ⟨rfl,HFIN.out⟩
set_option maxRecDepth 100000 in
set_option maxHeartbeats 4000000 in
theorem whole29 {w:World} {N:Nv} {t:Tn} (h:TI w w.heap.size N t) (hf:t.fine=true) (hn:t.nodes≤200000):Calls Tryz.prog 51 #[N.v] w fun e w'=>e=.returned (.int .i64 (3 + (t.ln:Int)))∧Below w.heap.size w w':=by
 have hle:=ln_le t hf hn
 have HC:=length45 h hf hn (w.alloc (.cells #[.int .i64 N.k,.slice N.r1 N.r2 N.r3,.int .i64 N.a2,.slice N.s1 N.s2 N.s3,.int .i64 N.a4,.int .i64 N.a5,.bool N.a6,.int .i64 N.a7,.string N.a8] 25)) (by simp) (fun b hb=>heap_alloc_old w _ hb)
 obtain ⟨l,hl⟩:∃ l,l=t.ln:=⟨_,rfl⟩
 rw [← hl] at HC hle ⊢
 have w2:IntKind.i64.wrap (3 + (l:Int))=3 + (l:Int):=by simp [IntKind.wrap,IntKind.bits,IntKind.signed];omega
 clear hl h
 go_enter Tryz.func51,Tryz.ntmps51
 go_wp2_with (first | (go_at_call 90;(with_reducible refine HC.mono ?_);rintro e w3 ⟨rfl,hb3⟩;have HB3:=hid hb3;clear hb3 HC))
 all_goals go_ret
 all_goals exact ⟨rfl,(Joins.below_alloc1 w _).trans (Joins.below_le HB3.out (by simp))⟩
set_option maxRecDepth 100000 in
set_option maxHeartbeats 8000000 in
theorem great33 {w0:World} {B:Nat} {N:Nv} {t:Tn} (h:TI w0 B N t):t.fine=true→t.nodes≤200000→∀ (w:World),B≤w.heap.size→(∀ b,b < B→w.heap[b]?=w0.heap[b]?) →
  Calls Tryz.prog 55 #[N.v] w fun e w'=>e=.returned (.int .i64 t.top)∧Below w.heap.size w w':=by
 induction h with
 | @mk N R ts ND ok hr hR hRk hs hS hk ih =>
 intro hf hno w hB hw
 simp only [Tn.fine,Bool.and_eq_true] at hf
 simp only [Tn.nodes] at hno
 have hfk:=fine_kind0 hf.1
 have hlen:ts.length≤200000:=by have:=nodes_ge ts;omega
 have ihS:∀ i (hi:i < ts.length),∀ w1:World,B≤w1.heap.size→(∀ b,b < B→w1.heap[b]?=w0.heap[b]?)→Calls Tryz.prog 55 #[(ND i).v] w1 fun e w'=>e=.returned (.int .i64 ts[i].top)∧Below w1.heap.size w1 w':=fun i hi=>ih i hi (fineL_get hf.2 i hi) (by have:=nodes_get ts i hi;omega)
 have hLe:∀ i (hi:i < ts.length),0≤ts[i].top∧ts[i].top≤500:=fun i hi=>top_fine _ (fineL_get hf.2 i hi)
 have hix:=fine_ix hf.1
 obtain ⟨k,r1,r2,r3,a2,s1,s2,s3,a4,a5,a6,a7,a8⟩:=N
 dsimp only at hs hS hfk hix
 obtain ⟨W,hW⟩:∃ W,W=w.alloc (.cells #[.int .i64 k,.slice r1 r2 r3,.int .i64 a2,.slice s1 s2 s3,.int .i64 a4,.int .i64 a5,.bool a6,.int .i64 a7,.string a8] 25):=⟨_,rfl⟩
 have hBW:Below w.heap.size w W:=by rw [hW];exact Joins.below_alloc1 w _
 have hSW:W.heap.size=w.heap.size + 1:=by rw [hW];simp
 have hBN:BNo W w.heap.size ⟨k,r1,r2,r3,a2,s1,s2,s3,a4,a5,a6,a7,a8⟩:=by rw [hW];exact heap_alloc_new w _
 obtain ⟨z,hz⟩:∃ z,z=w.heap.size:=⟨_,rfl⟩
 rw [← hz] at hBN hSW hB
 have hwW:∀ b,b < B→W.heap[b]?=w0.heap[b]?:=fun b hb=>(hBW.block b (by omega)).trans (hw b hb)
 obtain ⟨q0,q1,q2,q3,q4,q5,q6,q7,q8⟩:=nine' hBN
 have hm2:s2≤200000:=by omega
 have HBN:=hid hBN
 have HBW:=hid hBW
 have HSW:=hid hSW
 have HZ:=hid hz
 have HWW:=hid hwW
 have HIS:=hid ihS
 have HLE:=hid hLe
 have HS:=hid hS
 have HL:=hid hs
 have HFK:=hid hfk
 obtain ⟨T0,hT0⟩:∃ x:Int,x=topL ts a7:=⟨_,rfl⟩
 show Calls Tryz.prog 55 _ w fun e w'=>e=.returned (.int .i64 (topL ts a7))∧_
 rw [← hT0]
 have HT0:=hid hT0
 clear hw hBN hBW hSW hwW ihS hLe hS hk ih hf hno hfk hlen ok hr hR hRk hs hT0
 go_enter Tryz.func55,Tryz.ntmps55
 go_upto_region 1 with fail
 rw [← hz,← hW]
 clear hz hW
 go_wp2_with fail
 go_loopw [3,11] (fun u y wq=>∃ (i:Nat) (a:Int),u=.int .i64 a∧y=.int .i64 (i:Int)∧i≤s2∧(0≤a∧a≤500)∧Hid (a=topL (ts.take i) a7)∧Hid (Below W.heap.size W wq)) (fun _ y _=>s2 - (intOf y).toNat)
 case atStart=>exact ⟨0,a7,rfl,rfl,by omega,hix,by show _=_;simp [topL],Below.refl _ _⟩
 case round =>
  obtain ⟨i,a,rfl,rfl,hi,ha,HA,HB⟩:=hrel
  have hbs:=HB.out.size
  have hsw:=HSW.out
  have bN:=(HB.out.block z (by omega)).trans HBN.out
  clear q0 q1 q2 q3 q4 q5 q6 q7 q8
  obtain ⟨q0,q1,q2,q3,q4,q5,q6,q7,q8⟩:=nine' bN
  clear bN
  by_cases hil:i < s2
  ·have b1:decide ((i:Int) < (s2:Int))=true:=by simp;omega
   have b2:(i:Int) < (s2:Int):=by omega
   have ad1:IntKind.i64.wrap ((i:Int) + 1)=(i:Int) + 1:=by simp [IntKind.wrap,IntKind.bits,IntKind.signed];omega
   have hlt:i < ts.length:=by have:=HL.out;omega
   obtain ⟨b,o,hs1,hbl,h9⟩:=HS.out (by omega)
   subst hs1
   have hwk:∀ b,b < B→wr.heap[b]?=w0.heap[b]?:=fun b hb=>(HB.out.block b (by omega)).trans (HWW.out b hb)
   obtain ⟨n0,n1,n2,n3,n4,n5,n6,n7,n8⟩:=(h9 i hlt).kept (hwk b hbl)
   obtain ⟨M,hMe⟩:∃ M,M=ND i:=⟨_,rfl⟩
   have hIH:=HIS.out i hlt
   have hle:=HLE.out i hlt
   have htk:=topL_take ts i hlt a7
   rw [← HA.out] at htk
   obtain ⟨l,hl⟩:∃ l,l=ts[i].top:=⟨_,rfl⟩
   rw [← hl] at hIH hle htk
   rw [← hMe] at hIH n0 n1 n2 n3 n4 n5 n6 n7 n8
   have HTK:=hid htk
   obtain ⟨c,hc⟩:∃ c:Int,max a l=c:=⟨_,rfl⟩
   have HCC:=hid hc
   have HIH:=hid hIH
   have HWK:=hid hwk
   clear h9 hMe hl htk hIH hwk
   go_upto_region 5 with fail
   obtain ⟨X,hX⟩:∃ X,X=wr.alloc (.cells #[.int .i64 M.k,.slice M.r1 M.r2 M.r3,.int .i64 M.a2,.slice M.s1 M.s2 M.s3,.int .i64 M.a4,.int .i64 M.a5,.bool M.a6,.int .i64 M.a7,.string M.a8] 25):=⟨_,rfl⟩
   rw [← hX]
   have hXb:Below wr.heap.size wr X:=by rw [hX];exact Joins.below_alloc1 wr _
   have hXn:BNo X wr.heap.size M:=by rw [hX];exact heap_alloc_new wr _
   have HC:=HIH.out X (by have:=hXb.size;omega) (fun b hb=>(hXb.block b (by omega)).trans (HWK.out b hb))
   obtain ⟨x0,x1,x2,x3,x4,x5,x6,x7,x8⟩:=nine' hXn
   have HXB:=hid hXb
   clear hX hXb hXn n0 n1 n2 n3 n4 n5 n6 n7 n8 q0 q1 q2 q3 q4 q5 q6 q7 q8
   go_wp2_with (first | (go_at_call 55;(with_reducible refine HC.mono ?_);rintro e w2 ⟨rfl,hb2⟩;have HB2:=hid hb2;clear hb2 HC))
   refine ⟨⟨i + 1,c,rfl,by push_cast;rfl,by omega,by have:=HCC.out;omega,?_,?_⟩,by simp [intOf];omega⟩
   ·show _=_
    rw [HTK.out];exact HCC.out.symm
   ·exact (HB.out.trans (Joins.below_le HXB.out hbs)).trans (Joins.below_le HB2.out (by have:=HXB.out.size;omega))
  ·have b1:decide ((i:Int) < (s2:Int))=false:=by simp;omega
   obtain rfl:i=s2:=by omega
   have htk:ts.take i=ts:=by rw [HL.out,List.take_length]
   have hA:=HA.out
   rw [htk] at hA
   have hfin:Below w.heap.size w wr:=HBW.out.trans (Joins.below_le HB.out HBW.out.size)
   have HFIN:=hid hfin
   have e:T0=a:=by rw [HT0.out];exact hA.symm
   subst e
   clear hfin htk hA HA HB HIS HLE HS HWW
   go_wp2
   all_goals go_ret
   all_goals exact ⟨rfl,HFIN.out⟩
theorem results_cell_tmp {P:Program} {fn:Func} {p u:Tmp} {ty:TypeId} (h:fn.results=#[.cell p ty,.tmp u]) (tmps:Array Value) (w:World) (g:Nat) (t:TypeId) (cs:Array Value) (fr:Nat × Nat) (d:TypeDesc)
  (hp:tmps.getD p undef=.pointer (some ⟨g,0,none⟩)) (hg:w.heap[g]?=some (.cells cs t fr))
  (hu:P.underlying ty=some d) (hd:(match d with | .struct _ | .array _ _=>true | _=>false)=true) (hi:(P.info? ty).map (·.size)=some cs.size) :
  (results fn tmps).run P w=.ok (.tuple #[.agg cs,tmps.getD u undef]) w:=by
 have hp':tmps[p]?.getD undef=.pointer (some ⟨g,0,none⟩):=by simpa using hp
 simp [results,h,hp',asAddr,run_loadVar_row w g t ty cs fr d hg hu hd hi]
def errC (t:Tn):Int:=if t.sound then (if 20000 < 3 + t.ln then 3 else errS t) else 50
abbrev Bz3' (w:World) (b:Nat):Prop:=w.heap[b]?=some (.cells #[.slice none 0 0,.int .i64 0,.int .i64 0] 46 (0,0))

end Go.Proofs.YtacaanhnlfpbhaaGreat
namespace Go.Proofs.YtacaanhnlfpbhaaGreat
open Go.RowKit Go.Lib
set_option linter.unusedVariables false
set_option linter.unusedSimpArgs false
set_option maxHeartbeats 1000000 in
theorem right_long (L:List (Int × Int)) (ad:Option Addr) (n cap:Nat) (w:World) (hS:5000 < n) (hS2:n≤17592186044416) :
  Calls Tryz.prog 169 #[.slice ad n cap] w fun e w'=>e=.returned (.bool false)∧Below w.heap.size w w':=by
 go_enter Tryz.func169,Tryz.ntmps169
 go_wp2
 go_ret
 exact ⟨rfl,Below.refl _ _⟩
theorem right25 (L:List (Int × Int)) (ad:Option Addr) (n cap:Nat) (w:World) (hn:n=L.length) (hS2:n≤17592186044416) (hl:RowAt w.heap.size w (.slice ad n cap) L) :
  Calls Tryz.prog 169 #[.slice ad n cap] w fun e w'=>e=.returned (.bool (rightB L))∧Below w.heap.size w w':=by
 by_cases h:n≤5000
 ·have e:rightB L=rightFrom 0 L:=by unfold rightB;rw [← hn];simp [h]
  rw [e]
  exact right_short L ad n cap w hn h hl
 ·have e:rightB L=false:=by unfold rightB;rw [← hn];simp [h]
  rw [e]
  exact right_long L ad n cap w (by omega) hS2
end Go.Proofs.YtacaanhnlfpbhaaGreat
namespace Go.Proofs.YtacaanhnlfpbhaaGreat
open Go.RowKit
set_option linter.unusedVariables false
set_option linter.unusedSimpArgs false
theorem below38 (n c:Int) (w:World):Calls Tryz.prog 126 #[.int .i64 n,.int .i64 c] w fun e w'=>e=.returned (.bool (belowB n c))∧w'=w:=by
 go_enter Tryz.func126,Tryz.ntmps126
 go_wp2
 all_goals go_ret
 all_goals exact ⟨ret_bool (by (simp_all [belowB]) <;> (intros;omega)),rfl⟩
theorem caps39 (c:Int) (w:World):Calls Tryz.prog 127 #[.int .i64 c] w fun e w'=>e=.returned (.bool (capsB c))∧w'=w:=by
 go_enter Tryz.func127,Tryz.ntmps127
 go_wp2
 all_goals go_ret
 all_goals refine ⟨ret_bool ?_,rfl⟩
 all_goals first | (simp_all [capsB];done) | (simp [capsB,Int.tmod_eq_emod] <;> omega)
theorem hasX61 (op:Int) (w:World):Calls Tryz.prog 192 #[.int .i64 op] w fun e w'=>e=.returned (.bool (hasXB op))∧w'=w:=by
 go_enter Tryz.func192,Tryz.ntmps192
 go_wp2
 all_goals go_ret
 all_goals exact ⟨ret_bool (by simp_all [hasXB]),rfl⟩
theorem hasY62 (op:Int) (w:World):Calls Tryz.prog 193 #[.int .i64 op] w fun e w'=>e=.returned (.bool (hasYB op))∧w'=w:=by
 go_enter Tryz.func193,Tryz.ntmps193
 go_wp2
 all_goals go_ret
 all_goals exact ⟨ret_bool (by simp_all [hasYB]),rfl⟩
theorem target60 (tox:Int) (has:Bool) (c:Int) (w:World):Calls Tryz.prog 191 #[.int .i64 tox,.bool has,.int .i64 c] w fun e w'=>e=.returned (.bool (isTargetB tox has c))∧w'=w:=by
 have HC:=below38 tox c w
 cases has
 ·go_enter Tryz.func191,Tryz.ntmps191
  go_wp2
  all_goals go_ret
  all_goals exact ⟨ret_bool (by simp_all [isTargetB]),rfl⟩
 ·go_enter Tryz.func191,Tryz.ntmps191
  go_wp2_with (first | (go_at_call 126;(with_reducible refine HC.mono ?_);rintro e w2 ⟨rfl,rfl⟩))
  all_goals go_ret
  all_goals exact ⟨ret_bool (by simp [isTargetB]),rfl⟩
theorem assert80 (n:Int) (w:World):Calls Tryz.prog 231 #[.int .i64 n] w fun e w'=>e=.returned (.bool (assertB n))∧w'=w:=by
 go_enter Tryz.func231,Tryz.ntmps231
 go_wp2
 all_goals go_ret
 all_goals exact ⟨ret_bool (by simp_all [assertB]),rfl⟩
theorem arg63 (op arg caps:Int) (w:World):Calls Tryz.prog 194 #[.int .i64 op,.int .i64 arg,.int .i64 caps] w fun e w'=>e=.returned (.bool (isArgB op arg caps))∧w'=w:=by
 have H1:=below38 arg caps w
 have H2:=below38 arg 100 w
 have H3:=assert80 arg w
 go_enter Tryz.func194,Tryz.ntmps194
 go_wp2_with (first | (go_at_call 126;(first | (with_reducible refine H1.mono ?_) | (with_reducible refine H2.mono ?_));rintro e w2 ⟨rfl,rfl⟩) | (go_at_call 231;(with_reducible refine H3.mono ?_);rintro e w2 ⟨rfl,rfl⟩))
 all_goals go_ret
 all_goals exact ⟨ret_bool (by simp_all [isArgB]),rfl⟩
theorem ranges64 (op:Int) (R:List (Int × Int)) (ad:Option Addr) (n cap:Nat) (w:World) (hn:n=R.length) (hS:n * 16≤140737488351232) (hl:RowAt w.heap.size w (.slice ad n cap) R) :
  Calls Tryz.prog 195 #[.int .i64 op,.slice ad n cap] w fun e w'=>e=.returned (.bool (isRangesB op R))∧Below w.heap.size w w':=by
 have HC:=right25 R ad n cap w hn (by omega) hl
 have HN:=hid' hn
 clear hn hl
 by_cases h1:op=1
 ·subst h1
  by_cases h0:n=0
  ·subst h0
   go_enter Tryz.func195,Tryz.ntmps195
   go_wp2
   all_goals go_ret
   all_goals exact ⟨ret_bool (by simp [isRangesB,← HN.out]),Below.refl _ _⟩
  ·have b1:decide ((n:Int) > 0)=true:=by simp;omega
   have b2:decide ((0:Int) < (n:Int))=true:=by simp;omega
   go_enter Tryz.func195,Tryz.ntmps195
   go_wp2_with (first | (go_at_call 169;(with_reducible refine HC.mono ?_);rintro e w2 ⟨rfl,hb⟩;have HB:=hid' hb;clear hb HC))
   all_goals go_ret
   all_goals exact ⟨ret_bool (by simp [isRangesB,← HN.out];intro h;omega),HB.out⟩
 ·have b0:(op != 1)=true:=by simpa using h1
  go_enter Tryz.func195,Tryz.ntmps195
  go_wp2
  all_goals go_ret
  all_goals exact ⟨ret_bool (by simp only [isRangesB,← HN.out];rw [if_neg (by simpa using h1),Bool.eq_iff_iff];simp),Below.refl _ _⟩
theorem below_drewN' {B:Nat} {a w:World} (h:Below B a w) (n:Nat):Below B a (w.drewN n):=h.trans ⟨rfl,rfl,rfl,Nat.le_refl _,fun _ _=>rfl⟩
end Go.Proofs.YtacaanhnlfpbhaaGreat
