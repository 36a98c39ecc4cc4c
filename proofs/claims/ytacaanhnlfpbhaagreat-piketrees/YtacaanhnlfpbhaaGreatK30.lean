/- HELPERS: texts of ours put together. -/
import Derived.Test.YtacaanhnlfpbhaaGreatK29
import Derived.Test.YtacaanhnlfpbhaaGreatK28
import Derived.Test.YtacaanhnlfpbhaaGreatK08
import Derived.Test.YtacaanhnlfpbhaaGreatK23
import Derived.Test.YtacaanhnlfpbhaaGreatK01
import Derived.Test.YtacaanhnlfpbhaaGreatK02
import Derived.Laws.Rows
import Derived.Test.YtacaanhnlfpbhaaGreatK21
import Derived.Test.YtacaanhnlfpbhaaGreatK03
import Derived.Test.YtacaanhnlfpbhaaGreatK25
import Derived.Test.YtacaanhnlfpbhaaGreatK09
import Derived.Test.YtacaanhnlfpbhaaGreatK04
import Derived.Deep.SlicePairs
import Derived.RowKit
import Derived.Test.YtacaanhnlfpbhaaGreatProg
import Derived.WalkKit
import Derived.ProofKit
import Derived.BigQuiet
import Derived.WalkSmall
import Derived.Deep.QuietTactic
import Derived.Deep.RegionWith
import Derived.Lib.SmallJoins
import Derived.Lib.MinMax
import Derived.Maps.AppendAt
import Derived.Laws.AppendOwnNone
import Derived.Lib.Small
import Derived.Test.YtacaanhnlfpbhaaGreatK05
import Derived.Deep.Cut
import Derived.Deep.CutRange
import Derived.Deep.RegionHeld3
import Derived.Laws.EntriesVeiled
import Derived.OrdersHeld
import Derived.StillTail
import Derived.Tactics
import Derived.Below
import Derived.Deep.MidRow
import Derived.Deep.OwnRows
import Derived.WalkLawsBesides
import Derived.Deep.RegionLaw
import Derived.Laws.CopyOwn
import Derived.Lib.LazyBuf
import Derived.Deep.Onto
import Derived.Laws.StructEq
import Derived.Deep.DrawnRows
import Derived.Test.YtacaanhnlfpbhaaGreatK12
import Derived.Test.YtacaanhnlfpbhaaGreatK27
import Derived.Test.YtacaanhnlfpbhaaGreatK17
import Derived.Test.YtacaanhnlfpbhaaGreatK18
import Derived.Test.YtacaanhnlfpbhaaGreatK11
import Derived.Test.YtacaanhnlfpbhaaGreatK07
import Derived.RegionTactic
import Derived.ChangeAlike
import Derived.OwnWalk
namespace Go.Proofs.YtacaanhnlfpbhaaGreat
open Go.RowKit
set_option linter.unusedVariables false
set_option linter.unusedSimpArgs false
mutual
theorem top_in:∀ (t:Tn) (q:Gk),t.inG q→q.1≤t.top
 | .mk k R a s mn mx lz ix nm,q,h=>by
  simp only [Tn.inG] at h
  simp only [Tn.top]
  rcases h.2 with ⟨_,h1⟩ | h1
  ·rw [← h1];exact topL_ge s ix
  ·exact topL_in s ix q h1
theorem topL_in:∀ (ts:List Tn) (a:Int) (q:Gk),inGL q ts→q.1≤topL ts a
 | [],a,q,h=>by simp [inGL] at h
 | t :: ts,a,q,h=>by
  simp only [inGL] at h
  simp only [topL]
  rcases h with h | h
  ·have:=top_in t q h;have:=topL_ge ts (max a t.top);omega
  ·exact topL_in ts _ q h
end
theorem fork_ok {r p:Nat} {lz:Bool} {c caps:Int} (hr:(r:Int) < c) (hp:(p:Int) < c):(forkI r p lz).okB c caps=true:=by
 unfold forkI
 cases lz <;> simp [In.okB,isTargetB,hasXB,hasYB,belowB,isArgB,isRangesB] <;> omega
theorem layL_ok {c:Nat} {caps:Int}:∀ (s:List Tn),(∀ u ∈ s,∀ n,n + u.len < c→∀ I ∈ u.lay n,I.okB c caps=true)→∀ n,n + lenL s < c→∀ I ∈ layL s n,I.okB c caps=true
 | [],_,_,_=>fun I hI=>by simp [layL] at hI
 | t :: ts,h,n,hn=>fun I hI=>by
  simp only [lenL] at hn
  simp only [layL,List.mem_append] at hI
  rcases hI with hI | hI
  ·exact h t (by simp) n (by omega) I hI
  ·exact layL_ok ts (fun u hu=>h u (by simp [hu])) (n + t.len) (by omega) I hI
theorem layA_ok {c:Nat} {caps:Int}:∀ (s:List Tn),(∀ u ∈ s,∀ n,n + u.len < c→∀ I ∈ u.lay n,I.okB c caps=true)→∀ (n f:Nat),f < c→n + (lenL s + 2 * (s.length - 1)) < c→∀ I ∈ layA s n (f:Int),I.okB c caps=true
 | [],_,_,_,_,_=>fun I hI=>by simp [layA] at hI
 | [t],h,n,f,hf,hn=>fun I hI=>by
  simp only [layA] at hI
  simp only [lenL] at hn
  exact h t (by simp) n (by omega) I hI
 | t :: u :: ts,h,n,f,hf,hn=>fun I hI=>by
  simp only [layA,List.mem_cons,List.mem_append] at hI
  simp only [lenL,List.length_cons] at hn
  rcases hI with rfl | hI | rfl | hI
  ·simp [In.okB,isTargetB,hasXB,hasYB,belowB,isArgB,isRangesB];omega
  ·exact h t (by simp) (n + 1) (by omega) I hI
  ·simp [In.okB,isTargetB,hasXB,hasYB,belowB,isArgB,isRangesB];omega
  ·exact layA_ok (u :: ts) (fun v hv=>h v (by simp at hv ⊢;exact .inr hv)) (n + t.len + 2) f hf (by simp only [lenL,List.length_cons];omega) I hI
theorem lay_ok {t:Tn} (h:Nf t) {c:Nat} {caps:Int}:(∀ q,t.inG q→1≤q.1∧2 * q.1 + 2≤caps)→∀ n,n + t.len < c→∀ I ∈ t.lay n,I.okB c caps=true:=by
 induction h with
 | @leaf k R a mn mx lz ix nm hk hn =>
  intro hg n hl I hI
  rcases hk with rfl | rfl | rfl
  ·simp [Tn.lay] at hI
  ·simp [Tn.len] at hl
   simp [nodeB,bareB] at hn
   simp only [Tn.lay,if_true] at hI
   split at hI
   ·simp at hI;subst hI;simp [In.okB,isTargetB,hasXB,hasYB,belowB,isArgB,isRangesB]
   ·rename_i hR
    simp at hI;subst hI
    simp [In.okB,isTargetB,hasXB,hasYB,belowB,isArgB,isRangesB,hn.1]
    exact ⟨by omega,by cases R with | nil=>simp at hR | cons x R=>simp⟩
  ·simp [Tn.len] at hl
   simp [nodeB,bareB] at hn
   simp [Tn.lay] at hI;subst hI
   simp [In.okB,isTargetB,hasXB,hasYB,belowB,isArgB,isRangesB,hn]
   omega
 | @cat s h2 h hs ih =>
  intro hg n hl I hI
  have e:(zN 4 s).len=lenL s:=by simp [Tn.len]
  rw [e] at hl
  have e2:(zN 4 s).lay n=layL s n:=by simp [Tn.lay]
  rw [e2] at hI
  exact layL_ok s (fun u hu=>ih u hu fun q hq=>hg q (by simp only [Tn.inG];exact ⟨by omega,.inr (inGL_iff.2 ⟨u,hu,hq⟩)⟩)) n hl I hI
 | @alt s h2 h hs ih =>
  intro hg n hl I hI
  have e:(zN 5 s).len=lenL s + 2 * (s.length - 1):=by simp [Tn.len]
  rw [e] at hl
  have e2:(zN 5 s).lay n=layA s n ((n + (lenL s + 2 * (s.length - 1)):Nat):Int):=by simp [Tn.lay]
  rw [e2] at hI
  exact layA_ok s (fun u hu=>ih u hu fun q hq=>hg q (by simp only [Tn.inG];exact ⟨by omega,.inr (inGL_iff.2 ⟨u,hu,hq⟩)⟩)) n _ hl hl I hI
 | @loop mn mx lz y h hy ih =>
  intro hg n hl I hI
  have ih':=ih fun q hq=>hg q (by simp only [Tn.inG,inGL];exact ⟨by omega,.inr (.inl hq)⟩)
  have hL:∀ n,n + lenL [y] < c→∀ I ∈ layL [y] n,I.okB c caps=true:=layL_ok [y] (fun u hu=>by simp at hu;subst hu;exact ih')
  rcases h with ⟨rfl,rfl⟩ | ⟨rfl,rfl⟩ | ⟨rfl,rfl⟩
  ·have e:(loopT 0 1 lz y).len=lenL [y] + 1:=by simp [Tn.len]
   rw [e] at hl
   have e2:(loopT 0 1 lz y).lay n=forkI (n + 1) (n + 1 + lenL [y]) lz :: layL [y] (n + 1):=by simp [Tn.lay]
   rw [e2,List.mem_cons] at hI
   rcases hI with rfl | hI
   ·exact fork_ok (by omega) (by omega)
   ·exact hL (n + 1) (by omega) I hI
  ·have e:(loopT 0 (-1) lz y).len=lenL [y] + 2:=by simp [Tn.len]
   rw [e] at hl
   have e2:(loopT 0 (-1) lz y).lay n=forkI (n + 1) (n + 1 + lenL [y] + 1) lz :: (layL [y] (n + 1) ++ [⟨7,(n:Int),0,0,[]⟩]):=by simp [Tn.lay]
   rw [e2,List.mem_cons,List.mem_append,List.mem_singleton] at hI
   rcases hI with rfl | hI | rfl
   ·exact fork_ok (by omega) (by omega)
   ·exact hL (n + 1) (by omega) I hI
   ·simp [In.okB,isTargetB,hasXB,hasYB,belowB,isArgB,isRangesB];omega
  ·have e:(loopT 1 (-1) lz y).len=lenL [y] + 1:=by simp [Tn.len]
   rw [e] at hl
   have e2:(loopT 1 (-1) lz y).lay n=layL [y] n ++ [forkI n (n + lenL [y] + 1) lz]:=by simp [Tn.lay]
   rw [e2,List.mem_append,List.mem_singleton] at hI
   rcases hI with hI | rfl
   ·exact hL n (by omega) I hI
   ·exact fork_ok (by omega) (by omega)
 | @grp ix nm y hn hy ih =>
  intro hg n hl I hI
  have h0:=hg (ix,nm.toList) (by simp only [Tn.inG];exact ⟨by omega,.inl ⟨trivial,trivial⟩⟩)
  simp only at h0
  have ih':=ih fun q hq=>hg q (by simp only [Tn.inG,inGL];exact ⟨by omega,.inr (.inl hq)⟩)
  have hL:∀ n,n + lenL [y] < c→∀ I ∈ layL [y] n,I.okB c caps=true:=layL_ok [y] (fun u hu=>by simp at hu;subst hu;exact ih')
  have e:(Tn.mk 7 [] 0 [y] 0 0 false ix nm).len=lenL [y] + 2:=by simp [Tn.len]
  rw [e] at hl
  have e2:(Tn.mk 7 [] 0 [y] 0 0 false ix nm).lay n=⟨3,((n + 1:Nat):Int),0,2 * ix,[]⟩ :: (layL [y] (n + 1) ++ [⟨3,((n + 1 + lenL [y] + 1:Nat):Int),0,2 * ix + 1,[]⟩]):=by simp [Tn.lay]
  rw [e2,List.mem_cons,List.mem_append,List.mem_singleton] at hI
  rcases hI with rfl | hI | rfl
  ·simp [In.okB,isTargetB,hasXB,hasYB,belowB,isArgB,isRangesB];omega
  ·exact hL (n + 1) (by omega) I hI
  ·simp [In.okB,isTargetB,hasXB,hasYB,belowB,isArgB,isRangesB];omega
mutual
theorem inG_pos:∀ (t:Tn),t.fine=true→∀ q:Gk,t.inG q→1≤q.1
 | .mk k R a s mn mx lz ix nm,h=>fun q hq=>by
  simp only [Tn.fine,Bool.and_eq_true] at h
  simp only [Tn.inG] at hq
  rcases hq.2 with ⟨h7,h1⟩ | h1
  ·have:=fine_kind h.1;rw [← h1];simp only;omega
  ·exact inGL_pos s h.2 q h1
theorem inGL_pos:∀ (ts:List Tn),fineL ts=true→∀ q:Gk,inGL q ts→1≤q.1
 | [],_=>fun q h=>by simp [inGL] at h
 | t :: ts,h=>fun q hq=>by
  simp only [fineL,Bool.and_eq_true] at h
  simp only [inGL] at hq
  rcases hq with hq | hq
  ·exact inG_pos t h.1 q hq
  ·exact inGL_pos ts h.2 q hq
end
def progT (t:Tn):List In:=⟨3,1,0,0,[]⟩ :: (t.S.lay 1 ++ [⟨3,((t.S.len + 2:Nat):Int),0,1,[]⟩,⟨5,0,0,0,[]⟩])
theorem prog_len (t:Tn):(progT t).length=t.S.len + 3:=by simp [progT,lay_len]
theorem prog_may {t:Tn} (hf:t.fine=true) (hn:t.S.len + 3≤20000):mayB (progT t) 0 (2 + 2 * t.top)=true:=by
 have ht:=top_fine t hf
 unfold mayB
 rw [prog_len]
 have hall:((progT t).all fun I=>I.okB ((t.S.len + 3:Nat):Int) (2 + 2 * t.top))=true:=by
  rw [List.all_eq_true]
  intro I hI
  simp only [progT,List.mem_cons,List.mem_append,List.not_mem_nil,or_false] at hI
  rcases hI with rfl | hI | rfl | rfl
  ·simp [In.okB,isTargetB,hasXB,hasYB,belowB,isArgB,isRangesB];omega
  ·refine lay_ok (nf_S t hf) (fun q hq=>?_) 1 (by omega) I hI
   have h1:=(S_inG t q hf).1 hq
   exact ⟨inG_pos t hf q h1,by have:=top_in t q h1;omega⟩
  ·simp [In.okB,isTargetB,hasXB,hasYB,belowB,isArgB,isRangesB];omega
  ·simp [In.okB,isTargetB,hasXB,hasYB,belowB,isArgB,isRangesB]
 rw [hall]
 simp [belowB,capsB]
 omega
end Go.Proofs.YtacaanhnlfpbhaaGreat
namespace Go.Proofs.YtacaanhnlfpbhaaGreat
open Go.RowKit Go.Lk
set_option linter.unusedVariables false
set_option linter.unusedSimpArgs false
def whF:Fd→Int
 | none=>0
 | some y=>y.1
def capsF:Fd→List Int
 | none=>[]
 | some y=>y.2
theorem bit_steps {l:List In} {tx:List Int} {s k a:Int} {r r1:Fd} {m' m1:List Pt} (he:errR l s k tx.length a=0) (hf:BitA l tx s k a false r m') (hg:BitA l tx s k a true r1 m1) :
  1≤m'.length∧1≤m1.length∧m1.length≤m'.length∧m'.length≤l.length * (tx.length - a.toNat + 1)∧(r1.isSome=true→r.isSome=true):=by
 obtain ⟨h1,h2,h3,h4⟩:=errR_ok he
 have hmo:=may_ok h2
 obtain ⟨S,rfl⟩:=Int.eq_ofNat_of_zero_le hmo.2.1
 obtain ⟨K,rfl⟩:=Int.eq_ofNat_of_zero_le (show 0≤k by omega)
 have hP:=pr_ok (tx:=tx) h2
 have hl:∀ i x,(prOf l tx S K).A tx.length i≠.rune x:=fun i x=>act_end l tx i x
 have hT:∀ t ∈ bgs (prOf l tx S K) a.toNat false none (tx.length + 1 - a.toNat) a.toNat,t.1 < (prOf l tx S K).n∧a.toNat≤t.2.1∧t.2.1≤tx.length∧t.2.2.length=(prOf l tx S K).K:=fun t ht=>by
  obtain ⟨g1,g2,g3,g4⟩:=bgs_from _ _ _ _ _ _ t ht
  exact ⟨by rw [g1];exact hP.S,g2,by omega,by rw [g4];simp⟩
 have hsm:=(da_ok hP hl hf hT (OkP.nil _ _ _)).1.small
 unfold BitA at hf hg
 rw [show tx.length + 1 - a.toNat=(tx.length - a.toNat) + 1 by omega] at hf hg
 obtain ⟨e1,e2,e3⟩:=steps_plain (P:=prOf l tx S K) hf hg
 exact ⟨by omega,e1,e2,hsm,e3⟩
theorem bit_first {l:List In} {tx:List Int} {s k a:Int} {r:Fd} {m':List Pt} (he:errR l s k tx.length a=0) (hf:BitA l tx s k a false r m') :
  (r=none∧∀ (i:Nat) r1 m1,a.toNat≤i→i≤tx.length→BitA l tx s k i true r1 m1→r1=none) ∨
  ∃ z j,r=some z∧a.toNat≤j∧j≤tx.length∧(∀ (i:Nat) r1 m1,a.toNat≤i→i < j→BitA l tx s k i true r1 m1→r1=none)∧(∀ r1 m1,BitA l tx s k (j:Int) true r1 m1→r1=some z)∧∃ m2,Df (act l tx) [] s.toNat j (List.replicate k.toNat (-1)) m2 (some z):=by
 obtain ⟨h1,h2,h3,h4⟩:=errR_ok he
 have hmo:=may_ok h2
 obtain ⟨S,rfl⟩:=Int.eq_ofNat_of_zero_le hmo.2.1
 obtain ⟨K,rfl⟩:=Int.eq_ofNat_of_zero_le (show 0≤k by omega)
 have hP:=pr_ok (tx:=tx) h2
 have hl:∀ i x,(prOf l tx S K).A tx.length i≠.rune x:=fun i x=>act_end l tx i x
 have hone:∀ (i:Nat) r1 m1,i≤tx.length→BitA l tx (S:Int) (K:Int) (i:Int) true r1 m1→Df (act l tx) [] S i (List.replicate K (-1)) m1 r1:=fun i r1 m1 hi h=>by
  unfold BitA at h
  rw [show tx.length + 1 - ((i:Int)).toNat=(tx.length - i) + 1 by omega,Int.toNat_natCast,bgs_oneG] at h
  exact da_single h
 rcases first_plain hP hl (by omega) hf with ⟨e,h⟩ | ⟨z,j,m2,e1,e2,e3,e4,e5⟩
 ·refine .inl ⟨e,fun i r1 m1 g1 g2 g3=>?_⟩
  obtain ⟨m2,hd⟩:=h i g1 g2
  exact (df_det (hone i r1 m1 g2 g3) hd).2
 ·refine .inr ⟨z,j,e1,e2,e3,fun i r1 m1 g1 g2 g3=>?_,fun r1 m1 g=>?_,m2,e5⟩
  ·obtain ⟨m3,hd⟩:=e4 i g1 g2
   exact (df_det (hone i r1 m1 (by omega) g3) hd).2
  ·exact (df_det (hone j r1 m1 e3 g) e5).2
theorem bit_caps {l:List In} {tx:List Int} {s k a:Int} {anch:Bool} {r:Fd} {m':List Pt} (he:errR l s k tx.length a=0) (hf:BitA l tx s k a anch r m'):∀ y,r=some y→y.2.length=k.toNat:=by
 obtain ⟨h1,h2,h3,h4⟩:=errR_ok he
 have hmo:=may_ok h2
 obtain ⟨S,rfl⟩:=Int.eq_ofNat_of_zero_le hmo.2.1
 obtain ⟨K,rfl⟩:=Int.eq_ofNat_of_zero_le (show 0≤k by omega)
 have hP:=pr_ok (tx:=tx) h2
 have hl:∀ i x,(prOf l tx S K).A tx.length i≠.rune x:=fun i x=>act_end l tx i x
 have hT:∀ t ∈ bgs (prOf l tx S K) a.toNat anch none (tx.length + 1 - a.toNat) a.toNat,t.1 < (prOf l tx S K).n∧a.toNat≤t.2.1∧t.2.1≤tx.length∧t.2.2.length=(prOf l tx S K).K:=fun t ht=>by
  obtain ⟨g1,g2,g3,g4⟩:=bgs_from _ _ _ _ _ _ t ht
  exact ⟨by rw [g1];exact hP.S,g2,by omega,by rw [g4];simp⟩
 exact (da_ok hP hl hf hT (OkP.nil _ _ _)).2.2.2
end Go.Proofs.YtacaanhnlfpbhaaGreat
namespace Go.Proofs.YtacaanhnlfpbhaaGreat
open Go.RowKit
set_option linter.unusedVariables false
set_option linter.unusedSimpArgs false
theorem drew_below (w:World):Below w.heap.size w w.drew:=⟨rfl,rfl,rfl,Nat.le_refl _,fun _ _=>rfl⟩
def In.setX (x:Int) (I:In):In:=⟨I.op,x,I.y,I.a,I.R⟩
def In.setY (y:Int) (I:In):In:=⟨I.op,I.x,y,I.a,I.R⟩
def Iv.setX (x:Int) (N:Iv):Iv:=⟨N.op,x,N.y,N.a,N.r1,N.r2,N.r3⟩
def Iv.setY (y:Int) (N:Iv):Iv:=⟨N.op,N.x,y,N.a,N.r1,N.r2,N.r3⟩
theorem flat5_X:∀ (MS:List Iv) (i:Nat) (x:Int),i < MS.length→(MS.flatMap Iv.cs).set (i * 5 + 1) (.int .i64 x)=(MS.modify i (Iv.setX x)).flatMap Iv.cs
 | [],i,x,h=>by simp at h
 | M :: MS,0,x,h=>by simp [Iv.setX,List.modify]
 | M :: MS,i + 1,x,h=>by
  have ih:=flat5_X MS i x (by simpa using h)
  rw [List.flatMap_cons,show (i + 1) * 5 + 1=(Iv.cs M).length + (i * 5 + 1) by simp;omega,List.set_append_right _ _ (by omega),Nat.add_sub_cancel_left,ih]
  simp [List.modify]
theorem flat5_Y:∀ (MS:List Iv) (i:Nat) (x:Int),i < MS.length→(MS.flatMap Iv.cs).set (i * 5 + 2) (.int .i64 x)=(MS.modify i (Iv.setY x)).flatMap Iv.cs
 | [],i,x,h=>by simp at h
 | M :: MS,0,x,h=>by simp [Iv.setY,List.modify]
 | M :: MS,i + 1,x,h=>by
  have ih:=flat5_Y MS i x (by simpa using h)
  rw [List.flatMap_cons,show (i + 1) * 5 + 2=(Iv.cs M).length + (i * 5 + 2) by simp;omega,List.set_append_right _ _ (by omega),Nat.add_sub_cancel_left,ih]
  simp [List.modify]
theorem row_set1 {w:World} {base e s g n cap j:Nat} {xs:List Value} (h:w.ownsRow base e s (.slice (some ⟨g,0,none⟩) n cap) n xs) (hj:j < xs.length) (v:Value):(w.setCell ⟨g,j,none⟩ v).ownsRow base e s (.slice (some ⟨g,0,none⟩) n cap) n (xs.set j v):=by
 have hlen:=h.1
 refine ⟨by simpa using hlen,.inr ?_⟩
 rcases h.2 with ⟨h,_⟩ | ⟨g',cap',cur,he,hb,hgg,h1,h2,h3,h4⟩
 ·cases h
 ·simp only [Value.slice.injEq,Option.some.injEq,Addr.mk.injEq] at he
  obtain ⟨⟨rfl,_⟩,_,rfl⟩:=he
  refine ⟨g,cap,cur.setIfInBounds j v,rfl,hb,Joins.block_setCell hgg v,h1,h2,by simpa using h3,?_⟩
  rw [← h4,Array.toList_setIfInBounds]
  exact List.take_set
theorem modify_mid (l r:List In) (I:In) (f:In→In):(l ++ I :: r).modify l.length f=l ++ f I :: r:=by
 induction l with
 | nil=>simp [List.modify]
 | cons J l ih=>simp only [List.cons_append,List.length_cons,List.modify_succ_cons,ih]
def layB:List Tn→Nat→Int→List In
 | [],_,_=>[]
 | t :: ts,n,f=>⟨2,((n + 1:Nat):Int),((n + t.len + 2:Nat):Int),0,[]⟩ :: (t.lay (n + 1) ++ ⟨7,f,0,0,[]⟩ :: layB ts (n + t.len + 2) f)
def endsB:List Tn→Nat→List Nat
 | [],_=>[]
 | t :: ts,n=>(n + 1 + t.len) :: endsB ts (n + t.len + 2)
theorem layA_B:∀ (s:List Tn) (u:Tn) (n:Nat) (f:Int),layA (s ++ [u]) n f=layB s n f ++ u.lay (n + lenL s + 2 * s.length)
 | [],u,n,f=>by simp [layA,layB,lenL]
 | [t],u,n,f=>by simp [layA,layB,lenL]
 | t :: v :: s,u,n,f=>by
  have ih:=layA_B (v :: s) u (n + t.len + 2) f
  simp only [List.cons_append] at ih
  simp only [List.cons_append,layA,layB,ih,lenL,List.length_cons,List.append_assoc]
  rw [show n + t.len + 2 + (v.len + lenL s) + 2 * (s.length + 1)=n + (t.len + (v.len + lenL s)) + 2 * (s.length + 1 + 1) by omega]
theorem endsB_app:∀ (s:List Tn) (t:Tn) (n:Nat),endsB (s ++ [t]) n=endsB s n ++ [n + lenL s + 2 * s.length + 1 + t.len]
 | [],t,n=>by simp [endsB,lenL]
 | v :: s,t,n=>by
  have ih:=endsB_app s t (n + v.len + 2)
  simp only [List.cons_append,endsB,ih,lenL,List.length_cons]
  rw [show n + v.len + 2 + lenL s + 2 * s.length + 1 + t.len=n + (v.len + lenL s) + 2 * (s.length + 1) + 1 + t.len by omega]
def setAll (f:Int) (L:List In) (es:List Nat):List In:=es.foldl (fun L e=>L.modify e (In.setX f)) L
theorem setAll_len (f:Int):∀ (es:List Nat) (L:List In),(setAll f L es).length=L.length
 | [],L=>rfl
 | e :: es,L=>by
  show (setAll f (L.modify e (In.setX f)) es).length=_
  rw [setAll_len f es,List.length_modify]
theorem setAll_take (f:Int) (L:List In) (es:List Nat) (j:Nat) (hj:j < es.length):setAll f L (es.take (j + 1))=(setAll f L (es.take j)).modify es[j] (In.setX f):=by
 unfold setAll
 rw [List.take_succ_eq_append_getElem hj,List.foldl_append];rfl
def errC (t:Tn):Int:=if t.sound then (if 20000 < 3 + t.ln then 3 else errS t) else 50
abbrev Bz3' (w:World) (b:Nat):Prop:=w.heap[b]?=some (.cells #[.slice none 0 0,.int .i64 0,.int .i64 0] 46 (0,0))
abbrev CPost (w:World) (t:Tn):Ending→World→Prop:=fun e w'=>∃ ad n c s k,e=.returned (.tuple #[pv ad n c s k,.int .i64 (errC t)])∧Below w.heap.size w w'∧(errC t=0→s=0∧k=2 + 2 * t.top∧∀ W',(∀ b,w.heap.size≤b→b < w'.heap.size→W'.heap[b]?=w'.heap[b]?)→w'.heap.size≤W'.heap.size→PI W' W'.heap.size ad n (progT t))
end Go.Proofs.YtacaanhnlfpbhaaGreat
namespace Go.Proofs.YtacaanhnlfpbhaaGreat
open Go.RowKit Go.Lk
set_option linter.unusedVariables false
set_option linter.unusedSimpArgs false
theorem prog_prg {t:Tn} (hf:t.fine=true):(progT t).getD 0 default=⟨3,1,0,0,[]⟩∧Ld (progT t) 1 (t.S.lay 1)∧(progT t).getD (t.S.len + 1) default=⟨3,((t.S.len + 2:Nat):Int),0,1,[]⟩∧(progT t).getD (t.S.len + 2) default=⟨5,0,0,0,[]⟩∧Prg (progT t) (t.S.len + 2):=by
 have hl:=lay_len t.S 1
 have g0:(progT t).getD 0 default=⟨3,1,0,0,[]⟩:=by simp [progT]
 have g1:Ld (progT t) 1 (t.S.lay 1):=fun j hj=>by
  rw [show 1 + j=j + 1 by omega]
  simp [progT,List.getD_eq_getElem?_getD,List.getElem?_append_left hj]
 have g2:(progT t).getD (t.S.len + 1) default=⟨3,((t.S.len + 2:Nat):Int),0,1,[]⟩:=by
  simp only [progT,List.getD_eq_getElem?_getD,List.getElem?_cons_succ]
  rw [List.getElem?_append_right (by omega),hl]
  simp
 have g3:(progT t).getD (t.S.len + 2) default=⟨5,0,0,0,[]⟩:=by
  simp only [progT,List.getD_eq_getElem?_getD,List.getElem?_cons_succ]
  rw [List.getElem?_append_right (by omega),hl,show t.S.len + 1 - t.S.len=1 by omega]
  simp
 refine ⟨g0,g1,g2,g3,fun i h1 h2=>?_,?_,?_,by omega⟩
 ·have hN:=nf_S t hf
  have hj:i - 1 < (t.S.lay 1).length:=by omega
  have e:=g1 (i - 1) hj
  rw [show 1 + (i - 1)=i by omega] at e
  rw [e]
  refine lay_mid hN (lo:=1) (hi:=t.S.len + 2 - 1) 1 (Nat.le_refl _) (by omega) _ ?_
  rw [List.getD_eq_getElem?_getD,List.getElem?_eq_getElem hj]
  exact List.getElem_mem hj
 ·rw [show t.S.len + 2 - 1=t.S.len + 1 by omega];exact g2
 ·exact g3
theorem df_first {t:Tn} {K:Nat} {tx:List Int} {p:Nat} {l:List (Int × List Int)} (hf:t.fine=true) (hp:p≤tx.length) (h:PS t.S K tx p l) :
  ∃ M' r,Df (act (progT t) tx) [] 0 p (List.replicate K (-1)) M' r∧((r=none∧l=[])∨∃ q c rest,r=some (0,c)∧l=(q,c) :: rest):=by
 obtain ⟨g0,g1,g2,g3,hP⟩:=prog_prg hf
 obtain ⟨E,W,n1,s',hb,_,_,hx,rfl⟩:=h.ex
 obtain ⟨s1,hx1,e1⟩:=prog_ways (nf_S t hf) g0 g1 g2 g3 hb hx
 have w0:prW (progT t) 0=.once ((0:Nat):Int) (.again 1):=by rw [prW_at g0];simp [inW]
 rw [w0] at hx1
 rw [← e1]
 cases hx1 with
 | skip h=>cases h
 | once _ hd =>
  have ho:¬ EnW (progT t) (t.S.len + 2) (.again 1):=fun e=>by have:=en_again.1 e;omega
  obtain ⟨M',r,hw,ho⟩:=ex_df hP hd ⟨by omega,by omega⟩ hp [(0,p)] ((List.replicate K (-1)).set 0 (p:Int)) (fun i j=>by simp;omega) ⟨fun e=>absurd e ho,fun _=>rfl⟩
  refine ⟨M',r,.cap _ _ _ _ 1 0 _ _ (by simp) (by rw [act_at g0];simp [actI]) hw,?_⟩
  rcases ho with ⟨h1,h2,_⟩ | ⟨c,q,rest,h1,h2⟩
  ·exact .inl ⟨h1,by simpa using h2⟩
  ·exact .inr ⟨q,c,rest,h1,by simpa using h2⟩
mutual
theorem top_gi:∀ t:Tn,t.top=t.gi
 | .mk _ _ _ s _ _ _ ix _=>by simp only [Tn.top,Tn.gi];exact topL_gi s ix
theorem topL_gi:∀ (ts:List Tn) (a:Int),topL ts a=giL ts a
 | [],a=>rfl
 | t :: ts,a=>by simp only [topL,giL];rw [top_gi t];exact topL_gi ts _
end
theorem errC_three (t:Tn):errC t=0∨errC t=50∨errC t=3:=by
 unfold errC errS
 split
 ·split
  ·exact .inr (.inr rfl)
  ·split
   ·exact .inr (.inr rfl)
   ·exact .inl rfl
 ·exact .inr (.inl rfl)
theorem errC_facts {t:Tn} (h:errC t=0):t.fine=true∧t.S.nodes≤200000∧t.S.len + 3≤20000:=by
 unfold errC errS at h
 split at h
 ·rename_i hs
  split at h
  ·cases h
  ·rename_i h1
   split at h
   ·cases h
   ·rename_i h2
    simp only [Tn.sound,Bool.and_eq_true,decide_eq_true_eq] at hs
    simp only [Tn.bigS,Bool.or_eq_true,decide_eq_true_eq,not_or] at h2
    have:=ln_len t hs.1.1
    exact ⟨hs.1.1,by omega,by omega⟩
 ·cases h
theorem errP_parts {t:Tn} {tn:Nat} {at_:Int} (h:errP t tn at_=0):tn≤64∧t.sound=true∧t.sz≤2000∧0≤at_∧at_≤(tn:Int):=by
 unfold errP at h
 split at h
 ·cases h
 ·split at h
  ·cases h
  ·split at h
   ·cases h
   ·split at h
    ·cases h
    ·rename_i g1 g2 g3 g4
     exact ⟨by omega,by simpa using g2,by omega,by omega,by omega⟩
theorem errP_on {t:Tn} {tn:Nat} {a q:Int} (h:errP t tn a=0) (h1:a≤q) (h2:q≤tn):errP t tn q=0:=by
 obtain ⟨p1,p2,p3,p4,p5⟩:=errP_parts h
 unfold errP
 rw [if_neg (by omega),if_neg (by simp [p2]),if_neg (by omega),if_neg (by omega)]
end Go.Proofs.YtacaanhnlfpbhaaGreat
namespace Go.Proofs.YtacaanhnlfpbhaaGreat
open Go.RowKit
set_option linter.unusedVariables false
set_option linter.unusedSimpArgs false
theorem nineSet (X:World) (b:Nat) {c0 c1 c2 c3 c4 c5 c6 c7 c8:Value} {t:TypeId} (v0 v1 v2 v3 v4 v5 v6 v7 v8:Value) (h:X.heap[b]?=some (.cells #[c0,c1,c2,c3,c4,c5,c6,c7,c8] t (0,0))):(((((((((X.setCell ⟨b,0,none⟩ v0).setCell ⟨b,1,none⟩ v1).setCell ⟨b,2,none⟩ v2).setCell ⟨b,3,none⟩ v3).setCell ⟨b,4,none⟩ v4).setCell ⟨b,5,none⟩ v5).setCell ⟨b,6,none⟩ v6).setCell ⟨b,7,none⟩ v7).setCell ⟨b,8,none⟩ v8).heap[b]?=some (.cells #[v0,v1,v2,v3,v4,v5,v6,v7,v8] t (0,0)):=by
 have h0:(X.setCell ⟨b,0,none⟩ v0).heap[b]?=some (.cells #[v0,c1,c2,c3,c4,c5,c6,c7,c8] t (0,0)):=Joins.block_setCell (i:=0) h v0
 have h1:((X.setCell ⟨b,0,none⟩ v0).setCell ⟨b,1,none⟩ v1).heap[b]?=some (.cells #[v0,v1,c2,c3,c4,c5,c6,c7,c8] t (0,0)):=Joins.block_setCell (i:=1) h0 v1
 have h2:(((X.setCell ⟨b,0,none⟩ v0).setCell ⟨b,1,none⟩ v1).setCell ⟨b,2,none⟩ v2).heap[b]?=some (.cells #[v0,v1,v2,c3,c4,c5,c6,c7,c8] t (0,0)):=Joins.block_setCell (i:=2) h1 v2
 have h3:((((X.setCell ⟨b,0,none⟩ v0).setCell ⟨b,1,none⟩ v1).setCell ⟨b,2,none⟩ v2).setCell ⟨b,3,none⟩ v3).heap[b]?=some (.cells #[v0,v1,v2,v3,c4,c5,c6,c7,c8] t (0,0)):=Joins.block_setCell (i:=3) h2 v3
 have h4:(((((X.setCell ⟨b,0,none⟩ v0).setCell ⟨b,1,none⟩ v1).setCell ⟨b,2,none⟩ v2).setCell ⟨b,3,none⟩ v3).setCell ⟨b,4,none⟩ v4).heap[b]?=some (.cells #[v0,v1,v2,v3,v4,c5,c6,c7,c8] t (0,0)):=Joins.block_setCell (i:=4) h3 v4
 have h5:((((((X.setCell ⟨b,0,none⟩ v0).setCell ⟨b,1,none⟩ v1).setCell ⟨b,2,none⟩ v2).setCell ⟨b,3,none⟩ v3).setCell ⟨b,4,none⟩ v4).setCell ⟨b,5,none⟩ v5).heap[b]?=some (.cells #[v0,v1,v2,v3,v4,v5,c6,c7,c8] t (0,0)):=Joins.block_setCell (i:=5) h4 v5
 have h6:(((((((X.setCell ⟨b,0,none⟩ v0).setCell ⟨b,1,none⟩ v1).setCell ⟨b,2,none⟩ v2).setCell ⟨b,3,none⟩ v3).setCell ⟨b,4,none⟩ v4).setCell ⟨b,5,none⟩ v5).setCell ⟨b,6,none⟩ v6).heap[b]?=some (.cells #[v0,v1,v2,v3,v4,v5,v6,c7,c8] t (0,0)):=Joins.block_setCell (i:=6) h5 v6
 have h7:((((((((X.setCell ⟨b,0,none⟩ v0).setCell ⟨b,1,none⟩ v1).setCell ⟨b,2,none⟩ v2).setCell ⟨b,3,none⟩ v3).setCell ⟨b,4,none⟩ v4).setCell ⟨b,5,none⟩ v5).setCell ⟨b,6,none⟩ v6).setCell ⟨b,7,none⟩ v7).heap[b]?=some (.cells #[v0,v1,v2,v3,v4,v5,v6,v7,c8] t (0,0)):=Joins.block_setCell (i:=7) h6 v7
 exact Joins.block_setCell (i:=8) h7 v8
theorem may4:mayB L4 0 2=true:=by kernel_rfl
end Go.Proofs.YtacaanhnlfpbhaaGreat
namespace Go.Proofs.YtacaanhnlfpbhaaGreat
open Go.RowKit Go.Lk
set_option linter.unusedVariables false
set_option linter.unusedSimpArgs false
theorem three_cells3 {w:World} {b:Nat} {v0 v1 v2:Value} {t:TypeId} {fr:Nat × Nat} (h:w.heap[b]?=some (.cells #[v0,v1,v2] t fr)):w.cell? ⟨b,0,none⟩=some v0∧w.cell? ⟨b,1,none⟩=some v1∧w.cell? ⟨b,2,none⟩=some v2:=
 ⟨Joins.cell_of_block h 0,Joins.cell_of_block h 1,Joins.cell_of_block h 2⟩
theorem Parsed.first {N:Nat} {w:World} {la:Option Addr} {lc:Nat} {q:Int} {c:List Int} {rest:List (Int × List Int)} (h:Parsed N w (.slice la ((q,c) :: rest).length lc) ((q,c) :: rest)) (hc:0 < c.length):∃ lb fb fc,la=some ⟨lb,0,none⟩∧w.cell? ⟨lb,1,none⟩=some (.slice (some ⟨fb,0,none⟩) c.length fc)∧IR w (.slice (some ⟨fb,0,none⟩) c.length fc) c:=by
 rcases h.ends with ⟨_,e⟩ | ⟨b,cap,e,_⟩
 ·cases e
 ·cases e
  obtain ⟨cb,cc,q1,q2⟩:=h.caps 0 (by simp) hc
  simp only [Nat.zero_mul,Nat.zero_add,List.getElem_cons_zero] at q1 q2
  refine ⟨b,cb,cc,rfl,q1,_,_,rfl,.inr ⟨cb,0,rfl,World.block_lt_of_cell? _ _ (q2 0 hc),fun k hk=>?_⟩⟩
  rw [Nat.zero_add]
  exact q2 k hk
def AnsWk (t:Tn) (tx:List Int) (i:Nat) (w:World) (e:Ending) (w':World):Prop:=
 ∃ la lc l,e=.returned (.tuple #[.slice la l.length lc,.int .i64 0])∧Parsed w.heap.size w' (.slice la l.length lc) l∧PS t.spread t.notes tx i l∧Below w.heap.size w w'
theorem AnsW.ok {t:Tn} {tx:List Int} {tn:Nat} {i:Nat} {w w':World} {e:Ending} (h:AnsW t tx tn (i:Int) w e w') (h0:errP t tn (i:Int)=0):AnsWk t tx i w e w':=by
 obtain ⟨pv,l,rfl,h1,h2,h3,h4⟩:=h
 obtain ⟨la,lc,rfl⟩:=h1.form
 have:=(h2 h0).1
 rw [Int.toNat_natCast] at this
 rw [h0]
 exact ⟨la,lc,l,rfl,h1,this,h4⟩
end Go.Proofs.YtacaanhnlfpbhaaGreat
