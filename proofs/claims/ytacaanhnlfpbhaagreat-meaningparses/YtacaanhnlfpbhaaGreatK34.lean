/- HELPERS: texts of ours put together. -/
import Derived.Test.YtacaanhnlfpbhaaGreatK31
import Derived.Test.YtacaanhnlfpbhaaGreatK33
import Derived.Test.YtacaanhnlfpbhaaGreatK29
import Derived.Test.YtacaanhnlfpbhaaGreatK32
namespace Go.Proofs.YtacaanhnlfpbhaaGreat
open Go.RowKit Go.Lk
set_option linter.unusedVariables false
set_option linter.unusedSimpArgs false
abbrev BgC (C:WC) (Wy:Way) (p:Nat) (s s1:Sg):Prop:=∀ e ∈ C.L,Wy=e.t.fw e.B→WCall C 47 e.t.lb p s s1
abbrev BhC (C:WC) (Wy:Way) (p:Nat) (s s1:Sg):Prop:=∀ e ∈ C.L,Wy=e.B→WCall C 82 e.t.lb p s s1
structure Wk (C:WC) (Wy:Way) (p:Nat) (s s1:Sg):Prop where
 bg:BgC C Wy p s s1
 bh:BhC C Wy p s s1
 dc:∀ lb R a ss mn mx lz ix nm B up nth,(⟨.mk lb 6 R a ss mn mx lz ix nm,B,up,nth⟩:Pl) ∈ C.L→mx < 0→Wy=Kd lz lb B→WCall C 88 lb p s s1
 ch:∀ lb R a ss mn mx lz ix nm B up nth,(⟨.mk lb 6 R a ss mn mx lz ix nm,B,up,nth⟩:Pl) ∈ C.L→(mx < 0∧Wy=.inOrder (if lz=true then [B,.again lb] else [.again lb,B]))∨(¬ mx < 0∧Wy=.inOrder (if lz=true then [B,fwH ss B] else [fwH ss B,B]))→WCall C 87 lb p s s1
 ag:∀ lb R a ss mn mx lz ix nm B up nth,(⟨.mk lb 6 R a ss mn mx lz ix nm,B,up,nth⟩:Pl) ∈ C.L→mx < 0→Wy=.again lb→∀ h:0 < ss.length,WCall C 47 (ss[0]).lb p s s1
 rn:∀ lb R a ss mn mx lz ix nm B up nth,(⟨.mk lb 2 R a ss mn mx lz ix nm,B,up,nth⟩:Pl) ∈ C.L→Wy=.runeOf R B→(p < C.tn→hsB R (C.tx.getD p 0)=true→WCall C 82 lb (p + 1) s s1)∧(¬ (p < C.tn∧hsB R (C.tx.getD p 0)=true)→s1=s)
 ho:∀ lb R a ss mn mx lz ix nm B up nth,(⟨.mk lb 3 R a ss mn mx lz ix nm,B,up,nth⟩:Pl) ∈ C.L→Wy=.ifHolds a B→(holdsB a (atP C.tx p)=true→WCall C 82 lb p s s1)∧(holdsB a (atP C.tx p)=false→s1=s)
 nt:∀ c d,Wy=.noted c d→∃ s2:Sg,BgC C d p { s with notes:=s.notes.set c (p:Int) } s2∧BhC C d p { s with notes:=s.notes.set c (p:Int) } s2∧s2.done=s1.done∧s2.parses=s1.parses
 al:∀ lb R a ss mn mx lz ix nm B up nth,(⟨.mk lb 5 R a ss mn mx lz ix nm,B,up,nth⟩:Pl) ∈ C.L→Wy=.inOrder (fwA ss B)→∃ gs:Nat→Sg,gs 0=s∧gs ss.length=s1∧∀ i (hi:i < ss.length),WCall C 47 (ss[i]).lb p (gs i) (gs (i + 1))∧(gs i).notes=s.notes∧(gs i).parses.length≤70
theorem BgC.at {C:WC} {Wy:Way} {p:Nat} {s s1:Sg} (h:BgC C Wy p s s1) {e:Pl} (he:e ∈ C.L) (hW:Wy=e.t.fw e.B) {lb:Nat} (hl:e.t.lb=lb):WCall C 47 lb p s s1:=hl ▸ h e he hW
theorem BhC.at {C:WC} {Wy:Way} {p:Nat} {s s1:Sg} (h:BhC C Wy p s s1) {e:Pl} (he:e ∈ C.L) (hW:Wy=e.B) {lb:Nat} (hl:e.t.lb=lb):WCall C 82 lb p s s1:=hl ▸ h e he hW
theorem fwA_len (B:Way):∀ ts:List Lt,(fwA ts B).length=ts.length
 | []=>rfl
 | t :: ts=>by simp [fwA,fwA_len B ts]
theorem fwA_get (B:Way):∀ (ts:List Lt) (i:Nat) (h:i < (fwA ts B).length) (h':i < ts.length),(fwA ts B)[i]=(ts[i]).fw B
 | [],i,_,h'=>by simp at h'
 | t :: ts,0,_,_=>rfl
 | t :: ts,i + 1,h,h'=>by
  simp only [fwA,List.getElem_cons_succ]
  exact fwA_get B ts i _ _
theorem fwH_get (B:Way) {ss:List Lt} (h:0 < ss.length):fwH ss B=(ss[0]).fw B:=by
 cases ss with
 | nil=>simp at h
 | cons t ts=>rfl
theorem behind_of {C:WC} (hk:WCk C) {Wy:Way} {p:Nat} {s s1:Sg} (hx:Ex C.tx C.E Wy p s s1) (hB:BgC C Wy p s s1)
  (hD:∀ lb R a ss mn mx lz ix nm B up nth,(⟨.mk lb 6 R a ss mn mx lz ix nm,B,up,nth⟩:Pl) ∈ C.L→mx < 0→Wy=Kd lz lb B→WCall C 88 lb p s s1)
  (hG:∀ c d,Wy=.noted c d→∃ s2:Sg,BhC C d p { s with notes:=s.notes.set c (p:Int) } s2∧s2.done=s1.done∧s2.parses=s1.parses):BhC C Wy p s s1:=by
 have key:∀ m,∀ e ∈ C.L,C.n - e.t.lb≤m→Wy=e.B→WCall C 82 e.t.lb p s s1:=by
  intro m
  induction m with
  | zero =>
   intro e he hm _
   have:=hk.num e he
   omega
  | succ m ih =>
   intro e he hm hW
   rcases hk.par e he with ⟨h1,h2⟩ | ⟨q,hq,i,hi,h1,h2⟩
   ·obtain ⟨⟨lb,k,R,a,ss,mn,mx,lz,ix,nm⟩,B,up,nth⟩:=e
    simp only at h1 h2
    subst h1 h2
    rw [hW] at hx
    exact behind_root hk he hx
   ·obtain ⟨⟨lb,k,R,a,ss,mn,mx,lz,ix,nm⟩,B,up,nth⟩:=q
    simp only [Lt.sub] at hi
    have hnum:=hk.num e he
    subst h1
    have h2:(ss[i]).lb < lb:=h2
    have hm:C.n - (ss[i]).lb≤m + 1:=hm
    have hnum:(ss[i]).lb < C.n:=hnum
    have hW':Wy=subB (.mk lb k R a ss mn mx lz ix nm) B i:=hW
    have hFN:=kinds_sub hk hq
    refine behind_up hk hq hi (fun hn h4=>?_) (fun h4 h7 h6=>?_) (fun h7=>?_) (fun h6 hm6=>?_)
    ·have hc:=hk.child _ hq (i + 1) (by simpa [Lt.sub] using hn)
     refine BgC.at hB hc ?_ rfl
     rw [hW']
     simp only [subB,h4,if_true,child,Lt.sub]
     exact fwC_next hn
    ·have hih:=ih (⟨.mk lb k R a ss mn mx lz ix nm,B,up,nth⟩:Pl) hq
     simp only [Lt.lb] at hih
     refine hih ?_ ?_
     ·omega
     ·rw [hW']
      show subB _ _ _=B
      simp only [subB]
      by_cases h:k=4
      ·rw [if_pos h,List.drop_eq_nil_of_le (by have:=h4 h;omega)]
       rfl
      ·rw [if_neg h,if_neg h7,if_neg h6]
    ·obtain ⟨s2,c1,c2,c3⟩:=hG (2 * ix.toNat + 1) B (by rw [hW'];simp [subB,h7])
     exact ⟨s2,BhC.at c1 hq rfl rfl,c2,c3⟩
    ·subst h6
     exact hD lb R a ss mn mx lz ix nm B up nth hq hm6 (by rw [hW'];simp [subB,hm6])
 intro e he hW
 exact key _ e he (Nat.le_refl _) hW
theorem ss_par {C:WC} {l:List Way} {p:Nat} (ss:Nat→Sg) (h:∀ i (hi:i < l.length),Ex C.tx C.E (l[i]'hi) p (ss i) (ss (i + 1))):∀ k i,i + k≤l.length→(ss i).parses.length≤(ss (i + k)).parses.length
 | 0,i,_=>Nat.le_refl _
 | k + 1,i,hk=>by
  have h1:=ss_par ss h k i (by omega)
  obtain ⟨r,hr⟩:=(h (i + k) (by omega)).par
  have:(ss (i + (k + 1))).parses.length=(ss (i + k)).parses.length + r.length:=by
   rw [show i + (k + 1)=i + k + 1 by omega,hr,List.length_append]
  omega
theorem ss_notes {C:WC} {l:List Way} {p:Nat} (ss:Nat→Sg) (h:∀ i (hi:i < l.length),Ex C.tx C.E (l[i]'hi) p (ss i) (ss (i + 1))):∀ i,i≤l.length→(ss i).notes=(ss 0).notes
 | 0,_=>rfl
 | i + 1,hi=>by rw [(h i (by omega)).notes,ss_notes ss h i (by omega)]
theorem walk_all {C:WC} (hk:WCk C) {Wy:Way} {p:Nat} {s s1:Sg} (h:Ex C.tx C.E Wy p s s1):s1.parses.length≤70→p≤C.tn→Wk C Wy p s s1:=by
 have hno:∀ {e:Pl} {Wy:Way},(∀ n d,Wy≠.once n d)→Wy≠e.t.fw e.B:=fun {e Wy} hn he=>by
  obtain ⟨⟨lb,k,R,a,ss,mn,mx,lz,ix,nm⟩,B,up,nth⟩:=e
  simp only [Lt.fw] at he
  exact hn _ _ he
 have htl:=hk.tnl
 have hx:=h
 induction h with
 | through p s =>
  intro hl hp
  have hB:BgC C .through p s { s with parses:=s.parses ++ [((p:Int),s.notes.set 1 (p:Int))] }:=fun e he hW=>absurd hW (hno (fun n d e=>(by cases e)))
  exact ⟨hB,behind_of hk hx hB (fun _ _ _ _ _ _ _ _ _ _ _ _ _ _ e=>(by cases e)) (fun _ _ e=>(by cases e)),fun _ _ _ _ _ _ _ _ _ _ _ _ _ _ e=>(by cases e),fun _ _ _ _ _ _ _ _ _ _ _ _ _ e=>(by rcases e with ⟨_,e⟩ | ⟨_,e⟩ <;> cases e),fun _ _ _ _ _ _ _ _ _ _ _ _ _ _ e=>(by cases e),fun _ _ _ _ _ _ _ _ _ _ _ _ _ e=>(by cases e),fun _ _ _ _ _ _ _ _ _ _ _ _ _ e=>(by cases e),fun _ _ e=>(by cases e),fun _ _ _ _ _ _ _ _ _ _ _ _ _ e=>(by cases e)⟩
 | @skip n d p s hs =>
  intro hl hp
  have hB:BgC C (.once n d) p s s:=fun e he hW=>by
   obtain ⟨⟨lb,k,R,a,ss,mn,mx,lz,ix,nm⟩,B,up,nth⟩:=e
   simp only [Lt.fw,Way.once.injEq] at hW
   rw [hW.1] at hs
   exact begin47 hk he (fun _=>rfl) (fun hn=>absurd hs hn)
  have hD:∀ lb R a ss mn mx lz ix nm B up nth,(⟨.mk lb 6 R a ss mn mx lz ix nm,B,up,nth⟩:Pl) ∈ C.L→mx < 0→Way.once n d=Kd lz lb B→WCall C 88 lb p s s:=fun lb R a ss mn mx lz ix nm B up nth he hm hW=>by
   simp only [Kd,Way.once.injEq] at hW
   rw [hW.1] at hs
   exact decide88 hk (hk.num _ he) (fun _=>rfl) (fun hn=>absurd hs hn)
  exact ⟨hB,behind_of hk hx hB hD (fun _ _ e=>(by cases e)),hD,fun _ _ _ _ _ _ _ _ _ _ _ _ _ e=>(by rcases e with ⟨_,e⟩ | ⟨_,e⟩ <;> cases e),fun _ _ _ _ _ _ _ _ _ _ _ _ _ _ e=>(by cases e),fun _ _ _ _ _ _ _ _ _ _ _ _ _ e=>(by cases e),fun _ _ _ _ _ _ _ _ _ _ _ _ _ e=>(by cases e),fun _ _ e=>(by cases e),fun _ _ _ _ _ _ _ _ _ _ _ _ _ e=>(by cases e)⟩
 | @once n d p s s' hs hd ih =>
  intro hl hp
  have ih:=ih hd hl hp
  have hB:BgC C (.once n d) p s s':=fun e he hW=>by
   obtain ⟨⟨lb,k,R,a,ss,mn,mx,lz,ix,nm⟩,B,up,nth⟩:=e
   simp only [Lt.fw,Way.once.injEq] at hW
   obtain ⟨e1,e2⟩:=hW
   rw [e1] at hs ih
   have hFN:=kinds_sub hk he
   refine begin47 hk he (fun hn=>absurd hn hs) (fun _=>⟨fun h=>?_,fun h=>?_,fun h=>?_,fun h h0=>?_,fun h=>?_,fun h h0=>?_,fun h hm=>?_,fun h hm hn=>?_⟩)
   ·subst h
    simp at e2
    exact BhC.at ih.bh he e2 rfl
   ·subst h
    simp at e2
    exact ih.rn lb R a ss mn mx lz ix nm B up nth he e2
   ·subst h
    simp at e2
    exact ih.ho lb R a ss mn mx lz ix nm B up nth he e2
   ·have hc:=hk.child _ he 0 (by simpa [Lt.sub] using h0)
    refine BgC.at ih.bg hc ?_ rfl
    rcases h with rfl | ⟨rfl,hm,hn⟩
    ·simp at e2
     rw [e2]
     simp only [child,Lt.sub,subB,if_true]
     rw [← fwC_next (by exact h0)]
     rfl
    ·simp [hm,hn] at e2
     rw [e2,fwH_get _ h0]
     simp [child,Lt.sub,subB,hm]
   ·subst h
    simp at e2
    exact ih.al lb R a ss mn mx lz ix nm B up nth he e2
   ·subst h
    simp at e2
    obtain ⟨s2,c1,_,c2,c3⟩:=ih.nt _ _ e2
    have hc:=hk.child _ he 0 (by simpa [Lt.sub] using h0)
    refine ⟨s2,BgC.at c1 hc ?_ rfl,c2,c3⟩
    rw [fwH_get _ h0]
    simp [child,Lt.sub,subB]
   ·subst h
    simp [hm] at e2
    exact ih.ch lb R a ss mn mx lz ix nm B up nth he (.inr ⟨hm,by rw [e2]⟩)
   ·subst h
    simp [hm,hn] at e2
    exact ih.dc lb R a ss mn mx lz ix nm B up nth he hm (by rw [e2])
  have hD:∀ lb R a ss mn mx lz ix nm B up nth,(⟨.mk lb 6 R a ss mn mx lz ix nm,B,up,nth⟩:Pl) ∈ C.L→mx < 0→Way.once n d=Kd lz lb B→WCall C 88 lb p s s':=fun lb R a ss mn mx lz ix nm B up nth he hm hW=>by
   simp only [Kd,Way.once.injEq] at hW
   obtain ⟨e1,e2⟩:=hW
   rw [e1] at hs ih
   exact decide88 hk (hk.num _ he) (fun hn=>absurd hn hs) (fun _=>ih.ch lb R a ss mn mx lz ix nm B up nth he (.inl ⟨hm,e2⟩))
  exact ⟨hB,behind_of hk hx hB hD (fun _ _ e=>(by cases e)),hD,fun _ _ _ _ _ _ _ _ _ _ _ _ _ e=>(by rcases e with ⟨_,e⟩ | ⟨_,e⟩ <;> cases e),fun _ _ _ _ _ _ _ _ _ _ _ _ _ _ e=>(by cases e),fun _ _ _ _ _ _ _ _ _ _ _ _ _ e=>(by cases e),fun _ _ _ _ _ _ _ _ _ _ _ _ _ e=>(by cases e),fun _ _ e=>(by cases e),fun _ _ _ _ _ _ _ _ _ _ _ _ _ e=>(by cases e)⟩
 | @noted c d p s s' hd ih =>
  intro hl hp
  have ih:=ih hd hl hp
  have hB:BgC C (.noted c d) p s { s' with notes:=s'.notes.set c (s.notes.getD c 0) }:=fun e he hW=>absurd hW (hno (fun n d e=>(by cases e)))
  refine ⟨hB,behind_of hk hx hB (fun _ _ _ _ _ _ _ _ _ _ _ _ _ _ e=>(by cases e)) (fun c' d' e=>?_),fun _ _ _ _ _ _ _ _ _ _ _ _ _ _ e=>(by cases e),fun _ _ _ _ _ _ _ _ _ _ _ _ _ e=>(by rcases e with ⟨_,e⟩ | ⟨_,e⟩ <;> cases e),fun _ _ _ _ _ _ _ _ _ _ _ _ _ _ e=>(by cases e),fun _ _ _ _ _ _ _ _ _ _ _ _ _ e=>(by cases e),fun _ _ _ _ _ _ _ _ _ _ _ _ _ e=>(by cases e),fun c' d' e=>?_,fun _ _ _ _ _ _ _ _ _ _ _ _ _ e=>(by cases e)⟩
  ·cases e
   exact ⟨s',ih.bh,rfl,rfl⟩
  ·cases e
   exact ⟨s',ih.bg,ih.bh,rfl,rfl⟩
 | @over L d p s hL =>
  intro hl hp
  have hB:BgC C (.runeOf L d) p s s:=fun e he hW=>absurd hW (hno (fun n d e=>(by cases e)))
  refine ⟨hB,behind_of hk hx hB (fun _ _ _ _ _ _ _ _ _ _ _ _ _ _ e=>(by cases e)) (fun _ _ e=>(by cases e)),fun _ _ _ _ _ _ _ _ _ _ _ _ _ _ e=>(by cases e),fun _ _ _ _ _ _ _ _ _ _ _ _ _ e=>(by rcases e with ⟨_,e⟩ | ⟨_,e⟩ <;> cases e),fun _ _ _ _ _ _ _ _ _ _ _ _ _ _ e=>(by cases e),fun lb R a ss mn mx lz ix nm B up nth he e=>⟨fun h=>by omega,fun _=>rfl⟩,fun _ _ _ _ _ _ _ _ _ _ _ _ _ e=>(by cases e),fun _ _ e=>(by cases e),fun _ _ _ _ _ _ _ _ _ _ _ _ _ e=>(by cases e)⟩
 | @other L d p s hL hr =>
  intro hl hp
  have hB:BgC C (.runeOf L d) p s s:=fun e he hW=>absurd hW (hno (fun n d e=>(by cases e)))
  refine ⟨hB,behind_of hk hx hB (fun _ _ _ _ _ _ _ _ _ _ _ _ _ _ e=>(by cases e)) (fun _ _ e=>(by cases e)),fun _ _ _ _ _ _ _ _ _ _ _ _ _ _ e=>(by cases e),fun _ _ _ _ _ _ _ _ _ _ _ _ _ e=>(by rcases e with ⟨_,e⟩ | ⟨_,e⟩ <;> cases e),fun _ _ _ _ _ _ _ _ _ _ _ _ _ _ e=>(by cases e),fun lb R a ss mn mx lz ix nm B up nth he e=>⟨fun _ h=>?_,fun _=>rfl⟩,fun _ _ _ _ _ _ _ _ _ _ _ _ _ e=>(by cases e),fun _ _ e=>(by cases e),fun _ _ _ _ _ _ _ _ _ _ _ _ _ e=>(by cases e)⟩
  cases e
  rw [hs_has,hr] at h
  cases h
 | @rune L d p s s' hL hr hd ih =>
  intro hl hp
  have ih:=ih hd hl (by omega)
  have hB:BgC C (.runeOf L d) p s s':=fun e he hW=>absurd hW (hno (fun n d e=>(by cases e)))
  refine ⟨hB,behind_of hk hx hB (fun _ _ _ _ _ _ _ _ _ _ _ _ _ _ e=>(by cases e)) (fun _ _ e=>(by cases e)),fun _ _ _ _ _ _ _ _ _ _ _ _ _ _ e=>(by cases e),fun _ _ _ _ _ _ _ _ _ _ _ _ _ e=>(by rcases e with ⟨_,e⟩ | ⟨_,e⟩ <;> cases e),fun _ _ _ _ _ _ _ _ _ _ _ _ _ _ e=>(by cases e),fun lb R a ss mn mx lz ix nm B up nth he e=>?_,fun _ _ _ _ _ _ _ _ _ _ _ _ _ e=>(by cases e),fun _ _ e=>(by cases e),fun _ _ _ _ _ _ _ _ _ _ _ _ _ e=>(by cases e)⟩
  cases e
  exact ⟨fun _ _=>BhC.at ih.bh he rfl rfl,fun hn=>absurd ⟨by omega,by rw [hs_has];exact hr⟩ hn⟩
 | @fails a d p s hf =>
  intro hl hp
  have hB:BgC C (.ifHolds a d) p s s:=fun e he hW=>absurd hW (hno (fun n d e=>(by cases e)))
  refine ⟨hB,behind_of hk hx hB (fun _ _ _ _ _ _ _ _ _ _ _ _ _ _ e=>(by cases e)) (fun _ _ e=>(by cases e)),fun _ _ _ _ _ _ _ _ _ _ _ _ _ _ e=>(by cases e),fun _ _ _ _ _ _ _ _ _ _ _ _ _ e=>(by rcases e with ⟨_,e⟩ | ⟨_,e⟩ <;> cases e),fun _ _ _ _ _ _ _ _ _ _ _ _ _ _ e=>(by cases e),fun _ _ _ _ _ _ _ _ _ _ _ _ _ e=>(by cases e),fun lb R a' ss mn mx lz ix nm B up nth he e=>⟨fun h=>?_,fun _=>rfl⟩,fun _ _ e=>(by cases e),fun _ _ _ _ _ _ _ _ _ _ _ _ _ e=>(by cases e)⟩
  cases e
  rw [held_at (by omega),h] at hf
  cases hf
 | @holds a d p s s' hf hd ih =>
  intro hl hp
  have ih:=ih hd hl hp
  have hB:BgC C (.ifHolds a d) p s s':=fun e he hW=>absurd hW (hno (fun n d e=>(by cases e)))
  refine ⟨hB,behind_of hk hx hB (fun _ _ _ _ _ _ _ _ _ _ _ _ _ _ e=>(by cases e)) (fun _ _ e=>(by cases e)),fun _ _ _ _ _ _ _ _ _ _ _ _ _ _ e=>(by cases e),fun _ _ _ _ _ _ _ _ _ _ _ _ _ e=>(by rcases e with ⟨_,e⟩ | ⟨_,e⟩ <;> cases e),fun _ _ _ _ _ _ _ _ _ _ _ _ _ _ e=>(by cases e),fun _ _ _ _ _ _ _ _ _ _ _ _ _ e=>(by cases e),fun lb R a' ss mn mx lz ix nm B up nth he e=>?_,fun _ _ e=>(by cases e),fun _ _ _ _ _ _ _ _ _ _ _ _ _ e=>(by cases e)⟩
  cases e
  refine ⟨fun _=>BhC.at ih.bh he rfl rfl,fun h=>?_⟩
  rw [held_at (by omega),h] at hf
  cases hf
 | @inOrder l p ss h ih =>
  intro hl hp
  have hpl:∀ i,i≤l.length→(ss i).parses.length≤70:=fun i hi=>by
   have:=ss_par (C:=C) ss h (l.length - i) i (by omega)
   rw [show i + (l.length - i)=l.length by omega] at this
   omega
  have hnt:=ss_notes (C:=C) ss h
  have ih:∀ i (hi:i < l.length),Wk C (l[i]'hi) p (ss i) (ss (i + 1)):=fun i hi=>ih i hi (h i hi) (hpl (i + 1) (by omega)) hp
  have hB:BgC C (.inOrder l) p (ss 0) (ss l.length):=fun e he hW=>absurd hW (hno (fun n d e=>(by cases e)))
  refine ⟨hB,behind_of hk hx hB (fun _ _ _ _ _ _ _ _ _ _ _ _ _ _ e=>(by cases e)) (fun _ _ e=>(by cases e)),fun _ _ _ _ _ _ _ _ _ _ _ _ _ _ e=>(by cases e),fun lb R a s mn mx lz ix nm B up nth he e=>?_,fun _ _ _ _ _ _ _ _ _ _ _ _ _ _ e=>(by cases e),fun _ _ _ _ _ _ _ _ _ _ _ _ _ e=>(by cases e),fun _ _ _ _ _ _ _ _ _ _ _ _ _ e=>(by cases e),fun _ _ e=>(by cases e),fun lb R a s mn mx lz ix nm B up nth he e=>?_⟩
  ·have hFN:=kinds_sub hk he
   have h0:0 < s.length:=by have:=(hFN.rep rfl).1;omega
   have hc:=hk.child _ he 0 (by simpa [Lt.sub] using h0)
   refine choose87 hk he h0 (fun hz=>?_) (fun hz=>?_)
   ·subst hz
    rcases e with ⟨hm,e⟩ | ⟨hm,e⟩
    ·simp only [if_true,Way.inOrder.injEq] at e
     subst e
     exact ⟨ss 1,BhC.at (ih 0 (by simp)).bh he rfl rfl,hnt 1 (by simp),hpl 1 (by simp),(ih 1 (by simp)).ag lb R a s mn mx true ix nm B up nth he hm rfl h0⟩
    ·simp only [if_true,Way.inOrder.injEq] at e
     subst e
     refine ⟨ss 1,BhC.at (ih 0 (by simp)).bh he rfl rfl,hnt 1 (by simp),hpl 1 (by simp),BgC.at (ih 1 (by simp)).bg hc ?_ rfl⟩
     show fwH s B=_
     rw [fwH_get _ h0]
     simp [child,Lt.sub,subB,hm]
   ·subst hz
    rcases e with ⟨hm,e⟩ | ⟨hm,e⟩
    ·simp only [Bool.false_eq_true,if_false,Way.inOrder.injEq] at e
     subst e
     exact ⟨ss 1,(ih 0 (by simp)).ag lb R a s mn mx false ix nm B up nth he hm rfl h0,hnt 1 (by simp),hpl 1 (by simp),BhC.at (ih 1 (by simp)).bh he rfl rfl⟩
    ·simp only [Bool.false_eq_true,if_false,Way.inOrder.injEq] at e
     subst e
     refine ⟨ss 1,BgC.at (ih 0 (by simp)).bg hc ?_ rfl,hnt 1 (by simp),hpl 1 (by simp),BhC.at (ih 1 (by simp)).bh he rfl rfl⟩
     show fwH s B=_
     rw [fwH_get _ h0]
     simp [child,Lt.sub,subB,hm]
  ·simp only [Way.inOrder.injEq] at e
   subst e
   refine ⟨ss,rfl,by rw [fwA_len],fun i hi=>?_⟩
   have hi':i < (fwA s B).length:=by rw [fwA_len];exact hi
   have hc:=hk.child _ he i (by simpa [Lt.sub] using hi)
   refine ⟨BgC.at (ih i hi').bg hc ?_ rfl,hnt i (by omega),hpl i (by omega)⟩
   rw [fwA_get B s i hi' hi]
   simp [child,Lt.sub,subB]
 | @again b p s s' hd ih =>
  intro hl hp
  have ih:=ih hd hl hp
  have hB:BgC C (.again b) p s s':=fun e he hW=>absurd hW (hno (fun n d e=>(by cases e)))
  refine ⟨hB,behind_of hk hx hB (fun _ _ _ _ _ _ _ _ _ _ _ _ _ _ e=>(by cases e)) (fun _ _ e=>(by cases e)),fun _ _ _ _ _ _ _ _ _ _ _ _ _ _ e=>(by cases e),fun _ _ _ _ _ _ _ _ _ _ _ _ _ e=>(by rcases e with ⟨_,e⟩ | ⟨_,e⟩ <;> cases e),fun lb R a ss mn mx lz ix nm B up nth he hm e h0=>?_,fun _ _ _ _ _ _ _ _ _ _ _ _ _ e=>(by cases e),fun _ _ _ _ _ _ _ _ _ _ _ _ _ e=>(by cases e),fun _ _ e=>(by cases e),fun _ _ _ _ _ _ _ _ _ _ _ _ _ e=>(by cases e)⟩
  cases e
  have hc:=hk.child _ he 0 (by simpa [Lt.sub] using h0)
  refine BgC.at ih.bg hc ?_ rfl
  have heo:=(hk.eo _ he)
  simp only [Lt.eo] at heo
  rcases heo.2.2.2 (by trivial) with ⟨_,h2,_⟩ | ⟨h1,_⟩
  ·rw [h2,fwH_get _ h0]
   simp [child,Lt.sub,subB,hm]
  ·omega
end Go.Proofs.YtacaanhnlfpbhaaGreat
namespace Go.Proofs.YtacaanhnlfpbhaaGreat
open Go.RowKit
set_option linter.unusedVariables false
set_option linter.unusedSimpArgs false
mutual
theorem pn_sf:∀ (t:Tn) (n:Nat),t.sfT→(t.pn n).sf
 | .mk k R a s mn mx lz ix nm,n,h=>by
  simp only [Tn.sfT] at h
  simp only [Tn.pn,Lt.sf]
  exact ⟨h.1,pnL_sf s n h.2⟩
theorem pnL_sf:∀ (ts:List Tn) (n:Nat),sfTL ts→sfL (pnL ts n)
 | [],n,h=>by simp only [pnL,sfL]
 | t :: ts,n,h=>by
  simp only [sfTL] at h
  simp only [pnL,sfL]
  exact ⟨pn_sf t n h.1,pnL_sf ts _ h.2⟩
end
def Lt.dn:Lt→Prop:=fun T=>∀ t ∈ T.sub,t.lb < T.lb
mutual
theorem pn_all {P:Lt→Prop} (hP:∀ (t:Tn) (n:Nat),P (t.pn n)):∀ (t:Tn) (n:Nat) (B:Way) (up:Int) (nth:Nat),∀ e ∈ (t.pn n).ents B up nth,P e.t
 | .mk k R a s mn mx lz ix nm,n,B,up,nth,e,he=>by
  simp only [Tn.pn,Lt.ents,List.mem_cons] at he
  rcases he with rfl | he
  ·exact hP (.mk k R a s mn mx lz ix nm) n
  ·exact pnL_all hP s n _ B 0 e he
theorem pnL_all {P:Lt→Prop} (hP:∀ (t:Tn) (n:Nat),P (t.pn n)):∀ (ts:List Tn) (n:Nat) (p:Lt) (B:Way) (i:Nat),∀ e ∈ entsL p B (pnL ts n) i,P e.t
 | [],n,p,B,i,e,he=>by simp [pnL,entsL] at he
 | t :: ts,n,p,B,i,e,he=>by
  simp only [pnL,entsL,List.mem_append] at he
  rcases he with he | he
  ·exact pn_all hP t n _ _ _ e he
  ·exact pnL_all hP ts _ p B _ e he
end
theorem pn_dn (t:Tn) (n:Nat):(t.pn n).dn:=by
 obtain ⟨k,R,a,s,mn,mx,lz,ix,nm⟩:=t
 intro u hu
 simp only [Tn.pn,Lt.sub,Lt.lb] at hu ⊢
 exact (pnL_lbs s n _ (lbs_in hu _ (lb_in u))).2
theorem ents_nodesW:∀ (T:Lt) (B:Way) (up:Int) (nth:Nat),∀ e ∈ T.ents B up nth,e.t.tn.nodes≤T.tn.nodes:=by
 refine Lt.rec' ?_
 intro T ih B up nth e he
 rw [ents_eq] at he
 rcases List.mem_cons.1 he with rfl | he
 ·exact Nat.le_refl _
 ·obtain ⟨j,hj,hx⟩:=(entsL_mem _ _ _ _ _).1 he
  have h1:=ih _ (List.getElem_mem hj) _ _ _ e hx
  have h2:(T.sub[j]).tn.nodes≤T.tn.nodes:=by
   obtain ⟨lb,k,R,a,s,mn,mx,lz,ix,nm⟩:=T
   simp only [Lt.sub] at hj ⊢
   simp only [Lt.tn,Tn.nodes,tnL_map]
   have:=nodes_get (s.map Lt.tn) j (by simpa using hj)
   simp only [List.getElem_map] at this
   omega
  omega
theorem ents_giW {G:Int}:∀ (T:Lt) (B:Way) (up:Int) (nth:Nat),T.tn.gi≤G→∀ e ∈ T.ents B up nth,e.t.tn.gi≤G:=by
 refine Lt.rec' ?_
 intro T ih B up nth hg e he
 rw [ents_eq] at he
 rcases List.mem_cons.1 he with rfl | he
 ·exact hg
 ·obtain ⟨j,hj,hx⟩:=(entsL_mem _ _ _ _ _).1 he
  refine ih _ (List.getElem_mem hj) _ _ _ ?_ e hx
  obtain ⟨lb,k,R,a,s,mn,mx,lz,ix,nm⟩:=T
  simp only [Lt.sub] at hj ⊢
  simp only [Lt.tn,Tn.gi,tnL_map] at hg
  have:=(giL_ge (s.map Lt.tn) ix).2 j (by simpa using hj)
  simp only [List.getElem_map] at this
  omega
theorem ents_in:∀ (T:Lt) (B:Way) (up:Int) (nth:Nat),∀ e ∈ T.ents B up nth,e.t.lb ∈ T.lbs:=by
 refine Lt.rec' ?_
 intro T ih B up nth e he
 rw [ents_eq] at he
 rcases List.mem_cons.1 he with rfl | he
 ·exact lb_in T
 ·obtain ⟨j,hj,hx⟩:=(entsL_mem _ _ _ _ _).1 he
  have h1:=ih _ (List.getElem_mem hj) _ _ _ e hx
  have h2:=lbs_in (List.getElem_mem hj) _ h1
  obtain ⟨lb,k,R,a,s,mn,mx,lz,ix,nm⟩:=T
  simp only [Lt.lbs,Lt.sub,List.mem_cons] at h2 ⊢
  exact .inr h2
theorem wck_of {t:Tn} {C:WC} (hf:t.fine=true) (hL:C.L=(t.pn 0).ents (.once 1 .through) (-1) 0) (heo:(t.pn 0).eo C.E (.once 1 .through)) (hn:C.n=t.nodes) (hnn:t.nodes≤300000) (htn:C.tn≤64) (htl:C.tn=C.tx.length) (hk2:2≤C.K∧C.K≤1002) (hg:2 * t.gi + 1 < C.K)
  (wbN:C.N0≤C.wb∧C.wb < C.NB) (rbN:∀ i,i < C.n→C.N0≤C.rb i∧C.rb i < C.NB) (rdN:∀ i,i < C.n→C.N0≤C.rd i∧C.rd i < C.NB) (ebN:C.N0≤C.eb∧C.eb < C.NB) (rbi:∀ i j,i < C.n→j < C.n→C.rb i=C.rb j→i=j) (rdi:∀ i j,i < C.n→j < C.n→C.rd i=C.rd j→i=j) (rbd:∀ i j,i < C.n→j < C.n→C.rb i≠C.rd j) (rbe:∀ i,i < C.n→C.rb i≠C.eb) (rde:∀ i,i < C.n→C.rd i≠C.eb):WCk C:=by
 have hft:(t.pn 0).tn.fine=true:=by rw [pn_tn];exact hf
 refine ⟨?_,?_,?_,?_,?_,by omega,?_,htn,htl,hk2,?_,wbN,rbN,rdN,ebN,rbi,rdi,rbd,rbe,rde⟩
 ·intro e he i hi
  rw [hL] at he ⊢
  exact ents_child _ _ _ _ e he i hi
 ·intro e he
  rw [hL] at he
  rcases ents_parent _ _ _ _ e he with rfl | ⟨p,hp,i,hi,h⟩
  ·exact .inl ⟨rfl,rfl⟩
  ·refine .inr ⟨p,by rw [hL];exact hp,i,hi,h,?_⟩
   rw [h]
   exact pn_all (P:=Lt.dn) pn_dn t 0 _ _ _ p hp _ (List.getElem_mem hi)
 ·intro e he
  rw [hL] at he
  exact ents_fine _ _ _ _ hft e he
 ·intro e he
  rw [hL] at he
  exact ents_eo _ _ _ _ hft heo e he
 ·intro e he
  rw [hL] at he
  have:=pn_lbs t 0 _ (ents_in _ _ _ _ e he)
  omega
 ·intro e he
  rw [hL] at he
  have h1:=ents_nodesW _ _ _ _ e he
  rw [pn_tn] at h1
  obtain ⟨⟨lb,k,R,a,s,mn,mx,lz,ix,nm⟩,B,up,nth⟩:=e
  simp only [Lt.sub]
  simp only [Lt.tn,Tn.nodes,tnL_map] at h1
  have:=nodes_ge (s.map Lt.tn)
  simp only [List.length_map] at this
  omega
 ·intro lb k R a s mn mx lz ix nm B up nth he hk
  have hF:=node_fine (ents_fine _ _ _ _ hft _ (by rw [← hL];exact he))
  have h1:=ents_giW (G:=t.gi) (t.pn 0) (.once 1 .through) (-1) 0 (by rw [pn_tn];exact Int.le_refl _) _ (by rw [← hL];exact he)
  simp only [Lt.tn,Tn.gi] at h1
  have:=(giL_ge (tnL s) ix).1
  exact ⟨(hF.grp hk).2.1,by omega⟩
theorem inQL_get {N0:Nat} {W:World} {Q:List E8}:∀ (ts:List Lt) (up:Int) (j:Nat),inQL W N0 Q ts up j→∀ i (hi:i < ts.length),(ts[i]).inQ W N0 Q up ((j + i:Nat):Int)
 | [],_,_,_,i,hi=>by simp at hi
 | t :: ts,up,j,h,0,hi=>by simp only [inQL] at h;exact h.1
 | t :: ts,up,j,h,i + 1,hi=>by
  simp only [inQL] at h
  have:=inQL_get ts up (j + 1) h.2 i (by simpa using hi)
  rw [show j + (i + 1)=j + 1 + i by omega]
  exact this
theorem pl_of {C:WC} {tb:Nat} {W:World} {Q:List E8} (h:UM tb C.N0 W (.slice (some ⟨C.pb,0,none⟩) C.n C.pc) Q):∀ (T:Lt) (B:Way) (up:Int) (nth:Nat),T.inQ W C.N0 Q up (nth:Int)→∀ e ∈ T.ents B up nth,PLw C W e:=by
 refine Lt.rec' ?_
 intro T ih B up nth hq e he
 rw [ents_eq] at he
 rcases List.mem_cons.1 he with rfl | he
 ·obtain ⟨lb,k,R,a,s,mn,mx,lz,ix,nm⟩:=T
  simp only [Lt.inQ] at hq
  obtain ⟨⟨q,h1,h2,h3,h4,h5,h6⟩,_⟩:=hq
  obtain ⟨hl,hg⟩:=List.getElem?_eq_some_iff.1 h1
  have h8:=h.at lb hl
  rw [hg,h2,h3,h4,h5] at h8
  exact ⟨_,_,_,_,_,_,_,_,h8,h6⟩
 ·obtain ⟨j,hj,hx⟩:=(entsL_mem _ _ _ _ _).1 he
  refine ih _ (List.getElem_mem hj) _ _ _ ?_ e hx
  obtain ⟨lb,k,R,a,s,mn,mx,lz,ix,nm⟩:=T
  simp only [Lt.inQ] at hq
  exact inQL_get s _ 0 hq.2 j hj
structure TF (N0:Nat) (W W':World):Prop where
 os:W'.os=W.os
 tape:W'.tape=W.tape
 output:W'.output=W.output
 size:W.heap.size≤W'.heap.size
 low:∀ (b:Nat),b < N0→W'.heap[b]?=W.heap[b]?
 typ:∀ (b:Nat) (cur:Array Value) (t:TypeId),t≠79→t≠82→W.heap[b]?=some (.cells cur t (0,0))→W'.heap[b]?=some (.cells cur t (0,0))
theorem TF.refl (N0:Nat) (W:World):TF N0 W W:=⟨rfl,rfl,rfl,Nat.le_refl _,fun _ _=>rfl,fun _ _ _ _ _ h=>h⟩
theorem TF.trans {N0:Nat} {a b c:World} (h:TF N0 a b) (k:TF N0 b c):TF N0 a c:=⟨k.os.trans h.os,k.tape.trans h.tape,k.output.trans h.output,Nat.le_trans h.size k.size,fun i hi=>(k.low i hi).trans (h.low i hi),fun i cur t h1 h2 x=>k.typ i cur t h1 h2 (h.typ i cur t h1 h2 x)⟩
theorem TF.below {N0:Nat} {W W':World} (h:Below W.heap.size W W') (hN:N0≤W.heap.size):TF N0 W W':=
 ⟨h.os,h.tape,h.output,h.size,fun b hb=>h.block b (by omega),fun b cur t _ _ hx=>(h.block b (Array.getElem?_eq_some_iff.1 hx).1).trans hx⟩
theorem BRw.tf {N0:Nat} {W W':World} {b n:Nat} {f:Nat→Bool} (h:BRw W b n f) (k:TF N0 W W'):BRw W' b n f:=by
 obtain ⟨arr,h1,h2,h3⟩:=h
 exact ⟨arr,k.typ b arr 4 (by decide) (by decide) h1,h2,h3⟩
def I79 (m:Nat) (L:List Nat):List Value:=L.map fun b=>.slice (some ⟨b,0,none⟩) m m
structure FRw (N0 m wb:Nat) (W1 W:World) (sb sd:Value) (LB LD:List Nat):Prop where
 tf:TF N0 W1 W
 rb:W.ownsRow W1.heap.size 79 1 sb LB.length (I79 m LB)
 rd:W.ownsRow W1.heap.size 79 1 sd LD.length (I79 m LD)
 nd:∀ b,sb.ownBlock=some b→sd.ownBlock≠some b
 fb:∀ b ∈ LB,BRw W b m (fun _=>false)∧W1.heap.size≤b
 fd:∀ b ∈ LD,BRw W b m (fun _=>false)∧W1.heap.size≤b
 dup:(LB ++ LD).Nodup
 wbx:∃ cs,W.heap[wb]?=some (.cells cs 82 (0,0))
 wbN:N0≤wb
 low:N0≤W1.heap.size
theorem FRw.swap {N0 m wb:Nat} {W1 W:World} {sb sd:Value} {LB LD:List Nat} (h:FRw N0 m wb W1 W sb sd LB LD):FRw N0 m wb W1 W sd sb LD LB:=
 ⟨h.tf,h.rd,h.rb,fun b h1 h2=>h.nd b h2 h1,h.fd,h.fb,by have:=h.dup;rw [List.nodup_append] at this ⊢;exact ⟨this.2.1,this.1,fun a ha b hb e=>this.2.2 b hb a ha e.symm⟩,h.wbx,h.wbN,h.low⟩
theorem FRw.nil {N0 m wb:Nat} {W:World} {cs:Array Value} (hw:W.heap[wb]?=some (.cells cs 82 (0,0))) (h0:N0≤wb):FRw N0 m wb W W (.slice none 0 0) (.slice none 0 0) [] []:=
 ⟨TF.refl _ _,World.ownsRow_nil _ _ _ _,World.ownsRow_nil _ _ _ _,fun b h=>by simp [Value.ownBlock] at h,fun b hb=>by simp at hb,fun b hb=>by simp at hb,by simp,⟨cs,hw⟩,h0,by have:=(Array.getElem?_eq_some_iff.1 hw).1;omega⟩
theorem FRw.mid {N0 m wb:Nat} {W1 W V:World} {sb sd:Value} {LB LD:List Nat} (h:FRw N0 m wb W1 W sb sd LB LD) (hb:Below W.heap.size W V):FRw N0 m wb W1 V sb sd LB LD:=by
 have hs:=h.tf.size
 have hN:=h.low
 have f:TF N0 W V:=TF.below hb (by omega)
 obtain ⟨cs,hw⟩:=h.wbx
 exact ⟨h.tf.trans f,row_kept h.rb fun b hx=>hb.block b (h.rb.lt b hx).2,row_kept h.rd fun b hx=>hb.block b (h.rd.lt b hx).2,h.nd,fun b hx=>⟨(h.fb b hx).1.tf f,(h.fb b hx).2⟩,fun b hx=>⟨(h.fd b hx).1.tf f,(h.fd b hx).2⟩,h.dup,⟨cs,(hb.block wb (Array.getElem?_eq_some_iff.1 hw).1).trans hw⟩,h.wbN,hN⟩
theorem FRw.snoc {N0 m wb:Nat} {W1 W V V':World} {sb sd sb':Value} {LB LD:List Nat} (h:FRw N0 m wb W1 W sb sd LB LD) (hb:Below W.heap.size W V) {nb:Nat} (hn:W.heap.size≤nb) (hf:BRw V nb m (fun _=>false)) (hm:Moved V V' sb sb') (ho:V'.ownsRow W1.heap.size 79 1 sb' (LB.length + 1) (I79 m LB ++ [.slice (some ⟨nb,0,none⟩) m m])) (j:Nat) (x:Value) :
  V'.heap[wb]?=W.heap[wb]?∧FRw N0 m wb W1 (V'.setCell ⟨wb,j,none⟩ x) sb' sd (LB ++ [nb]) LD:=by
 have g:=h.mid hb
 have hs:=h.tf.size
 have hs2:=hb.size
 have hs3:=moved_size hm
 have hN:=h.low
 obtain ⟨cs,hw⟩:=g.wbx
 have hsb:∀ b,sb.ownBlock=some b→W1.heap.size≤b∧b < W.heap.size:=fun b hx=>h.rb.lt b hx
 have hwn:sb.ownBlock≠some wb:=own_ne g.rb hw (by decide)
 have hwl:=(Array.getElem?_eq_some_iff.1 hw).1
 have hw3:V'.heap[wb]?=some (.cells cs 82 (0,0)):=(moved_old' hm hwl hwn).trans hw
 have hw0:V'.heap[wb]?=W.heap[wb]?:=by
  obtain ⟨cs0,hw0⟩:=h.wbx
  have:=(hb.block wb (Array.getElem?_eq_some_iff.1 hw0).1)
  rw [hw3,← hw,this]
 have old:∀ b,b≠wb→(V'.setCell ⟨wb,j,none⟩ x).heap[b]?=V'.heap[b]?:=fun b hb=>Below.heap_setCell _ _ _ _ hb
 have hsz:(V'.setCell ⟨wb,j,none⟩ x).heap.size=V'.heap.size:=by simp [World.setCell]
 have f:TF N0 V (V'.setCell ⟨wb,j,none⟩ x):=by
  refine ⟨?_,?_,?_,by rw [hsz];exact hs3,fun b hx=>(old b (by have:=h.wbN;omega)).trans (moved_old' hm (by omega) (fun e=>by have:=hsb b e;omega)),fun b cur t h1 h2 hx=>?_⟩
  ·rcases hm with ⟨_,h⟩ | ⟨_,h⟩ <;> exact h.os
  ·rcases hm with ⟨_,h⟩ | ⟨_,h⟩ <;> exact h.tape
  ·rcases hm with ⟨_,h⟩ | ⟨_,h⟩ <;> exact h.output
  ·refine (old b (fun e=>?_)).trans ((moved_old' hm (Array.getElem?_eq_some_iff.1 hx).1 (own_ne g.rb hx h1)).trans hx)
   rw [e,hw] at hx
   simp at hx
   exact h2 hx.2.symm
 refine ⟨hw0,g.tf.trans f,?_,row_kept g.rd fun b hx=>?_,fun b h1 h2=>?_,fun b hx=>?_,fun b hx=>⟨(g.fd b hx).1.tf f,(g.fd b hx).2⟩,?_,⟨_,Joins.block_setCell (i:=j) hw3 _⟩,h.wbN,hN⟩
 ·have e:I79 m (LB ++ [nb])=I79 m LB ++ [.slice (some ⟨nb,0,none⟩) m m]:=by simp [I79]
  rw [e,List.length_append]
  exact row_kept ho fun b hx=>old b (fun e=>own_ne ho hw3 (by decide) (e ▸ hx))
 ·refine (old b (fun e=>own_ne g.rd hw (by decide) (e ▸ hx))).trans (moved_old' hm (g.rd.lt b hx).2 (fun e=>h.nd b e hx))
 ·rcases hm with ⟨e,_⟩ | ⟨e,_⟩
  ·rw [e] at h1;exact h.nd b h1 h2
  ·rw [e] at h1
   simp at h1
   have:=(h.rd.lt b h2).2
   omega
 ·rcases List.mem_append.1 hx with hx | hx
  ·exact ⟨(g.fb b hx).1.tf f,(g.fb b hx).2⟩
  ·simp at hx
   subst hx
   exact ⟨hf.tf f,by omega⟩
 ·have hd:=h.dup
  have hnew:∀ b ∈ LB ++ LD,b≠nb:=fun b hx e=>by
   rcases List.mem_append.1 hx with hx | hx
   ·have:=(h.fb b hx).1.lt;omega
   ·have:=(h.fd b hx).1.lt;omega
  rw [List.nodup_append] at hd ⊢
  refine ⟨?_,hd.2.1,fun a ha b hb e=>?_⟩
  ·rw [List.nodup_append]
   exact ⟨hd.1,by simp,fun a ha b hb e=>by simp at hb;exact hnew a (by simp [ha]) (e.trans hb)⟩
  ·rcases List.mem_append.1 ha with ha | ha
   ·exact hd.2.2 a ha b hb e
   ·simp at ha
    exact hnew b (by simp [hb]) (e.symm.trans ha)
end Go.Proofs.YtacaanhnlfpbhaaGreat
