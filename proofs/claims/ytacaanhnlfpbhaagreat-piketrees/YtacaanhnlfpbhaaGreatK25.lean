/- HELPERS: texts of ours put together. -/
import Derived.Test.YtacaanhnlfpbhaaGreatK24
import Derived.Test.YtacaanhnlfpbhaaGreatK08
import Derived.Test.YtacaanhnlfpbhaaGreatK09
import Derived.Test.YtacaanhnlfpbhaaGreatK19
namespace Go.Proofs.YtacaanhnlfpbhaaGreat
open Go.RowKit Go.Lk
set_option linter.unusedVariables false
set_option linter.unusedSimpArgs false
theorem hs_has (R:List (Int × Int)) (r:Int):hsB R r=(rightB R && hasB R r):=rfl
theorem held_at {tx:List Int} {p:Nat} (h:p≤tx.length) (a:Int):heldB tx a p=holdsB a (atP tx p):=by
 have e:Look.atN tx (p:Int)=atP tx p:=by
  unfold Look.atN
  rw [if_neg (by omega)]
  rfl
 unfold heldB holdsB
 rw [e]
theorem Ex.par {tx:List Int} {E:Nat→Way} {W:Way} {p:Nat} {s s':Sg} (h:Ex tx E W p s s'):∃ l,s'.parses=s.parses ++ l:=by
 induction h with
 | through p s=>exact ⟨_,rfl⟩
 | skip h=>exact ⟨[],by simp⟩
 | once h hd ih=>exact ih
 | noted hd ih=>exact ih
 | over h=>exact ⟨[],by simp⟩
 | other h hr=>exact ⟨[],by simp⟩
 | rune h hr hd ih=>exact ih
 | fails h=>exact ⟨[],by simp⟩
 | holds h hd ih=>exact ih
 | @inOrder l p ss h ih =>
  have key:∀ k,k≤l.length→∃ r,(ss k).parses=(ss 0).parses ++ r:=fun k=>by
   induction k with
   | zero=>intro _;exact ⟨[],by simp⟩
   | succ k ihk =>
    intro hk
    obtain ⟨r,hr⟩:=ihk (by omega)
    obtain ⟨r2,hr2⟩:=ih k (by omega)
    exact ⟨r ++ r2,by rw [hr2,hr,List.append_assoc]⟩
  exact key _ (Nat.le_refl _)
 | again h ih=>exact ih
def In.mid (lo hi:Nat) (x:In):Prop:=(x.op=1∨x.op=2∨x.op=3∨x.op=4∨x.op=6∨x.op=7)∧(x.op≠6→(lo:Int)≤x.x∧x.x≤hi)∧(x.op=2→(lo:Int)≤x.y∧x.y≤hi)∧(x.op=3→2≤x.a)
theorem fork_mid {lo hi r p:Nat} {lz:Bool} (h1:lo≤r) (h2:r≤hi) (h3:lo≤p) (h4:p≤hi):(forkI r p lz).mid lo hi:=by
 unfold forkI
 cases lz <;> simp [In.mid] <;> omega
theorem layL_mid {lo hi:Nat}:∀ (s:List Tn),(∀ u ∈ s,∀ n,lo≤n→n + u.len≤hi→∀ I ∈ u.lay n,I.mid lo hi)→∀ n,lo≤n→n + lenL s≤hi→∀ I ∈ layL s n,I.mid lo hi
 | [],_,_,_,_=>fun I hI=>by simp [layL] at hI
 | t :: ts,h,n,hn,hh=>fun I hI=>by
  simp only [lenL] at hh
  simp only [layL,List.mem_append] at hI
  rcases hI with hI | hI
  ·exact h t (by simp) n hn (by omega) I hI
  ·exact layL_mid ts (fun u hu=>h u (by simp [hu])) (n + t.len) (by omega) (by omega) I hI
theorem layA_mid {lo hi:Nat}:∀ (s:List Tn),(∀ u ∈ s,∀ n,lo≤n→n + u.len≤hi→∀ I ∈ u.lay n,I.mid lo hi)→∀ (n f:Nat),lo≤n→lo≤f→f≤hi→n + (lenL s + 2 * (s.length - 1))≤hi→∀ I ∈ layA s n (f:Int),I.mid lo hi
 | [],_,_,_,_,_,_,_=>fun I hI=>by simp [layA] at hI
 | [t],h,n,f,hn,_,_,hh=>fun I hI=>by
  simp only [layA] at hI
  simp only [lenL,List.length_cons,List.length_nil] at hh
  exact h t (by simp) n hn (by omega) I hI
 | t :: u :: ts,h,n,f,hn,hf,hf2,hh=>fun I hI=>by
  simp only [layA,List.mem_cons,List.mem_append] at hI
  simp only [lenL,List.length_cons] at hh
  rcases hI with rfl | hI | rfl | hI
  ·simp [In.mid];omega
  ·exact h t (by simp) (n + 1) (by omega) (by omega) I hI
  ·simp [In.mid];omega
  ·exact layA_mid (u :: ts) (fun v hv=>h v (by simp at hv ⊢;exact .inr hv)) (n + t.len + 2) f (by omega) hf hf2 (by simp only [lenL,List.length_cons];omega) I hI
theorem lay_mid {t:Tn} (h:Nf t) {lo hi:Nat}:∀ n,lo≤n→n + t.len≤hi→∀ I ∈ t.lay n,I.mid lo hi:=by
 induction h with
 | @leaf k R a mn mx lz ix nm hk hn =>
  intro n hl hh I hI
  rcases hk with rfl | rfl | rfl
  ·simp [Tn.lay] at hI
  ·simp [Tn.len] at hh
   simp only [Tn.lay,if_true] at hI
   split at hI
   ·simp at hI;subst hI;simp [In.mid]
   ·simp at hI;subst hI;simp [In.mid];omega
  ·simp [Tn.len] at hh
   simp [Tn.lay] at hI;subst hI
   simp [In.mid];omega
 | @cat s h2 h hs ih =>
  intro n hl hh I hI
  have e:(zN 4 s).len=lenL s:=by simp [Tn.len]
  have e2:(zN 4 s).lay n=layL s n:=by simp [Tn.lay]
  rw [e] at hh
  rw [e2] at hI
  exact layL_mid s ih n hl hh I hI
 | @alt s h2 h hs ih =>
  intro n hl hh I hI
  have e:(zN 5 s).len=lenL s + 2 * (s.length - 1):=by simp [Tn.len]
  have e2:(zN 5 s).lay n=layA s n ((n + (lenL s + 2 * (s.length - 1)):Nat):Int):=by simp [Tn.lay]
  rw [e] at hh
  rw [e2] at hI
  exact layA_mid s ih n _ hl (by omega) hh hh I hI
 | @loop mn mx lz y hm hy ih =>
  intro n hl hh I hI
  rcases hm with ⟨rfl,rfl⟩ | ⟨rfl,rfl⟩ | ⟨rfl,rfl⟩
  ·have e:(loopT 0 1 lz y).len=y.len + 1:=by simp [Tn.len,lenL]
   have el:(loopT 0 1 lz y).lay n=forkI (n + 1) (n + 1 + y.len) lz :: y.lay (n + 1):=by simp [Tn.lay,layL,lenL]
   rw [e] at hh
   rw [el,List.mem_cons] at hI
   rcases hI with rfl | hI
   ·exact fork_mid (by omega) (by omega) (by omega) (by omega)
   ·exact ih (n + 1) (by omega) (by omega) I hI
  ·have e:(loopT 0 (-1) lz y).len=y.len + 2:=by simp [Tn.len,lenL]
   have el:(loopT 0 (-1) lz y).lay n=forkI (n + 1) (n + 1 + y.len + 1) lz :: (y.lay (n + 1) ++ [⟨7,(n:Int),0,0,[]⟩]):=by simp [Tn.lay,layL,lenL]
   rw [e] at hh
   rw [el,List.mem_cons,List.mem_append,List.mem_singleton] at hI
   rcases hI with rfl | hI | rfl
   ·exact fork_mid (by omega) (by omega) (by omega) (by omega)
   ·exact ih (n + 1) (by omega) (by omega) I hI
   ·simp [In.mid];omega
  ·have e:(loopT 1 (-1) lz y).len=y.len + 1:=by simp [Tn.len,lenL]
   have el:(loopT 1 (-1) lz y).lay n=y.lay n ++ [forkI n (n + y.len + 1) lz]:=by simp [Tn.lay,layL,lenL]
   rw [e] at hh
   rw [el,List.mem_append,List.mem_singleton] at hI
   rcases hI with hI | rfl
   ·exact ih n (by omega) (by omega) I hI
   ·exact fork_mid (by omega) (by omega) (by omega) (by omega)
 | @grp ix nm y hn hy ih =>
  intro n hl hh I hI
  have h1:=grp_ix hn
  have e:(Tn.mk 7 [] 0 [y] 0 0 false ix nm).len=y.len + 2:=by simp [Tn.len,lenL]
  have el:(Tn.mk 7 [] 0 [y] 0 0 false ix nm).lay n=⟨3,((n + 1:Nat):Int),0,2 * ix,[]⟩ :: (y.lay (n + 1) ++ [⟨3,((n + 1 + y.len + 1:Nat):Int),0,2 * ix + 1,[]⟩]):=by simp [Tn.lay,layL,lenL]
  rw [e] at hh
  rw [el,List.mem_cons,List.mem_append,List.mem_singleton] at hI
  rcases hI with rfl | hI | rfl
  ·simp [In.mid];omega
  ·exact ih (n + 1) (by omega) (by omega) I hI
  ·simp [In.mid];omega
structure Prg (I:List In) (m:Nat):Prop where
 mid:∀ i,1≤i→i + 1 < m→(I.getD i default).mid 1 (m - 1)
 cap:I.getD (m - 1) default=⟨3,(m:Int),0,1,[]⟩
 fit:I.getD m default=⟨5,0,0,0,[]⟩
 two:2≤m
section
variable {I:List In} {tx:List Int} {m:Nat}
def DW (A:Nat→Nat→Ac) (tx:List Int):Way→List Pt→Nat→List Int→List Pt→Fd→Prop
 | .through,M,p,c,M',r=>M'=M∧r=some (0,c)
 | .once n _,M,p,c,M',r=>∃ i:Nat,n=(i:Int)∧Df A M i p c M' r
 | .noted k d,M,p,c,M',r=>DW A tx d M p (c.set k (p:Int)) M' r
 | .runeOf R d,M,p,c,M',r=>(p < tx.length∧(rightB R && hasB R (tx.getD p 0))=true∧DW A tx d M (p + 1) c M' r)∨(¬ (p < tx.length∧(rightB R && hasB R (tx.getD p 0))=true)∧M'=M∧r=none)
 | .ifHolds a d,M,p,c,M',r=>(heldB tx a p=true∧DW A tx d M p c M' r)∨(heldB tx a p=false∧M'=M∧r=none)
 | .inOrder [],M,p,c,M',r=>M'=M∧r=none
 | .inOrder [x,y],M,p,c,M',r=>(∃ z,DW A tx x M p c M' (some z)∧r=some z)∨∃ M1,DW A tx x M p c M1 none∧DW A tx y M1 p c M' r
 | .inOrder _,M,p,c,M',r=>False
 | .again x,M,p,c,M',r=>Df A M x p c M' r
def Gd (I:List In) (m:Nat):Way→Prop
 | .through=>True
 | .once n d=>∃ i:Nat,1≤i∧i≤m∧prW I i=.once n d
 | .noted k (.again x)=>2≤k∧1≤x∧x < m
 | .runeOf R (.again x)=>1≤x∧x < m
 | .ifHolds a (.again x)=>1≤x∧x < m
 | .inOrder []=>True
 | .inOrder [.again x,.again y]=>1≤x∧x < m∧1≤y∧y < m
 | .again x=>1≤x∧x≤m
 | _=>False
def EnW (I:List In) (m:Nat) (W:Way):Prop:=W=.through∨W=.again m∨W=prW I m
def CpR (I:List In) (m:Nat) (W:Way) (p:Nat) (c no:List Int):Prop:=(EnW I m W→c=no.set 1 (p:Int))∧(¬ EnW I m W→c.set 1 0=no.set 1 0)
def RelD (M:List Pt) (done:List (Int × Int)):Prop:=∀ i j:Nat,(i,j) ∈ M↔((i:Int),(j:Int)) ∈ done
theorem RelD.add {M:List Pt} {done:List (Int × Int)} (h:RelD M done) (i j:Nat):RelD (M ++ [(i,j)]) (done ++ [((i:Int),(j:Int))]):=fun a b=>by
 simp only [List.mem_append,List.mem_singleton,Prod.mk.injEq,h a b,Int.natCast_inj]
def Oc (s s1:Sg) (M':List Pt) (r:Fd):Prop:=(r=none∧s1.parses=s.parses∧RelD M' s1.done)∨∃ c q rest,r=some (0,c)∧s1.parses=s.parses ++ (q,c) :: rest
theorem prW_inj {i:Nat} {n:Int} {d:Way} (h:prW I i=.once n d):n=(i:Int):=by
 simp only [prW,inW,Way.once.injEq] at h
 exact h.1.symm
theorem en_once {i:Nat} (hi:i≠m) {n:Int} {d:Way} (h:prW I i=.once n d):¬ EnW I m (.once n d):=by
 rintro (e | e | e)
 ·cases e
 ·cases e
 ·have h1:=prW_inj h
  have h2:=prW_inj e.symm
  omega
theorem set_one {c no:List Int} (h:c.set 1 0=no.set 1 0) (x:Int):c.set 1 x=no.set 1 x:=by
 have:=congrArg (fun l=>l.set 1 x) h
 simpa using this
theorem act_at {x:In} {i p:Nat} (h:I.getD i default=x):act I tx p i=actI tx x p:=by rw [act,h]
theorem actI_one {x:In} {p:Nat} (o:x.op=1):actI tx x p=if (decide (p < tx.length) && (rightB x.R && hasB x.R (tx.getD p 0)))=true then .rune x.x.toNat else .stop:=by
 unfold actI
 rw [if_neg (by omega),if_neg (by omega),if_neg (by omega),if_neg (by omega),if_pos o,hs_has]
theorem df_body (hP:Prg I m) {i p:Nat} {c:List Int} {M M':List Pt} {r:Fd} {n:Int} {d:Way} (hp:p≤tx.length) (h1:1≤i) (hm:i≤m) (hi:prW I i=.once n d) (hn:(i,p) ∉ M) (h:DW (act I tx) tx d (M ++ [(i,p)]) p (if i=m - 1 then c.set 1 (p:Int) else c) M' r):Df (act I tx) M i p c M' r:=by
 have hw:=hi
 simp only [prW,inW,Way.once.injEq] at hw
 obtain ⟨_,hd⟩:=hw
 by_cases e1:i=m
 ·subst e1
  have h2:=hP.two
  rw [hP.fit] at hd
  simp at hd
  subst hd
  rw [if_neg (by omega)] at h
  obtain ⟨rfl,rfl⟩:=h
  exact .fit _ _ _ _ 0 hn (by rw [act_at hP.fit];simp [actI])
 by_cases e2:i=m - 1
 ·subst e2
  rw [hP.cap] at hd
  simp at hd
  subst hd
  rw [if_pos rfl] at h
  exact .cap _ _ _ _ m 1 _ _ hn (by rw [act_at hP.cap];simp [actI]) h
 rw [if_neg e2] at h
 obtain ⟨g1,g2,g3,g4⟩:=hP.mid i h1 (by omega)
 have ha:act I tx p i=actI tx (I.getD i default) p:=rfl
 generalize I.getD i default=x at *
 rcases g1 with o | o | o | o | o | o
 ·simp [o] at hd
  subst hd
  have ea:=actI_one (tx:=tx) (p:=p) o
  rcases h with ⟨q1,q2,q3⟩ | ⟨q1,rfl,rfl⟩
  ·exact .rune _ _ _ _ _ _ _ hn (by rw [ha,ea,if_pos];simp only [Bool.and_eq_true,decide_eq_true_eq];simp only [Bool.and_eq_true] at q2;exact ⟨q1,q2⟩) q3
  ·exact .stop _ _ _ _ hn (by
    rw [ha,ea,if_neg]
    intro hc
    simp only [Bool.and_eq_true,decide_eq_true_eq] at hc q1
    exact q1 hc)
 ·simp [o] at hd
  subst hd
  have ea:act I tx p i=.alt x.x.toNat x.y.toNat:=by rw [ha];simp [actI,o]
  rcases h with ⟨z,q1,rfl⟩ | ⟨M1,q1,q2⟩
  ·exact .altx _ _ _ _ _ _ _ _ hn ea q1
  ·exact .alty _ _ _ _ _ _ _ _ _ hn ea q1 q2
 ·have:=g4 o
  simp [o,show ¬ x.a≤1 by omega] at hd
  subst hd
  exact .cap _ _ _ _ _ _ _ _ hn (by rw [ha];simp [actI,o]) h
 ·simp [o] at hd
  subst hd
  rcases h with ⟨q1,q3⟩ | ⟨q1,rfl,rfl⟩
  ·rw [held_at hp] at q1
   exact .go _ _ _ _ _ _ _ hn (by rw [ha];simp [actI,o,q1]) q3
  ·rw [held_at hp] at q1
   exact .stop _ _ _ _ hn (by rw [ha];simp [actI,o,q1])
 ·simp [o] at hd
  subst hd
  obtain ⟨rfl,rfl⟩:=h
  exact .stop _ _ _ _ hn (by rw [ha];simp [actI,o])
 ·simp [o] at hd
  subst hd
  exact .go _ _ _ _ _ _ _ hn (by rw [ha];simp [actI,o]) h
theorem gd_body (hP:Prg I m) {i:Nat} {n:Int} {d:Way} (h1:1≤i) (hm:i≤m) (hi:prW I i=.once n d):Gd I m d∧(EnW I m d↔m≤i + 1):=by
 have hw:=hi
 simp only [prW,inW,Way.once.injEq] at hw
 obtain ⟨_,hd⟩:=hw
 have hno:∀ x,x < m→¬ EnW I m (.again x):=fun x hx e=>by
  rcases e with e | e | e
  ·cases e
  ·simp only [Way.again.injEq] at e;omega
  ·simp [prW,inW] at e
 have h2:=hP.two
 by_cases e1:i=m
 ·subst e1
  rw [hP.fit] at hd
  simp at hd
  subst hd
  exact ⟨trivial,fun _=>by omega,fun _=>.inl rfl⟩
 by_cases e2:i=m - 1
 ·subst e2
  rw [hP.cap] at hd
  simp at hd
  subst hd
  exact ⟨⟨by omega,Nat.le_refl _⟩,fun _=>by omega,fun _=>.inr (.inl rfl)⟩
 obtain ⟨g1,g2,g3,g4⟩:=hP.mid i h1 (by omega)
 generalize I.getD i default=x at *
 have no1:∀ {k d},¬ EnW I m (.noted k d):=fun {k d} e=>by rcases e with e | e | e;cases e;cases e;simp [prW,inW] at e
 have no2:∀ {k d},¬ EnW I m (.runeOf k d):=fun {k d} e=>by rcases e with e | e | e;cases e;cases e;simp [prW,inW] at e
 have no3:∀ {k d},¬ EnW I m (.ifHolds k d):=fun {k d} e=>by rcases e with e | e | e;cases e;cases e;simp [prW,inW] at e
 have no4:∀ {l},¬ EnW I m (.inOrder l):=fun {l} e=>by rcases e with e | e | e;cases e;cases e;simp [prW,inW] at e
 rcases g1 with o | o | o | o | o | o
 ·simp [o] at hd
  have:=g2 (by omega)
  subst hd
  exact ⟨⟨by omega,by omega⟩,fun h=>absurd h no2,fun _=>by omega⟩
 ·simp [o] at hd
  have:=g2 (by omega)
  have:=g3 o
  subst hd
  exact ⟨⟨by omega,by omega,by omega,by omega⟩,fun h=>absurd h no4,fun _=>by omega⟩
 ·have:=g4 o
  have:=g2 (by omega)
  simp [o,show ¬ x.a≤1 by omega] at hd
  subst hd
  exact ⟨⟨by omega,by omega,by omega⟩,fun h=>absurd h no1,fun _=>by omega⟩
 ·simp [o] at hd
  have:=g2 (by omega)
  subst hd
  exact ⟨⟨by omega,by omega⟩,fun h=>absurd h no3,fun _=>by omega⟩
 ·simp [o] at hd
  subst hd
  exact ⟨trivial,fun h=>absurd h no4,fun _=>by omega⟩
 ·simp [o] at hd
  have:=g2 (by omega)
  subst hd
  exact ⟨⟨by omega,by omega⟩,fun h=>absurd h (hno _ (by omega)),fun _=>by omega⟩
theorem en_again {x:Nat}:EnW I m (.again x)↔x=m:=by
 constructor
 ·rintro (e | e | e)
  ·cases e
  ·simpa using e
  ·simp [prW,inW] at e
 ·rintro rfl
  exact .inr (.inl rfl)
theorem en_prW {x:Nat}:EnW I m (prW I x)↔x=m:=by
 constructor
 ·rintro (e | e | e)
  ·simp [prW,inW] at e
  ·simp [prW,inW] at e
  ·simp only [prW,inW,Way.once.injEq] at e;omega
 ·rintro rfl
  exact .inr (.inr rfl)
theorem ex_df (hP:Prg I m) {W:Way} {p:Nat} {s s1:Sg} (h:Ex tx (prW I) W p s s1):Gd I m W→p≤tx.length→∀ (M:List Pt) (c:List Int),RelD M s.done→CpR I m W p c s.notes→∃ M' r,DW (act I tx) tx W M p c M' r∧Oc s s1 M' r:=by
 have h2:=hP.two
 induction h with
 | through p s =>
  intro _ _ M c hM hc
  exact ⟨M,_,⟨rfl,rfl⟩,.inr ⟨c,p,[],rfl,by rw [hc.1 (.inl rfl)]⟩⟩
 | @skip n d p s h =>
  intro hg _ M c hM hc
  obtain ⟨i,h1,h2,h3⟩:=hg
  obtain rfl:=prW_inj h3
  exact ⟨M,none,⟨i,rfl,.old _ _ _ _ ((hM i p).2 h)⟩,.inl ⟨rfl,rfl,hM⟩⟩
 | @once n d p s s' h hd ih =>
  intro hg hp M c hM hc
  obtain ⟨i,h1,h3,h4⟩:=hg
  obtain rfl:=prW_inj h4
  obtain ⟨b1,b2⟩:=gd_body hP h1 h3 h4
  have hn:(i,p) ∉ M:=fun hm=>h ((hM i p).1 hm)
  have hcc:CpR I m d p (if i=m - 1 then c.set 1 (p:Int) else c) s.notes:=by
   by_cases e1:i=m
   ·subst e1
    rw [if_neg (by omega)]
    have:=hc.1 (by rw [← h4];exact .inr (.inr rfl))
    exact ⟨fun _=>this,fun hne=>absurd (b2.2 (by omega)) hne⟩
   have hc2:=hc.2 (en_once e1 h4)
   by_cases e2:i=m - 1
   ·rw [if_pos e2]
    exact ⟨fun _=>set_one hc2 _,fun hne=>absurd (b2.2 (by omega)) hne⟩
   ·rw [if_neg e2]
    exact ⟨fun he=>by have:=b2.1 he;omega,fun _=>hc2⟩
  obtain ⟨M',r,hw,ho⟩:=ih b1 hp (M ++ [(i,p)]) _ (hM.add i p) hcc
  refine ⟨M',r,⟨i,rfl,df_body hP hp h1 h3 h4 hn hw⟩,?_⟩
  exact ho
 | @noted k d p s s' hd ih =>
  intro hg hp M c hM hc
  have hne:¬ EnW I m (.noted k d):=fun e=>by rcases e with e | e | e;cases e;cases e;simp [prW,inW] at e
  have hc2:=hc.2 hne
  cases d with
  | again x =>
   obtain ⟨k2,x1,x2⟩:=hg
   have hx:¬ EnW I m (.again x):=fun e=>by have:=en_again.1 e;omega
   obtain ⟨M',r,hw,ho⟩:=ih ⟨x1,by omega⟩ hp M (c.set k (p:Int)) hM ⟨fun e=>absurd e hx,fun _=>by
    rw [List.set_comm _ _ (by omega),hc2,List.set_comm _ _ (by omega)]⟩
   exact ⟨M',r,hw,ho⟩
  | _=>exact hg.elim
 | @over L d p s h =>
  intro hg hp M c hM hc
  exact ⟨M,none,.inr ⟨fun q=>by omega,rfl,rfl⟩,.inl ⟨rfl,rfl,hM⟩⟩
 | @other L d p s h hr =>
  intro hg hp M c hM hc
  exact ⟨M,none,.inr ⟨fun q=>by rw [hr] at q;simp at q,rfl,rfl⟩,.inl ⟨rfl,rfl,hM⟩⟩
 | @rune L d p s s' h hr hd ih =>
  intro hg hp M c hM hc
  have hne:¬ EnW I m (.runeOf L d):=fun e=>by rcases e with e | e | e;cases e;cases e;simp [prW,inW] at e
  have hc2:=hc.2 hne
  cases d with
  | again x =>
   obtain ⟨x1,x2⟩:=hg
   have hx:¬ EnW I m (.again x):=fun e=>by have:=en_again.1 e;omega
   obtain ⟨M',r,hw,ho⟩:=ih ⟨x1,by omega⟩ (by omega) M c hM ⟨fun e=>absurd e hx,fun _=>hc2⟩
   exact ⟨M',r,.inl ⟨h,hr,hw⟩,ho⟩
  | _=>exact hg.elim
 | @fails a d p s h =>
  intro hg hp M c hM hc
  exact ⟨M,none,.inr ⟨h,rfl,rfl⟩,.inl ⟨rfl,rfl,hM⟩⟩
 | @holds a d p s s' h hd ih =>
  intro hg hp M c hM hc
  have hne:¬ EnW I m (.ifHolds a d):=fun e=>by rcases e with e | e | e;cases e;cases e;simp [prW,inW] at e
  have hc2:=hc.2 hne
  cases d with
  | again x =>
   obtain ⟨x1,x2⟩:=hg
   have hx:¬ EnW I m (.again x):=fun e=>by have:=en_again.1 e;omega
   obtain ⟨M',r,hw,ho⟩:=ih ⟨x1,by omega⟩ hp M c hM ⟨fun e=>absurd e hx,fun _=>hc2⟩
   exact ⟨M',r,.inl ⟨h,hw⟩,ho⟩
  | _=>exact hg.elim
 | @inOrder l p ss h ih =>
  intro hg hp M c hM hc
  have hne:¬ EnW I m (.inOrder l):=fun e=>by rcases e with e | e | e;cases e;cases e;simp [prW,inW] at e
  have hc2:=hc.2 hne
  match l,hg with
  | [],_=>exact ⟨M,none,⟨rfl,rfl⟩,.inl ⟨rfl,rfl,hM⟩⟩
  | [.again x,.again y],hg =>
   obtain ⟨x1,x2,y1,y2⟩:=hg
   have hx:¬ EnW I m (.again x):=fun e=>by have:=en_again.1 e;omega
   have hy:¬ EnW I m (.again y):=fun e=>by have:=en_again.1 e;omega
   obtain ⟨M1,r1,w1,o1⟩:=ih 0 (by simp) ⟨x1,by omega⟩ hp M c hM ⟨fun e=>absurd e hx,fun _=>hc2⟩
   have n1:=(h 0 (by simp)).notes
   obtain ⟨l2,p2⟩:=(h 1 (by simp)).par
   rcases o1 with ⟨rfl,e1,m1⟩ | ⟨c1,q1,rest,rfl,e1⟩
   ·obtain ⟨M2,r2,w2,o2⟩:=ih 1 (by simp) ⟨y1,by omega⟩ hp M1 c m1 ⟨fun e=>absurd e hy,fun _=>by simp only [Nat.zero_add] at n1;rw [n1];exact hc2⟩
    refine ⟨M2,r2,.inr ⟨M1,w1,w2⟩,?_⟩
    simp only [Nat.zero_add] at e1
    rcases o2 with ⟨rfl,e2,m2⟩ | ⟨c2,q2,rest,rfl,e2⟩
    ·exact .inl ⟨rfl,by simpa [e1] using e2,by simpa using m2⟩
    ·exact .inr ⟨c2,q2,rest,rfl,by simpa [e1] using e2⟩
   ·refine ⟨M1,_,.inl ⟨_,w1,rfl⟩,.inr ⟨c1,q1,rest ++ l2,rfl,?_⟩⟩
    simp only [Nat.zero_add,Nat.reduceAdd,List.length_cons,List.length_nil] at e1 p2 ⊢
    rw [p2,e1]
    simp
 | @again b p s s' h ih =>
  intro hg hp M c hM hc
  obtain ⟨b1,b2⟩:=hg
  obtain ⟨M',r,hw,ho⟩:=ih ⟨b,b1,b2,rfl⟩ hp M c hM ⟨fun e=>hc.1 (en_again.2 (en_prW.1 e)),fun e=>hc.2 fun e2=>e (en_prW.2 (en_again.1 e2))⟩
  obtain ⟨i,e,hd⟩:=hw
  have:b=i:=by omega
  subst this
  exact ⟨M',r,hd,ho⟩
end
abbrev BgC (C:WC) (Wy:Way) (p:Nat) (s s1:Sg):Prop:=∀ e ∈ C.L,Wy=e.t.fw e.B→WCall C 47 e.t.lb p s s1
abbrev BhC (C:WC) (Wy:Way) (p:Nat) (s s1:Sg):Prop:=∀ e ∈ C.L,Wy=e.B→WCall C 82 e.t.lb p s s1
structure Wk (C:WC) (Wy:Way) (p:Nat) (s s1:Sg):Prop where
 bg:BgC C Wy p s s1
 bh:BhC C Wy p s s1
 dc:∀ lb R a ss mn mx lz ix nm B up nth,(⟨.mk lb 6 R a ss mn mx lz ix nm,B,up,nth⟩:Pl) ∈ C.L→mx < 0→Wy=Kd lz lb B→WCall C 88 lb p s s1
 ch:∀ lb R a ss mn mx lz ix nm B up nth,(⟨.mk lb 6 R a ss mn mx lz ix nm,B,up,nth⟩:Pl) ∈ C.L→(mx < 0∧Wy=.inOrder (if lz=true then [B,.again lb] else [.again lb,B]))∨(¬ mx < 0∧Wy=.inOrder (if lz=true then [B,fwH ss B] else [fwH ss B,B]))→WCall C 87 lb p s s1
 ag:∀ lb R a ss mn mx lz ix nm B up nth,(⟨.mk lb 6 R a ss mn mx lz ix nm,B,up,nth⟩:Pl) ∈ C.L→mx < 0→Wy=.again lb→∀ h:0 < ss.length,WCall C 47 (ss[0]).lb p s s1
 rn:∀ lb R a ss mn mx lz ix nm B up nth,(⟨.mk lb 2 R a ss mn mx lz ix nm,B,up,nth⟩:Pl) ∈ C.L→Wy=.runeOf R B→(p < C.tn→hsB R (C.tx.getD p 0)=true→WCall C 82 lb (p + 1) s s1)∧(¬ (p < C.tn∧hsB R (C.tx.getD p 0)=true)→s1=s)
 ho:∀ lb R a ss mn mx lz ix nm B up nth,(⟨.mk lb 3 R a ss mn mx lz ix nm,B,up,nth⟩:Pl) ∈ C.L→Wy=.ifHolds a B→(holdsB a (atP C.tx p)=true→WCall C 82 lb p s s1)∧(holdsB a (atP C.tx p)=false→s1=s)
 nt:∀ c d,Wy=.noted c d→∃ s2:Sg,BgC C d p { s with notes:=s.notes.set c (p:Int) } s2∧BhC C d p { s with notes:=s.notes.set c (p:Int) } s2∧s2.done=s1.done∧s2.parses=s1.parses
 al:∀ lb R a ss mn mx lz ix nm B up nth,(⟨.mk lb 5 R a ss mn mx lz ix nm,B,up,nth⟩:Pl) ∈ C.L→Wy=.inOrder (fwA ss B)→∃ gs:Nat→Sg,gs 0=s∧gs ss.length=s1∧∀ i (hi:i < ss.length),WCall C 47 (ss[i]).lb p (gs i) (gs (i + 1))∧(gs i).notes=s.notes∧(gs i).parses.length≤70
theorem BgC.at {C:WC} {Wy:Way} {p:Nat} {s s1:Sg} (h:BgC C Wy p s s1) {e:Pl} (he:e ∈ C.L) (hW:Wy=e.t.fw e.B) {lb:Nat} (hl:e.t.lb=lb):WCall C 47 lb p s s1:=hl ▸ h e he hW
theorem BhC.at {C:WC} {Wy:Way} {p:Nat} {s s1:Sg} (h:BhC C Wy p s s1) {e:Pl} (he:e ∈ C.L) (hW:Wy=e.B) {lb:Nat} (hl:e.t.lb=lb):WCall C 82 lb p s s1:=hl ▸ h e he hW
theorem fwA_len (B:Way):∀ ts:List Lt,(fwA ts B).length=ts.length
 | []=>rfl
 | t :: ts=>by simp [fwA,fwA_len B ts]
theorem fwA_get (B:Way):∀ (ts:List Lt) (i:Nat) (h:i < (fwA ts B).length) (h':i < ts.length),(fwA ts B)[i]=(ts[i]).fw B
 | [],i,_,h'=>by simp at h'
 | t :: ts,0,_,_=>rfl
 | t :: ts,i + 1,h,h'=>by
  simp only [fwA,List.getElem_cons_succ]
  exact fwA_get B ts i _ _
theorem fwH_get (B:Way) {ss:List Lt} (h:0 < ss.length):fwH ss B=(ss[0]).fw B:=by
 cases ss with
 | nil=>simp at h
 | cons t ts=>rfl
theorem behind_of {C:WC} (hk:WCk C) {Wy:Way} {p:Nat} {s s1:Sg} (hx:Ex C.tx C.E Wy p s s1) (hB:BgC C Wy p s s1)
  (hD:∀ lb R a ss mn mx lz ix nm B up nth,(⟨.mk lb 6 R a ss mn mx lz ix nm,B,up,nth⟩:Pl) ∈ C.L→mx < 0→Wy=Kd lz lb B→WCall C 88 lb p s s1)
  (hG:∀ c d,Wy=.noted c d→∃ s2:Sg,BhC C d p { s with notes:=s.notes.set c (p:Int) } s2∧s2.done=s1.done∧s2.parses=s1.parses):BhC C Wy p s s1:=by
 have key:∀ m,∀ e ∈ C.L,C.n - e.t.lb≤m→Wy=e.B→WCall C 82 e.t.lb p s s1:=by
  intro m
  induction m with
  | zero =>
   intro e he hm _
   have:=hk.num e he
   omega
  | succ m ih =>
   intro e he hm hW
   rcases hk.par e he with ⟨h1,h2⟩ | ⟨q,hq,i,hi,h1,h2⟩
   ·obtain ⟨⟨lb,k,R,a,ss,mn,mx,lz,ix,nm⟩,B,up,nth⟩:=e
    simp only at h1 h2
    subst h1 h2
    rw [hW] at hx
    exact behind_root hk he hx
   ·obtain ⟨⟨lb,k,R,a,ss,mn,mx,lz,ix,nm⟩,B,up,nth⟩:=q
    simp only [Lt.sub] at hi
    have hnum:=hk.num e he
    subst h1
    have h2:(ss[i]).lb < lb:=h2
    have hm:C.n - (ss[i]).lb≤m + 1:=hm
    have hnum:(ss[i]).lb < C.n:=hnum
    have hW':Wy=subB (.mk lb k R a ss mn mx lz ix nm) B i:=hW
    have hFN:=kinds_sub hk hq
    refine behind_up hk hq hi (fun hn h4=>?_) (fun h4 h7 h6=>?_) (fun h7=>?_) (fun h6 hm6=>?_)
    ·have hc:=hk.child _ hq (i + 1) (by simpa [Lt.sub] using hn)
     refine BgC.at hB hc ?_ rfl
     rw [hW']
     simp only [subB,h4,if_true,child,Lt.sub]
     exact fwC_next hn
    ·have hih:=ih (⟨.mk lb k R a ss mn mx lz ix nm,B,up,nth⟩:Pl) hq
     simp only [Lt.lb] at hih
     refine hih ?_ ?_
     ·omega
     ·rw [hW']
      show subB _ _ _=B
      simp only [subB]
      by_cases h:k=4
      ·rw [if_pos h,List.drop_eq_nil_of_le (by have:=h4 h;omega)]
       rfl
      ·rw [if_neg h,if_neg h7,if_neg h6]
    ·obtain ⟨s2,c1,c2,c3⟩:=hG (2 * ix.toNat + 1) B (by rw [hW'];simp [subB,h7])
     exact ⟨s2,BhC.at c1 hq rfl rfl,c2,c3⟩
    ·subst h6
     exact hD lb R a ss mn mx lz ix nm B up nth hq hm6 (by rw [hW'];simp [subB,hm6])
 intro e he hW
 exact key _ e he (Nat.le_refl _) hW
theorem ss_par {C:WC} {l:List Way} {p:Nat} (ss:Nat→Sg) (h:∀ i (hi:i < l.length),Ex C.tx C.E (l[i]'hi) p (ss i) (ss (i + 1))):∀ k i,i + k≤l.length→(ss i).parses.length≤(ss (i + k)).parses.length
 | 0,i,_=>Nat.le_refl _
 | k + 1,i,hk=>by
  have h1:=ss_par ss h k i (by omega)
  obtain ⟨r,hr⟩:=(h (i + k) (by omega)).par
  have:(ss (i + (k + 1))).parses.length=(ss (i + k)).parses.length + r.length:=by
   rw [show i + (k + 1)=i + k + 1 by omega,hr,List.length_append]
  omega
theorem ss_notes {C:WC} {l:List Way} {p:Nat} (ss:Nat→Sg) (h:∀ i (hi:i < l.length),Ex C.tx C.E (l[i]'hi) p (ss i) (ss (i + 1))):∀ i,i≤l.length→(ss i).notes=(ss 0).notes
 | 0,_=>rfl
 | i + 1,hi=>by rw [(h i (by omega)).notes,ss_notes ss h i (by omega)]
theorem walk_all {C:WC} (hk:WCk C) {Wy:Way} {p:Nat} {s s1:Sg} (h:Ex C.tx C.E Wy p s s1):s1.parses.length≤70→p≤C.tn→Wk C Wy p s s1:=by
 have hno:∀ {e:Pl} {Wy:Way},(∀ n d,Wy≠.once n d)→Wy≠e.t.fw e.B:=fun {e Wy} hn he=>by
  obtain ⟨⟨lb,k,R,a,ss,mn,mx,lz,ix,nm⟩,B,up,nth⟩:=e
  simp only [Lt.fw] at he
  exact hn _ _ he
 have htl:=hk.tnl
 have hx:=h
 induction h with
 | through p s =>
  intro hl hp
  have hB:BgC C .through p s { s with parses:=s.parses ++ [((p:Int),s.notes.set 1 (p:Int))] }:=fun e he hW=>absurd hW (hno (fun n d e=>(by cases e)))
  exact ⟨hB,behind_of hk hx hB (fun _ _ _ _ _ _ _ _ _ _ _ _ _ _ e=>(by cases e)) (fun _ _ e=>(by cases e)),fun _ _ _ _ _ _ _ _ _ _ _ _ _ _ e=>(by cases e),fun _ _ _ _ _ _ _ _ _ _ _ _ _ e=>(by rcases e with ⟨_,e⟩ | ⟨_,e⟩ <;> cases e),fun _ _ _ _ _ _ _ _ _ _ _ _ _ _ e=>(by cases e),fun _ _ _ _ _ _ _ _ _ _ _ _ _ e=>(by cases e),fun _ _ _ _ _ _ _ _ _ _ _ _ _ e=>(by cases e),fun _ _ e=>(by cases e),fun _ _ _ _ _ _ _ _ _ _ _ _ _ e=>(by cases e)⟩
 | @skip n d p s hs =>
  intro hl hp
  have hB:BgC C (.once n d) p s s:=fun e he hW=>by
   obtain ⟨⟨lb,k,R,a,ss,mn,mx,lz,ix,nm⟩,B,up,nth⟩:=e
   simp only [Lt.fw,Way.once.injEq] at hW
   rw [hW.1] at hs
   exact begin47 hk he (fun _=>rfl) (fun hn=>absurd hs hn)
  have hD:∀ lb R a ss mn mx lz ix nm B up nth,(⟨.mk lb 6 R a ss mn mx lz ix nm,B,up,nth⟩:Pl) ∈ C.L→mx < 0→Way.once n d=Kd lz lb B→WCall C 88 lb p s s:=fun lb R a ss mn mx lz ix nm B up nth he hm hW=>by
   simp only [Kd,Way.once.injEq] at hW
   rw [hW.1] at hs
   exact decide88 hk (hk.num _ he) (fun _=>rfl) (fun hn=>absurd hs hn)
  exact ⟨hB,behind_of hk hx hB hD (fun _ _ e=>(by cases e)),hD,fun _ _ _ _ _ _ _ _ _ _ _ _ _ e=>(by rcases e with ⟨_,e⟩ | ⟨_,e⟩ <;> cases e),fun _ _ _ _ _ _ _ _ _ _ _ _ _ _ e=>(by cases e),fun _ _ _ _ _ _ _ _ _ _ _ _ _ e=>(by cases e),fun _ _ _ _ _ _ _ _ _ _ _ _ _ e=>(by cases e),fun _ _ e=>(by cases e),fun _ _ _ _ _ _ _ _ _ _ _ _ _ e=>(by cases e)⟩
 | @once n d p s s' hs hd ih =>
  intro hl hp
  have ih:=ih hd hl hp
  have hB:BgC C (.once n d) p s s':=fun e he hW=>by
   obtain ⟨⟨lb,k,R,a,ss,mn,mx,lz,ix,nm⟩,B,up,nth⟩:=e
   simp only [Lt.fw,Way.once.injEq] at hW
   obtain ⟨e1,e2⟩:=hW
   rw [e1] at hs ih
   have hFN:=kinds_sub hk he
   refine begin47 hk he (fun hn=>absurd hn hs) (fun _=>⟨fun h=>?_,fun h=>?_,fun h=>?_,fun h h0=>?_,fun h=>?_,fun h h0=>?_,fun h hm=>?_,fun h hm hn=>?_⟩)
   ·subst h
    simp at e2
    exact BhC.at ih.bh he e2 rfl
   ·subst h
    simp at e2
    exact ih.rn lb R a ss mn mx lz ix nm B up nth he e2
   ·subst h
    simp at e2
    exact ih.ho lb R a ss mn mx lz ix nm B up nth he e2
   ·have hc:=hk.child _ he 0 (by simpa [Lt.sub] using h0)
    refine BgC.at ih.bg hc ?_ rfl
    rcases h with rfl | ⟨rfl,hm,hn⟩
    ·simp at e2
     rw [e2]
     simp only [child,Lt.sub,subB,if_true]
     rw [← fwC_next (by exact h0)]
     rfl
    ·simp [hm,hn] at e2
     rw [e2,fwH_get _ h0]
     simp [child,Lt.sub,subB,hm]
   ·subst h
    simp at e2
    exact ih.al lb R a ss mn mx lz ix nm B up nth he e2
   ·subst h
    simp at e2
    obtain ⟨s2,c1,_,c2,c3⟩:=ih.nt _ _ e2
    have hc:=hk.child _ he 0 (by simpa [Lt.sub] using h0)
    refine ⟨s2,BgC.at c1 hc ?_ rfl,c2,c3⟩
    rw [fwH_get _ h0]
    simp [child,Lt.sub,subB]
   ·subst h
    simp [hm] at e2
    exact ih.ch lb R a ss mn mx lz ix nm B up nth he (.inr ⟨hm,by rw [e2]⟩)
   ·subst h
    simp [hm,hn] at e2
    exact ih.dc lb R a ss mn mx lz ix nm B up nth he hm (by rw [e2])
  have hD:∀ lb R a ss mn mx lz ix nm B up nth,(⟨.mk lb 6 R a ss mn mx lz ix nm,B,up,nth⟩:Pl) ∈ C.L→mx < 0→Way.once n d=Kd lz lb B→WCall C 88 lb p s s':=fun lb R a ss mn mx lz ix nm B up nth he hm hW=>by
   simp only [Kd,Way.once.injEq] at hW
   obtain ⟨e1,e2⟩:=hW
   rw [e1] at hs ih
   exact decide88 hk (hk.num _ he) (fun hn=>absurd hn hs) (fun _=>ih.ch lb R a ss mn mx lz ix nm B up nth he (.inl ⟨hm,e2⟩))
  exact ⟨hB,behind_of hk hx hB hD (fun _ _ e=>(by cases e)),hD,fun _ _ _ _ _ _ _ _ _ _ _ _ _ e=>(by rcases e with ⟨_,e⟩ | ⟨_,e⟩ <;> cases e),fun _ _ _ _ _ _ _ _ _ _ _ _ _ _ e=>(by cases e),fun _ _ _ _ _ _ _ _ _ _ _ _ _ e=>(by cases e),fun _ _ _ _ _ _ _ _ _ _ _ _ _ e=>(by cases e),fun _ _ e=>(by cases e),fun _ _ _ _ _ _ _ _ _ _ _ _ _ e=>(by cases e)⟩
 | @noted c d p s s' hd ih =>
  intro hl hp
  have ih:=ih hd hl hp
  have hB:BgC C (.noted c d) p s { s' with notes:=s'.notes.set c (s.notes.getD c 0) }:=fun e he hW=>absurd hW (hno (fun n d e=>(by cases e)))
  refine ⟨hB,behind_of hk hx hB (fun _ _ _ _ _ _ _ _ _ _ _ _ _ _ e=>(by cases e)) (fun c' d' e=>?_),fun _ _ _ _ _ _ _ _ _ _ _ _ _ _ e=>(by cases e),fun _ _ _ _ _ _ _ _ _ _ _ _ _ e=>(by rcases e with ⟨_,e⟩ | ⟨_,e⟩ <;> cases e),fun _ _ _ _ _ _ _ _ _ _ _ _ _ _ e=>(by cases e),fun _ _ _ _ _ _ _ _ _ _ _ _ _ e=>(by cases e),fun _ _ _ _ _ _ _ _ _ _ _ _ _ e=>(by cases e),fun c' d' e=>?_,fun _ _ _ _ _ _ _ _ _ _ _ _ _ e=>(by cases e)⟩
  ·cases e
   exact ⟨s',ih.bh,rfl,rfl⟩
  ·cases e
   exact ⟨s',ih.bg,ih.bh,rfl,rfl⟩
 | @over L d p s hL =>
  intro hl hp
  have hB:BgC C (.runeOf L d) p s s:=fun e he hW=>absurd hW (hno (fun n d e=>(by cases e)))
  refine ⟨hB,behind_of hk hx hB (fun _ _ _ _ _ _ _ _ _ _ _ _ _ _ e=>(by cases e)) (fun _ _ e=>(by cases e)),fun _ _ _ _ _ _ _ _ _ _ _ _ _ _ e=>(by cases e),fun _ _ _ _ _ _ _ _ _ _ _ _ _ e=>(by rcases e with ⟨_,e⟩ | ⟨_,e⟩ <;> cases e),fun _ _ _ _ _ _ _ _ _ _ _ _ _ _ e=>(by cases e),fun lb R a ss mn mx lz ix nm B up nth he e=>⟨fun h=>by omega,fun _=>rfl⟩,fun _ _ _ _ _ _ _ _ _ _ _ _ _ e=>(by cases e),fun _ _ e=>(by cases e),fun _ _ _ _ _ _ _ _ _ _ _ _ _ e=>(by cases e)⟩
 | @other L d p s hL hr =>
  intro hl hp
  have hB:BgC C (.runeOf L d) p s s:=fun e he hW=>absurd hW (hno (fun n d e=>(by cases e)))
  refine ⟨hB,behind_of hk hx hB (fun _ _ _ _ _ _ _ _ _ _ _ _ _ _ e=>(by cases e)) (fun _ _ e=>(by cases e)),fun _ _ _ _ _ _ _ _ _ _ _ _ _ _ e=>(by cases e),fun _ _ _ _ _ _ _ _ _ _ _ _ _ e=>(by rcases e with ⟨_,e⟩ | ⟨_,e⟩ <;> cases e),fun _ _ _ _ _ _ _ _ _ _ _ _ _ _ e=>(by cases e),fun lb R a ss mn mx lz ix nm B up nth he e=>⟨fun _ h=>?_,fun _=>rfl⟩,fun _ _ _ _ _ _ _ _ _ _ _ _ _ e=>(by cases e),fun _ _ e=>(by cases e),fun _ _ _ _ _ _ _ _ _ _ _ _ _ e=>(by cases e)⟩
  cases e
  rw [hs_has,hr] at h
  cases h
 | @rune L d p s s' hL hr hd ih =>
  intro hl hp
  have ih:=ih hd hl (by omega)
  have hB:BgC C (.runeOf L d) p s s':=fun e he hW=>absurd hW (hno (fun n d e=>(by cases e)))
  refine ⟨hB,behind_of hk hx hB (fun _ _ _ _ _ _ _ _ _ _ _ _ _ _ e=>(by cases e)) (fun _ _ e=>(by cases e)),fun _ _ _ _ _ _ _ _ _ _ _ _ _ _ e=>(by cases e),fun _ _ _ _ _ _ _ _ _ _ _ _ _ e=>(by rcases e with ⟨_,e⟩ | ⟨_,e⟩ <;> cases e),fun _ _ _ _ _ _ _ _ _ _ _ _ _ _ e=>(by cases e),fun lb R a ss mn mx lz ix nm B up nth he e=>?_,fun _ _ _ _ _ _ _ _ _ _ _ _ _ e=>(by cases e),fun _ _ e=>(by cases e),fun _ _ _ _ _ _ _ _ _ _ _ _ _ e=>(by cases e)⟩
  cases e
  exact ⟨fun _ _=>BhC.at ih.bh he rfl rfl,fun hn=>absurd ⟨by omega,by rw [hs_has];exact hr⟩ hn⟩
 | @fails a d p s hf =>
  intro hl hp
  have hB:BgC C (.ifHolds a d) p s s:=fun e he hW=>absurd hW (hno (fun n d e=>(by cases e)))
  refine ⟨hB,behind_of hk hx hB (fun _ _ _ _ _ _ _ _ _ _ _ _ _ _ e=>(by cases e)) (fun _ _ e=>(by cases e)),fun _ _ _ _ _ _ _ _ _ _ _ _ _ _ e=>(by cases e),fun _ _ _ _ _ _ _ _ _ _ _ _ _ e=>(by rcases e with ⟨_,e⟩ | ⟨_,e⟩ <;> cases e),fun _ _ _ _ _ _ _ _ _ _ _ _ _ _ e=>(by cases e),fun _ _ _ _ _ _ _ _ _ _ _ _ _ e=>(by cases e),fun lb R a' ss mn mx lz ix nm B up nth he e=>⟨fun h=>?_,fun _=>rfl⟩,fun _ _ e=>(by cases e),fun _ _ _ _ _ _ _ _ _ _ _ _ _ e=>(by cases e)⟩
  cases e
  rw [held_at (by omega),h] at hf
  cases hf
 | @holds a d p s s' hf hd ih =>
  intro hl hp
  have ih:=ih hd hl hp
  have hB:BgC C (.ifHolds a d) p s s':=fun e he hW=>absurd hW (hno (fun n d e=>(by cases e)))
  refine ⟨hB,behind_of hk hx hB (fun _ _ _ _ _ _ _ _ _ _ _ _ _ _ e=>(by cases e)) (fun _ _ e=>(by cases e)),fun _ _ _ _ _ _ _ _ _ _ _ _ _ _ e=>(by cases e),fun _ _ _ _ _ _ _ _ _ _ _ _ _ e=>(by rcases e with ⟨_,e⟩ | ⟨_,e⟩ <;> cases e),fun _ _ _ _ _ _ _ _ _ _ _ _ _ _ e=>(by cases e),fun _ _ _ _ _ _ _ _ _ _ _ _ _ e=>(by cases e),fun lb R a' ss mn mx lz ix nm B up nth he e=>?_,fun _ _ e=>(by cases e),fun _ _ _ _ _ _ _ _ _ _ _ _ _ e=>(by cases e)⟩
  cases e
  refine ⟨fun _=>BhC.at ih.bh he rfl rfl,fun h=>?_⟩
  rw [held_at (by omega),h] at hf
  cases hf
 | @inOrder l p ss h ih =>
  intro hl hp
  have hpl:∀ i,i≤l.length→(ss i).parses.length≤70:=fun i hi=>by
   have:=ss_par (C:=C) ss h (l.length - i) i (by omega)
   rw [show i + (l.length - i)=l.length by omega] at this
   omega
  have hnt:=ss_notes (C:=C) ss h
  have ih:∀ i (hi:i < l.length),Wk C (l[i]'hi) p (ss i) (ss (i + 1)):=fun i hi=>ih i hi (h i hi) (hpl (i + 1) (by omega)) hp
  have hB:BgC C (.inOrder l) p (ss 0) (ss l.length):=fun e he hW=>absurd hW (hno (fun n d e=>(by cases e)))
  refine ⟨hB,behind_of hk hx hB (fun _ _ _ _ _ _ _ _ _ _ _ _ _ _ e=>(by cases e)) (fun _ _ e=>(by cases e)),fun _ _ _ _ _ _ _ _ _ _ _ _ _ _ e=>(by cases e),fun lb R a s mn mx lz ix nm B up nth he e=>?_,fun _ _ _ _ _ _ _ _ _ _ _ _ _ _ e=>(by cases e),fun _ _ _ _ _ _ _ _ _ _ _ _ _ e=>(by cases e),fun _ _ _ _ _ _ _ _ _ _ _ _ _ e=>(by cases e),fun _ _ e=>(by cases e),fun lb R a s mn mx lz ix nm B up nth he e=>?_⟩
  ·have hFN:=kinds_sub hk he
   have h0:0 < s.length:=by have:=(hFN.rep rfl).1;omega
   have hc:=hk.child _ he 0 (by simpa [Lt.sub] using h0)
   refine choose87 hk he h0 (fun hz=>?_) (fun hz=>?_)
   ·subst hz
    rcases e with ⟨hm,e⟩ | ⟨hm,e⟩
    ·simp only [if_true,Way.inOrder.injEq] at e
     subst e
     exact ⟨ss 1,BhC.at (ih 0 (by simp)).bh he rfl rfl,hnt 1 (by simp),hpl 1 (by simp),(ih 1 (by simp)).ag lb R a s mn mx true ix nm B up nth he hm rfl h0⟩
    ·simp only [if_true,Way.inOrder.injEq] at e
     subst e
     refine ⟨ss 1,BhC.at (ih 0 (by simp)).bh he rfl rfl,hnt 1 (by simp),hpl 1 (by simp),BgC.at (ih 1 (by simp)).bg hc ?_ rfl⟩
     show fwH s B=_
     rw [fwH_get _ h0]
     simp [child,Lt.sub,subB,hm]
   ·subst hz
    rcases e with ⟨hm,e⟩ | ⟨hm,e⟩
    ·simp only [Bool.false_eq_true,if_false,Way.inOrder.injEq] at e
     subst e
     exact ⟨ss 1,(ih 0 (by simp)).ag lb R a s mn mx false ix nm B up nth he hm rfl h0,hnt 1 (by simp),hpl 1 (by simp),BhC.at (ih 1 (by simp)).bh he rfl rfl⟩
    ·simp only [Bool.false_eq_true,if_false,Way.inOrder.injEq] at e
     subst e
     refine ⟨ss 1,BgC.at (ih 0 (by simp)).bg hc ?_ rfl,hnt 1 (by simp),hpl 1 (by simp),BhC.at (ih 1 (by simp)).bh he rfl rfl⟩
     show fwH s B=_
     rw [fwH_get _ h0]
     simp [child,Lt.sub,subB,hm]
  ·simp only [Way.inOrder.injEq] at e
   subst e
   refine ⟨ss,rfl,by rw [fwA_len],fun i hi=>?_⟩
   have hi':i < (fwA s B).length:=by rw [fwA_len];exact hi
   have hc:=hk.child _ he i (by simpa [Lt.sub] using hi)
   refine ⟨BgC.at (ih i hi').bg hc ?_ rfl,hnt i (by omega),hpl i (by omega)⟩
   rw [fwA_get B s i hi' hi]
   simp [child,Lt.sub,subB]
 | @again b p s s' hd ih =>
  intro hl hp
  have ih:=ih hd hl hp
  have hB:BgC C (.again b) p s s':=fun e he hW=>absurd hW (hno (fun n d e=>(by cases e)))
  refine ⟨hB,behind_of hk hx hB (fun _ _ _ _ _ _ _ _ _ _ _ _ _ _ e=>(by cases e)) (fun _ _ e=>(by cases e)),fun _ _ _ _ _ _ _ _ _ _ _ _ _ _ e=>(by cases e),fun _ _ _ _ _ _ _ _ _ _ _ _ _ e=>(by rcases e with ⟨_,e⟩ | ⟨_,e⟩ <;> cases e),fun lb R a ss mn mx lz ix nm B up nth he hm e h0=>?_,fun _ _ _ _ _ _ _ _ _ _ _ _ _ e=>(by cases e),fun _ _ _ _ _ _ _ _ _ _ _ _ _ e=>(by cases e),fun _ _ e=>(by cases e),fun _ _ _ _ _ _ _ _ _ _ _ _ _ e=>(by cases e)⟩
  cases e
  have hc:=hk.child _ he 0 (by simpa [Lt.sub] using h0)
  refine BgC.at ih.bg hc ?_ rfl
  have heo:=(hk.eo _ he)
  simp only [Lt.eo] at heo
  rcases heo.2.2.2 (by trivial) with ⟨_,h2,_⟩ | ⟨h1,_⟩
  ·rw [h2,fwH_get _ h0]
   simp [child,Lt.sub,subB,hm]
  ·omega
end Go.Proofs.YtacaanhnlfpbhaaGreat
