/- HELPERS: texts of ours put together. -/
import Derived.Test.YtacaanhnlfpbhaaGreatK12
namespace Go.Proofs.YtacaanhnlfpbhaaGreat
open Go.RowKit
set_option linter.unusedVariables false
set_option linter.unusedSimpArgs false
inductive RchY (tx:List Int) (E:Nat→Way):Nat→Way→Nat→Nat→Prop
 | through {p:Nat}:RchY tx E 0 .through p p
 | once {k:Nat} {n:Int} {d:Way} {p q:Nat} (h:RchY tx E k d p q):RchY tx E (k + 1) (.once n d) p q
 | noted {k c:Nat} {d:Way} {p q:Nat} (h:RchY tx E k d p q):RchY tx E (k + 1) (.noted c d) p q
 | rune {k:Nat} {R:Rng} {d:Way} {p q:Nat} (hp:p < tx.length) (hr:(rightB R && hasB R (tx.getD p 0))=true) (h:RchY tx E k d (p + 1) q):RchY tx E (k + 1) (.runeOf R d) p q
 | holds {k:Nat} {a:Int} {d:Way} {p q:Nat} (hh:heldB tx a p=true) (h:RchY tx E k d p q):RchY tx E (k + 1) (.ifHolds a d) p q
 | inOrder {k:Nat} {l:List Way} {p q:Nat} (d:Way) (hd:d ∈ l) (h:RchY tx E k d p q):RchY tx E (k + 1) (.inOrder l) p q
 | again {k b:Nat} {p q:Nat} (h:RchY tx E k (E b) p q):RchY tx E (k + 1) (.again b) p q
def Can (tx:List Int) (E:Nat→Way) (W:Way) (p q:Nat):Prop:=∃ k,RchY tx E k W p q
section
variable {tx:List Int} {E:Nat→Way}
theorem can_once {n:Int} {d:Way} {p q:Nat}:Can tx E (.once n d) p q↔Can tx E d p q:=⟨fun ⟨k,h⟩=>by cases h with | once h=>exact ⟨_,h⟩,fun ⟨k,h⟩=>⟨_,.once h⟩⟩
theorem can_noted {c:Nat} {d:Way} {p q:Nat}:Can tx E (.noted c d) p q↔Can tx E d p q:=⟨fun ⟨k,h⟩=>by cases h with | noted h=>exact ⟨_,h⟩,fun ⟨k,h⟩=>⟨_,.noted h⟩⟩
theorem can_rune {R:Rng} {d:Way} {p q:Nat}:Can tx E (.runeOf R d) p q↔p < tx.length∧(rightB R && hasB R (tx.getD p 0))=true∧Can tx E d (p + 1) q:=
 ⟨fun ⟨k,h⟩=>by cases h with | rune h1 h2 h3=>exact ⟨h1,h2,_,h3⟩,fun ⟨h1,h2,k,h⟩=>⟨_,.rune h1 h2 h⟩⟩
theorem can_holds {a:Int} {d:Way} {p q:Nat}:Can tx E (.ifHolds a d) p q↔heldB tx a p=true∧Can tx E d p q:=
 ⟨fun ⟨k,h⟩=>by cases h with | holds h1 h2=>exact ⟨h1,_,h2⟩,fun ⟨h1,k,h⟩=>⟨_,.holds h1 h⟩⟩
theorem can_order {l:List Way} {p q:Nat}:Can tx E (.inOrder l) p q↔∃ d ∈ l,Can tx E d p q:=
 ⟨fun ⟨k,h⟩=>by cases h with | inOrder d hd h=>exact ⟨d,hd,_,h⟩,fun ⟨d,hd,k,h⟩=>⟨_,.inOrder d hd h⟩⟩
theorem can_again {b:Nat} {p q:Nat}:Can tx E (.again b) p q↔Can tx E (E b) p q:=⟨fun ⟨k,h⟩=>by cases h with | again h=>exact ⟨_,h⟩,fun ⟨k,h⟩=>⟨_,.again h⟩⟩
inductive Hd (tx:List Int) (E:Nat→Way):Way→Nat→Int × Int→Prop
 | once {n:Int} {d:Way} {p:Nat}:Hd tx E (.once n d) p (n,(p:Int))
 | noted {c:Nat} {d:Way} {p:Nat} {h:Int × Int} (hd:Hd tx E d p h):Hd tx E (.noted c d) p h
 | rune {R:Rng} {d:Way} {p:Nat} {h:Int × Int} (hp:p < tx.length) (hr:(rightB R && hasB R (tx.getD p 0))=true) (hd:Hd tx E d (p + 1) h):Hd tx E (.runeOf R d) p h
 | holds {a:Int} {d:Way} {p:Nat} {h:Int × Int} (hh:heldB tx a p=true) (hd:Hd tx E d p h):Hd tx E (.ifHolds a d) p h
 | inOrder {l:List Way} {p:Nat} {h:Int × Int} (d:Way) (hm:d ∈ l) (hd:Hd tx E d p h):Hd tx E (.inOrder l) p h
 | again {b p:Nat} {h:Int × Int} (hd:Hd tx E (E b) p h):Hd tx E (.again b) p h
mutual
def Way.one (Bd:Int→Way) (A:Nat→Prop):Way→Prop
 | .through=>False
 | .once n d=>Bd n=d∧(n=1∧d=.through∨n≠1∧d.one Bd A)
 | .noted _ d=>d.one Bd A
 | .runeOf _ d=>d.one Bd A
 | .ifHolds _ d=>d.one Bd A
 | .inOrder l=>oneL Bd A l
 | .again b=>A b
def oneL (Bd:Int→Way) (A:Nat→Prop):List Way→Prop
 | []=>True
 | d :: l=>d.one Bd A∧oneL Bd A l
end
theorem oneL_get {Bd:Int→Way} {A:Nat→Prop}:∀ {l:List Way},oneL Bd A l→∀ d ∈ l,d.one Bd A:=by
 intro l
 induction l with
 | nil=>intro _ d hd;cases hd
 | cons e l ih =>
  intro h d hd
  simp only [oneL] at h
  simp only [List.mem_cons] at hd
  rcases hd with rfl | hd
  ·exact h.1
  ·exact ih h.2 d hd
structure Did (tx:List Int) (E:Nat→Way) (Bd:Int→Way) (W:Way) (p:Nat) (s s':Sg):Prop where
 more:∀ h ∈ s.done,h ∈ s'.done
 hd:∀ h,Hd tx E W p h→h ∈ s'.done
 new:∀ (n:Int) (q:Nat),(n,(q:Int)) ∈ s'.done→(n,(q:Int)) ∉ s.done→n≠1→∀ h,Hd tx E (Bd n) q h→h ∈ s'.done
 nat:∀ h ∈ s'.done,h ∈ s.done∨∃ q:Nat,h.2=(q:Int)
 par:∃ l:List (Int × List Int),s'.parses=s.parses ++ l∧(l.map Prod.fst).Nodup∧(∀ q:Nat,((q:Int) ∈ l.map Prod.fst↔(1,(q:Int)) ∈ s'.done∧(1,(q:Int)) ∉ s.done))∧∀ e ∈ l,∃ q:Nat,e.1=(q:Int)∧Can tx E W p q
theorem Did.refl (tx:List Int) (E:Nat→Way) (Bd:Int→Way) (W:Way) (p:Nat) (s:Sg) (h:∀ h,Hd tx E W p h→h ∈ s.done):Did tx E Bd W p s s:=
 ⟨fun _ h=>h,h,fun n q h1 h2=>absurd h1 h2,fun _ h=>.inl h,⟨[],by simp,by simp,fun q=>by simp,fun e he=>by cases he⟩⟩
theorem Did.trans {Bd:Int→Way} {W1 W2 W:Way} {p:Nat} {s s1 s2:Sg} (h1:Did tx E Bd W1 p s s1) (h2:Did tx E Bd W2 p s1 s2) (hh:∀ h,Hd tx E W p h→Hd tx E W1 p h∨Hd tx E W2 p h) (hc1:∀ q,Can tx E W1 p q→Can tx E W p q) (hc2:∀ q,Can tx E W2 p q→Can tx E W p q):Did tx E Bd W p s s2:=by
 refine ⟨fun h hm=>h2.more h (h1.more h hm),fun h hm=>?_,fun n q a1 a2 a3 h hm=>?_,fun h hm=>?_,?_⟩
 ·rcases hh h hm with hm | hm
  ·exact h2.more h (h1.hd h hm)
  ·exact h2.hd h hm
 ·by_cases hm1:(n,(q:Int)) ∈ s1.done
  ·exact h2.more h (h1.new n q hm1 a2 a3 h hm)
  ·exact h2.new n q a1 hm1 a3 h hm
 ·rcases h2.nat h hm with hm | hm
  ·exact h1.nat h hm
  ·exact .inr hm
 ·obtain ⟨l1,e1,n1,p1,c1⟩:=h1.par
  obtain ⟨l2,e2,n2,p2,c2⟩:=h2.par
  refine ⟨l1 ++ l2,by rw [e2,e1,List.append_assoc],?_,fun q=>?_,fun e he=>?_⟩
  ·rw [List.map_append,List.nodup_append]
   refine ⟨n1,n2,fun a ha b hb e=>?_⟩
   subst e
   have hq:∃ q:Nat,a=(q:Int):=by
    simp only [List.mem_map] at ha
    obtain ⟨x,hx,rfl⟩:=ha
    obtain ⟨q,hq,_⟩:=c1 x hx
    exact ⟨q,hq⟩
   obtain ⟨q,rfl⟩:=hq
   exact (((p2 q).1 hb).2) ((p1 q).1 ha).1
  ·rw [List.map_append,List.mem_append,p1 q,p2 q]
   constructor
   ·rintro (⟨a,b⟩ | ⟨a,b⟩)
    ·exact ⟨h2.more _ a,b⟩
    ·exact ⟨a,fun hm=>b (h1.more _ hm)⟩
   ·rintro ⟨a,b⟩
    by_cases hm:(1,(q:Int)) ∈ s1.done
    ·exact .inl ⟨hm,b⟩
    ·exact .inr ⟨a,hm⟩
  ·rcases List.mem_append.1 he with he | he
   ·obtain ⟨q,hq,hc⟩:=c1 e he
    exact ⟨q,hq,hc1 q hc⟩
   ·obtain ⟨q,hq,hc⟩:=c2 e he
    exact ⟨q,hq,hc2 q hc⟩
theorem Did.as {Bd:Int→Way} {W1 W:Way} {p p1:Nat} {s s1:Sg} (h1:Did tx E Bd W1 p1 s s1) (hh:∀ h,Hd tx E W p h→Hd tx E W1 p1 h) (hc1:∀ q,Can tx E W1 p1 q→Can tx E W p q):Did tx E Bd W p s s1:=by
 obtain ⟨l1,e1,n1,p1,c1⟩:=h1.par
 exact ⟨h1.more,fun h hm=>h1.hd h (hh h hm),h1.new,h1.nat,l1,e1,n1,p1,fun e he=>by obtain ⟨q,hq,hc⟩:=c1 e he;exact ⟨q,hq,hc1 q hc⟩⟩
theorem Did.noted {Bd:Int→Way} {W:Way} {p:Nat} {s s':Sg} {a b:List Int} (h:Did tx E Bd W p { s with notes:=a } s'):Did tx E Bd W p s { s' with notes:=b }:=⟨h.more,h.hd,h.new,h.nat,h.par⟩
theorem ex_did {Bd:Int→Way} {A:Nat→Prop} (hE:∀ b,A b→(E b).one Bd A) {W:Way} {p:Nat} {s s':Sg} (h:Ex tx E W p s s'):W.one Bd A→Did tx E Bd W p s s':=by
 induction h with
 | through p s=>intro ho;simp [Way.one] at ho
 | skip h=>intro _;exact Did.refl _ _ _ _ _ _ fun x hx=>by cases hx;exact h
 | @once n d p s s' h hd ih =>
  intro ho
  simp only [Way.one] at ho
  obtain ⟨ho1,⟨rfl,rfl⟩ | ⟨ho2,ho3⟩⟩:=ho
  ·cases hd
   refine ⟨fun x hx=>by simp [hx],fun x hx=>by cases hx;simp,fun n q a1 a2 a3=>?_,fun x hx=>?_,[((p:Int),s.notes.set 1 (p:Int))],rfl,by simp,fun q=>?_,fun e he=>?_⟩
   ·simp only [List.mem_append,List.mem_singleton,Prod.mk.injEq] at a1
    rcases a1 with a1 | a1
    ·exact absurd a1 a2
    ·exact absurd a1.1 a3
   ·simp only [List.mem_append,List.mem_singleton] at hx
    rcases hx with hx | rfl
    ·exact .inl hx
    ·exact .inr ⟨p,rfl⟩
   ·simp only [List.map_cons,List.map_nil,List.mem_singleton,List.mem_append,Prod.mk.injEq,true_and]
    constructor
    ·intro e
     refine ⟨.inr e,by rw [e];exact h⟩
    ·rintro ⟨a | a,b⟩
     ·exact absurd a b
     ·exact a
   ·simp only [List.mem_singleton] at he
    subst he
    exact ⟨p,rfl,1,.once .through⟩
  ·have hD:=ih ho3
   obtain ⟨l1,e1,n1,p1,c1⟩:=hD.par
   refine ⟨fun x hx=>hD.more x (by simp [hx]),fun x hx=>by cases hx;exact hD.more _ (by simp),fun m q a1 a2 a3 x hx=>?_,fun x hx=>?_,l1,e1,n1,fun q=>?_,fun e he=>?_⟩
   ·by_cases hm:(m,(q:Int)) ∈ s.done ++ [(n,(p:Int))]
    ·simp only [List.mem_append,List.mem_singleton,Prod.mk.injEq] at hm
     rcases hm with hm | ⟨rfl,hq⟩
     ·exact absurd hm a2
     ·have hq:q=p:=by omega
      subst hq
      rw [ho1] at hx
      exact hD.hd x hx
    ·exact hD.new m q a1 hm a3 x hx
   ·rcases hD.nat x hx with hx | hx
    ·simp only [List.mem_append,List.mem_singleton] at hx
     rcases hx with hx | rfl
     ·exact .inl hx
     ·exact .inr ⟨p,rfl⟩
    ·exact .inr hx
   ·rw [p1 q]
    simp only [List.mem_append,List.mem_singleton,Prod.mk.injEq,not_or]
    constructor
    ·rintro ⟨a,b,_⟩;exact ⟨a,b⟩
    ·rintro ⟨a,b⟩;exact ⟨a,b,fun hc=>ho2 hc.1.symm⟩
   ·obtain ⟨q,hq,hc⟩:=c1 e he
    exact ⟨q,hq,can_once.2 hc⟩
 | noted hd ih =>
  intro ho
  simp only [Way.one] at ho
  exact ((ih ho).as (fun x hx=>by cases hx with | noted hx=>exact hx) (fun q hc=>can_noted.2 hc)).noted
 | over h =>
  intro _
  exact Did.refl _ _ _ _ _ _ fun x hx=>by cases hx;omega
 | other h hr =>
  intro _
  exact Did.refl _ _ _ _ _ _ fun x hx=>by cases hx with | rune h1 h2 h3=>rw [hr] at h2;cases h2
 | rune h hr hd ih =>
  intro ho
  simp only [Way.one] at ho
  exact (ih ho).as (fun x hx=>by cases hx with | rune h1 h2 h3=>exact h3) (fun q hc=>can_rune.2 ⟨h,hr,hc⟩)
 | fails h =>
  intro _
  exact Did.refl _ _ _ _ _ _ fun x hx=>by cases hx with | holds h1 h2=>rw [h] at h1;cases h1
 | holds h hd ih =>
  intro ho
  simp only [Way.one] at ho
  exact (ih ho).as (fun x hx=>by cases hx with | holds h1 h2=>exact h2) (fun q hc=>can_holds.2 ⟨h,hc⟩)
 | again h ih =>
  intro ho
  simp only [Way.one] at ho
  exact (ih (hE _ ho)).as (fun x hx=>by cases hx with | again h=>exact h) (fun q hc=>can_again.2 hc)
 | @inOrder l p ss h ih =>
  intro ho
  simp only [Way.one] at ho
  have key:∀ m,m≤l.length→Did tx E Bd (.inOrder (l.take m)) p (ss 0) (ss m):=by
   intro m
   induction m with
   | zero=>intro _;exact Did.refl _ _ _ _ _ _ fun x hx=>by cases hx with | inOrder d hm _=>simp at hm
   | succ m im =>
    intro hm
    refine (im (by omega)).trans (ih m (by omega) (oneL_get ho _ (List.getElem_mem _))) (fun x hx=>?_) (fun q hc=>?_) (fun q hc=>?_)
    ·cases hx with
     | inOrder d hd hx =>
      rw [List.take_succ_eq_append_getElem (by omega)] at hd
      simp only [List.mem_append,List.mem_singleton] at hd
      rcases hd with hd | rfl
      ·exact .inl (.inOrder d hd hx)
      ·exact .inr hx
    ·rw [can_order] at hc ⊢
     obtain ⟨d,hd,hc⟩:=hc
     exact ⟨d,by rw [List.take_succ_eq_append_getElem (by omega)];exact List.mem_append_left _ hd,hc⟩
    ·exact can_order.2 ⟨_,by rw [List.take_succ_eq_append_getElem (by omega)];exact List.mem_append_right _ (List.mem_singleton.2 rfl),hc⟩
  have:=key l.length (Nat.le_refl _)
  rwa [List.take_length] at this
theorem rch_hd {Bd:Int→Way} {A:Nat→Prop} (hE:∀ b,A b→(E b).one Bd A) (D:List (Int × Int)) (hD:∀ (n:Int) (q:Nat),(n,(q:Int)) ∈ D→n≠1→∀ h,Hd tx E (Bd n) q h→h ∈ D):∀ (k:Nat) (W:Way) (p q:Nat),RchY tx E k W p q→W.one Bd A→(∀ h,Hd tx E W p h→h ∈ D)→(1,(q:Int)) ∈ D:=by
 intro k W p q h
 induction h with
 | through=>intro ho;simp [Way.one] at ho
 | @once k n d p q h ih =>
  intro ho hh
  have hm:=hh _ .once
  simp only [Way.one] at ho
  obtain ⟨ho1,⟨rfl,rfl⟩ | ⟨ho2,ho3⟩⟩:=ho
  ·cases h
   exact hm
  ·exact ih ho3 fun x hx=>hD n p hm ho2 x (by rw [ho1];exact hx)
 | noted h ih=>intro ho hh;simp only [Way.one] at ho;exact ih ho fun x hx=>hh x (.noted hx)
 | rune hp hr h ih=>intro ho hh;simp only [Way.one] at ho;exact ih ho fun x hx=>hh x (.rune hp hr hx)
 | holds hp h ih=>intro ho hh;simp only [Way.one] at ho;exact ih ho fun x hx=>hh x (.holds hp hx)
 | inOrder d hd h ih=>intro ho hh;simp only [Way.one] at ho;exact ih (oneL_get ho d hd) fun x hx=>hh x (.inOrder d hd hx)
 | again h ih=>intro ho hh;simp only [Way.one] at ho;exact ih (hE _ ho) fun x hx=>hh x (.again hx)
theorem ends_iff {Bd:Int→Way} {A:Nat→Prop} (hE:∀ b,A b→(E b).one Bd A) {W:Way} {p:Nat} {s s':Sg} (h:Ex tx E W p s s') (ho:W.one Bd A) (h0:s.done=[]) (h1:s.parses=[]):(s'.parses.map Prod.fst).Nodup∧(∀ e ∈ s'.parses,∃ q:Nat,e.1=(q:Int))∧∀ q:Nat,(q:Int) ∈ s'.parses.map Prod.fst↔Can tx E W p q:=by
 have hD:=ex_did hE h ho
 obtain ⟨l,e,n,hp,hc⟩:=hD.par
 rw [h1,List.nil_append] at e
 subst e
 refine ⟨n,fun e he=>?_,fun q=>⟨fun hq=>?_,fun ⟨k,hq⟩=>?_⟩⟩
 ·obtain ⟨q,hq,_⟩:=hc e he
  exact ⟨q,hq⟩
 ·simp only [List.mem_map] at hq
  obtain ⟨e,he,hq⟩:=hq
  obtain ⟨q',hq',hcan⟩:=hc e he
  rw [hq] at hq'
  have:q=q':=by omega
  rwa [this]
 ·refine (hp q).2 ⟨rch_hd hE s'.done (fun m r hm hm1 x hx=>hD.new m r hm (by rw [h0];simp) hm1 x hx) k W p q hq ho hD.hd,by rw [h0];simp⟩
end
def Iter (R:Nat→Nat→Prop):Nat→Nat→Nat→Prop
 | 0,p,q=>q=p
 | c + 1,p,q=>∃ r,R p r∧Iter R c r q
theorem Iter.add {R:Nat→Nat→Prop}:∀ {a b p r q:Nat},Iter R a p r→Iter R b r q→Iter R (a + b) p q:=by
 intro a
 induction a with
 | zero=>intro b p r q h1 h2;simp only [Iter] at h1;subst h1;simpa using h2
 | succ a ih =>
  intro b p r q h1 h2
  simp only [Iter] at h1
  obtain ⟨x,hx,h1⟩:=h1
  rw [show a + 1 + b=(a + b) + 1 by omega]
  exact ⟨x,hx,ih h1 h2⟩
theorem Iter.split {R:Nat→Nat→Prop}:∀ {a b p q:Nat},Iter R (a + b) p q→∃ r,Iter R a p r∧Iter R b r q:=by
 intro a
 induction a with
 | zero=>intro b p q h;exact ⟨p,rfl,by simpa using h⟩
 | succ a ih =>
  intro b p q h
  rw [show a + 1 + b=(a + b) + 1 by omega] at h
  obtain ⟨x,hx,h⟩:=h
  obtain ⟨r,h1,h2⟩:=ih h
  exact ⟨r,⟨x,hx,h1⟩,h2⟩
mutual
def Mt (tx:List Int):Tn→Nat→Nat→Prop
 | .mk k R a s mn mx lz ix nm,p,q =>
  (k=1∧q=p)∨(k=2∧p < tx.length∧(rightB R && hasB R (tx.getD p 0))=true∧q=p + 1)∨(k=3∧heldB tx a p=true∧q=p)∨(k=4∧MtC tx s p q)∨(k=5∧MtA tx s p q)∨(k=7∧MtH tx s p q) ∨
   (k=6∧∃ c:Nat,mn≤(c:Int)∧(mx < 0∨(c:Int)≤mx)∧Iter (MtH tx s) c p q)
def MtC (tx:List Int):List Tn→Nat→Nat→Prop
 | [],p,q=>q=p
 | t :: ts,p,q=>∃ r,Mt tx t p r∧MtC tx ts r q
def MtA (tx:List Int):List Tn→Nat→Nat→Prop
 | [],p,q=>False
 | t :: ts,p,q=>Mt tx t p q∨MtA tx ts p q
def MtH (tx:List Int):List Tn→Nat→Nat→Prop
 | [],p,q=>False
 | t :: _,p,q=>Mt tx t p q
end
theorem mtA_snoc {tx:List Int} {t:Tn} {p q:Nat}:∀ {ts:List Tn},MtA tx (ts ++ [t]) p q↔MtA tx ts p q∨Mt tx t p q:=by
 intro ts
 induction ts with
 | nil=>simp [MtA]
 | cons u ts ih=>simp only [List.cons_append,MtA,ih,or_assoc]
theorem mtH_one (tx:List Int) (t:Tn) (ts:List Tn):MtH tx (t :: ts)=Mt tx t:=by
 funext p q
 simp [MtH]
set_option maxRecDepth 100000 in
set_option maxHeartbeats 8000000 in
theorem greatest15 {w0:World} {B:Nat} {N:Nv} {t:Tn} (h:TI w0 B N t):∀ (w:World),B≤w.heap.size→(∀ b,b < B→w.heap[b]?=w0.heap[b]?) →
  Calls Tryz.prog 40 #[N.v] w fun e w'=>e=.returned (.int .i64 t.gi)∧Below w.heap.size w w':=by
 induction h with
 | @mk N R ts ND ok hr hR hRk hs hS hk ih =>
 intro w hB hw
 have hmax:=ok.s
 obtain ⟨k,r1,r2,r3,a2,s1,s2,s3,a4,a5,a6,a7,a8⟩:=N
 simp only at hs hS hmax
 simp only [Tn.gi]
 obtain ⟨r,hrr⟩:∃ r,r=giL ts a7:=⟨_,rfl⟩
 rw [← hrr]
 have HR:=hid' hrr
 have HW:=hid' hw
 have HS:=hid' hS
 have IH:=hid' ih
 have hm2:s2≤9223372036854775807:=by have:maxLen=9223372036854775807:=rfl;omega
 have HL:=hid' hs
 clear ok hr hR hRk hk hS hw hrr ih hmax hs
 go_enter Tryz.func40,Tryz.ntmps40
 go_wp2_with fail
 go_loopw [3,4] (fun u y wq=>∃ i:Nat,y=.int .i64 (i:Int)∧i≤s2∧(∃ q,u=.int .i64 q∧Hid (giL (ts.drop i) q=r))∧Hid (Below w.heap.size w wq)∧Hid (wq.heap[w.heap.size]?=some (.cells #[.int .i64 k,.slice r1 r2 r3,.int .i64 a2,.slice s1 s2 s3,.int .i64 a4,.int .i64 a5,.bool a6,.int .i64 a7,.string a8] 25 (0,0)))) (fun _ y _=>s2 - (intOf y).toNat)
 case atStart=>exact ⟨0,rfl,by omega,⟨a7,rfl,HR.out.symm⟩,Joins.below_alloc1 w _,heap_alloc_new w _⟩
 case round =>
  obtain ⟨i,rfl,hi,⟨q,rfl,HQ⟩,BK,BX⟩:=hrel
  obtain ⟨o0,o1,o2,o3,o4,o5,o6,o7,o8⟩:=nine' BX.out
  by_cases hil:i < s2
  ·have b1:decide ((i:Int) < (s2:Int))=true:=by simp;omega
   have b2:(i:Int) < (s2:Int):=by omega
   have hlt:i < ts.length:=by rw [← HL.out];exact hil
   obtain ⟨b,o,hs1,hb,hc⟩:=HS.out (by omega)
   subst hs1
   have hwk:∀ b,b < B→wr.heap[b]?=w0.heap[b]?:=fun b hb=>(BK.out.block b (by omega)).trans (HW.out b hb)
   obtain ⟨n0,n1,n2,n3,n4,n5,n6,n7,n8⟩:=(hc i hlt).kept (hwk b hb)
   have HC:=IH.out i hlt wr (by have:=BK.out.size;omega) hwk
   rw [giL_drop ts i hlt q] at HQ
   obtain ⟨g,hg⟩:∃ g,g=ts[i].gi:=⟨_,rfl⟩
   rw [← hg] at HC HQ
   obtain ⟨M,hM⟩:∃ M,M=ND i:=⟨_,rfl⟩
   rw [← hM] at HC n0 n1 n2 n3 n4 n5 n6 n7 n8
   have ad1:IntKind.i64.wrap ((i:Int) + 1)=(i:Int) + 1:=by simp [IntKind.wrap,IntKind.bits,IntKind.signed];omega
   clear hM hg hwk hc hlt
   go_wp2_with (first | (go_at_call 40;(with_reducible refine HC.mono ?_);rintro e w2 ⟨rfl,hb2⟩;have HB2:=hid' hb2;clear hb2 HC))
   refine ⟨⟨i + 1,by push_cast;rfl,by omega,⟨_,rfl,HQ.out⟩,?_,?_⟩,?_⟩
   ·exact BK.out.trans (Joins.below_le HB2.out BK.out.size)
   ·exact (HB2.out.block _ (by have:=(Array.getElem?_eq_some_iff.1 BX.out).1;omega)).trans BX.out
   ·simp [intOf]
    omega
  ·have b1:decide ((i:Int) < (s2:Int))=false:=by simp;omega
   obtain rfl:i=s2:=by omega
   have e:=HQ.out
   rw [HL.out,List.drop_length] at e
   simp only [giL] at e
   go_wp2
   go_ret
   exact ⟨by first | rfl | exact ret_int e,BK.out⟩
set_option maxRecDepth 100000 in
set_option maxHeartbeats 8000000 in
theorem greatestg52 {w0:World} {B:Nat} {N:Nv} {t:Tn} (h:TI w0 B N t):∀ (w:World),B≤w.heap.size→(∀ b,b < B→w.heap[b]?=w0.heap[b]?) →
  Calls Tryz.prog 76 #[N.v] w fun e w'=>e=.returned (.int .i64 t.gi)∧Below w.heap.size w w':=by
 induction h with
 | @mk N R ts ND ok hr hR hRk hs hS hk ih =>
 intro w hB hw
 have hmax:=ok.s
 obtain ⟨k,r1,r2,r3,a2,s1,s2,s3,a4,a5,a6,a7,a8⟩:=N
 simp only at hs hS hmax
 simp only [Tn.gi]
 obtain ⟨r,hrr⟩:∃ r,r=giL ts a7:=⟨_,rfl⟩
 rw [← hrr]
 have HR:=hid' hrr
 have HW:=hid' hw
 have HS:=hid' hS
 have IH:=hid' ih
 have hm2:s2≤9223372036854775807:=by have:maxLen=9223372036854775807:=rfl;omega
 have HL:=hid' hs
 clear ok hr hR hRk hk hS hw hrr ih hmax hs
 go_enter Tryz.func76,Tryz.ntmps76
 go_wp2_with fail
 go_loopw [3,11] (fun u y wq=>∃ i:Nat,y=.int .i64 (i:Int)∧i≤s2∧(∃ q,u=.int .i64 q∧Hid (giL (ts.drop i) q=r))∧Hid (Below w.heap.size w wq)∧Hid (wq.heap[w.heap.size]?=some (.cells #[.int .i64 k,.slice r1 r2 r3,.int .i64 a2,.slice s1 s2 s3,.int .i64 a4,.int .i64 a5,.bool a6,.int .i64 a7,.string a8] 25 (0,0)))) (fun _ y _=>s2 - (intOf y).toNat)
 case atStart=>exact ⟨0,rfl,by omega,⟨a7,rfl,HR.out.symm⟩,Joins.below_alloc1 w _,heap_alloc_new w _⟩
 case round =>
  obtain ⟨i,rfl,hi,⟨q,rfl,HQ⟩,BK,BX⟩:=hrel
  obtain ⟨o0,o1,o2,o3,o4,o5,o6,o7,o8⟩:=nine' BX.out
  by_cases hil:i < s2
  ·have b1:decide ((i:Int) < (s2:Int))=true:=by simp;omega
   have b2:(i:Int) < (s2:Int):=by omega
   have hlt:i < ts.length:=by rw [← HL.out];exact hil
   obtain ⟨b,o,hs1,hb,hc⟩:=HS.out (by omega)
   subst hs1
   have hwk:∀ b,b < B→wr.heap[b]?=w0.heap[b]?:=fun b hb=>(BK.out.block b (by omega)).trans (HW.out b hb)
   obtain ⟨n0,n1,n2,n3,n4,n5,n6,n7,n8⟩:=(hc i hlt).kept (hwk b hb)
   have HC:=IH.out i hlt (wr.alloc (.cells #[.int .i64 (ND i).k,.slice (ND i).r1 (ND i).r2 (ND i).r3,.int .i64 (ND i).a2,.slice (ND i).s1 (ND i).s2 (ND i).s3,.int .i64 (ND i).a4,.int .i64 (ND i).a5,.bool (ND i).a6,.int .i64 (ND i).a7,.string (ND i).a8] 25)) (by have:=BK.out.size;simp;omega) (fun b hb=>(heap_alloc_old _ _ (by have:=BK.out.size;omega)).trans (hwk b hb))
   rw [giL_drop ts i hlt q] at HQ
   obtain ⟨g,hg⟩:∃ g,g=ts[i].gi:=⟨_,rfl⟩
   rw [← hg] at HC HQ
   obtain ⟨M,hM⟩:∃ M,M=ND i:=⟨_,rfl⟩
   rw [← hM] at HC n0 n1 n2 n3 n4 n5 n6 n7 n8
   have ad1:IntKind.i64.wrap ((i:Int) + 1)=(i:Int) + 1:=by simp [IntKind.wrap,IntKind.bits,IntKind.signed];omega
   clear hM hg hwk hc hlt
   go_wp2_with (first | (go_at_call 76;(with_reducible refine HC.mono ?_);rintro e w2 ⟨rfl,hb2⟩;have HB2:=hid' hb2;clear hb2 HC))
   refine ⟨⟨i + 1,by push_cast;rfl,by omega,⟨_,rfl,HQ.out⟩,?_,?_⟩,?_⟩
   ·exact BK.out.trans (Joins.below_le ((Joins.below_alloc1 wr _).trans (Joins.below_le HB2.out (by simp))) BK.out.size)
   ·exact (HB2.out.block _ (by have:=(Array.getElem?_eq_some_iff.1 BX.out).1;simp;omega)).trans ((heap_alloc_old wr _ (Array.getElem?_eq_some_iff.1 BX.out).1).trans BX.out)
   ·simp [intOf]
    omega
  ·have b1:decide ((i:Int) < (s2:Int))=false:=by simp;omega
   obtain rfl:i=s2:=by omega
   have e:=HQ.out
   rw [HL.out,List.drop_length] at e
   simp only [giL] at e
   go_wp2
   go_ret
   exact ⟨by first | rfl | exact ret_int e,BK.out⟩
set_option maxRecDepth 100000 in
set_option maxHeartbeats 8000000 in
theorem refsize28 {w0:World} {B:Nat} {N:Nv} {t:Tn} (h:TI w0 B N t):t.fine=true→∀ (w:World),B≤w.heap.size→(∀ b,b < B→w.heap[b]?=w0.heap[b]?) →
  Calls Tryz.prog 33 #[N.v] w fun e w'=>e=.returned (.int .i64 (min 1073741824 t.sz:Nat))∧Below w.heap.size w w':=by
 induction h with
 | @mk N R ts ND ok hr hR hRk hs hS hk ih =>
 intro hf w hB hw
 have hmax:=ok.s
 obtain ⟨k,r1,r2,r3,a2,s1,s2,s3,a4,a5,a6,a7,a8⟩:=N
 simp only at hs hS hmax
 simp only [Tn.fine,Bool.and_eq_true] at hf
 have FN:=fine_nodeZ hf.1
 have HFG:=hid' (fineL_get hf.2)
 simp only [Tn.sz]
 obtain ⟨r,hrr⟩:∃ r:Nat,r=min 1073741824 (if k=6 then repN a4 a5 (szL ts) else 1 + szL ts):=⟨_,rfl⟩
 rw [← hrr]
 have HR:=hid' hrr
 have HW:=hid' hw
 have HS:=hid' hS
 have IH:=hid' ih
 have HFN:=hid' FN
 have hm2:s2≤9223372036854775807:=by have:maxLen=9223372036854775807:=rfl;omega
 have HL:=hid' hs
 clear ok hr hR hRk hk hS hw hrr ih hmax hs hf FN
 go_enter Tryz.func33,Tryz.ntmps33
 go_wp2_with fail
 go_loopw [3,4] (fun u y wq=>∃ (i q:Nat),y=.int .i64 (i:Int)∧i≤s2∧u=.int .i64 (q:Int)∧q≤1073741824∧Hid (q=min 1073741824 (szL (ts.take i)))∧Hid (Below w.heap.size w wq)∧Hid (wq.heap[w.heap.size]?=some (.cells #[.int .i64 k,.slice r1 r2 r3,.int .i64 a2,.slice s1 s2 s3,.int .i64 a4,.int .i64 a5,.bool a6,.int .i64 a7,.string a8] 25 (0,0)))) (fun _ y _=>s2 - (intOf y).toNat)
 case atStart=>exact ⟨0,0,rfl,by omega,rfl,by omega,by show (0:Nat)=_;simp [szL],Joins.below_alloc1 w _,heap_alloc_new w _⟩
 case round =>
  obtain ⟨i,q,rfl,hi,rfl,hq,HQ,BK,BX⟩:=hrel
  obtain ⟨o0,o1,o2,o3,o4,o5,o6,o7,o8⟩:=nine' BX.out
  by_cases hil:i < s2
  ·have b1:decide ((i:Int) < (s2:Int))=true:=by simp;omega
   have b2:(i:Int) < (s2:Int):=by omega
   have hlt:i < ts.length:=by rw [← HL.out];exact hil
   obtain ⟨b,o,hs1,hb,hc⟩:=HS.out (by omega)
   subst hs1
   have hwk:∀ b,b < B→wr.heap[b]?=w0.heap[b]?:=fun b hb=>(BK.out.block b (by omega)).trans (HW.out b hb)
   obtain ⟨n0,n1,n2,n3,n4,n5,n6,n7,n8⟩:=(hc i hlt).kept (hwk b hb)
   have HC:=IH.out i hlt (HFG.out i hlt) wr (by have:=BK.out.size;omega) hwk
   have hst:=szL_take ts i hlt
   obtain ⟨g,hg⟩:∃ g,g=min 1073741824 ts[i].sz:=⟨_,rfl⟩
   rw [← hg] at HC
   have hgb:g≤1073741824:=by omega
   have HQ':Hid (min 1073741824 (q + g)=min 1073741824 (szL (ts.take (i + 1)))):=by
    have h1:=HQ.out
    show _=_
    omega
   obtain ⟨M,hM⟩:∃ M,M=ND i:=⟨_,rfl⟩
   rw [← hM] at HC n0 n1 n2 n3 n4 n5 n6 n7 n8
   have ad1:IntKind.i64.wrap ((i:Int) + 1)=(i:Int) + 1:=by simp [IntKind.wrap,IntKind.bits,IntKind.signed];omega
   have ad2:IntKind.i64.wrap ((q:Int) + (g:Int))=(q:Int) + (g:Int):=by simp [IntKind.wrap,IntKind.bits,IntKind.signed];omega
   clear hM hg hwk hc hlt hst HQ
   go_wp2_with (first | (go_at_call 33;(with_reducible refine HC.mono ?_);rintro e w2 ⟨rfl,hb2⟩;have HB2:=hid' hb2;clear hb2 HC))
   refine ⟨⟨i + 1,min 1073741824 (q + g),by push_cast;rfl,by omega,by congr 1;omega,by omega,HQ'.out,?_,?_⟩,?_⟩
   ·exact BK.out.trans (Joins.below_le HB2.out BK.out.size)
   ·exact (HB2.out.block _ (Array.getElem?_eq_some_iff.1 BX.out).1).trans BX.out
   ·simp [intOf]
    omega
  ·have b1:decide ((i:Int) < (s2:Int))=false:=by simp;omega
   obtain rfl:i=s2:=by omega
   have e:=HQ.out
   rw [HL.out,List.take_length] at e
   have hr':=HR.out
   by_cases k6:k=6
   ·subst k6
    simp only [if_true] at hr'
    obtain ⟨_,m0,m1,mx⟩:=HFN.out.rep rfl
    rw [← repN_cap,← e] at hr'
    have HR':=hid' hr'
    clear e hr' HR HQ HFN
    rcases mx with rfl | ⟨mx0,mx1⟩
    ·by_cases hz:a4=0
     ·subst hz
      have ad2:IntKind.i64.wrap (1 + (q:Int))=1 + (q:Int):=by simp [IntKind.wrap,IntKind.bits,IntKind.signed];omega
      go_wp2
      go_ret
      exact ⟨ret_int (by have:=HR'.out;simp [repN] at this;omega),BK.out⟩
     ·have hz':(a4 == 0)=false:=by simpa using hz
      have hp:0≤a4 * (q:Int)∧a4 * (q:Int)≤1000 * 1073741824:=⟨Int.mul_nonneg m0 (by omega),Int.mul_le_mul m1 (by omega) (by omega) (by omega)⟩
      have ad1:IntKind.i64.wrap (a4 * (q:Int))=a4 * (q:Int):=by simp [IntKind.wrap,IntKind.bits,IntKind.signed];omega
      have ad2:IntKind.i64.wrap (a4 * (q:Int) + 1)=a4 * (q:Int) + 1:=by simp [IntKind.wrap,IntKind.bits,IntKind.signed];omega
      have hre:((repN a4 (-1) q:Nat):Int)=a4 * q + 1:=by
       simp only [repN,if_true]
       rw [Nat.max_eq_left (by omega)]
       push_cast
       rw [Int.toNat_of_nonneg m0]
      go_wp2
      go_ret
      exact ⟨ret_int (by have:=HR'.out;omega),BK.out⟩
    ·have mxn:a5≠-1:=by omega
     have c0:decide (a5 < 0)=false:=by simp;omega
     have hp:0≤a4 * (q:Int)∧a4 * (q:Int)≤1000 * 1073741824:=⟨Int.mul_nonneg m0 (by omega),Int.mul_le_mul m1 (by omega) (by omega) (by omega)⟩
     have hp2:0≤(a5 - a4) * (1 + (q:Int))∧(a5 - a4) * (1 + (q:Int))≤1000 * 1073741825:=⟨Int.mul_nonneg (by omega) (by omega),Int.mul_le_mul (by omega) (by omega) (by omega) (by omega)⟩
     have hre:((repN a4 a5 q:Nat):Int)=max 1 (a4 * q + (a5 - a4) * (1 + q)):=by
      have e:((a4.toNat * q + (a5 - a4).toNat * (1 + q):Nat):Int)=a4 * q + (a5 - a4) * (1 + q):=by
       push_cast
       rw [Int.toNat_of_nonneg m0,Int.toNat_of_nonneg (by omega)]
      simp only [repN,if_neg mxn]
      generalize a4.toNat * q + (a5 - a4).toNat * (1 + q)=X at e
      omega
     have ad1:IntKind.i64.wrap (a4 * (q:Int))=a4 * (q:Int):=by simp [IntKind.wrap,IntKind.bits,IntKind.signed];omega
     have ad2:IntKind.i64.wrap (a5 - a4)=a5 - a4:=by simp [IntKind.wrap,IntKind.bits,IntKind.signed];omega
     have ad3:IntKind.i64.wrap (1 + (q:Int))=1 + (q:Int):=by simp [IntKind.wrap,IntKind.bits,IntKind.signed];omega
     have ad4:IntKind.i64.wrap ((a5 - a4) * (1 + (q:Int)))=(a5 - a4) * (1 + (q:Int)):=by simp [IntKind.wrap,IntKind.bits,IntKind.signed];omega
     have ad5:IntKind.i64.wrap (a4 * (q:Int) + (a5 - a4) * (1 + (q:Int)))=a4 * (q:Int) + (a5 - a4) * (1 + (q:Int)):=by simp [IntKind.wrap,IntKind.bits,IntKind.signed];omega
     go_wp2
     go_ret
     exact ⟨ret_int (by have:=HR'.out;omega),BK.out⟩
   ·have k6':(k == 6)=false:=by simpa using k6
    simp only [k6,if_false] at hr'
    have HR':=hid' hr'
    have HE:=hid' e
    by_cases kl:k=4∨k=5∨k=7
    ·have ad2:IntKind.i64.wrap (1 + (q:Int))=1 + (q:Int):=by simp [IntKind.wrap,IntKind.bits,IntKind.signed];omega
     clear e hr' HR HQ HFN k6
     rcases kl with rfl | rfl | rfl
     ·go_wp2
      go_ret
      exact ⟨ret_int (by have:=HR'.out;have:=HE.out;omega),BK.out⟩
     ·go_wp2
      go_ret
      exact ⟨ret_int (by have:=HR'.out;have:=HE.out;omega),BK.out⟩
     ·go_wp2
      go_ret
      exact ⟨ret_int (by have:=HR'.out;have:=HE.out;omega),BK.out⟩
    ·have h0:=HFN.out.leaf (by have:=HFN.out.kind;omega)
     have k4:(k == 4)=false:=by simp;omega
     have k5:(k == 5)=false:=by simp;omega
     have k7:(k == 7)=false:=by simp;omega
     have ht:ts=[]:=List.length_eq_zero_iff.1 h0
     subst ht
     simp only [szL] at hr'
     subst hr'
     clear e HR HQ HFN k6 HR' HE kl h0
     go_wp2
     go_ret
     exact ⟨rfl,BK.out⟩
end Go.Proofs.YtacaanhnlfpbhaaGreat
