/- HELPERS: texts of ours put together. -/
import Derived.Test.YtbdhiichhcihgaaK03
import Derived.Test.YtbdhiichhcihgaaK01
import Derived.WalkKit
import Derived.Laws.BitsLemmas
import Derived.Test.YtbdhiichhcihgaaK02
import Derived.LoopN
import Derived.Deep.OwnRows
import Derived.Laws.IdiomCopy
import Derived.Laws.EntriesVeiled
import Derived.WalkLawsBesides
import Derived.Lib.SliceRun
import Derived.Deep.Cut
import Derived.Deep.CutRange
import Derived.OrdersHeld
import Derived.StillTail
import Derived.Tactics
import Derived.RowKit
import Derived.Below
import Derived.Deep.SlicePairs
import Derived.Lib.Small
import Derived.Deep.RegionHeld3
import Derived.Deep.QuietTactic
import Derived.BigQuiet
import Derived.Deep.MidRow
import Derived.Laws.Rows
import Derived.Maps.AppendAt
import Derived.Deep.RegionLaw
import Derived.Laws.CopyOwn
import Derived.Lib.LazyBuf
import Derived.Deep.Onto
import Derived.Lib.MinMax
import Derived.Lib.AppendZerosOnto
import Derived.Deep.RegionHeld2
import Derived.Deep.LoopGhost
import Derived.WalkMore
namespace Go.Proofs.Ytbdhiichhcihgaa
open Go.RowKit
set_option linter.unusedVariables false
set_option linter.unusedSimpArgs false
inductive RchY (tx:List Int) (E:Nat → Way):Nat → Way → Nat → Nat → Prop
 | through {p:Nat}:RchY tx E 0 .through p p
 | once {k:Nat} {n:Int} {d:Way} {p q:Nat} (h:RchY tx E k d p q):RchY tx E (k + 1) (.once n d) p q
 | noted {k c:Nat} {d:Way} {p q:Nat} (h:RchY tx E k d p q):RchY tx E (k + 1) (.noted c d) p q
 | rune {k:Nat} {R:Rng} {d:Way} {p q:Nat} (hp:p < tx.length) (hr:(rightB R && hasB R (tx.getD p 0)) = true) (h:RchY tx E k d (p + 1) q):RchY tx E (k + 1) (.runeOf R d) p q
 | holds {k:Nat} {a:Int} {d:Way} {p q:Nat} (hh:heldB tx a p = true) (h:RchY tx E k d p q):RchY tx E (k + 1) (.ifHolds a d) p q
 | inOrder {k:Nat} {l:List Way} {p q:Nat} (d:Way) (hd:d ∈ l) (h:RchY tx E k d p q):RchY tx E (k + 1) (.inOrder l) p q
 | again {k b:Nat} {p q:Nat} (h:RchY tx E k (E b) p q):RchY tx E (k + 1) (.again b) p q
def Can (tx:List Int) (E:Nat → Way) (W:Way) (p q:Nat):Prop:=∃ k,RchY tx E k W p q
section
variable {tx:List Int} {E:Nat → Way}
theorem can_once {n:Int} {d:Way} {p q:Nat}:Can tx E (.once n d) p q ↔ Can tx E d p q:=⟨fun ⟨k,h⟩ => by cases h with | once h => exact ⟨_,h⟩,fun ⟨k,h⟩ => ⟨_,.once h⟩⟩
theorem can_noted {c:Nat} {d:Way} {p q:Nat}:Can tx E (.noted c d) p q ↔ Can tx E d p q:=⟨fun ⟨k,h⟩ => by cases h with | noted h => exact ⟨_,h⟩,fun ⟨k,h⟩ => ⟨_,.noted h⟩⟩
theorem can_rune {R:Rng} {d:Way} {p q:Nat}:Can tx E (.runeOf R d) p q ↔ p < tx.length ∧ (rightB R && hasB R (tx.getD p 0)) = true ∧ Can tx E d (p + 1) q:=
 ⟨fun ⟨k,h⟩ => by cases h with | rune h1 h2 h3 => exact ⟨h1,h2,_,h3⟩,fun ⟨h1,h2,k,h⟩ => ⟨_,.rune h1 h2 h⟩⟩
theorem can_holds {a:Int} {d:Way} {p q:Nat}:Can tx E (.ifHolds a d) p q ↔ heldB tx a p = true ∧ Can tx E d p q:=
 ⟨fun ⟨k,h⟩ => by cases h with | holds h1 h2 => exact ⟨h1,_,h2⟩,fun ⟨h1,k,h⟩ => ⟨_,.holds h1 h⟩⟩
theorem can_order {l:List Way} {p q:Nat}:Can tx E (.inOrder l) p q ↔ ∃ d ∈ l,Can tx E d p q:=
 ⟨fun ⟨k,h⟩ => by cases h with | inOrder d hd h => exact ⟨d,hd,_,h⟩,fun ⟨d,hd,k,h⟩ => ⟨_,.inOrder d hd h⟩⟩
theorem can_again {b:Nat} {p q:Nat}:Can tx E (.again b) p q ↔ Can tx E (E b) p q:=⟨fun ⟨k,h⟩ => by cases h with | again h => exact ⟨_,h⟩,fun ⟨k,h⟩ => ⟨_,.again h⟩⟩
inductive Hd (tx:List Int) (E:Nat → Way):Way → Nat → Int × Int → Prop
 | once {n:Int} {d:Way} {p:Nat}:Hd tx E (.once n d) p (n,(p:Int))
 | noted {c:Nat} {d:Way} {p:Nat} {h:Int × Int} (hd:Hd tx E d p h):Hd tx E (.noted c d) p h
 | rune {R:Rng} {d:Way} {p:Nat} {h:Int × Int} (hp:p < tx.length) (hr:(rightB R && hasB R (tx.getD p 0)) = true) (hd:Hd tx E d (p + 1) h):Hd tx E (.runeOf R d) p h
 | holds {a:Int} {d:Way} {p:Nat} {h:Int × Int} (hh:heldB tx a p = true) (hd:Hd tx E d p h):Hd tx E (.ifHolds a d) p h
 | inOrder {l:List Way} {p:Nat} {h:Int × Int} (d:Way) (hm:d ∈ l) (hd:Hd tx E d p h):Hd tx E (.inOrder l) p h
 | again {b p:Nat} {h:Int × Int} (hd:Hd tx E (E b) p h):Hd tx E (.again b) p h
mutual
def Way.one (Bd:Int → Way) (A:Nat → Prop):Way → Prop
 | .through => False
 | .once n d => Bd n = d ∧ (n = 1 ∧ d = .through ∨ n ≠ 1 ∧ d.one Bd A)
 | .noted _ d => d.one Bd A
 | .runeOf _ d => d.one Bd A
 | .ifHolds _ d => d.one Bd A
 | .inOrder l => oneL Bd A l
 | .again b => A b
def oneL (Bd:Int → Way) (A:Nat → Prop):List Way → Prop
 | [] => True
 | d :: l => d.one Bd A ∧ oneL Bd A l
end
theorem oneL_get {Bd:Int → Way} {A:Nat → Prop}:∀ {l:List Way},oneL Bd A l → ∀ d ∈ l,d.one Bd A:=by
 intro l
 induction l with
 | nil => intro _ d hd;cases hd
 | cons e l ih =>
  intro h d hd
  simp only [oneL] at h
  simp only [List.mem_cons] at hd
  rcases hd with rfl | hd
  ·exact h.1
  ·exact ih h.2 d hd
structure Did (tx:List Int) (E:Nat → Way) (Bd:Int → Way) (W:Way) (p:Nat) (s s':Sg):Prop where
 more:∀ h ∈ s.done,h ∈ s'.done
 hd:∀ h,Hd tx E W p h → h ∈ s'.done
 new:∀ (n:Int) (q:Nat),(n,(q:Int)) ∈ s'.done → (n,(q:Int)) ∉ s.done → n ≠ 1 → ∀ h,Hd tx E (Bd n) q h → h ∈ s'.done
 nat:∀ h ∈ s'.done,h ∈ s.done ∨ ∃ q:Nat,h.2 = (q:Int)
 par:∃ l:List (Int × List Int),s'.parses = s.parses ++ l ∧ (l.map Prod.fst).Nodup ∧ (∀ q:Nat,((q:Int) ∈ l.map Prod.fst ↔ (1,(q:Int)) ∈ s'.done ∧ (1,(q:Int)) ∉ s.done)) ∧ ∀ e ∈ l,∃ q:Nat,e.1 = (q:Int) ∧ Can tx E W p q
theorem Did.refl (tx:List Int) (E:Nat → Way) (Bd:Int → Way) (W:Way) (p:Nat) (s:Sg) (h:∀ h,Hd tx E W p h → h ∈ s.done):Did tx E Bd W p s s:=
 ⟨fun _ h => h,h,fun n q h1 h2 => absurd h1 h2,fun _ h => .inl h,⟨[],by simp,by simp,fun q => by simp,fun e he => by cases he⟩⟩
theorem Did.trans {Bd:Int → Way} {W1 W2 W:Way} {p:Nat} {s s1 s2:Sg} (h1:Did tx E Bd W1 p s s1) (h2:Did tx E Bd W2 p s1 s2) (hh:∀ h,Hd tx E W p h → Hd tx E W1 p h ∨ Hd tx E W2 p h) (hc1:∀ q,Can tx E W1 p q → Can tx E W p q) (hc2:∀ q,Can tx E W2 p q → Can tx E W p q):Did tx E Bd W p s s2:=by
 refine ⟨fun h hm => h2.more h (h1.more h hm),fun h hm => ?_,fun n q a1 a2 a3 h hm => ?_,fun h hm => ?_,?_⟩
 ·rcases hh h hm with hm | hm
  ·exact h2.more h (h1.hd h hm)
  ·exact h2.hd h hm
 ·by_cases hm1:(n,(q:Int)) ∈ s1.done
  ·exact h2.more h (h1.new n q hm1 a2 a3 h hm)
  ·exact h2.new n q a1 hm1 a3 h hm
 ·rcases h2.nat h hm with hm | hm
  ·exact h1.nat h hm
  ·exact .inr hm
 ·obtain ⟨l1,e1,n1,p1,c1⟩:=h1.par
  obtain ⟨l2,e2,n2,p2,c2⟩:=h2.par
  refine ⟨l1 ++ l2,by rw [e2,e1,List.append_assoc],?_,fun q => ?_,fun e he => ?_⟩
  ·rw [List.map_append,List.nodup_append]
   refine ⟨n1,n2,fun a ha b hb e => ?_⟩
   subst e
   have hq:∃ q:Nat,a = (q:Int):=by
    simp only [List.mem_map] at ha
    obtain ⟨x,hx,rfl⟩:=ha
    obtain ⟨q,hq,_⟩:=c1 x hx
    exact ⟨q,hq⟩
   obtain ⟨q,rfl⟩:=hq
   exact (((p2 q).1 hb).2) ((p1 q).1 ha).1
  ·rw [List.map_append,List.mem_append,p1 q,p2 q]
   constructor
   ·rintro (⟨a,b⟩ | ⟨a,b⟩)
    ·exact ⟨h2.more _ a,b⟩
    ·exact ⟨a,fun hm => b (h1.more _ hm)⟩
   ·rintro ⟨a,b⟩
    by_cases hm:(1,(q:Int)) ∈ s1.done
    ·exact .inl ⟨hm,b⟩
    ·exact .inr ⟨a,hm⟩
  ·rcases List.mem_append.1 he with he | he
   ·obtain ⟨q,hq,hc⟩:=c1 e he
    exact ⟨q,hq,hc1 q hc⟩
   ·obtain ⟨q,hq,hc⟩:=c2 e he
    exact ⟨q,hq,hc2 q hc⟩
theorem Did.as {Bd:Int → Way} {W1 W:Way} {p p1:Nat} {s s1:Sg} (h1:Did tx E Bd W1 p1 s s1) (hh:∀ h,Hd tx E W p h → Hd tx E W1 p1 h) (hc1:∀ q,Can tx E W1 p1 q → Can tx E W p q):Did tx E Bd W p s s1:=by
 obtain ⟨l1,e1,n1,p1,c1⟩:=h1.par
 exact ⟨h1.more,fun h hm => h1.hd h (hh h hm),h1.new,h1.nat,l1,e1,n1,p1,fun e he => by obtain ⟨q,hq,hc⟩:=c1 e he;exact ⟨q,hq,hc1 q hc⟩⟩
theorem Did.noted {Bd:Int → Way} {W:Way} {p:Nat} {s s':Sg} {a b:List Int} (h:Did tx E Bd W p { s with notes:=a } s'):Did tx E Bd W p s { s' with notes:=b }:=⟨h.more,h.hd,h.new,h.nat,h.par⟩
theorem ex_did {Bd:Int → Way} {A:Nat → Prop} (hE:∀ b,A b → (E b).one Bd A) {W:Way} {p:Nat} {s s':Sg} (h:Ex tx E W p s s'):W.one Bd A → Did tx E Bd W p s s':=by
 induction h with
 | through p s => intro ho;simp [Way.one] at ho
 | skip h => intro _;exact Did.refl _ _ _ _ _ _ fun x hx => by cases hx;exact h
 | @once n d p s s' h hd ih =>
  intro ho
  simp only [Way.one] at ho
  obtain ⟨ho1,⟨rfl,rfl⟩ | ⟨ho2,ho3⟩⟩:=ho
  ·cases hd
   refine ⟨fun x hx => by simp [hx],fun x hx => by cases hx;simp,fun n q a1 a2 a3 => ?_,fun x hx => ?_,[((p:Int),s.notes.set 1 (p:Int))],rfl,by simp,fun q => ?_,fun e he => ?_⟩
   ·simp only [List.mem_append,List.mem_singleton,Prod.mk.injEq] at a1
    rcases a1 with a1 | a1
    ·exact absurd a1 a2
    ·exact absurd a1.1 a3
   ·simp only [List.mem_append,List.mem_singleton] at hx
    rcases hx with hx | rfl
    ·exact .inl hx
    ·exact .inr ⟨p,rfl⟩
   ·simp only [List.map_cons,List.map_nil,List.mem_singleton,List.mem_append,Prod.mk.injEq,true_and]
    constructor
    ·intro e
     refine ⟨.inr e,by rw [e];exact h⟩
    ·rintro ⟨a | a,b⟩
     ·exact absurd a b
     ·exact a
   ·simp only [List.mem_singleton] at he
    subst he
    exact ⟨p,rfl,1,.once .through⟩
  ·have hD:=ih ho3
   obtain ⟨l1,e1,n1,p1,c1⟩:=hD.par
   refine ⟨fun x hx => hD.more x (by simp [hx]),fun x hx => by cases hx;exact hD.more _ (by simp),fun m q a1 a2 a3 x hx => ?_,fun x hx => ?_,l1,e1,n1,fun q => ?_,fun e he => ?_⟩
   ·by_cases hm:(m,(q:Int)) ∈ s.done ++ [(n,(p:Int))]
    ·simp only [List.mem_append,List.mem_singleton,Prod.mk.injEq] at hm
     rcases hm with hm | ⟨rfl,hq⟩
     ·exact absurd hm a2
     ·have hq:q = p:=by omega
      subst hq
      rw [ho1] at hx
      exact hD.hd x hx
    ·exact hD.new m q a1 hm a3 x hx
   ·rcases hD.nat x hx with hx | hx
    ·simp only [List.mem_append,List.mem_singleton] at hx
     rcases hx with hx | rfl
     ·exact .inl hx
     ·exact .inr ⟨p,rfl⟩
    ·exact .inr hx
   ·rw [p1 q]
    simp only [List.mem_append,List.mem_singleton,Prod.mk.injEq,not_or]
    constructor
    ·rintro ⟨a,b,_⟩;exact ⟨a,b⟩
    ·rintro ⟨a,b⟩;exact ⟨a,b,fun hc => ho2 hc.1.symm⟩
   ·obtain ⟨q,hq,hc⟩:=c1 e he
    exact ⟨q,hq,can_once.2 hc⟩
 | noted hd ih =>
  intro ho
  simp only [Way.one] at ho
  exact ((ih ho).as (fun x hx => by cases hx with | noted hx => exact hx) (fun q hc => can_noted.2 hc)).noted
 | over h =>
  intro _
  exact Did.refl _ _ _ _ _ _ fun x hx => by cases hx;omega
 | other h hr =>
  intro _
  exact Did.refl _ _ _ _ _ _ fun x hx => by cases hx with | rune h1 h2 h3 => rw [hr] at h2;cases h2
 | rune h hr hd ih =>
  intro ho
  simp only [Way.one] at ho
  exact (ih ho).as (fun x hx => by cases hx with | rune h1 h2 h3 => exact h3) (fun q hc => can_rune.2 ⟨h,hr,hc⟩)
 | fails h =>
  intro _
  exact Did.refl _ _ _ _ _ _ fun x hx => by cases hx with | holds h1 h2 => rw [h] at h1;cases h1
 | holds h hd ih =>
  intro ho
  simp only [Way.one] at ho
  exact (ih ho).as (fun x hx => by cases hx with | holds h1 h2 => exact h2) (fun q hc => can_holds.2 ⟨h,hc⟩)
 | again h ih =>
  intro ho
  simp only [Way.one] at ho
  exact (ih (hE _ ho)).as (fun x hx => by cases hx with | again h => exact h) (fun q hc => can_again.2 hc)
 | @inOrder l p ss h ih =>
  intro ho
  simp only [Way.one] at ho
  have key:∀ m,m ≤ l.length → Did tx E Bd (.inOrder (l.take m)) p (ss 0) (ss m):=by
   intro m
   induction m with
   | zero => intro _;exact Did.refl _ _ _ _ _ _ fun x hx => by cases hx with | inOrder d hm _ => simp at hm
   | succ m im =>
    intro hm
    refine (im (by omega)).trans (ih m (by omega) (oneL_get ho _ (List.getElem_mem _))) (fun x hx => ?_) (fun q hc => ?_) (fun q hc => ?_)
    ·cases hx with
     | inOrder d hd hx =>
      rw [List.take_succ_eq_append_getElem (by omega)] at hd
      simp only [List.mem_append,List.mem_singleton] at hd
      rcases hd with hd | rfl
      ·exact .inl (.inOrder d hd hx)
      ·exact .inr hx
    ·rw [can_order] at hc ⊢
     obtain ⟨d,hd,hc⟩:=hc
     exact ⟨d,by rw [List.take_succ_eq_append_getElem (by omega)];exact List.mem_append_left _ hd,hc⟩
    ·exact can_order.2 ⟨_,by rw [List.take_succ_eq_append_getElem (by omega)];exact List.mem_append_right _ (List.mem_singleton.2 rfl),hc⟩
  have:=key l.length (Nat.le_refl _)
  rwa [List.take_length] at this
theorem rch_hd {Bd:Int → Way} {A:Nat → Prop} (hE:∀ b,A b → (E b).one Bd A) (D:List (Int × Int)) (hD:∀ (n:Int) (q:Nat),(n,(q:Int)) ∈ D → n ≠ 1 → ∀ h,Hd tx E (Bd n) q h → h ∈ D):∀ (k:Nat) (W:Way) (p q:Nat),RchY tx E k W p q → W.one Bd A → (∀ h,Hd tx E W p h → h ∈ D) → (1,(q:Int)) ∈ D:=by
 intro k W p q h
 induction h with
 | through => intro ho;simp [Way.one] at ho
 | @once k n d p q h ih =>
  intro ho hh
  have hm:=hh _ .once
  simp only [Way.one] at ho
  obtain ⟨ho1,⟨rfl,rfl⟩ | ⟨ho2,ho3⟩⟩:=ho
  ·cases h
   exact hm
  ·exact ih ho3 fun x hx => hD n p hm ho2 x (by rw [ho1];exact hx)
 | noted h ih => intro ho hh;simp only [Way.one] at ho;exact ih ho fun x hx => hh x (.noted hx)
 | rune hp hr h ih => intro ho hh;simp only [Way.one] at ho;exact ih ho fun x hx => hh x (.rune hp hr hx)
 | holds hp h ih => intro ho hh;simp only [Way.one] at ho;exact ih ho fun x hx => hh x (.holds hp hx)
 | inOrder d hd h ih => intro ho hh;simp only [Way.one] at ho;exact ih (oneL_get ho d hd) fun x hx => hh x (.inOrder d hd hx)
 | again h ih => intro ho hh;simp only [Way.one] at ho;exact ih (hE _ ho) fun x hx => hh x (.again hx)
theorem ends_iff {Bd:Int → Way} {A:Nat → Prop} (hE:∀ b,A b → (E b).one Bd A) {W:Way} {p:Nat} {s s':Sg} (h:Ex tx E W p s s') (ho:W.one Bd A) (h0:s.done = []) (h1:s.parses = []):(s'.parses.map Prod.fst).Nodup ∧ (∀ e ∈ s'.parses,∃ q:Nat,e.1 = (q:Int)) ∧ ∀ q:Nat,(q:Int) ∈ s'.parses.map Prod.fst ↔ Can tx E W p q:=by
 have hD:=ex_did hE h ho
 obtain ⟨l,e,n,hp,hc⟩:=hD.par
 rw [h1,List.nil_append] at e
 subst e
 refine ⟨n,fun e he => ?_,fun q => ⟨fun hq => ?_,fun ⟨k,hq⟩ => ?_⟩⟩
 ·obtain ⟨q,hq,_⟩:=hc e he
  exact ⟨q,hq⟩
 ·simp only [List.mem_map] at hq
  obtain ⟨e,he,hq⟩:=hq
  obtain ⟨q',hq',hcan⟩:=hc e he
  rw [hq] at hq'
  have:q = q':=by omega
  rwa [this]
 ·refine (hp q).2 ⟨rch_hd hE s'.done (fun m r hm hm1 x hx => hD.new m r hm (by rw [h0];simp) hm1 x hx) k W p q hq ho hD.hd,by rw [h0];simp⟩
end
def Iter (R:Nat → Nat → Prop):Nat → Nat → Nat → Prop
 | 0,p,q => q = p
 | c + 1,p,q => ∃ r,R p r ∧ Iter R c r q
theorem Iter.add {R:Nat → Nat → Prop}:∀ {a b p r q:Nat},Iter R a p r → Iter R b r q → Iter R (a + b) p q:=by
 intro a
 induction a with
 | zero => intro b p r q h1 h2;simp only [Iter] at h1;subst h1;simpa using h2
 | succ a ih =>
  intro b p r q h1 h2
  simp only [Iter] at h1
  obtain ⟨x,hx,h1⟩:=h1
  rw [show a + 1 + b = (a + b) + 1 by omega]
  exact ⟨x,hx,ih h1 h2⟩
theorem Iter.split {R:Nat → Nat → Prop}:∀ {a b p q:Nat},Iter R (a + b) p q → ∃ r,Iter R a p r ∧ Iter R b r q:=by
 intro a
 induction a with
 | zero => intro b p q h;exact ⟨p,rfl,by simpa using h⟩
 | succ a ih =>
  intro b p q h
  rw [show a + 1 + b = (a + b) + 1 by omega] at h
  obtain ⟨x,hx,h⟩:=h
  obtain ⟨r,h1,h2⟩:=ih h
  exact ⟨r,⟨x,hx,h1⟩,h2⟩
mutual
def Mt (tx:List Int):Tn → Nat → Nat → Prop
 | .mk k R a s mn mx lz ix nm,p,q =>
  (k = 1 ∧ q = p) ∨ (k = 2 ∧ p < tx.length ∧ (rightB R && hasB R (tx.getD p 0)) = true ∧ q = p + 1) ∨ (k = 3 ∧ heldB tx a p = true ∧ q = p) ∨ (k = 4 ∧ MtC tx s p q) ∨ (k = 5 ∧ MtA tx s p q) ∨ (k = 7 ∧ MtH tx s p q) ∨
   (k = 6 ∧ ∃ c:Nat,mn ≤ (c:Int) ∧ (mx < 0 ∨ (c:Int) ≤ mx) ∧ Iter (MtH tx s) c p q)
def MtC (tx:List Int):List Tn → Nat → Nat → Prop
 | [],p,q => q = p
 | t :: ts,p,q => ∃ r,Mt tx t p r ∧ MtC tx ts r q
def MtA (tx:List Int):List Tn → Nat → Nat → Prop
 | [],p,q => False
 | t :: ts,p,q => Mt tx t p q ∨ MtA tx ts p q
def MtH (tx:List Int):List Tn → Nat → Nat → Prop
 | [],p,q => False
 | t :: _,p,q => Mt tx t p q
end
theorem mtA_snoc {tx:List Int} {t:Tn} {p q:Nat}:∀ {ts:List Tn},MtA tx (ts ++ [t]) p q ↔ MtA tx ts p q ∨ Mt tx t p q:=by
 intro ts
 induction ts with
 | nil => simp [MtA]
 | cons u ts ih => simp only [List.cons_append,MtA,ih,or_assoc]
theorem mtH_one (tx:List Int) (t:Tn) (ts:List Tn):MtH tx (t :: ts) = Mt tx t:=by
 funext p q
 simp [MtH]
def Leads (tx:List Int) (E:Nat → Way) (M:Nat → Nat → Prop) (B W:Way):Prop:=(∀ k p q',RchY tx E k W p q' → ∃ q k',k' ≤ k ∧ M p q ∧ RchY tx E k' B q q') ∧ ∀ p q q',M p q → Can tx E B q q' → Can tx E W p q'
section
variable {tx:List Int} {E:Nat → Way}
theorem Leads.to {M M':Nat → Nat → Prop} {B W:Way} (h:Leads tx E M B W) (h1:∀ p q,M p q ↔ M' p q):Leads tx E M' B W:=
 ⟨fun k p q' hr => by obtain ⟨q,k',a,b,c⟩:=h.1 k p q' hr;exact ⟨q,k',a,(h1 p q).1 b,c⟩,fun p q q' hm => h.2 p q q' ((h1 p q).2 hm)⟩
theorem Leads.self (B:Way):Leads tx E (fun p q => q = p) B B:=⟨fun k p q' h => ⟨p,k,Nat.le_refl _,rfl,h⟩,fun p q q' h hc => by subst h;exact hc⟩
theorem Leads.seq {M M':Nat → Nat → Prop} {B W W':Way} (h:Leads tx E M B W) (h':Leads tx E M' W W'):Leads tx E (fun p q => ∃ r,M' p r ∧ M r q) B W':=
 ⟨fun k p q' hr => by
  obtain ⟨r,k1,a1,a2,a3⟩:=h'.1 k p q' hr
  obtain ⟨q,k2,b1,b2,b3⟩:=h.1 k1 r q' a3
  exact ⟨q,k2,by omega,⟨r,a2,b2⟩,b3⟩,fun p q q' ⟨r,h1,h2⟩ hc => h'.2 p r q' h1 (h.2 r q q' h2 hc)⟩
theorem Leads.once {M:Nat → Nat → Prop} {B W:Way} {n:Int} (h:Leads tx E M B W):Leads tx E M B (.once n W):=
 ⟨fun k p q' hr => by
  cases hr with
  | once hr =>
   obtain ⟨q,k',a,b,c⟩:=h.1 _ p q' hr
   exact ⟨q,k',by omega,b,c⟩,fun p q q' hm hc => can_once.2 (h.2 p q q' hm hc)⟩
theorem Leads.noted {M:Nat → Nat → Prop} {B W:Way} {n:Nat} (h:Leads tx E M B W):Leads tx E M B (.noted n W):=
 ⟨fun k p q' hr => by
  cases hr with
  | noted hr =>
   obtain ⟨q,k',a,b,c⟩:=h.1 _ p q' hr
   exact ⟨q,k',by omega,b,c⟩,fun p q q' hm hc => can_noted.2 (h.2 p q q' hm hc)⟩
theorem Leads.behind {M:Nat → Nat → Prop} {B W:Way} {n:Nat} (h:Leads tx E M (.noted n B) W):Leads tx E M B W:=
 ⟨fun k p q' hr => by
  obtain ⟨q,k',a,b,c⟩:=h.1 _ p q' hr
  cases c with
  | noted c => exact ⟨q,_,by omega,b,c⟩,fun p q q' hm hc => h.2 p q q' hm (can_noted.2 hc)⟩
theorem Leads.beside {M:Nat → Nat → Prop} {B W:Way} {l:List Way} (h:Leads tx E M B W) (hl:∀ d,d ∈ l ↔ d = B ∨ d = W):Leads tx E (fun p q => q = p ∨ M p q) B (.inOrder l):=
 ⟨fun k p q' hr => by
  cases hr with
  | inOrder d hd hr =>
   rcases (hl d).1 hd with rfl | rfl
   ·exact ⟨p,_,by omega,.inl rfl,hr⟩
   ·obtain ⟨q,k',a,b,c⟩:=h.1 _ p q' hr
    exact ⟨q,k',by omega,.inr b,c⟩,
 fun p q q' hm hc => by
  rcases hm with rfl | hm
  ·exact can_order.2 ⟨B,(hl B).2 (.inl rfl),hc⟩
  ·exact can_order.2 ⟨W,(hl W).2 (.inr rfl),h.2 p q q' hm hc⟩⟩
theorem Leads.loop {M:Nat → Nat → Prop} {B:Way} {b:Nat} {lz:Bool} {n:Int} (h:Leads tx E M (Dcd lz n b B) (E b)):Leads tx E (fun p q => ∃ c,Iter M c p q) B (Dcd lz n b B):=by
 have hl:∀ d,d ∈ (if lz = true then [B,.again b] else [.again b,B]) ↔ d = B ∨ d = .again b:=by
  intro d
  cases lz
  ·simp [or_comm]
  ·simp
 constructor
 ·intro k
  induction k using Nat.strongRecOn with
  | _ k ih =>
  intro p q' hr
  cases hr with
  | once hr =>
   cases hr with
   | inOrder d hd hr =>
    rcases (hl d).1 hd with rfl | rfl
    ·exact ⟨p,_,by omega,⟨0,rfl⟩,hr⟩
    ·cases hr with
     | again hr =>
      obtain ⟨r,k1,a1,a2,a3⟩:=h.1 _ p q' hr
      obtain ⟨q,k2,b1,⟨c,b2⟩,b3⟩:=ih k1 (by omega) r q' a3
      exact ⟨q,k2,by omega,⟨c + 1,r,a2,b2⟩,b3⟩
 ·rintro p q q' ⟨c,hm⟩ hc
  induction c generalizing p with
  | zero => simp only [Iter] at hm;subst hm;exact can_once.2 (can_order.2 ⟨B,(hl B).2 (.inl rfl),hc⟩)
  | succ c ihc =>
   obtain ⟨r,h1,h2⟩:=hm
   exact can_once.2 (can_order.2 ⟨.again b,(hl _).2 (.inr rfl),can_again.2 (h.2 p r q' h1 (ihc r h2))⟩)
theorem Beg.leads {t:Tn} {n n1:Int} {B W:Way} (h:Beg E t n B n1 W):Leads tx E (Mt tx t) B W:=by
 refine Beg.rec (motive_1:=fun t n B n1 W _ => Leads tx E (Mt tx t) B W) (motive_2:=fun ts n B n1 W _ => Leads tx E (MtC tx ts) B W)
  (motive_3:=fun ts n B n1 Ws _ => (∀ k p q',∀ d ∈ Ws,RchY tx E k d p q' → ∃ q k',k' ≤ k ∧ MtA tx ts p q ∧ RchY tx E k' B q q') ∧ ∀ p q q',MtA tx ts p q → Can tx E B q q' → ∃ d ∈ Ws,Can tx E d p q')
  (motive_4:=fun t c n B n1 W _ => Leads tx E (Iter (Mt tx t) c) B W) (motive_5:=fun t lz B c n n1 W _ => Leads tx E (fun p q => ∃ d,d ≤ c ∧ Iter (Mt tx t) d p q) B W)
  ?_ ?_ ?_ ?_ ?_ ?_ ?_ ?_ ?_ ?_ ?_ ?_ ?_ ?_ ?_ ?_ ?_ h
 ·intro R a s mn mx lz ix nm n B
  exact (Leads.self B).once.to fun p q => by simp [Mt]
 ·intro R a s mn mx lz ix nm n B
  refine Leads.once ⟨fun k p q' hr => ?_,fun p q q' hm hc => ?_⟩
  ·cases hr with
   | rune h1 h2 hr => exact ⟨p + 1,_,by omega,by simp [Mt];exact ⟨h1,by simpa using h2⟩,hr⟩
  ·simp [Mt] at hm
   obtain ⟨h1,h2,rfl⟩:=hm
   exact can_rune.2 ⟨h1,by simpa using h2,hc⟩
 ·intro R a s mn mx lz ix nm n B
  refine Leads.once ⟨fun k p q' hr => ?_,fun p q q' hm hc => ?_⟩
  ·cases hr with
   | holds h1 hr => exact ⟨p,_,by omega,by simp [Mt];exact h1,hr⟩
  ·simp [Mt] at hm
   obtain ⟨h1,rfl⟩:=hm
   exact can_holds.2 ⟨h1,hc⟩
 ·intro R a s mn mx lz ix nm n n' B W _ h
  exact h.to fun p q => by simp [Mt]
 ·intro R a s mn mx lz ix nm n n' B Ws _ hl
  refine Leads.once ⟨fun k p q' hr => ?_,fun p q q' hm hc => ?_⟩
  ·cases hr with
   | inOrder d hd hr =>
    obtain ⟨q,k',a,b,c⟩:=hl.1 _ p q' d hd hr
    exact ⟨q,k',by omega,by simp [Mt];exact b,c⟩
  ·simp [Mt] at hm
   exact can_order.2 (hl.2 p q q' hm hc)
 ·intro R a t mn mx lz i nm n n' B W _ h
  exact (h.behind.noted.once).to fun p q => by simp [Mt,MtH]
 ·intro R a t lz ix nm n n2 b B _ h
  refine h.loop.to fun p q => ?_
  simp [Mt,mtH_one]
 ·intro R a t c lz ix nm n n2 n3 b B W3 _ _ h1 hT
  refine ((h1.loop.seq h1).seq hT).to fun p q => ?_
  simp [Mt,mtH_one]
  constructor
  ·rintro ⟨r,a1,r2,a2,c',a3⟩
   exact ⟨_,by omega,a1.add (show Iter _ (c' + 1) r q from ⟨r2,a2,a3⟩)⟩
  ·rintro ⟨c2,a1,a2⟩
   obtain ⟨d,rfl⟩:∃ d,c2 = c + (d + 1):=⟨c2 - c - 1,by omega⟩
   obtain ⟨r,b1,r2,b2,b3⟩:=a2.split
   exact ⟨r,b1,r2,b2,_,b3⟩
 ·intro R a t c m lz ix nm n n1 n2 B W1 W2 _ _ hO hT
  refine (hO.seq hT).to fun p q => ?_
  constructor
  ·rintro ⟨r,a1,d,hd,a2⟩
   have:Iter (Mt tx _) _ p q:=a1.add a2
   simp only [Mt,mtH_one]
   exact .inr (.inr (.inr (.inr (.inr (.inr ⟨trivial,_,by omega,by omega,this⟩)))))
  ·intro hm
   simp [Mt,mtH_one] at hm
   obtain ⟨c2,a1,a2,a3⟩:=hm
   obtain ⟨d,rfl⟩:∃ d,c2 = c + d:=⟨c2 - c,by omega⟩
   obtain ⟨r,b1,b2⟩:=a3.split
   exact ⟨r,b1,d,by omega,b2⟩
 ·intro n B
  exact (Leads.self B).to fun p q => by simp [MtC]
 ·intro t ts n n1 n2 B W1 W2 _ _ h h2
  exact (h.seq h2).to fun p q => by simp [MtC]
 ·intro n B
  exact ⟨fun k p q' d hd => (by cases hd),fun p q q' hm => by simp [MtA] at hm⟩
 ·intro t ts n n1 n2 B W2 Ws _ _ hl hl2
  refine ⟨fun k p q' d hd hr => ?_,fun p q q' hm hc => ?_⟩
  ·rw [List.mem_append,List.mem_singleton] at hd
   rcases hd with hd | rfl
   ·obtain ⟨q,k',a,b,c⟩:=hl.1 k p q' d hd hr
    exact ⟨q,k',a,mtA_snoc.2 (.inl b),c⟩
   ·obtain ⟨q,k',a,b,c⟩:=hl2.1 k p q' hr
    exact ⟨q,k',a,mtA_snoc.2 (.inr b),c⟩
  ·rcases mtA_snoc.1 hm with hm | hm
   ·obtain ⟨d,hd,hc⟩:=hl.2 p q q' hm hc
    exact ⟨d,List.mem_append_left _ hd,hc⟩
   ·exact ⟨_,List.mem_append_right _ (List.mem_singleton.2 rfl),hl2.2 p q q' hm hc⟩
 ·intro t n W
  exact (Leads.self W).to fun p q => by simp [Iter]
 ·intro t c n n1 n2 W W1 W2 _ _ h h2
  exact (h.seq h2).to fun p q => by simp [Iter]
 ·intro t lz B n
  exact (Leads.self B).to fun p q => ⟨fun e => ⟨0,Nat.le_refl _,e⟩,fun ⟨d,hd,h⟩ => by cases d with | zero => exact h | succ d => omega⟩
 ·intro t lz B c n n1 n2 W1 W2 _ _ h h2
  refine (((h.seq h2).beside (fun d => ?_)).once).to fun p q => ?_
  ·cases lz
   ·simp [or_comm]
   ·simp
  ·constructor
   ·rintro (rfl | ⟨r,h1,d,hd,h2⟩)
    ·exact ⟨0,by omega,rfl⟩
    ·exact ⟨d + 1,by omega,r,h1,h2⟩
   ·rintro ⟨d,hd,h⟩
    cases d with
    | zero => exact .inl h
    | succ d =>
     obtain ⟨r,h1,h2⟩:=h
     exact .inr ⟨r,h1,d,by omega,h2⟩
theorem Beg.can {t:Tn} {n n1:Int} {B W:Way} (h:Beg E t n B n1 W) (p q':Nat):Can tx E W p q' ↔ ∃ q,Mt tx t p q ∧ Can tx E B q q':=
 ⟨fun ⟨k,hr⟩ => by obtain ⟨q,k',_,a,b⟩:=(h.leads (tx:=tx)).1 k p q' hr;exact ⟨q,a,k',b⟩,fun ⟨q,a,b⟩ => (h.leads (tx:=tx)).2 p q q' a b⟩
theorem can_end (p q:Nat):Can tx E (.once 1 .through) p q ↔ q = p:=by
 rw [can_once]
 exact ⟨fun ⟨k,h⟩ => by cases h;rfl,fun h => by subst h;exact ⟨0,.through⟩⟩
end
set_option maxRecDepth 100000 in
set_option maxHeartbeats 8000000 in
theorem greatest15 {w0:World} {B:Nat} {N:Nv} {t:Tn} (h:TI w0 B N t):∀ (w:World),B ≤ w.heap.size → (∀ b,b < B → w.heap[b]? = w0.heap[b]?) →
  Calls Try.prog 19 #[N.v] w fun e w' => e = .returned (.int .i64 t.gi) ∧ Below w.heap.size w w':=by
 induction h with
 | @mk N R ts ND ok hr hR hRk hs hS hk ih =>
 intro w hB hw
 have hmax:=ok.s
 obtain ⟨k,r1,r2,r3,a2,s1,s2,s3,a4,a5,a6,a7,a8⟩:=N
 simp only at hs hS hmax
 simp only [Tn.gi]
 obtain ⟨r,hrr⟩:∃ r,r = giL ts a7:=⟨_,rfl⟩
 rw [← hrr]
 have HR:=hid' hrr
 have HW:=hid' hw
 have HS:=hid' hS
 have IH:=hid' ih
 have hm2:s2 ≤ 9223372036854775807:=by have:maxLen = 9223372036854775807:=rfl;omega
 have HL:=hid' hs
 clear ok hr hR hRk hk hS hw hrr ih hmax hs
 go_enter Try.func19,Try.ntmps19
 go_wp2_with fail
 go_loopw [3,4] (fun u y wq => ∃ i:Nat,y = .int .i64 (i:Int) ∧ i ≤ s2 ∧ (∃ q,u = .int .i64 q ∧ Hid (giL (ts.drop i) q = r)) ∧ Hid (Below w.heap.size w wq) ∧ Hid (wq.heap[w.heap.size]? = some (.cells #[.int .i64 k,.slice r1 r2 r3,.int .i64 a2,.slice s1 s2 s3,.int .i64 a4,.int .i64 a5,.bool a6,.int .i64 a7,.string a8] 25 (0,0)))) (fun _ y _ => s2 - (intOf y).toNat)
 case atStart => exact ⟨0,rfl,by omega,⟨a7,rfl,HR.out.symm⟩,Joins.below_alloc1 w _,heap_alloc_new w _⟩
 case round =>
  obtain ⟨i,rfl,hi,⟨q,rfl,HQ⟩,BK,BX⟩:=hrel
  obtain ⟨o0,o1,o2,o3,o4,o5,o6,o7,o8⟩:=nine' BX.out
  by_cases hil:i < s2
  ·have b1:decide ((i:Int) < (s2:Int)) = true:=by simp;omega
   have b2:(i:Int) < (s2:Int):=by omega
   have hlt:i < ts.length:=by rw [← HL.out];exact hil
   obtain ⟨b,o,hs1,hb,hc⟩:=HS.out (by omega)
   subst hs1
   have hwk:∀ b,b < B → wr.heap[b]? = w0.heap[b]?:=fun b hb => (BK.out.block b (by omega)).trans (HW.out b hb)
   obtain ⟨n0,n1,n2,n3,n4,n5,n6,n7,n8⟩:=(hc i hlt).kept (hwk b hb)
   have HC:=IH.out i hlt wr (by have:=BK.out.size;omega) hwk
   rw [giL_drop ts i hlt q] at HQ
   obtain ⟨g,hg⟩:∃ g,g = ts[i].gi:=⟨_,rfl⟩
   rw [← hg] at HC HQ
   obtain ⟨M,hM⟩:∃ M,M = ND i:=⟨_,rfl⟩
   rw [← hM] at HC n0 n1 n2 n3 n4 n5 n6 n7 n8
   have ad1:IntKind.i64.wrap ((i:Int) + 1) = (i:Int) + 1:=by simp [IntKind.wrap,IntKind.bits,IntKind.signed];omega
   clear hM hg hwk hc hlt
   go_wp2_with (first | (go_at_call 19;(with_reducible refine HC.mono ?_);rintro e w2 ⟨rfl,hb2⟩;have HB2:=hid' hb2;clear hb2 HC))
   refine ⟨⟨i + 1,by push_cast;rfl,by omega,⟨_,rfl,HQ.out⟩,?_,?_⟩,?_⟩
   ·exact BK.out.trans (Joins.below_le HB2.out BK.out.size)
   ·exact (HB2.out.block _ (by have:=(Array.getElem?_eq_some_iff.1 BX.out).1;omega)).trans BX.out
   ·simp [intOf]
    omega
  ·have b1:decide ((i:Int) < (s2:Int)) = false:=by simp;omega
   obtain rfl:i = s2:=by omega
   have e:=HQ.out
   rw [HL.out,List.drop_length] at e
   simp only [giL] at e
   go_wp2
   go_ret
   exact ⟨by first | rfl | exact ret_int e,BK.out⟩
set_option maxRecDepth 100000 in
set_option maxHeartbeats 8000000 in
theorem refsize28 {w0:World} {B:Nat} {N:Nv} {t:Tn} (h:TI w0 B N t):t.fine = true → ∀ (w:World),B ≤ w.heap.size → (∀ b,b < B → w.heap[b]? = w0.heap[b]?) →
  Calls Try.prog 17 #[N.v] w fun e w' => e = .returned (.int .i64 (min 1073741824 t.sz:Nat)) ∧ Below w.heap.size w w':=by
 induction h with
 | @mk N R ts ND ok hr hR hRk hs hS hk ih =>
 intro hf w hB hw
 have hmax:=ok.s
 obtain ⟨k,r1,r2,r3,a2,s1,s2,s3,a4,a5,a6,a7,a8⟩:=N
 simp only at hs hS hmax
 simp only [Tn.fine,Bool.and_eq_true] at hf
 have FN:=fine_nodeZ hf.1
 have HFG:=hid' (fineL_get hf.2)
 simp only [Tn.sz]
 obtain ⟨r,hrr⟩:∃ r:Nat,r = min 1073741824 (if k = 6 then repN a4 a5 (szL ts) else 1 + szL ts):=⟨_,rfl⟩
 rw [← hrr]
 have HR:=hid' hrr
 have HW:=hid' hw
 have HS:=hid' hS
 have IH:=hid' ih
 have HFN:=hid' FN
 have hm2:s2 ≤ 9223372036854775807:=by have:maxLen = 9223372036854775807:=rfl;omega
 have HL:=hid' hs
 clear ok hr hR hRk hk hS hw hrr ih hmax hs hf FN
 go_enter Try.func17,Try.ntmps17
 go_wp2_with fail
 go_loopw [3,4] (fun u y wq => ∃ (i q:Nat),y = .int .i64 (i:Int) ∧ i ≤ s2 ∧ u = .int .i64 (q:Int) ∧ q ≤ 1073741824 ∧ Hid (q = min 1073741824 (szL (ts.take i))) ∧ Hid (Below w.heap.size w wq) ∧ Hid (wq.heap[w.heap.size]? = some (.cells #[.int .i64 k,.slice r1 r2 r3,.int .i64 a2,.slice s1 s2 s3,.int .i64 a4,.int .i64 a5,.bool a6,.int .i64 a7,.string a8] 25 (0,0)))) (fun _ y _ => s2 - (intOf y).toNat)
 case atStart => exact ⟨0,0,rfl,by omega,rfl,by omega,by show (0:Nat) = _;simp [szL],Joins.below_alloc1 w _,heap_alloc_new w _⟩
 case round =>
  obtain ⟨i,q,rfl,hi,rfl,hq,HQ,BK,BX⟩:=hrel
  obtain ⟨o0,o1,o2,o3,o4,o5,o6,o7,o8⟩:=nine' BX.out
  by_cases hil:i < s2
  ·have b1:decide ((i:Int) < (s2:Int)) = true:=by simp;omega
   have b2:(i:Int) < (s2:Int):=by omega
   have hlt:i < ts.length:=by rw [← HL.out];exact hil
   obtain ⟨b,o,hs1,hb,hc⟩:=HS.out (by omega)
   subst hs1
   have hwk:∀ b,b < B → wr.heap[b]? = w0.heap[b]?:=fun b hb => (BK.out.block b (by omega)).trans (HW.out b hb)
   obtain ⟨n0,n1,n2,n3,n4,n5,n6,n7,n8⟩:=(hc i hlt).kept (hwk b hb)
   have HC:=IH.out i hlt (HFG.out i hlt) wr (by have:=BK.out.size;omega) hwk
   have hst:=szL_take ts i hlt
   obtain ⟨g,hg⟩:∃ g,g = min 1073741824 ts[i].sz:=⟨_,rfl⟩
   rw [← hg] at HC
   have hgb:g ≤ 1073741824:=by omega
   have HQ':Hid (min 1073741824 (q + g) = min 1073741824 (szL (ts.take (i + 1)))):=by
    have h1:=HQ.out
    show _ = _
    omega
   obtain ⟨M,hM⟩:∃ M,M = ND i:=⟨_,rfl⟩
   rw [← hM] at HC n0 n1 n2 n3 n4 n5 n6 n7 n8
   have ad1:IntKind.i64.wrap ((i:Int) + 1) = (i:Int) + 1:=by simp [IntKind.wrap,IntKind.bits,IntKind.signed];omega
   have ad2:IntKind.i64.wrap ((q:Int) + (g:Int)) = (q:Int) + (g:Int):=by simp [IntKind.wrap,IntKind.bits,IntKind.signed];omega
   clear hM hg hwk hc hlt hst HQ
   go_wp2_with (first | (go_at_call 17;(with_reducible refine HC.mono ?_);rintro e w2 ⟨rfl,hb2⟩;have HB2:=hid' hb2;clear hb2 HC))
   refine ⟨⟨i + 1,min 1073741824 (q + g),by push_cast;rfl,by omega,by congr 1;omega,by omega,HQ'.out,?_,?_⟩,?_⟩
   ·exact BK.out.trans (Joins.below_le HB2.out BK.out.size)
   ·exact (HB2.out.block _ (Array.getElem?_eq_some_iff.1 BX.out).1).trans BX.out
   ·simp [intOf]
    omega
  ·have b1:decide ((i:Int) < (s2:Int)) = false:=by simp;omega
   obtain rfl:i = s2:=by omega
   have e:=HQ.out
   rw [HL.out,List.take_length] at e
   have hr':=HR.out
   by_cases k6:k = 6
   ·subst k6
    simp only [if_true] at hr'
    obtain ⟨_,m0,m1,mx⟩:=HFN.out.rep rfl
    rw [← repN_cap,← e] at hr'
    have HR':=hid' hr'
    clear e hr' HR HQ HFN
    rcases mx with rfl | ⟨mx0,mx1⟩
    ·by_cases hz:a4 = 0
     ·subst hz
      have ad2:IntKind.i64.wrap (1 + (q:Int)) = 1 + (q:Int):=by simp [IntKind.wrap,IntKind.bits,IntKind.signed];omega
      go_wp2
      go_ret
      exact ⟨ret_int (by have:=HR'.out;simp [repN] at this;omega),BK.out⟩
     ·have hz':(a4 == 0) = false:=by simpa using hz
      have hp:0 ≤ a4 * (q:Int) ∧ a4 * (q:Int) ≤ 1000 * 1073741824:=⟨Int.mul_nonneg m0 (by omega),Int.mul_le_mul m1 (by omega) (by omega) (by omega)⟩
      have ad1:IntKind.i64.wrap (a4 * (q:Int)) = a4 * (q:Int):=by simp [IntKind.wrap,IntKind.bits,IntKind.signed];omega
      have ad2:IntKind.i64.wrap (a4 * (q:Int) + 1) = a4 * (q:Int) + 1:=by simp [IntKind.wrap,IntKind.bits,IntKind.signed];omega
      have hre:((repN a4 (-1) q:Nat):Int) = a4 * q + 1:=by
       simp only [repN,if_true]
       rw [Nat.max_eq_left (by omega)]
       push_cast
       rw [Int.toNat_of_nonneg m0]
      go_wp2
      go_ret
      exact ⟨ret_int (by have:=HR'.out;omega),BK.out⟩
    ·have mxn:a5 ≠ -1:=by omega
     have c0:decide (a5 < 0) = false:=by simp;omega
     have hp:0 ≤ a4 * (q:Int) ∧ a4 * (q:Int) ≤ 1000 * 1073741824:=⟨Int.mul_nonneg m0 (by omega),Int.mul_le_mul m1 (by omega) (by omega) (by omega)⟩
     have hp2:0 ≤ (a5 - a4) * (1 + (q:Int)) ∧ (a5 - a4) * (1 + (q:Int)) ≤ 1000 * 1073741825:=⟨Int.mul_nonneg (by omega) (by omega),Int.mul_le_mul (by omega) (by omega) (by omega) (by omega)⟩
     have hre:((repN a4 a5 q:Nat):Int) = max 1 (a4 * q + (a5 - a4) * (1 + q)):=by
      have e:((a4.toNat * q + (a5 - a4).toNat * (1 + q):Nat):Int) = a4 * q + (a5 - a4) * (1 + q):=by
       push_cast
       rw [Int.toNat_of_nonneg m0,Int.toNat_of_nonneg (by omega)]
      simp only [repN,if_neg mxn]
      generalize a4.toNat * q + (a5 - a4).toNat * (1 + q) = X at e
      omega
     have ad1:IntKind.i64.wrap (a4 * (q:Int)) = a4 * (q:Int):=by simp [IntKind.wrap,IntKind.bits,IntKind.signed];omega
     have ad2:IntKind.i64.wrap (a5 - a4) = a5 - a4:=by simp [IntKind.wrap,IntKind.bits,IntKind.signed];omega
     have ad3:IntKind.i64.wrap (1 + (q:Int)) = 1 + (q:Int):=by simp [IntKind.wrap,IntKind.bits,IntKind.signed];omega
     have ad4:IntKind.i64.wrap ((a5 - a4) * (1 + (q:Int))) = (a5 - a4) * (1 + (q:Int)):=by simp [IntKind.wrap,IntKind.bits,IntKind.signed];omega
     have ad5:IntKind.i64.wrap (a4 * (q:Int) + (a5 - a4) * (1 + (q:Int))) = a4 * (q:Int) + (a5 - a4) * (1 + (q:Int)):=by simp [IntKind.wrap,IntKind.bits,IntKind.signed];omega
     go_wp2
     go_ret
     exact ⟨ret_int (by have:=HR'.out;omega),BK.out⟩
   ·have k6':(k == 6) = false:=by simpa using k6
    simp only [k6,if_false] at hr'
    have HR':=hid' hr'
    have HE:=hid' e
    by_cases kl:k = 4 ∨ k = 5 ∨ k = 7
    ·have ad2:IntKind.i64.wrap (1 + (q:Int)) = 1 + (q:Int):=by simp [IntKind.wrap,IntKind.bits,IntKind.signed];omega
     clear e hr' HR HQ HFN k6
     rcases kl with rfl | rfl | rfl
     ·go_wp2
      go_ret
      exact ⟨ret_int (by have:=HR'.out;have:=HE.out;omega),BK.out⟩
     ·go_wp2
      go_ret
      exact ⟨ret_int (by have:=HR'.out;have:=HE.out;omega),BK.out⟩
     ·go_wp2
      go_ret
      exact ⟨ret_int (by have:=HR'.out;have:=HE.out;omega),BK.out⟩
    ·have h0:=HFN.out.leaf (by have:=HFN.out.kind;omega)
     have k4:(k == 4) = false:=by simp;omega
     have k5:(k == 5) = false:=by simp;omega
     have k7:(k == 7) = false:=by simp;omega
     have ht:ts = []:=List.length_eq_zero_iff.1 h0
     subst ht
     simp only [szL] at hr'
     subst hr'
     clear e HR HQ HFN k6 HR' HE kl h0
     go_wp2
     go_ret
     exact ⟨rfl,BK.out⟩
theorem giL_ge (ts:List Tn):∀ (m:Int),m ≤ giL ts m ∧ ∀ (i:Nat) (hi:i < ts.length),ts[i].gi ≤ giL ts m:=by
 induction ts with
 | nil => intro m;exact ⟨by simp [giL],fun i hi => by simp at hi⟩
 | cons t ts ih =>
  intro m
  simp only [giL]
  obtain ⟨h1,h2⟩:=ih (max m t.gi)
  refine ⟨by omega,fun i hi => ?_⟩
  cases i with
  | zero => simp only [List.getElem_cons_zero];omega
  | succ i => simpa using h2 i (by simpa using hi)
abbrev M1:Value:=.int .i64 (-1)
theorem makeN (c:Nat) (hc:c ≤ 10000) (w:World):(Instr.makeSlice 26 (.int .i64 (c:Int)) (.int .i64 (c:Int))).run Try.prog w = .ok (.slice (some ⟨w.heap.size,0,none⟩) c c) (w.alloc (.cells (madeCells #[.int .i64 0] c) 3)):=
 run_make_row' (P:=Try.prog) 26 3 (.int .i64 0) 8 Try.underlying26 info3 rfl .i64 .i64 c (by omega) (by omega) w
def RI (nb c n:Nat) (W:World):Prop:=∃ arr:Array Value,W.heap[nb]? = some (.cells arr 3 (0,0)) ∧ arr.size = c ∧ ∀ i,i < n → arr[i]? = some M1
theorem RI.next {nb c n:Nat} {W:World} (h:RI nb c n W) (hn:n < c):RI nb c (n + 1) (W.setCell ⟨nb,n,none⟩ M1):=by
 obtain ⟨arr,h1,h2,h3⟩:=h
 refine ⟨arr.setIfInBounds n M1,Joins.block_setCell (i:=n) h1 _,by simp [h2],fun i hi => ?_⟩
 by_cases e:i = n
 ·subst e;simp [h2,hn]
 ·rw [Array.getElem?_setIfInBounds_ne (by omega)];exact h3 i (by omega)
theorem RI.some {nb c n:Nat} {W:World} (h:RI nb c n W) {i:Nat} (hi:i < c):(W.cell? ⟨nb,i,none⟩).isSome = true:=by
 obtain ⟨arr,h1,h2,h3⟩:=h
 rw [Joins.cell_of_block h1 i]
 simp [h2,hi]
theorem RI.free {nb c n:Nat} {W:World} (h:RI nb c n W) (i:Nat):W.frozen? ⟨nb,i,none⟩ = false:=by
 obtain ⟨arr,h1,h2,h3⟩:=h
 exact Joins.unfrozen_of_block h1 i
end Go.Proofs.Ytbdhiichhcihgaa
namespace Go.Lk
open Go.RowKit
set_option linter.unusedVariables false
set_option linter.unusedSimpArgs false
theorem wrap_i64 (n:Int):IntKind.i64.wrap n = if 9223372036854775808 ≤ n % 18446744073709551616 then n % 18446744073709551616 - 18446744073709551616 else n % 18446744073709551616:=by
 simp [IntKind.wrap,IntKind.bits,IntKind.signed]
def holdsB (x y:Int):Bool:=bits .andNot .i64 x y == 0
end Go.Lk
namespace Go.Proofs.Ytbdhiichhcihgaa
open Go.RowKit Go.Lk
set_option linter.unusedVariables false
set_option linter.unusedSimpArgs false
theorem wrap_ok (x:Int) (h:-9223372036854775808 ≤ x) (h2:x < 9223372036854775808):IntKind.i64.wrap x = x:=by simp [IntKind.wrap,IntKind.bits,IntKind.signed];omega
structure En where
 i:Nat
 b:Nat
 c:List Int
instance:Inhabited En:=⟨⟨0,0,[]⟩⟩
theorem step_call2 {P:Program} {ops:Array Oper} {o:Oper} {a:Act} {w:World} {K:Act → World → Prop} {Q:Exit → Act → World → Prop} {E:Prop} (hg:o.guard = none) (f:FuncId) (x y:Operand) (t u:TypeId)
  (hop:o.op = Op.call { callee:=Callee.value (.func f),args:=#[x,y],argTypes:=#[t,u] }) (hen:∀ args w,(callFunc f args).run P w = .ok (.enter f args) w)
  (hc:Calls P f #[a.eval x,a.eval y] w fun e w' => ∃ v,e = .returned v ∧ K (a.put o.dst v) w') :
  if Region.wanted o (yielded ops a.tmps) = true then Oper.wp P o a w K Q else E:=by
 have hw:Region.wanted o (yielded ops a.tmps) = true:=by simp [Region.wanted,hg]
 rw [if_pos hw]
 have h2:=hen #[a.eval x,a.eval y] w
 unfold Oper.wp
 have ev:a.eval (.func f) = .func (.func f) #[] #[]:=rfl
 simp [execOp,hop,resolve,invoke,ev,Deferred.ofValue,h2,Result.andThen]
 show Calls P f #[a.eval x,a.eval y] w _
 refine hc.mono fun e w' h => ?_
 obtain ⟨v,rfl,hk⟩:=h
 exact hk
end Go.Proofs.Ytbdhiichhcihgaa
namespace Go.Proofs.Ytbdhiichhcihgaa
open Go.RowKit
set_option linter.unusedVariables false
set_option linter.unusedSimpArgs false
def Parsed (N:Nat) (w:World) (pv:Value) (l:List (Int × List Int)):Prop:=∃ cs F,w.ownsRow N 45 2 pv l.length cs ∧ PR N w cs l F
end Go.Proofs.Ytbdhiichhcihgaa
