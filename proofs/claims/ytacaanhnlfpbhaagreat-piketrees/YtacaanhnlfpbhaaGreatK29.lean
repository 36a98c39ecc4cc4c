/- HELPERS: texts of ours put together. -/
import Derived.Test.YtacaanhnlfpbhaaGreatK08
import Derived.Test.YtacaanhnlfpbhaaGreatK21
import Derived.Test.YtacaanhnlfpbhaaGreatK23
namespace Go.Proofs.YtacaanhnlfpbhaaGreat
set_option linter.unusedVariables false
set_option linter.unusedSimpArgs false
def Goes (A:Nat→Nat→Ac) (p q:Pt):Prop:=
 match A p.2 p.1 with
 | .alt x y=>q=(x,p.2)∨q=(y,p.2)
 | .go x=>q=(x,p.2)
 | .cap x _=>q=(x,p.2)
 | .rune x=>q=(x,p.2 + 1)
 | .fit _=>False
 | .stop=>False
def Cl (A:Nat→Nat→Ac) (m D:List Pt):Prop:=∀ p ∈ D,p ∈ m∨((∀ a,A p.2 p.1≠.fit a)∧∀ q,Goes A p q→q ∈ D)
theorem df_sub {A:Nat→Nat→Ac} {m:List Pt} {i j:Nat} {c:List Int} {m':List Pt} {r:Fd} (h:Df A m i j c m' r):(∀ p ∈ m,p ∈ m')∧(i,j) ∈ m'∧m.length≤m'.length:=by
 induction h with
 | old m i j c h=>exact ⟨fun p hp=>hp,h,Nat.le_refl _⟩
 | fit m i j c a h e=>exact ⟨fun p hp=>by simp [hp],by simp,by simp⟩
 | stop m i j c h e=>exact ⟨fun p hp=>by simp [hp],by simp,by simp⟩
 | go m i j c x m' r h e hd ih=>exact ⟨fun p hp=>ih.1 p (by simp [hp]),ih.1 _ (by simp),by have:=ih.2.2;simp at this;omega⟩
 | cap m i j c x a m' r h e hd ih=>exact ⟨fun p hp=>ih.1 p (by simp [hp]),ih.1 _ (by simp),by have:=ih.2.2;simp at this;omega⟩
 | rune m i j c x m' r h e hd ih=>exact ⟨fun p hp=>ih.1 p (by simp [hp]),ih.1 _ (by simp),by have:=ih.2.2;simp at this;omega⟩
 | altx m i j c x y m' z h e hd ih=>exact ⟨fun p hp=>ih.1 p (by simp [hp]),ih.1 _ (by simp),by have:=ih.2.2;simp at this;omega⟩
 | alty m i j c x y m1 m' r h e hd hd2 ih ih2=>exact ⟨fun p hp=>ih2.1 p (ih.1 p (by simp [hp])),ih2.1 _ (ih.1 _ (by simp)),by have:=ih.2.2;have:=ih2.2.2;simp at *;omega⟩
theorem df_closed {A:Nat→Nat→Ac} {m:List Pt} {i j:Nat} {c:List Int} {m':List Pt} {r:Fd} (h:Df A m i j c m' r):r=none→Cl A m m':=by
 induction h with
 | old m i j c h=>intro _ p hp;exact .inl hp
 | fit m i j c a h e=>intro h0;cases h0
 | stop m i j c h e =>
  intro _ p hp
  rcases List.mem_append.1 hp with hp | hp
  ·exact .inl hp
  ·rw [List.mem_singleton] at hp
   subst hp
   right
   exact ⟨fun a=>by simp [e],fun q hq=>by simp [Goes,e] at hq⟩
 | go m i j c x m' r h e hd ih =>
  intro h0 p hp
  rcases ih h0 p hp with h1 | h1
  ·rcases List.mem_append.1 h1 with h2 | h2
   ·exact .inl h2
   ·rw [List.mem_singleton] at h2
    subst h2
    right
    refine ⟨fun a=>by simp [e],fun q hq=>?_⟩
    simp [Goes,e] at hq
    subst hq
    exact (df_sub hd).2.1
  ·exact .inr h1
 | cap m i j c x a m' r h e hd ih =>
  intro h0 p hp
  rcases ih h0 p hp with h1 | h1
  ·rcases List.mem_append.1 h1 with h2 | h2
   ·exact .inl h2
   ·rw [List.mem_singleton] at h2
    subst h2
    right
    refine ⟨fun a=>by simp [e],fun q hq=>?_⟩
    simp [Goes,e] at hq
    subst hq
    exact (df_sub hd).2.1
  ·exact .inr h1
 | rune m i j c x m' r h e hd ih =>
  intro h0 p hp
  rcases ih h0 p hp with h1 | h1
  ·rcases List.mem_append.1 h1 with h2 | h2
   ·exact .inl h2
   ·rw [List.mem_singleton] at h2
    subst h2
    right
    refine ⟨fun a=>by simp [e],fun q hq=>?_⟩
    simp [Goes,e] at hq
    subst hq
    exact (df_sub hd).2.1
  ·exact .inr h1
 | altx m i j c x y m' z h e hd ih=>intro h0;cases h0
 | alty m i j c x y m1 m' r h e hd hd2 ih ih2 =>
  intro h0 p hp
  rcases ih2 h0 p hp with h1 | h1
  ·rcases ih rfl p h1 with h2 | h2
   ·rcases List.mem_append.1 h2 with h3 | h3
    ·exact .inl h3
    ·rw [List.mem_singleton] at h3
     subst h3
     right
     refine ⟨fun a=>by simp [e],fun q hq=>?_⟩
     simp [Goes,e] at hq
     rcases hq with rfl | rfl
     ·exact (df_sub hd2).1 _ (df_sub hd).2.1
     ·exact (df_sub hd2).2.1
   ·exact .inr ⟨h2.1,fun q hq=>(df_sub hd2).1 q (h2.2 q hq)⟩
  ·exact .inr h1
theorem da_sub {A:Nat→Nat→Ac} {m:List Pt} {T:List (Nat × Nat × List Int)} {m':List Pt} {r:Fd} (h:Da A m T m' r):(∀ p ∈ m,p ∈ m')∧m.length≤m'.length:=by
 induction h with
 | nil m=>exact ⟨fun p h=>h,Nat.le_refl _⟩
 | hit m i j c T m' z hd=>exact ⟨(df_sub hd).1,(df_sub hd).2.2⟩
 | miss m i j c T m1 m' r hd h ih=>exact ⟨fun p hp=>ih.1 p ((df_sub hd).1 p hp),Nat.le_trans (df_sub hd).2.2 ih.2⟩
theorem df_dead {A:Nat→Nat→Ac} {D:List Pt} (hD:Cl A [] D) {m:List Pt} {i j:Nat} {c:List Int} {m':List Pt} {r:Fd} (h:Df A m i j c m' r):(i,j) ∈ D→r=none∧∀ p ∈ m',p ∈ m∨p ∈ D:=by
 have step:∀ {p q:Pt},p ∈ D→Goes A p q→q ∈ D:=fun hp hq=>by
  rcases hD _ hp with h | h
  ·cases h
  ·exact h.2 _ hq
 induction h with
 | old m i j c h=>exact fun _=>⟨rfl,fun p hp=>.inl hp⟩
 | fit m i j c a h e =>
  intro hd
  rcases hD _ hd with h1 | h1
  ·cases h1
  ·exact absurd e (h1.1 a)
 | stop m i j c h e =>
  intro hd
  refine ⟨rfl,fun p hp=>?_⟩
  rcases List.mem_append.1 hp with hp | hp
  ·exact .inl hp
  ·rw [List.mem_singleton] at hp;subst hp;exact .inr hd
 | go m i j c x m' r h e hd ih =>
  intro hp
  obtain ⟨h1,h2⟩:=ih (step hp (by simp [Goes,e]))
  refine ⟨h1,fun p hp'=>?_⟩
  rcases h2 p hp' with h3 | h3
  ·rcases List.mem_append.1 h3 with h4 | h4
   ·exact .inl h4
   ·rw [List.mem_singleton] at h4;subst h4;exact .inr hp
  ·exact .inr h3
 | cap m i j c x a m' r h e hd ih =>
  intro hp
  obtain ⟨h1,h2⟩:=ih (step hp (by simp [Goes,e]))
  refine ⟨h1,fun p hp'=>?_⟩
  rcases h2 p hp' with h3 | h3
  ·rcases List.mem_append.1 h3 with h4 | h4
   ·exact .inl h4
   ·rw [List.mem_singleton] at h4;subst h4;exact .inr hp
  ·exact .inr h3
 | rune m i j c x m' r h e hd ih =>
  intro hp
  obtain ⟨h1,h2⟩:=ih (step hp (by simp [Goes,e]))
  refine ⟨h1,fun p hp'=>?_⟩
  rcases h2 p hp' with h3 | h3
  ·rcases List.mem_append.1 h3 with h4 | h4
   ·exact .inl h4
   ·rw [List.mem_singleton] at h4;subst h4;exact .inr hp
  ·exact .inr h3
 | altx m i j c x y m' z h e hd ih =>
  intro hp
  obtain ⟨h1,h2⟩:=ih (step hp (by simp [Goes,e]))
  cases h1
 | alty m i j c x y m1 m' r h e hd hd2 ih ih2 =>
  intro hp
  obtain ⟨h1,h2⟩:=ih (step hp (by simp [Goes,e]))
  obtain ⟨g1,g2⟩:=ih2 (step hp (by simp [Goes,e]))
  refine ⟨g1,fun p hp'=>?_⟩
  rcases g2 p hp' with h3 | h3
  ·rcases h2 p h3 with h4 | h4
   ·rcases List.mem_append.1 h4 with h5 | h5
    ·exact .inl h5
    ·rw [List.mem_singleton] at h5;subst h5;exact .inr hp
   ·exact .inr h4
  ·exact .inr h3
def Lik (D m1 m2:List Pt):Prop:=∀ p,p ∈ m1↔p ∈ m2∨p ∈ D
theorem Lik.add {D m1 m2:List Pt} (h:Lik D m1 m2) (q:Pt):Lik D (m1 ++ [q]) (m2 ++ [q]):=fun p=>by
 simp only [List.mem_append,List.mem_singleton,h p]
 constructor
 ·rintro ((h1 | h1) | h1)
  ·exact .inl (.inl h1)
  ·exact .inr h1
  ·exact .inl (.inr h1)
 ·rintro ((h1 | h1) | h1)
  ·exact .inl (.inl h1)
  ·exact .inr h1
  ·exact .inl (.inr h1)
theorem df_fresh {P:Pr} (hP:P.Ok) {a len:Nat} (hlen:∀ i x,P.A len i≠.rune x) {D:List Pt} (hD:Cl P.A [] D) {m1:List Pt} {i j:Nat} {c:List Int} {m1':List Pt} {r:Fd} (h:Df P.A m1 i j c m1' r):i < P.n→a≤j→j≤len→c.length=P.K→∀ m2,Lik D m1 m2→OkP P.n a len m2→∃ m2',Df P.A m2 i j c m2' r∧Lik D m1' m2':=by
 have dead:∀ {i j:Nat} {c:List Int} {m1 m2:List Pt},i < P.n→a≤j→j≤len→c.length=P.K→Lik D m1 m2→OkP P.n a len m2→(i,j) ∈ m1→∃ m2',Df P.A m2 i j c m2' none∧Lik D m1 m2':=fun {i j c m1 m2} hi ha hj hc hL ho hm=>by
  by_cases h2:(i,j) ∈ m2
  ·exact ⟨m2,.old _ _ _ _ h2,hL⟩
  ·have hd:(i,j) ∈ D:=((hL _).1 hm).resolve_left h2
   obtain ⟨m',r,h⟩:=df_total hP hlen (P.n * (len - a + 1)) m2 ho (by omega) i j c hi ha hj hc
   obtain ⟨rfl,h3⟩:=df_dead hD h hd
   refine ⟨m',h,fun p=>?_⟩
   rw [hL p]
   constructor
   ·rintro (h4 | h4)
    ·exact .inl ((df_sub h).1 p h4)
    ·exact .inr h4
   ·rintro (h4 | h4)
    ·exact h3 p h4
    ·exact .inr h4
 induction h with
 | old m i j c h=>exact fun hi ha hj hc m2 hL ho=>dead hi ha hj hc hL ho h
 | fit m i j c b h e=>exact fun hi ha hj hc m2 hL ho=>⟨_,.fit _ _ _ _ b (fun h2=>h ((hL _).2 (.inl h2))) e,hL.add _⟩
 | stop m i j c h e=>exact fun hi ha hj hc m2 hL ho=>⟨_,.stop _ _ _ _ (fun h2=>h ((hL _).2 (.inl h2))) e,hL.add _⟩
 | go m i j c x m' r h e hd ih =>
  intro hi ha hj hc m2 hL ho
  have hx:=hP.ok j i hi
  rw [e] at hx
  have hn:(i,j) ∉ m2:=fun h2=>h ((hL _).2 (.inl h2))
  obtain ⟨m2',g1,g2⟩:=ih hx ha hj hc _ (hL.add _) (ho.add hn hi ha hj)
  exact ⟨m2',.go _ _ _ _ x _ _ hn e g1,g2⟩
 | cap m i j c x b m' r h e hd ih =>
  intro hi ha hj hc m2 hL ho
  have hx:=hP.ok j i hi
  rw [e] at hx
  have hn:(i,j) ∉ m2:=fun h2=>h ((hL _).2 (.inl h2))
  obtain ⟨m2',g1,g2⟩:=ih hx ha hj (by simpa using hc) _ (hL.add _) (ho.add hn hi ha hj)
  exact ⟨m2',.cap _ _ _ _ x b _ _ hn e g1,g2⟩
 | rune m i j c x m' r h e hd ih =>
  intro hi ha hj hc m2 hL ho
  have hx:=hP.ok j i hi
  rw [e] at hx
  have hne:j≠len:=fun h=>hlen i x (h ▸ e)
  have hn:(i,j) ∉ m2:=fun h2=>h ((hL _).2 (.inl h2))
  obtain ⟨m2',g1,g2⟩:=ih hx (by omega) (by omega) hc _ (hL.add _) (ho.add hn hi ha hj)
  exact ⟨m2',.rune _ _ _ _ x _ _ hn e g1,g2⟩
 | altx m i j c x y m' z h e hd ih =>
  intro hi ha hj hc m2 hL ho
  have hx:=hP.ok j i hi
  rw [e] at hx
  have hn:(i,j) ∉ m2:=fun h2=>h ((hL _).2 (.inl h2))
  obtain ⟨m2',g1,g2⟩:=ih hx.1 ha hj hc _ (hL.add _) (ho.add hn hi ha hj)
  exact ⟨m2',.altx _ _ _ _ x y _ _ hn e g1,g2⟩
 | alty m i j c x y m1 m' r h e hd hd2 ih ih2 =>
  intro hi ha hj hc m2 hL ho
  have hx:=hP.ok j i hi
  rw [e] at hx
  have hn:(i,j) ∉ m2:=fun h2=>h ((hL _).2 (.inl h2))
  have ho':=ho.add hn hi ha hj
  obtain ⟨m2',g1,g2⟩:=ih hx.1 ha hj hc _ (hL.add _) ho'
  obtain ⟨o1,_,_⟩:=df_ok hP hlen g1 hx.1 ha hj hc ho'
  obtain ⟨m3',k1,k2⟩:=ih2 hx.2 ha hj hc _ g2 o1
  exact ⟨m3',.alty _ _ _ _ x y _ _ _ hn e g1 k1,k2⟩
theorem da_first {P:Pr} (hP:P.Ok) {a len:Nat} (hlen:∀ i x,P.A len i≠.rune x):∀ (T:List (Nat × Nat × List Int)) (D m':List Pt) (r:Fd),(∀ t ∈ T,t.1 < P.n∧a≤t.2.1∧t.2.1≤len∧t.2.2.length=P.K)→Cl P.A [] D→Da P.A D T m' r →
  (r=none∧∀ t ∈ T,∃ m2,Df P.A [] t.1 t.2.1 t.2.2 m2 none)∨∃ z T1 t T2 m2,r=some z∧T=T1 ++ t :: T2∧(∀ u ∈ T1,∃ m3,Df P.A [] u.1 u.2.1 u.2.2 m3 none)∧Df P.A [] t.1 t.2.1 t.2.2 m2 (some z)
 | [],D,m',r,hT,hD,h=>by cases h;exact .inl ⟨rfl,fun t ht=>by cases ht⟩
 | (i,j,c) :: T,D,m',r,hT,hD,h=>by
  have h1:=hT (i,j,c) (by simp)
  have hL:Lik D D []:=fun p=>by simp
  cases h with
  | hit _ _ _ _ _ _ z hd =>
   obtain ⟨m2,g,_⟩:=df_fresh hP hlen hD hd h1.1 h1.2.1 h1.2.2.1 h1.2.2.2 [] hL (OkP.nil _ _ _)
   exact .inr ⟨z,[],(i,j,c),T,m2,rfl,rfl,(fun u hu=>absurd hu (by simp)),g⟩
  | miss _ _ _ _ _ m1 _ _ hd hda =>
   obtain ⟨m2,g,_⟩:=df_fresh hP hlen hD hd h1.1 h1.2.1 h1.2.2.1 h1.2.2.2 [] hL (OkP.nil _ _ _)
   have hD1:Cl P.A [] m1:=fun p hp=>by
    rcases df_closed hd rfl p hp with h2 | h2
    ·rcases hD p h2 with h3 | h3
     ·cases h3
     ·exact .inr ⟨h3.1,fun q hq=>(df_sub hd).1 q (h3.2 q hq)⟩
    ·exact .inr h2
   rcases da_first hP hlen T m1 m' r (fun t ht=>hT t (by simp [ht])) hD1 hda with ⟨e,h2⟩ | ⟨z,T1,t,T2,m3,e1,e2,e3,e4⟩
   ·refine .inl ⟨e,fun t ht=>?_⟩
    rcases List.mem_cons.1 ht with rfl | ht
    ·exact ⟨m2,g⟩
    ·exact h2 t ht
   ·refine .inr ⟨z,(i,j,c) :: T1,t,T2,m3,e1,by rw [e2];rfl,fun u hu=>?_,e4⟩
    rcases List.mem_cons.1 hu with rfl | hu
    ·exact ⟨m2,g⟩
    ·exact e3 u hu
theorem bgs_anchG (P:Pr) (a:Nat):∀ (m j:Nat),a < j→bgs P a true none m j=[]
 | 0,_,_=>rfl
 | m + 1,j,h=>by
  have hn:¬ bgB a true j none=true:=by simp [bgB];omega
  simp only [bgs]
  rw [if_neg hn,bgs_anchG P a m (j + 1) (by omega)]
  rfl
theorem bgs_oneG (P:Pr) (a m:Nat):bgs P a true none (m + 1) a=[(P.S,a,List.replicate P.K (-1))]:=by
 simp only [bgs]
 rw [if_pos (by simp [bgB]),bgs_anchG P a m (a + 1) (by omega)]
 rfl
theorem bgs_allG (P:Pr) (a m j:Nat):bgs P a false none (m + 1) j=(P.S,j,List.replicate P.K (-1)) :: bgs P a false none m (j + 1):=by
 simp only [bgs]
 rw [if_pos (by simp [bgB])]
 rfl
theorem bgs_mapG (P:Pr) (a:Nat):∀ m j:Nat,bgs P a false none m j=(List.range' j m).map fun i=>(P.S,i,List.replicate P.K (-1))
 | 0,_=>rfl
 | m + 1,j=>by rw [bgs_allG,bgs_mapG P a m (j + 1),List.range'_succ];rfl
theorem da_single {A:Nat→Nat→Ac} {m:List Pt} {i j:Nat} {c:List Int} {m':List Pt} {r:Fd} (h:Da A m [(i,j,c)] m' r):Df A m i j c m' r:=by
 cases h with
 | hit _ _ _ _ _ _ _ hd=>exact hd
 | miss _ _ _ _ _ m1 _ _ hd hn=>cases hn;exact hd
theorem steps_plain {P:Pr} {a m:Nat} {r r1:Fd} {m' m1:List Pt} (hf:Da P.A [] (bgs P a false none (m + 1) a) m' r) (hg:Da P.A [] (bgs P a true none (m + 1) a) m1 r1):1≤m1.length∧m1.length≤m'.length∧(r1.isSome=true→r.isSome=true):=by
 rw [bgs_oneG] at hg
 rw [bgs_allG] at hf
 have hd:=da_single hg
 have h1:1≤m1.length:=by
  have h:=(df_sub hd).2.1
  cases m1 with
  | nil=>cases h
  | cons _ _=>simp
 cases hf with
 | hit _ _ _ _ _ _ z hd2 =>
  obtain ⟨e1,e2⟩:=df_det hd hd2
  subst e1
  exact ⟨h1,Nat.le_refl _,fun _=>rfl⟩
 | miss _ _ _ _ _ m2 _ _ hd2 hda =>
  obtain ⟨e1,e2⟩:=df_det hd hd2
  subst e1;subst e2
  exact ⟨h1,(da_sub hda).2,fun h=>by cases h⟩
theorem first_plain {P:Pr} (hP:P.Ok) {a len:Nat} (hlen:∀ i x,P.A len i≠.rune x) (ha:a≤len) {m':List Pt} {r:Fd} (hf:Da P.A [] (bgs P a false none (len + 1 - a) a) m' r) :
  (r=none∧∀ i,a≤i→i≤len→∃ m2,Df P.A [] P.S i (List.replicate P.K (-1)) m2 none) ∨
  ∃ z j m2,r=some z∧a≤j∧j≤len∧(∀ i,a≤i→i < j→∃ m3,Df P.A [] P.S i (List.replicate P.K (-1)) m3 none)∧Df P.A [] P.S j (List.replicate P.K (-1)) m2 (some z):=by
 have hT:∀ t ∈ bgs P a false none (len + 1 - a) a,t.1 < P.n∧a≤t.2.1∧t.2.1≤len∧t.2.2.length=P.K:=fun t ht=>by
  obtain ⟨g1,g2,g3,g4⟩:=bgs_from _ _ _ _ _ _ t ht
  exact ⟨by rw [g1];exact hP.S,g2,by omega,by rw [g4];simp⟩
 rcases da_first hP hlen _ [] m' r hT (fun p hp=>by cases hp) hf with ⟨e,h⟩ | ⟨z,T1,t,T2,m2,e1,e2,e3,e4⟩
 ·refine .inl ⟨e,fun i h1 h2=>?_⟩
  exact h (P.S,i,List.replicate P.K (-1)) (by rw [bgs_mapG];exact List.mem_map.2 ⟨i,List.mem_range'_1.2 ⟨h1,by omega⟩,rfl⟩)
 ·have hq:∀ k,k < len + 1 - a→(T1 ++ t :: T2)[k]?=some (P.S,a + k,List.replicate P.K (-1)):=fun k hk=>by
   rw [← e2,bgs_mapG,List.getElem?_map,List.getElem?_range' hk]
   simp
  have hl:T1.length < len + 1 - a:=by
   have h:=congrArg List.length e2
   rw [bgs_mapG] at h
   simp at h
   omega
  have ht:t=(P.S,a + T1.length,List.replicate P.K (-1)):=by
   have h:=hq T1.length hl
   simpa using h
  subst ht
  refine .inr ⟨z,a + T1.length,m2,e1,by omega,by omega,fun i h1 h2=>?_,e4⟩
  have h:=hq (i - a) (by omega)
  rw [List.getElem?_append_left (by omega),show a + (i - a)=i by omega] at h
  exact e3 _ (List.mem_of_getElem? h)
end Go.Proofs.YtacaanhnlfpbhaaGreat
namespace Go.Proofs.YtacaanhnlfpbhaaGreat
open Go.RowKit
set_option linter.unusedVariables false
set_option linter.unusedSimpArgs false
theorem nf_one_len {t:Tn} (h:Nf t) (h1:t.kind=1):t.len=0:=by
 cases h with
 | leaf hk hn=>simp only [Tn.kind] at h1;subst h1;rfl
 | cat h2 h' hs=>simp [Tn.kind] at h1
 | alt h2 h' hs=>simp [Tn.kind] at h1
 | loop h' hy=>simp [Tn.kind] at h1
 | grp hn hy=>simp [Tn.kind] at h1
theorem within4_len {t:Tn} (h:Nf t):lenL (within 4 t)=t.len:=by
 unfold within
 split
 ·rename_i hk
  cases h with
  | leaf h1 hn=>simp only [Tn.kind] at hk;omega
  | cat h2 h' hs=>simp [Tn.subs,Tn.len]
  | alt h2 h' hs=>simp [Tn.kind] at hk
  | loop h' hy=>simp [Tn.kind] at hk
  | grp hn hy=>simp [Tn.kind] at hk
 ·simp [lenL]
def sumR:List (Tn × Nat)→Nat
 | []=>0
 | x :: l=>x.2 * x.1.len + sumR l
theorem rowS4_len {l:List (Tn × Nat)} (hl:∀ x ∈ l,Nf x.1):lenL (rowS 4 (l.filter keep))=sumR l:=by
 induction l with
 | nil=>rfl
 | cons x l ih =>
  have ih':=ih fun y hy=>hl y (by simp [hy])
  have hx:=hl x (by simp)
  rw [List.filter_cons,sumR]
  by_cases h1:x.1.kind=1
  ·have hk:keep x=false:=by simp [keep,h1]
   simp [hk,ih',nf_one_len hx h1]
  ·by_cases h0:x.2=0
   ·have hk:keep x=false:=by simp [keep,h0]
    simp [hk,ih',h0]
   ·have hk:keep x=true:=by simp [keep,h1];omega
    rw [if_pos hk,rowS_cons,lenL_append,lenL_rep,within4_len hx,ih']
theorem join_len {l:List (Tn × Nat)} (hl:∀ x ∈ l,Nf x.1):(joinT l).len=sumR l:=by
 rw [joinT_us hl,← rowS4_len hl]
 generalize rowS 4 (l.filter keep)=us
 match us with
 | []=>rfl
 | [u]=>simp [lenL]
 | a :: b :: s=>simp [Tn.len]
theorem opt_len {y:Tn} (hy:Nf y) (lz:Bool):∀ n,(optT y lz n).len=n * (1 + y.len)
 | 0=>by simp [optT,Tn.len]
 | 1=>by simp [optT,Tn.len,lenL];omega
 | n + 2=>by
  have ih:=opt_len hy lz (n + 1)
  have hj:=join_len (l:=[(y,1),(optT y lz (n + 1),1)]) fun x hx=>by
   simp at hx
   rcases hx with rfl | rfl
   ·exact hy
   ·exact nf_opt lz hy _
  rw [optT_step]
  have e:(loopT 0 1 lz (joinT [(y,1),(optT y lz (n + 1),1)])).len=(joinT [(y,1),(optT y lz (n + 1),1)]).len + 1:=by simp [Tn.len,lenL]
  rw [e,hj]
  simp only [sumR,ih,Nat.one_mul,Nat.add_zero]
  rw [show n + 2=(n + 1) + 1 from rfl,Nat.succ_mul (n + 1)]
  omega
theorem rep_len {y:Tn} (hy:Nf y) (p q:Nat) (lz:Bool):(repT y (p:Int) ((p + q:Nat):Int) lz).len=p * y.len + q * (1 + y.len):=by
 unfold repT
 rw [if_pos (by omega),join_len fun x hx=>by
  simp at hx
  rcases hx with rfl | rfl
  ·exact hy
  ·exact nf_opt lz hy _]
 simp only [sumR,show (p:Int).toNat=p by omega,show (((p + q:Nat):Int) - (p:Int)).toNat=q by omega,opt_len hy,Nat.one_mul,Nat.add_zero]
theorem rep_len_inf {y:Tn} (hy:Nf y) (p:Nat) (lz:Bool):(repT y (p:Int) (-1) lz).len=if p=0 then y.len + 2 else p * y.len + 1:=by
 unfold repT
 rw [if_neg (by decide)]
 by_cases h0:p=0
 ·subst h0;simp [Tn.len,lenL]
 ·rw [if_neg (by omega),if_neg h0,join_len fun x hx=>by
   simp at hx
   rcases hx with rfl | rfl
   ·exact hy
   ·exact .loop (.inr (.inr ⟨rfl,rfl⟩)) hy]
  have e:(loopT 1 (-1) lz y).len=y.len + 1:=by simp [Tn.len,lenL]
  simp only [sumR,e,show ((p:Int) - 1).toNat=p - 1 by omega,Nat.one_mul,Nat.add_zero]
  obtain ⟨r,rfl⟩:∃ r,p=r + 1:=⟨p - 1,by omega⟩
  rw [Nat.add_sub_cancel,Nat.succ_mul]
  omega
theorem row5_len {l:List Tn} (hl:∀ x ∈ l,Nf x):lenL (rowS 5 (ones l)) + 2 * (rowS 5 (ones l)).length=lenL l + 2 * l.length:=by
 induction l with
 | nil=>rfl
 | cons x l ih =>
  have ih':=ih fun y hy=>hl y (by simp [hy])
  have hx:=hl x (by simp)
  have e:ones (x :: l)=(x,1) :: ones l:=rfl
  have e2:(List.replicate 1 (within 5 x)).flatten=within 5 x:=by simp
  rw [e,rowS_cons,e2,lenL_append,List.length_append,lenL,List.length_cons]
  have hw:lenL (within 5 x) + 2 * (within 5 x).length=x.len + 2:=by
   unfold within
   split
   ·rename_i hk
    have h2:=nf_subs hx (.inr hk)
    cases hx with
    | leaf h1 hn=>simp only [Tn.kind] at hk;omega
    | cat h2 h' hs=>simp [Tn.kind] at hk
    | @alt s h3 h' hs=>simp only [Tn.subs,Tn.len] at h2 ⊢;simp;omega
    | loop h' hy=>simp [Tn.kind] at hk
    | grp hn hy=>simp [Tn.kind] at hk
   ·simp [lenL]
  omega
theorem alt_len {l:List Tn} (hl:∀ x ∈ l,Nf x) (h2:1≤l.length):(rowT 5 (ones l)).len=lenL l + 2 * (l.length - 1):=by
 have h:=row5_len hl
 have hlen:=rowS_len (k:=5) (l:=ones l) fun x hx=>(nf_within (.inr rfl) (by obtain ⟨u,hu,rfl⟩:=List.mem_map.1 hx;exact hl u hu)).1
 rw [timesOf_ones] at hlen
 have e:(rowT 5 (ones l)).len=lenL (rowS 5 (ones l)) + 2 * ((rowS 5 (ones l)).length - 1):=by simp [Tn.len]
 rw [e]
 omega
theorem ones_len (l:List Tn):sumR (ones l)=lenL l:=by
 induction l with
 | nil=>rfl
 | cons x l ih =>
  have e:ones (x :: l)=(x,1) :: ones l:=rfl
  rw [e,sumR,ih,lenL];simp only [Nat.one_mul]
theorem mul_cap (m a b:Nat) (h:min a 20001=min b 20001):min (m * a) 20001=min (m * b) 20001:=by
 rcases Nat.eq_zero_or_pos m with h0 | h0
 ·subst h0;simp
 by_cases ha:a≤20000
 ·have:a=b:=by omega
  rw [this]
 ·have h1:20001≤m * a:=Nat.le_trans (by omega) (Nat.le_mul_of_pos_left _ h0)
  have h2:20001≤m * b:=Nat.le_trans (by omega) (Nat.le_mul_of_pos_left _ h0)
  omega
mutual
theorem ln_len:∀ t:Tn,t.fine=true→min t.ln 20001=min t.S.len 20001
 | .mk k R a s mn mx lz ix nm,h=>by
  simp only [Tn.fine,Bool.and_eq_true] at h
  have ih:=lnL_len s h.2 0 (by omega)
  have hnf:=nf_SL s h.2
  have hfk:=fine_kind h.1
  rw [Nat.zero_add] at ih
  simp only [Tn.ln,Tn.S]
  by_cases k2:k=2∨k=3
  ·rw [if_pos k2,if_neg (by omega),if_neg (by omega),if_neg (by omega),if_neg (by omega)]
   simp only [Tn.len]
   rw [if_pos k2]
  rw [if_neg k2]
  by_cases k4:k=4
  ·rw [if_neg (by omega),if_neg (by omega),if_neg (by omega),if_pos k4,join_len (fun x hx=>by obtain ⟨u,hu,rfl⟩:=List.mem_map.1 hx;exact hnf u hu),ones_len]
   omega
  by_cases k5:k=5
  ·rw [if_neg (by omega),if_pos k5,if_neg k4,if_pos k5,alt_len hnf (by rw [SL_len];omega),SL_len]
   omega
  rw [if_neg k4,if_neg k5,if_neg k5]
  have hone:s.length=1→(SL s).headD emptyT ∈ SL s∧lenL (SL s)=((SL s).headD emptyT).len:=fun h1=>by
   match s,h1 with
   | [u],_=>simp [SL,lenL]
  by_cases k6:k=6
  ·obtain ⟨hy,hl⟩:=hone (by omega)
   have hny:=hnf _ hy
   rw [if_neg (by omega),if_pos k6,if_pos k6]
   generalize (SL s).headD emptyT=y at hy hl hny ⊢
   rw [hl] at ih
   obtain ⟨p,rfl⟩:∃ p:Nat,mn=(p:Int):=⟨mn.toNat,by omega⟩
   by_cases hm:mx=-1
   ·subst hm
    rw [if_neg (by decide),rep_len_inf hny]
    by_cases h0:p=0
    ·rw [if_pos (by omega),if_pos h0];omega
    ·rw [if_neg (by omega),if_neg h0,show (p:Int).toNat=p by omega]
     have:=mul_cap p _ _ (show min (lnL s 0) 20001=min y.len 20001 by omega)
     omega
   ·obtain ⟨q,rfl⟩:∃ q:Nat,mx=((p + q:Nat):Int):=⟨(mx - p).toNat,by omega⟩
    rw [if_pos (by omega),rep_len hny,show (p:Int).toNat=p by omega,show (((p + q:Nat):Int) - (p:Int)).toNat=q by omega]
    have h1:=mul_cap p _ _ (show min (lnL s 0) 20001=min y.len 20001 by omega)
    have h2:=mul_cap q (1 + lnL s 0) (1 + y.len) (by omega)
    omega
  by_cases k7:k=7
  ·obtain ⟨hy,hl⟩:=hone (by omega)
   rw [if_pos k7,if_neg k6,if_pos k7]
   have e:(Tn.mk 7 [] 0 [(SL s).headD emptyT] 0 0 false ix nm).len=((SL s).headD emptyT).len + 2:=by simp [Tn.len,lenL]
   rw [e,← hl]
   omega
  ·have hz:s=[]:=List.length_eq_zero_iff.1 (by omega)
   subst hz
   rw [if_neg k7,if_neg k6,if_neg k6,if_neg k7]
   simp [Tn.len,lnL,k2,k7,k4,k5,k6]
theorem lnL_len:∀ ts:List Tn,fineL ts=true→∀ a,a≤20001→lnL ts a=min (a + lenL (SL ts)) 20001
 | [],_=>fun a ha=>by simp only [lnL,SL,lenL];omega
 | t :: ts,h=>fun a ha=>by
  simp only [fineL,Bool.and_eq_true] at h
  have h1:=ln_len t h.1
  have h2:=lnL_len ts h.2 (min (a + t.ln) 20001) (by omega)
  simp only [lnL,SL,lenL,h2]
  omega
end
abbrev Gk:=Int × List UInt8
mutual
def Tn.inG (q:Gk):Tn→Prop
 | .mk k _ _ s _ mx _ ix nm=>¬ (k=6∧mx=0)∧((k=7∧(ix,nm.toList)=q)∨inGL q s)
def inGL (q:Gk):List Tn→Prop
 | []=>False
 | t :: ts=>t.inG q∨inGL q ts
end
theorem inGL_iff {q:Gk} {ts:List Tn}:inGL q ts↔∃ u ∈ ts,u.inG q:=by
 induction ts with
 | nil=>simp [inGL]
 | cons t ts ih=>simp [inGL,ih]
theorem inG_zN {k:Int} (hk:k=4∨k=5) {s:List Tn} {q:Gk}:(zN k s).inG q↔∃ u ∈ s,u.inG q:=by
 simp only [Tn.inG,inGL_iff]
 constructor
 ·rintro ⟨_,⟨h,_⟩ | h⟩
  ·omega
  ·exact h
 ·exact fun h=>⟨by omega,.inr h⟩
theorem inG_within {k:Int} (hk:k=4∨k=5) {t:Tn} {q:Gk}:(∃ u ∈ within k t,u.inG q)↔t.inG q:=by
 unfold within
 split
 ·rename_i h
  cases t with
  | mk k' R a s mn mx lz ix nm =>
   simp only [Tn.kind] at h
   subst h
   simp only [Tn.subs,Tn.inG,inGL_iff]
   constructor
   ·exact fun h=>⟨by omega,.inr h⟩
   ·rintro ⟨_,⟨h,_⟩ | h⟩
    ·omega
    ·exact h
 ·simp
theorem inG_row {k:Int} (hk:k=4∨k=5) {l:List (Tn × Nat)} {q:Gk}:(rowT k l).inG q↔∃ x ∈ l,0 < x.2∧x.1.inG q:=by
 rw [inG_zN hk]
 constructor
 ·rintro ⟨u,hu,hq⟩
  simp only [rowS,List.mem_flatMap,List.mem_flatten,List.mem_replicate] at hu
  obtain ⟨x,hx,y,⟨h0,rfl⟩,hy⟩:=hu
  exact ⟨x,hx,by omega,(inG_within hk).1 ⟨u,hy,hq⟩⟩
 ·rintro ⟨x,hx,h0,hq⟩
  obtain ⟨u,hu,hq'⟩:=(inG_within hk).2 hq
  refine ⟨u,?_,hq'⟩
  simp only [rowS,List.mem_flatMap,List.mem_flatten,List.mem_replicate]
  exact ⟨x,hx,within k x.1,⟨by omega,rfl⟩,hu⟩
theorem nf_one {t:Tn} (h:Nf t) (h1:t.kind=1) (q:Gk):¬ t.inG q:=by
 cases h with
 | leaf hk hn=>simp only [Tn.kind] at h1;simp [Tn.inG,inGL,h1]
 | cat h2 h hs=>simp [Tn.kind] at h1
 | alt h2 h hs=>simp [Tn.kind] at h1
 | loop h hy=>simp [Tn.kind] at h1
 | grp hn hy=>simp [Tn.kind] at h1
theorem not_empty (q:Gk):¬ emptyT.inG q:=nf_one nf_empty rfl q
theorem inG_join {l:List (Tn × Nat)} (hl:∀ x ∈ l,Nf x.1) {q:Gk}:(joinT l).inG q↔∃ x ∈ l,0 < x.2∧x.1.inG q:=by
 have hf:(∃ x ∈ l.filter keep,0 < x.2∧x.1.inG q)↔∃ x ∈ l,0 < x.2∧x.1.inG q:=by
  constructor
  ·rintro ⟨x,hx,h⟩
   exact ⟨x,(List.mem_filter.1 hx).1,h⟩
  ·rintro ⟨x,hx,h0,hq⟩
   refine ⟨x,List.mem_filter.2 ⟨hx,?_⟩,h0,hq⟩
   simp only [keep,Bool.and_eq_true,decide_eq_true_eq,Bool.not_eq_true',beq_eq_false_iff_ne]
   exact ⟨h0,fun h1=>nf_one (hl x hx) h1 q hq⟩
 rw [← hf]
 have hp:∀ x ∈ l.filter keep,0 < x.2:=fun x hx=>by
  have:=(List.mem_filter.1 hx).2
  simp only [keep,Bool.and_eq_true,decide_eq_true_eq] at this
  exact this.1
 unfold joinT joinK
 split
 ·rename_i h0
  constructor
  ·exact fun h=>absurd h (not_empty q)
  ·rintro ⟨x,hx,h1,_⟩
   exfalso
   have:∀ (l:List (Tn × Nat)),x ∈ l→x.2≤timesOf l:=by
    intro l
    induction l with
    | nil=>intro h;cases h
    | cons y l ih =>
     intro h
     simp only [timesOf]
     rcases List.mem_cons.1 h with rfl | h
     ·omega
     ·have:=ih h;omega
   have:=this _ hx
   omega
 ·split
  ·rename_i h0 h1
   cases hfl:l.filter keep with
   | nil=>rw [hfl] at h1;simp [timesOf] at h1
   | cons x l' =>
    have hl':l'=[]:=by
     cases l' with
     | nil=>rfl
     | cons y l'' =>
      rw [hfl] at h1 hp
      simp only [timesOf] at h1
      have:=hp x (by simp)
      have:=hp y (by simp)
      omega
    subst hl'
    have:=hp x (by rw [hfl];simp)
    simp [this]
  ·exact inG_row (.inl rfl)
theorem inG_loop {mn mx:Int} {lz:Bool} {y:Tn} {q:Gk} (h:mx≠0):(loopT mn mx lz y).inG q↔y.inG q:=by
 simp only [Tn.inG,inGL]
 constructor
 ·rintro ⟨_,⟨h,_⟩ | h | h⟩
  ·omega
  ·exact h
  ·exact h.elim
 ·exact fun h'=>⟨fun hh=>h hh.2,.inr (.inl h')⟩
theorem inG_opt {y:Tn} {lz:Bool} {q:Gk} (hy:Nf y):∀ n,(optT y lz n).inG q↔0 < n∧y.inG q
 | 0=>by
  have e:optT y lz 0=emptyT:=rfl
  rw [e]
  exact ⟨fun h=>absurd h (not_empty q),fun h=>absurd h.1 (by omega)⟩
 | 1=>by
  have e:optT y lz 1=loopT 0 1 lz y:=rfl
  rw [e,inG_loop (by decide)]
  simp
 | n + 2=>by
  rw [optT_step,inG_loop (by decide),inG_join]
  ·constructor
   ·rintro ⟨x,hx,h0,hq⟩
    simp at hx
    rcases hx with rfl | rfl
    ·exact ⟨by omega,hq⟩
    ·exact ⟨by omega,((inG_opt hy (n + 1)).1 hq).2⟩
   ·rintro ⟨_,hq⟩
    exact ⟨(y,1),by simp,by simp,hq⟩
  ·intro x hx
   simp at hx
   rcases hx with rfl | rfl
   ·exact hy
   ·exact nf_opt lz hy (n + 1)
theorem inG_rep {y:Tn} {mn mx:Int} {lz:Bool} {q:Gk} (hy:Nf y) (h1:0≤mn) (h3:mx=-1∨mn≤mx∧mx≤1000):(repT y mn mx lz).inG q↔mx≠0∧y.inG q:=by
 unfold repT
 split
 ·rename_i hm
  rw [inG_join]
  ·constructor
   ·rintro ⟨x,hx,h0,hq⟩
    simp at hx
    rcases hx with rfl | rfl
    ·simp only at h0 hq;exact ⟨by omega,hq⟩
    ·simp only at h0 hq
     have:=(inG_opt hy _).1 hq
     exact ⟨by omega,this.2⟩
   ·rintro ⟨h0,hq⟩
    by_cases hmn:0 < mn
    ·exact ⟨(y,mn.toNat),by simp,by simp only;omega,hq⟩
    ·exact ⟨(optT y lz (mx - mn).toNat,1),by simp,by simp,(inG_opt hy _).2 ⟨by omega,hq⟩⟩
  ·intro x hx
   simp at hx
   rcases hx with rfl | rfl
   ·exact hy
   ·exact nf_opt lz hy _
 ·rename_i hm
  have hm':mx=-1:=by omega
  split
  ·rw [inG_loop (by decide)]
   simp [hm']
  ·rw [inG_join]
   ·constructor
    ·rintro ⟨x,hx,h0,hq⟩
     simp at hx
     rcases hx with rfl | rfl
     ·exact ⟨by omega,hq⟩
     ·exact ⟨by omega,(inG_loop (by decide)).1 hq⟩
    ·rintro ⟨_,hq⟩
     exact ⟨(loopT 1 (-1) lz y,1),by simp,by simp,(inG_loop (by decide)).2 hq⟩
   ·intro x hx
    simp at hx
    rcases hx with rfl | rfl
    ·exact hy
    ·exact .loop (.inr (.inr ⟨rfl,rfl⟩)) hy
mutual
theorem S_inG:∀ (t:Tn) (q:Gk),t.fine=true→(t.S.inG q↔t.inG q)
 | .mk k R a s mn mx lz ix nm,q,h=>by
  simp only [Tn.fine,Bool.and_eq_true] at h
  have ih:=SL_inG s q h.2
  have hnf:=nf_SL s h.2
  have hfk:=fine_kind h.1
  have hones:∀ x ∈ ones (SL s),Nf x.1:=fun x hx=>by obtain ⟨u,hu,rfl⟩:=List.mem_map.1 hx;exact hnf u hu
  have hon:(∃ x ∈ ones (SL s),0 < x.2∧x.1.inG q)↔inGL q s:=by
   rw [← ih]
   constructor
   ·rintro ⟨x,hx,_,hq⟩
    obtain ⟨u,hu,rfl⟩:=List.mem_map.1 hx
    exact inGL_iff.2 ⟨u,hu,hq⟩
   ·intro hq
    obtain ⟨u,hu,hq⟩:=inGL_iff.1 hq
    exact ⟨(u,1),List.mem_map.2 ⟨u,hu,rfl⟩,by simp,hq⟩
  have hhead:s.length=1→(((SL s).headD emptyT).inG q↔inGL q s)∧Nf ((SL s).headD emptyT):=fun hl=>by
   rw [← ih]
   match s,hl with
   | [u],_=>exact ⟨by simp [SL,inGL],hnf _ (by simp [SL])⟩
  simp only [Tn.S]
  split
  ·rename_i h4
   subst h4
   rw [inG_join hones,hon]
   simp [Tn.inG]
  ·split
   ·rename_i h4 h5
    subst h5
    rw [inG_row (.inr rfl),hon]
    simp [Tn.inG]
   ·split
    ·rename_i h6
     subst h6
     obtain ⟨hh,hN⟩:=hhead (by omega)
     rw [inG_rep hN (by omega) (by omega),hh]
     simp [Tn.inG]
    ·split
     ·rename_i h7
      subst h7
      obtain ⟨hh,hN⟩:=hhead (by omega)
      simp only [List.headD_eq_head?_getD] at hh
      simp [Tn.inG,inGL,hh]
     ·rename_i h4 h5 h6 h7
      have hz:s.length=0:=by
       rcases hfk with hh | hh | hh | hh
       ·exact hh.2.1
       ·exact absurd hh.1 (by omega)
       ·exact absurd hh.1 h6
       ·exact absurd hh.1 h7
      have hz:=List.length_eq_zero_iff.1 hz
      subst hz
      simp [Tn.inG,inGL]
theorem SL_inG:∀ (ts:List Tn) (q:Gk),fineL ts=true→(inGL q (SL ts)↔inGL q ts)
 | [],q,_=>by simp [SL]
 | t :: ts,q,h=>by
  simp only [fineL,Bool.and_eq_true] at h
  simp only [SL,inGL]
  rw [S_inG t q h.1,SL_inG ts q h.2]
end
end Go.Proofs.YtacaanhnlfpbhaaGreat
