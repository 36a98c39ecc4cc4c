/- HELPERS: texts of ours put together. -/
import Derived.Test.YtacaanhnlfpbhaaGreatK07
import Derived.WalkKit
import Derived.Laws.BitsLemmas
import Derived.Test.YtacaanhnlfpbhaaGreatK04
import Derived.Test.YtacaanhnlfpbhaaGreatK05
namespace Go.Proofs.YtacaanhnlfpbhaaGreat
set_option linter.unusedVariables false
set_option linter.unusedSimpArgs false
abbrev Pt:=Nat × Nat
inductive Df (A:Nat→Nat→Ac):List Pt→Nat→Nat→List Int→List Pt→Fd→Prop
 | old (m:List Pt) (i j:Nat) (c:List Int):(i,j) ∈ m→Df A m i j c m none
 | fit (m:List Pt) (i j:Nat) (c:List Int) (a:Int):(i,j) ∉ m→A j i=.fit a→Df A m i j c (m ++ [(i,j)]) (some (a,c))
 | stop (m:List Pt) (i j:Nat) (c:List Int):(i,j) ∉ m→A j i=.stop→Df A m i j c (m ++ [(i,j)]) none
 | go (m:List Pt) (i j:Nat) (c:List Int) (x:Nat) (m':List Pt) (r:Fd):(i,j) ∉ m→A j i=.go x→Df A (m ++ [(i,j)]) x j c m' r→Df A m i j c m' r
 | cap (m:List Pt) (i j:Nat) (c:List Int) (x a:Nat) (m':List Pt) (r:Fd):(i,j) ∉ m→A j i=.cap x a→Df A (m ++ [(i,j)]) x j (c.set a (j:Int)) m' r→Df A m i j c m' r
 | rune (m:List Pt) (i j:Nat) (c:List Int) (x:Nat) (m':List Pt) (r:Fd):(i,j) ∉ m→A j i=.rune x→Df A (m ++ [(i,j)]) x (j + 1) c m' r→Df A m i j c m' r
 | altx (m:List Pt) (i j:Nat) (c:List Int) (x y:Nat) (m':List Pt) (z:Int × List Int):(i,j) ∉ m→A j i=.alt x y→Df A (m ++ [(i,j)]) x j c m' (some z)→Df A m i j c m' (some z)
 | alty (m:List Pt) (i j:Nat) (c:List Int) (x y:Nat) (m1 m':List Pt) (r:Fd):(i,j) ∉ m→A j i=.alt x y→Df A (m ++ [(i,j)]) x j c m1 none→Df A m1 y j c m' r→Df A m i j c m' r
theorem df_det {A:Nat→Nat→Ac} {m:List Pt} {i j:Nat} {c:List Int} {m':List Pt} {r:Fd} (h:Df A m i j c m' r):∀ {m2:List Pt} {r2:Fd},Df A m i j c m2 r2→m'=m2∧r=r2:=by
 induction h with
 | old m i j c hm =>
  intro m2 r2 h2
  cases h2 with
  | old _ _ _ _ h3=>exact ⟨rfl,rfl⟩
  | fit _ _ _ _ a h3 e2=>exact absurd hm h3
  | stop _ _ _ _ h3 e2=>exact absurd hm h3
  | go _ _ _ _ x2 _ _ h3 e2 h4=>exact absurd hm h3
  | cap _ _ _ _ x2 a _ _ h3 e2 h4=>exact absurd hm h3
  | rune _ _ _ _ x2 _ _ h3 e2 h4=>exact absurd hm h3
  | altx _ _ _ _ x2 y _ _ h3 e2 h4=>exact absurd hm h3
  | alty _ _ _ _ x2 y _ _ _ h3 e2 h4 h5=>exact absurd hm h3
 | fit m i j c a hm e =>
  intro m2 r2 h2
  cases h2 <;> simp_all
 | stop m i j c hm e =>
  intro m2 r2 h2
  cases h2 <;> simp_all
 | go m i j c x m' r hm e hd ih =>
  intro m2 r2 h2
  cases h2 with
  | old _ _ _ _ h3=>exact absurd h3 hm
  | fit _ _ _ _ a h3 e2=>rw [e] at e2;cases e2
  | stop _ _ _ _ h3 e2=>rw [e] at e2;cases e2
  | go _ _ _ _ x2 _ _ h3 e2 h4=>rw [e] at e2;cases e2;exact ih h4
  | cap _ _ _ _ x2 a _ _ h3 e2 h4=>rw [e] at e2;cases e2
  | rune _ _ _ _ x2 _ _ h3 e2 h4=>rw [e] at e2;cases e2
  | altx _ _ _ _ x2 y _ _ h3 e2 h4=>rw [e] at e2;cases e2
  | alty _ _ _ _ x2 y _ _ _ h3 e2 h4 h5=>rw [e] at e2;cases e2
 | cap m i j c x a m' r hm e hd ih =>
  intro m2 r2 h2
  cases h2 with
  | old _ _ _ _ h3=>exact absurd h3 hm
  | fit _ _ _ _ a h3 e2=>rw [e] at e2;cases e2
  | stop _ _ _ _ h3 e2=>rw [e] at e2;cases e2
  | go _ _ _ _ x2 _ _ h3 e2 h4=>rw [e] at e2;cases e2
  | cap _ _ _ _ x2 a _ _ h3 e2 h4=>rw [e] at e2;cases e2;exact ih h4
  | rune _ _ _ _ x2 _ _ h3 e2 h4=>rw [e] at e2;cases e2
  | altx _ _ _ _ x2 y _ _ h3 e2 h4=>rw [e] at e2;cases e2
  | alty _ _ _ _ x2 y _ _ _ h3 e2 h4 h5=>rw [e] at e2;cases e2
 | rune m i j c x m' r hm e hd ih =>
  intro m2 r2 h2
  cases h2 with
  | old _ _ _ _ h3=>exact absurd h3 hm
  | fit _ _ _ _ a h3 e2=>rw [e] at e2;cases e2
  | stop _ _ _ _ h3 e2=>rw [e] at e2;cases e2
  | go _ _ _ _ x2 _ _ h3 e2 h4=>rw [e] at e2;cases e2
  | cap _ _ _ _ x2 a _ _ h3 e2 h4=>rw [e] at e2;cases e2
  | rune _ _ _ _ x2 _ _ h3 e2 h4=>rw [e] at e2;cases e2;exact ih h4
  | altx _ _ _ _ x2 y _ _ h3 e2 h4=>rw [e] at e2;cases e2
  | alty _ _ _ _ x2 y _ _ _ h3 e2 h4 h5=>rw [e] at e2;cases e2
 | altx m i j c x y m' z hm e hd ih =>
  intro m2 r2 h2
  cases h2 with
  | old _ _ _ _ h3=>exact absurd h3 hm
  | fit _ _ _ _ a h3 e2=>rw [e] at e2;cases e2
  | stop _ _ _ _ h3 e2=>rw [e] at e2;cases e2
  | go _ _ _ _ x2 _ _ h3 e2 h4=>rw [e] at e2;cases e2
  | cap _ _ _ _ x2 a _ _ h3 e2 h4=>rw [e] at e2;cases e2
  | rune _ _ _ _ x2 _ _ h3 e2 h4=>rw [e] at e2;cases e2
  | altx _ _ _ _ x2 y _ _ h3 e2 h4=>rw [e] at e2;cases e2;exact ih h4
  | alty _ _ _ _ x2 y _ _ _ h3 e2 h4 h5 =>
   rw [e] at e2;cases e2
   cases (ih h4).2
 | alty m i j c x y m1 m' r hm e hd hd2 ih ih2 =>
  intro m2 r2 h2
  cases h2 with
  | old _ _ _ _ h3=>exact absurd h3 hm
  | fit _ _ _ _ a h3 e2=>rw [e] at e2;cases e2
  | stop _ _ _ _ h3 e2=>rw [e] at e2;cases e2
  | go _ _ _ _ x2 _ _ h3 e2 h4=>rw [e] at e2;cases e2
  | cap _ _ _ _ x2 a _ _ h3 e2 h4=>rw [e] at e2;cases e2
  | rune _ _ _ _ x2 _ _ h3 e2 h4=>rw [e] at e2;cases e2
  | altx _ _ _ _ x2 y _ _ h3 e2 h4=>rw [e] at e2;cases e2;cases (ih h4).2
  | alty _ _ _ _ x2 y _ _ _ h3 e2 h4 h5 =>
   rw [e] at e2;cases e2
   obtain ⟨rfl,_⟩:=ih h4
   exact ih2 h5
def EqP (k:Nat) (m m2:List Pt):Prop:=∀ q,k≤q→∀ i,(i,q) ∈ m↔(i,q) ∈ m2
theorem EqP.add {k:Nat} {m m2:List Pt} (h:EqP k m m2) (p:Pt):EqP k (m ++ [p]) (m2 ++ [p]):=by
 intro q hq i
 simp only [List.mem_append,h q hq i]
theorem df_cong {A:Nat→Nat→Ac} {m:List Pt} {i j:Nat} {c:List Int} {m':List Pt} {r:Fd} (h:Df A m i j c m' r) {k:Nat}:∀ {m2:List Pt},k≤j→EqP k m m2→∃ m2',Df A m2 i j c m2' r∧EqP k m' m2':=by
 induction h with
 | old m i j c hm=>intro m2 hk he;exact ⟨m2,.old _ _ _ _ ((he j hk i).1 hm),he⟩
 | fit m i j c a hm e=>intro m2 hk he;exact ⟨_,.fit _ _ _ _ a (fun h=>hm ((he j hk i).2 h)) e,he.add _⟩
 | stop m i j c hm e=>intro m2 hk he;exact ⟨_,.stop _ _ _ _ (fun h=>hm ((he j hk i).2 h)) e,he.add _⟩
 | go m i j c x m' r hm e hd ih =>
  intro m2 hk he
  obtain ⟨m3,h3,h4⟩:=ih hk (he.add _)
  exact ⟨m3,.go _ _ _ _ x _ _ (fun h=>hm ((he j hk i).2 h)) e h3,h4⟩
 | cap m i j c x a m' r hm e hd ih =>
  intro m2 hk he
  obtain ⟨m3,h3,h4⟩:=ih hk (he.add _)
  exact ⟨m3,.cap _ _ _ _ x a _ _ (fun h=>hm ((he j hk i).2 h)) e h3,h4⟩
 | rune m i j c x m' r hm e hd ih =>
  intro m2 hk he
  obtain ⟨m3,h3,h4⟩:=ih (by omega) (he.add _)
  exact ⟨m3,.rune _ _ _ _ x _ _ (fun h=>hm ((he j hk i).2 h)) e h3,h4⟩
 | altx m i j c x y m' z hm e hd ih =>
  intro m2 hk he
  obtain ⟨m3,h3,h4⟩:=ih hk (he.add _)
  exact ⟨m3,.altx _ _ _ _ x y _ _ (fun h=>hm ((he j hk i).2 h)) e h3,h4⟩
 | alty m i j c x y m1 m' r hm e hd hd2 ih ih2 =>
  intro m2 hk he
  obtain ⟨m3,h3,h4⟩:=ih hk (he.add _)
  obtain ⟨m5,h5,h6⟩:=ih2 hk h4
  exact ⟨m5,.alty _ _ _ _ x y _ _ _ (fun h=>hm ((he j hk i).2 h)) e h3 h5,h6⟩
theorem df_keep {A:Nat→Nat→Ac} {m:List Pt} {i j:Nat} {c:List Int} {m':List Pt} {r:Fd} (h:Df A m i j c m' r):∀ p:Pt,p.2 < j→(p ∈ m'↔p ∈ m):=by
 have hx:∀ (m:List Pt) (i j:Nat) (p:Pt),p.2 < j→(p ∈ m ++ [(i,j)]↔p ∈ m):=fun m i j p hp=>by
  simp only [List.mem_append,List.mem_singleton]
  constructor
  ·rintro (h | rfl)
   ·exact h
   ·simp at hp
  ·exact .inl
 induction h with
 | old m i j c hm=>intro p hp;exact Iff.rfl
 | fit m i j c a hm e=>exact hx m i j
 | stop m i j c hm e=>exact hx m i j
 | go m i j c x m' r hm e hd ih=>intro p hp;exact (ih p hp).trans (hx m i j p hp)
 | cap m i j c x a m' r hm e hd ih=>intro p hp;exact (ih p hp).trans (hx m i j p hp)
 | rune m i j c x m' r hm e hd ih=>intro p hp;exact (ih p (by omega)).trans (hx m i j p hp)
 | altx m i j c x y m' z hm e hd ih=>intro p hp;exact (ih p hp).trans (hx m i j p hp)
 | alty m i j c x y m1 m' r hm e hd hd2 ih ih2=>intro p hp;exact (ih2 p hp).trans ((ih p hp).trans (hx m i j p hp))
structure OkP (n a len:Nat) (m:List Pt):Prop where
 nd:m.Nodup
 ok:∀ p ∈ m,p.1 < n∧a≤p.2∧p.2≤len
theorem OkP.nil (n a len:Nat):OkP n a len []:=⟨by simp,by simp⟩
theorem OkP.add {n a len:Nat} {m:List Pt} (h:OkP n a len m) {i j:Nat} (hm:(i,j) ∉ m) (hi:i < n) (ha:a≤j) (hj:j≤len):OkP n a len (m ++ [(i,j)]):=by
 refine ⟨?_,fun p hp=>?_⟩
 ·rw [List.nodup_append]
  refine ⟨h.nd,by simp,fun x hx y hy=>?_⟩
  simp at hy
  subst hy
  exact fun e=>hm (e ▸ hx)
 ·rcases List.mem_append.1 hp with hp | hp
  ·exact h.ok p hp
  ·simp at hp
   subst hp
   exact ⟨hi,ha,hj⟩
theorem enc_inj {n i i' d d':Nat} (hi:i < n) (hi':i' < n) (h:d * n + i=d' * n + i'):d=d'∧i=i':=by
 have h1:(d * n + i) / n=d:=by rw [Nat.mul_comm,Nat.mul_add_div (by omega),Nat.div_eq_of_lt hi];omega
 have h2:(d' * n + i') / n=d':=by rw [Nat.mul_comm,Nat.mul_add_div (by omega),Nat.div_eq_of_lt hi'];omega
 have:d=d':=by rw [← h1,← h2,h]
 subst this
 exact ⟨rfl,by omega⟩
theorem enc_lt {n i d q:Nat} (hi:i < n) (hd:d < q):d * n + i < n * q:=by
 have:(d + 1) * n≤q * n:=Nat.mul_le_mul_right _ hd
 rw [Nat.succ_mul] at this
 rw [Nat.mul_comm n q]
 omega
theorem nodup_map_inj {α:Type} (f:α→Nat):∀ (l:List α),l.Nodup→(∀ x ∈ l,∀ y ∈ l,f x=f y→x=y)→(l.map f).Nodup
 | [],_,_=>by simp
 | x :: l,h,hf=>by
  rw [List.map_cons,List.nodup_cons]
  rw [List.nodup_cons] at h
  refine ⟨fun hx=>?_,nodup_map_inj f l h.2 (fun y hy z hz=>hf y (List.mem_cons_of_mem _ hy) z (List.mem_cons_of_mem _ hz))⟩
  obtain ⟨y,hy,e⟩:=List.mem_map.1 hx
  have:=hf x List.mem_cons_self y (List.mem_cons_of_mem _ hy) e.symm
  exact h.1 (this ▸ hy)
theorem OkP.small {n a len:Nat} {m:List Pt} (h:OkP n a len m):m.length≤n * (len - a + 1):=by
 have h1:=nodup_le (n:=n * (len - a + 1)) (l:=m.map fun p=>(p.2 - a) * n + p.1) (nodup_map_inj _ m h.nd (fun x hx y hy e=>by
  have hx':=h.ok x hx
  have hy':=h.ok y hy
  have:=enc_inj hx'.1 hy'.1 e
  obtain ⟨x1,x2⟩:=x
  obtain ⟨y1,y2⟩:=y
  simp at this hx' hy' ⊢
  omega)) (fun k hk=>by
   obtain ⟨p,hp,rfl⟩:=List.mem_map.1 hk
   have hp':=h.ok p hp
   exact enc_lt hp'.1 (by omega))
 simpa using h1
theorem df_ok {P:Pr} (hP:P.Ok) {a len:Nat} (hlen:∀ i x,P.A len i≠.rune x) {m:List Pt} {i j:Nat} {c:List Int} {m':List Pt} {r:Fd} (h:Df P.A m i j c m' r):i < P.n→a≤j→j≤len→c.length=P.K→OkP P.n a len m→OkP P.n a len m'∧m.length≤m'.length∧(∀ p ∈ m,p ∈ m')∧∀ y,r=some y→y.2.length=P.K:=by
 have hsub:∀ (m:List Pt) (p:Pt) (m':List Pt),(∀ q ∈ m ++ [p],q ∈ m')→∀ q ∈ m,q ∈ m':=fun m p m' h q hq=>h q (List.mem_append_left _ hq)
 induction h with
 | old m i j c hm=>intro hi ha hj hc ho;exact ⟨ho,Nat.le_refl _,fun p hp=>hp,by simp⟩
 | fit m i j c a hm e=>intro hi ha hj hc ho;exact ⟨ho.add hm hi ha hj,by simp,fun p hp=>List.mem_append_left _ hp,fun y hy=>by simp at hy;subst hy;exact hc⟩
 | stop m i j c hm e=>intro hi ha hj hc ho;exact ⟨ho.add hm hi ha hj,by simp,fun p hp=>List.mem_append_left _ hp,by simp⟩
 | go m i j c x m' r hm e hd ih =>
  intro hi ha hj hc ho
  have hx:=hP.ok j i hi
  rw [e] at hx
  obtain ⟨h1,h2,h3,h4⟩:=ih hx ha hj hc (ho.add hm hi ha hj)
  exact ⟨h1,by simp at h2;omega,hsub _ _ _ h3,h4⟩
 | cap m i j c x a m' r hm e hd ih =>
  intro hi ha hj hc ho
  have hx:=hP.ok j i hi
  rw [e] at hx
  obtain ⟨h1,h2,h3,h4⟩:=ih hx ha hj (by simpa using hc) (ho.add hm hi ha hj)
  exact ⟨h1,by simp at h2;omega,hsub _ _ _ h3,h4⟩
 | rune m i j c x m' r hm e hd ih =>
  intro hi ha hj hc ho
  have hx:=hP.ok j i hi
  rw [e] at hx
  have hne:j≠len:=fun h=>hlen i x (h ▸ e)
  obtain ⟨h1,h2,h3,h4⟩:=ih hx (by omega) (by omega) hc (ho.add hm hi ha hj)
  exact ⟨h1,by simp at h2;omega,hsub _ _ _ h3,h4⟩
 | altx m i j c x y m' z hm e hd ih =>
  intro hi ha hj hc ho
  have hx:=hP.ok j i hi
  rw [e] at hx
  obtain ⟨h1,h2,h3,h4⟩:=ih hx.1 ha hj hc (ho.add hm hi ha hj)
  exact ⟨h1,by simp at h2;omega,hsub _ _ _ h3,h4⟩
 | alty m i j c x y m1 m' r hm e hd hd2 ih ih2 =>
  intro hi ha hj hc ho
  have hx:=hP.ok j i hi
  rw [e] at hx
  obtain ⟨h1,h2,h3,h4⟩:=ih hx.1 ha hj hc (ho.add hm hi ha hj)
  obtain ⟨g1,g2,g3,g4⟩:=ih2 hx.2 ha hj hc h1
  exact ⟨g1,by simp at h2;omega,fun p hp=>g3 p (hsub _ _ _ h3 p hp),g4⟩
theorem df_total {P:Pr} (hP:P.Ok) {a len:Nat} (hlen:∀ i x,P.A len i≠.rune x):∀ (N:Nat) (m:List Pt),OkP P.n a len m→P.n * (len - a + 1)≤N + m.length→∀ (i j:Nat) (c:List Int),i < P.n→a≤j→j≤len→c.length=P.K→∃ m' r,Df P.A m i j c m' r:=by
 intro N
 induction N with
 | zero =>
  intro m ho hN i j c hi ha hj hc
  by_cases hm:(i,j) ∈ m
  ·exact ⟨_,_,.old _ _ _ _ hm⟩
  ·have:=(ho.add hm hi ha hj).small
   simp at this
   omega
 | succ N ih =>
  intro m ho hN i j c hi ha hj hc
  by_cases hm:(i,j) ∈ m
  ·exact ⟨_,_,.old _ _ _ _ hm⟩
  ·have ho':=ho.add hm hi ha hj
   have hx:=hP.ok j i hi
   have hN':P.n * (len - a + 1)≤N + (m ++ [(i,j)]).length:=by simp;omega
   cases e:P.A j i with
   | fit y=>exact ⟨_,_,.fit _ _ _ _ y hm e⟩
   | stop=>exact ⟨_,_,.stop _ _ _ _ hm e⟩
   | go x =>
    rw [e] at hx
    obtain ⟨m',r,h⟩:=ih _ ho' hN' x j c hx ha hj hc
    exact ⟨m',r,.go _ _ _ _ x _ _ hm e h⟩
   | cap x b =>
    rw [e] at hx
    obtain ⟨m',r,h⟩:=ih _ ho' hN' x j (c.set b (j:Int)) hx ha hj (by simpa using hc)
    exact ⟨m',r,.cap _ _ _ _ x b _ _ hm e h⟩
   | rune x =>
    rw [e] at hx
    have hne:j≠len:=fun h=>hlen i x (h ▸ e)
    obtain ⟨m',r,h⟩:=ih _ ho' hN' x (j + 1) c hx (by omega) (by omega) hc
    exact ⟨m',r,.rune _ _ _ _ x _ _ hm e h⟩
   | alt x y =>
    rw [e] at hx
    obtain ⟨m',r,h⟩:=ih _ ho' hN' x j c hx.1 ha hj hc
    cases r with
    | some z=>exact ⟨m',_,.altx _ _ _ _ x y _ _ hm e h⟩
    | none =>
     obtain ⟨g1,g2,_⟩:=df_ok hP hlen h hx.1 ha hj hc ho'
     obtain ⟨m2,r2,h2⟩:=ih _ g1 (by omega) y j c hx.2 ha hj hc
     exact ⟨m2,r2,.alty _ _ _ _ x y _ _ _ hm e h h2⟩
inductive Da (A:Nat→Nat→Ac):List Pt→List (Nat × Nat × List Int)→List Pt→Fd→Prop
 | nil (m:List Pt):Da A m [] m none
 | hit (m:List Pt) (i j:Nat) (c:List Int) (T:List (Nat × Nat × List Int)) (m':List Pt) (z:Int × List Int):Df A m i j c m' (some z)→Da A m ((i,j,c) :: T) m' (some z)
 | miss (m:List Pt) (i j:Nat) (c:List Int) (T:List (Nat × Nat × List Int)) (m1 m':List Pt) (r:Fd):Df A m i j c m1 none→Da A m1 T m' r→Da A m ((i,j,c) :: T) m' r
theorem da_det {A:Nat→Nat→Ac} {m:List Pt} {T:List (Nat × Nat × List Int)} {m':List Pt} {r:Fd} (h:Da A m T m' r):∀ {m2:List Pt} {r2:Fd},Da A m T m2 r2→m'=m2∧r=r2:=by
 induction h with
 | nil m=>intro m2 r2 h2;cases h2;exact ⟨rfl,rfl⟩
 | hit m i j c T m' z hd =>
  intro m2 r2 h2
  cases h2 with
  | hit _ _ _ _ _ _ _ h3=>exact df_det hd h3
  | miss _ _ _ _ _ _ _ _ h3 h4=>cases (df_det hd h3).2
 | miss m i j c T m1 m' r hd h ih =>
  intro m2 r2 h2
  cases h2 with
  | hit _ _ _ _ _ _ _ h3=>cases (df_det hd h3).2
  | miss _ _ _ _ _ _ _ _ h3 h4=>obtain ⟨rfl,_⟩:=df_det hd h3;exact ih h4
theorem da_hit {A:Nat→Nat→Ac} {m:List Pt} {T:List (Nat × Nat × List Int)} {m':List Pt} {r:Fd} (h:Da A m T m' r):∀ {z},r=some z→∀ U,Da A m (T ++ U) m' r:=by
 induction h with
 | nil m=>intro z hz;cases hz
 | hit m i j c T m' z hd=>intro _ _ U;exact .hit _ _ _ _ _ _ _ hd
 | miss m i j c T m1 m' r hd h ih=>intro z hz U;exact .miss _ _ _ _ _ _ _ _ hd (ih hz U)
theorem da_miss {A:Nat→Nat→Ac} {m:List Pt} {T:List (Nat × Nat × List Int)} {m':List Pt} {r:Fd} (h:Da A m T m' r):r=none→∀ {U m2 r2},Da A m' U m2 r2→Da A m (T ++ U) m2 r2:=by
 induction h with
 | nil m=>intro _ U m2 r2 h2;exact h2
 | hit m i j c T m' z hd=>intro hz;cases hz
 | miss m i j c T m1 m' r hd h ih=>intro hz U m2 r2 h2;exact .miss _ _ _ _ _ _ _ _ hd (ih hz h2)
theorem da_split {A:Nat→Nat→Ac}:∀ (T:List (Nat × Nat × List Int)) {m U m2 r2},Da A m (T ++ U) m2 r2→(∃ z,r2=some z∧Da A m T m2 r2)∨∃ m1,Da A m T m1 none∧Da A m1 U m2 r2
 | [],m,U,m2,r2,h=>.inr ⟨m,.nil _,h⟩
 | t :: T,m,U,m2,r2,h=>by
  cases h with
  | hit _ i j c _ _ z hd=>exact .inl ⟨z,rfl,.hit _ _ _ _ _ _ _ hd⟩
  | miss _ i j c _ m1 _ _ hd h' =>
   rcases da_split T h' with ⟨z,hz,h3⟩ | ⟨m3,h3,h4⟩
   ·exact .inl ⟨z,hz,.miss _ _ _ _ _ _ _ _ hd h3⟩
   ·exact .inr ⟨m3,.miss _ _ _ _ _ _ _ _ hd h3,h4⟩
theorem da_cong {A:Nat→Nat→Ac} {k:Nat} {m:List Pt} {T:List (Nat × Nat × List Int)} {m':List Pt} {r:Fd} (h:Da A m T m' r):∀ {m2:List Pt},(∀ t ∈ T,k≤t.2.1)→EqP k m m2→∃ m2',Da A m2 T m2' r∧EqP k m' m2':=by
 induction h with
 | nil m=>intro m2 _ he;exact ⟨m2,.nil _,he⟩
 | hit m i j c T m' z hd =>
  intro m2 hT he
  obtain ⟨m3,h3,h4⟩:=df_cong hd (hT _ List.mem_cons_self) he
  exact ⟨m3,.hit _ _ _ _ _ _ _ h3,h4⟩
 | miss m i j c T m1 m' r hd h ih =>
  intro m2 hT he
  obtain ⟨m3,h3,h4⟩:=df_cong hd (hT _ List.mem_cons_self) he
  obtain ⟨m5,h5,h6⟩:=ih (fun t ht=>hT t (List.mem_cons_of_mem _ ht)) h4
  exact ⟨m5,.miss _ _ _ _ _ _ _ _ h3 h5,h6⟩
theorem da_ok {P:Pr} (hP:P.Ok) {a len:Nat} (hlen:∀ i x,P.A len i≠.rune x) {m:List Pt} {T:List (Nat × Nat × List Int)} {m':List Pt} {r:Fd} (h:Da P.A m T m' r):(∀ t ∈ T,t.1 < P.n∧a≤t.2.1∧t.2.1≤len∧t.2.2.length=P.K)→OkP P.n a len m→OkP P.n a len m'∧m.length≤m'.length∧(∀ p ∈ m,p ∈ m')∧∀ y,r=some y→y.2.length=P.K:=by
 induction h with
 | nil m=>intro _ ho;exact ⟨ho,Nat.le_refl _,fun p hp=>hp,by simp⟩
 | hit m i j c T m' z hd =>
  intro hT ho
  have ht:=hT _ List.mem_cons_self
  exact df_ok hP hlen hd ht.1 ht.2.1 ht.2.2.1 ht.2.2.2 ho
 | miss m i j c T m1 m' r hd h ih =>
  intro hT ho
  have ht:=hT _ List.mem_cons_self
  obtain ⟨g1,g2,g3,_⟩:=df_ok hP hlen hd ht.1 ht.2.1 ht.2.2.1 ht.2.2.2 ho
  obtain ⟨f1,f2,f3,f4⟩:=ih (fun t ht=>hT t (List.mem_cons_of_mem _ ht)) g1
  exact ⟨f1,by omega,fun p hp=>f3 p (g3 p hp),f4⟩
theorem da_total {P:Pr} (hP:P.Ok) {a len:Nat} (hlen:∀ i x,P.A len i≠.rune x):∀ (T:List (Nat × Nat × List Int)) (m:List Pt),(∀ t ∈ T,t.1 < P.n∧a≤t.2.1∧t.2.1≤len∧t.2.2.length=P.K)→OkP P.n a len m→∃ m' r,Da P.A m T m' r
 | [],m,_,_=>⟨m,none,.nil _⟩
 | (i,j,c) :: T,m,hT,ho=>by
  have ht:=hT _ List.mem_cons_self
  obtain ⟨m1,r1,h1⟩:=df_total hP hlen (P.n * (len - a + 1)) m ho (by omega) i j c ht.1 ht.2.1 ht.2.2.1 ht.2.2.2
  cases r1 with
  | some z=>exact ⟨_,_,.hit _ _ _ _ _ _ _ h1⟩
  | none =>
   have g1:=(df_ok hP hlen h1 ht.1 ht.2.1 ht.2.2.1 ht.2.2.2 ho).1
   obtain ⟨m2,r2,h2⟩:=da_total hP hlen T m1 (fun t ht=>hT t (List.mem_cons_of_mem _ ht)) g1
   exact ⟨m2,r2,.miss _ _ _ _ _ _ _ _ h1 h2⟩
def ats (j:Nat) (T:List Th):List (Nat × Nat × List Int):=T.map fun t=>(t.1,j,t.2)
theorem ats_append (j:Nat) (T U:List Th):ats j (T ++ U)=ats j T ++ ats j U:=by simp [ats]
inductive Qv (A:Nat→Nat→Ac) (n a len j:Nat) (m0:List Pt) (s:Vst) (m:List Pt):Fd→Prop
 | far (R:List Pt) (y:Int × List Int):Da A m0 (ats (j + 1) s.next) R (some y)→Qv A n a len j m0 s m (some y)
 | here (R:List Pt) (y:Int × List Int):Da A m0 (ats (j + 1) s.next) R none→s.over=true→s.found=some y→Qv A n a len j m0 s m (some y)
 | on (R:List Pt):Da A m0 (ats (j + 1) s.next) R none→s.over=false→(∀ i,(i,j) ∈ m↔i ∈ s.met)→EqP (j + 1) m R→OkP n a len m→Qv A n a len j m0 s m none
def Dc (A:Nat→Nat→Ac) (m:List Pt) (r:Fd) (i j:Nat) (c:List Int) (m':List Pt) (r':Fd):Prop:=(∃ y,r=some y∧m'=m∧r'=r)∨(r=none∧Df A m i j c m' r')
theorem EqP.here {k:Nat} {m R:List Pt} (h:EqP k m R) {i j:Nat} (hj:j < k):EqP k (m ++ [(i,j)]) R:=by
 intro q hq x
 rw [← h q hq x]
 simp only [List.mem_append,List.mem_singleton,Prod.mk.injEq]
 constructor
 ·rintro (h | ⟨_,rfl⟩)
  ·exact h
  ·omega
 ·exact .inl
theorem mark_iff {m:List Pt} {s:Vst} {i j:Nat} (h:∀ i,(i,j) ∈ m↔i ∈ s.met):∀ x,(x,j) ∈ m ++ [(i,j)]↔x ∈ (s.mark i).met:=by
 intro x
 simp only [List.mem_append,List.mem_singleton,Prod.mk.injEq,and_true,Vst.mark,h x]
theorem vis_q {P:Pr} (hP:P.Ok) {a len j:Nat} (hlen:∀ i x,P.A len i≠.rune x) (ha:a≤j) (hj:j≤len) {m0:List Pt}:∀ (f i:Nat) (c:List Int) (s:Vst) (m:List Pt) (r:Fd),i < P.n→c.length=P.K→P.n < f + s.met.length→Inv P.n P.K s→Qv P.A P.n a len j m0 s m r →
  ∃ m' r',Dc P.A m r i j c m' r'∧Qv P.A P.n a len j m0 (vis (P.A j) j f i c s) m' r':=by
 intro f
 induction f with
 | zero =>
  intro i c s m r hi hc hf hv hq
  have:=hv.small
  omega
 | succ f ih =>
  intro i c s m r hi hc hf hv hq
  cases hq with
  | far R y hd =>
   obtain ⟨x,hx⟩:=(vis_grow (A:=P.A j) (j:=j) (f + 1) i c s).next
   refine ⟨m,some y,.inl ⟨y,rfl,rfl,rfl⟩,.far R y ?_⟩
   rw [hx,ats_append]
   exact da_hit hd rfl _
  | here R y hd ho hfd =>
   refine ⟨m,some y,.inl ⟨y,rfl,rfl,rfl⟩,?_⟩
   rw [vis_over ho]
   exact .here R y hd ho hfd
  | on R hd ho hm he hok =>
   by_cases him:i ∈ s.met
   ·refine ⟨m,none,.inr ⟨rfl,.old _ _ _ _ ((hm i).2 him)⟩,?_⟩
    have:vis (P.A j) j (f + 1) i c s=s:=by
     unfold vis
     rw [if_pos (by simp [him])]
    rw [this]
    exact .on R hd ho hm he hok
   ·have hnm:(i,j) ∉ m:=fun h=>him ((hm i).1 h)
    have hv1:=hv.mark hi him
    have hok1:=hok.add hnm hi ha hj
    have hq1:Qv P.A P.n a len j m0 (s.mark i) (m ++ [(i,j)]) none:=.on R hd ho (mark_iff hm) (he.here (Nat.lt_succ_self j)) hok1
    have hf1:P.n < f + (s.mark i).met.length:=by simp [Vst.mark];omega
    have hx:=hP.ok j i hi
    unfold vis
    rw [if_neg (by simp [ho,him])]
    cases e:P.A j i with
    | fit b =>
     refine ⟨m ++ [(i,j)],some (b,c),.inr ⟨rfl,.fit _ _ _ _ b hnm e⟩,?_⟩
     exact .here R (b,c) hd rfl rfl
    | stop=>exact ⟨m ++ [(i,j)],none,.inr ⟨rfl,.stop _ _ _ _ hnm e⟩,hq1⟩
    | go x =>
     rw [e] at hx
     obtain ⟨m',r',hdc,hq'⟩:=ih x c _ _ _ hx hc hf1 hv1 hq1
     rcases hdc with ⟨y,h,_⟩ | ⟨_,hdf⟩
     ·cases h
     ·exact ⟨m',r',.inr ⟨rfl,.go _ _ _ _ x _ _ hnm e hdf⟩,hq'⟩
    | cap x b =>
     rw [e] at hx
     obtain ⟨m',r',hdc,hq'⟩:=ih x (c.set b (j:Int)) _ _ _ hx (by simpa using hc) hf1 hv1 hq1
     rcases hdc with ⟨y,h,_⟩ | ⟨_,hdf⟩
     ·cases h
     ·exact ⟨m',r',.inr ⟨rfl,.cap _ _ _ _ x b _ _ hnm e hdf⟩,hq'⟩
    | rune x =>
     rw [e] at hx
     have hne:j≠len:=fun h=>hlen i x (h ▸ e)
     obtain ⟨m',r',hdf⟩:=df_total hP hlen (P.n * (len - a + 1)) _ hok1 (by omega) x (j + 1) c hx (by omega) (by omega) hc
     obtain ⟨R',hR,hE⟩:=df_cong hdf (Nat.le_refl _) (he.here (i:=i) (Nat.lt_succ_self j))
     refine ⟨m',r',.inr ⟨rfl,.rune _ _ _ _ x _ _ hnm e hdf⟩,?_⟩
     have hone:Da P.A R (ats (j + 1) [(x,c)]) R' r':=by
      cases r' with
      | some y=>exact .hit _ _ _ _ _ _ _ hR
      | none=>exact .miss _ _ _ _ _ _ _ _ hR (.nil _)
     have hall:Da P.A m0 (ats (j + 1) (s.next ++ [(x,c)])) R' r':=by
      rw [ats_append]
      exact da_miss hd rfl hone
     cases r' with
     | some y=>exact .far R' y hall
     | none =>
      refine .on R' hall ho (fun k=>?_) hE (df_ok hP hlen hdf hx (by omega) (by omega) hc hok1).1
      rw [df_keep hdf (k,j) (Nat.lt_succ_self j)]
      exact mark_iff hm k
    | alt x y =>
     rw [e] at hx
     obtain ⟨m1,r1,hdc,hq2⟩:=ih x c _ _ _ hx.1 hc hf1 hv1 hq1
     rcases hdc with ⟨z,h,_⟩ | ⟨_,hdf⟩
     ·cases h
     ·obtain ⟨g,hg⟩:=(vis_grow (A:=P.A j) (j:=j) f x c (s.mark i)).met
      obtain ⟨m2,r2,hdc2,hq3⟩:=ih y c _ m1 r1 hx.2 hc (by rw [hg,List.length_append];omega) (vis_inv (hP.ok j) f x c _ hx.1 hc hv1) hq2
      rcases hdc2 with ⟨z,rfl,rfl,rfl⟩ | ⟨rfl,hdf2⟩
      ·exact ⟨_,_,.inr ⟨rfl,.altx _ _ _ _ x y _ _ hnm e hdf⟩,hq3⟩
      ·exact ⟨_,_,.inr ⟨rfl,.alty _ _ _ _ x y _ _ _ hnm e hdf hdf2⟩,hq3⟩
def Dd (A:Nat→Nat→Ac) (m:List Pt) (r:Fd) (T:List (Nat × Nat × List Int)) (m':List Pt) (r':Fd):Prop:=(∃ y,r=some y∧m'=m∧r'=r)∨(r=none∧Da A m T m' r')
theorem vall_q {P:Pr} (hP:P.Ok) {a len j f:Nat} (hlen:∀ i x,P.A len i≠.rune x) (ha:a≤j) (hj:j≤len) {m0:List Pt} (hf:P.n < f):∀ (T:List Th) (s:Vst) (m:List Pt) (r:Fd),(∀ t ∈ T,t.1 < P.n∧t.2.length=P.K)→Inv P.n P.K s→Qv P.A P.n a len j m0 s m r →
  ∃ m' r',Dd P.A m r (ats j T) m' r'∧Qv P.A P.n a len j m0 (vall (P.A j) j f T s) m' r':=by
 intro T
 induction T with
 | nil =>
  intro s m r _ hv hq
  refine ⟨m,r,?_,hq⟩
  cases r with
  | some y=>exact .inl ⟨y,rfl,rfl,rfl⟩
  | none=>exact .inr ⟨rfl,.nil _⟩
 | cons t T ih =>
  intro s m r hT hv hq
  have ht:=hT t List.mem_cons_self
  obtain ⟨m1,r1,hd1,hq1⟩:=vis_q hP hlen ha hj f t.1 t.2 s m r ht.1 ht.2 (by omega) hv hq
  obtain ⟨m2,r2,hd2,hq2⟩:=ih _ m1 r1 (fun u hu=>hT u (List.mem_cons_of_mem _ hu)) (vis_inv (hP.ok j) f t.1 t.2 s ht.1 ht.2 hv) hq1
  rw [vall_cons]
  refine ⟨m2,r2,?_,hq2⟩
  rcases hd1 with ⟨y,rfl,rfl,rfl⟩ | ⟨rfl,hdf⟩
  ·rcases hd2 with ⟨z,h1,h2,h3⟩ | ⟨h,_⟩
   ·exact .inl ⟨z,h1,h2,h3⟩
   ·cases h
  ·refine .inr ⟨rfl,?_⟩
   rcases hd2 with ⟨y,rfl,rfl,rfl⟩ | ⟨rfl,hda⟩
   ·exact .hit _ _ _ _ _ _ _ hdf
   ·exact .miss _ _ _ _ _ _ _ _ hdf hda
def bgs (P:Pr) (a:Nat) (anch:Bool) (fd:Fd):Nat→Nat→List (Nat × Nat × List Int)
 | 0,_=>[]
 | m + 1,j=>(if bgB a anch j fd=true then [(P.S,j,List.replicate P.K (-1))] else []) ++ bgs P a anch fd m (j + 1)
theorem bgs_some (P:Pr) (a:Nat) (anch:Bool) (y:Int × List Int):∀ (m j:Nat),a < j→bgs P a anch (some y) m j=[]
 | 0,_,_=>rfl
 | m + 1,j,h=>by
  have hn:¬ bgB a anch j (some y)=true:=by simp [bgB];omega
  simp only [bgs]
  rw [if_neg hn,bgs_some P a anch y m (j + 1) (by omega)]
  rfl
theorem bgs_from (P:Pr) (a:Nat) (anch:Bool) (fd:Fd):∀ (m j:Nat),∀ t ∈ bgs P a anch fd m j,t.1=P.S∧j≤t.2.1∧t.2.1 < j + m∧t.2.2=List.replicate P.K (-1)
 | 0,_=>by simp [bgs]
 | m + 1,j=>by
  intro t ht
  simp only [bgs] at ht
  rcases List.mem_append.1 ht with h | h
  ·split at h
   ·simp at h;subst h;exact ⟨rfl,Nat.le_refl _,by show j < _;omega,rfl⟩
   ·simp at h
  ·have:=bgs_from P a anch fd m (j + 1) t h
   exact ⟨this.1,by omega,by omega,this.2.2.2⟩
theorem place_q {P:Pr} (hP:P.Ok) {a len j:Nat} {anch:Bool} (hlen:∀ i x,P.A len i≠.rune x) (ha:a≤j) (hj:j≤len) {m0:List Pt} (hok:OkP P.n a len m0) (h0:∀ p ∈ m0,p.2 < j) {T:List Th} {fd:Fd} (hT:∀ t ∈ T,t.1 < P.n∧t.2.length=P.K) (hfd:∀ y,fd=some y→y.2.length=P.K) :
  ∃ m' r',Da P.A m0 (ats j T ++ (if bgB a anch j fd=true then [(P.S,j,List.replicate P.K (-1))] else [])) m' r'∧Qv P.A P.n a len j m0 (place P a anch j T fd) m' r':=by
 have hv:=new_inv P.n P.K fd hfd
 have hq:Qv P.A P.n a len j m0 (newV fd) m0 none:=.on m0 (.nil _) rfl (fun i=>by
  simp only [newV,List.not_mem_nil,iff_false]
  intro h
  have:=h0 _ h
  simp at this) (fun q hq i=>Iff.rfl) hok
 obtain ⟨m1,r1,hd1,hq1⟩:=vall_q hP hlen ha hj (Nat.lt_succ_self P.n) T (newV fd) m0 none hT hv hq
 have hd1':Da P.A m0 (ats j T) m1 r1:=by
  rcases hd1 with ⟨y,h,_⟩ | ⟨_,h⟩
  ·cases h
  ·exact h
 unfold place
 dsimp only
 split
 ·obtain ⟨m2,r2,hd2,hq2⟩:=vis_q hP hlen ha hj (P.n + 1) P.S (List.replicate P.K (-1)) _ m1 r1 hP.S (by simp) (by omega) (vall_inv (hP.ok j) T (newV fd) hT hv) hq1
  refine ⟨m2,r2,?_,hq2⟩
  rcases hd2 with ⟨y,rfl,rfl,rfl⟩ | ⟨rfl,hdf⟩
  ·exact da_hit hd1' rfl _
  ·refine da_miss hd1' rfl ?_
   cases r2 with
   | some y=>exact .hit _ _ _ _ _ _ _ hdf
   | none=>exact .miss _ _ _ _ _ _ _ _ hdf (.nil _)
 ·refine ⟨m1,r1,?_,hq1⟩
  rw [List.append_nil]
  exact hd1'
theorem vis_end {A:Nat→Ac} {j:Nat} (hA:∀ i x,A i≠.rune x):∀ (f i:Nat) (c:List Int) (s:Vst),s.next=[]→(vis A j f i c s).next=[]:=by
 intro f
 induction f with
 | zero=>intro i c s h;exact h
 | succ f ihf =>
  intro i c s h
  unfold vis
  split
  ·exact h
  ·split
   ·exact ihf _ _ _ (ihf _ _ _ h)
   ·exact ihf _ _ _ h
   ·exact ihf _ _ _ h
   ·rename_i x e;exact absurd e (hA _ _)
   ·exact h
   ·exact h
theorem vall_end {A:Nat→Ac} {j f:Nat} (hA:∀ i x,A i≠.rune x):∀ (T:List Th) (s:Vst),s.next=[]→(vall A j f T s).next=[]:=by
 intro T
 induction T with
 | nil=>intro s h;exact h
 | cons t T ih=>intro s h;rw [vall_cons];exact ih _ (vis_end hA _ _ _ _ h)
theorem place_end {P:Pr} {a j:Nat} {anch:Bool} (hlen:∀ i x,P.A j i≠.rune x) (T:List Th) (fd:Fd):(place P a anch j T fd).next=[]:=by
 unfold place
 dsimp only
 split
 ·exact vis_end hlen _ _ _ _ (vall_end hlen _ _ rfl)
 ·exact vall_end hlen _ _ rfl
theorem itr_q {P:Pr} (hP:P.Ok) {a len:Nat} {anch:Bool} (hlen:∀ i x,P.A len i≠.rune x):∀ (m j:Nat) (T:List Th) (fd:Fd) (m0:List Pt),j + m=len + 1→a≤j→(m=0→T=[])→OkP P.n a len m0→(∀ p ∈ m0,p.2 < j)→(∀ t ∈ T,t.1 < P.n∧t.2.length=P.K)→(∀ y,fd=some y→y.2.length=P.K) →
  ∃ m' r',Da P.A m0 (ats j T ++ bgs P a anch fd m j) m' r'∧(itr P a anch m j T fd).2=r'.or fd:=by
 intro m
 induction m with
 | zero =>
  intro j T fd m0 hj ha hT0 hok h0 hT hfd
  rw [hT0 rfl]
  exact ⟨m0,none,.nil _,rfl⟩
 | succ m ih =>
  intro j T fd m0 hj ha _ hok h0 hT hfd
  obtain ⟨m1,r1,hd1,hq⟩:=place_q (anch:=anch) hP hlen ha (by omega) hok h0 hT hfd
  have hiv:=place_inv hP (a:=a) (j:=j) (anch:=anch) hT hfd
  have hnx:m=0→(place P a anch j T fd).next=[]:=fun e=>by
   subst e
   obtain rfl:j=len:=by omega
   exact place_end hlen T fd
  obtain ⟨m2,r2,hd2,hr2⟩:=ih (j + 1) (place P a anch j T fd).next (place P a anch j T fd).found m0 (by omega) (by omega) hnx hok (fun p hp=>by have:=h0 p hp;omega) hiv.nx hiv.fd
  have hfo:=(place_grow P a j anch T fd).found
  simp only [itr,bgs]
  rw [hr2,← List.append_assoc]
  generalize place P a anch j T fd=s at hq hd2 hfo ⊢
  cases hq with
  | far R y hd =>
   refine ⟨m1,some y,da_hit hd1 rfl _,?_⟩
   obtain ⟨_,rfl⟩:=da_det (da_hit hd rfl _) hd2
   rfl
  | here R y hd ho hf =>
   refine ⟨m1,some y,da_hit hd1 rfl _,?_⟩
   rw [hf,bgs_some P a anch y m (j + 1) (by omega),List.append_nil] at hd2
   obtain ⟨_,rfl⟩:=da_det hd hd2
   rw [hf]
   rfl
  | on R hd ho hm he hok' =>
   have hf:s.found=fd:=(hfo ho).1
   rw [hf] at hd2 ⊢
   rcases da_split _ hd2 with ⟨z,hz,h3⟩ | ⟨m3,h3,h4⟩
   ·have:=(da_det hd h3).2
    rw [hz] at this
    cases this
   ·obtain ⟨rfl,_⟩:=da_det hd h3
    obtain ⟨m5,h5,_⟩:=da_cong (k:=j + 1) h4 (fun t ht=>(bgs_from P a anch fd m (j + 1) t ht).2.1) (fun q hq i=>(he q hq i).symm)
    exact ⟨m5,r2,da_miss hd1 rfl h5,rfl⟩
theorem lock_da {P:Pr} (hP:P.Ok) {a len:Nat} {anch:Bool} (hlen:∀ i x,P.A len i≠.rune x) (ha:a≤len) {m':List Pt} {r:Fd} (h:Da P.A [] (bgs P a anch none (len - a + 1) a) m' r):(lockRun P len a anch).1=r:=by
 obtain ⟨m2,r2,hd,hr⟩:=itr_q (anch:=anch) hP hlen (len - a + 1) a [] none [] (by omega) (Nat.le_refl _) (fun _=>rfl) (OkP.nil _ _ _) (by simp) (by simp) (by simp)
 obtain ⟨_,rfl⟩:=da_det h hd
 unfold lockRun
 rw [lock_itr P a anch _ _ _ _ _ (Nat.le_refl _),hr]
 cases r <;> rfl
end Go.Proofs.YtacaanhnlfpbhaaGreat
namespace Go.Lk
open Go.RowKit
set_option linter.unusedVariables false
set_option linter.unusedSimpArgs false
theorem wrap_i64 (n:Int):IntKind.i64.wrap n=if 9223372036854775808≤n % 18446744073709551616 then n % 18446744073709551616 - 18446744073709551616 else n % 18446744073709551616:=by
 simp [IntKind.wrap,IntKind.bits,IntKind.signed]
def holdsB (x y:Int):Bool:=bits .andNot .i64 x y == 0
end Go.Lk
namespace Go.Proofs.YtacaanhnlfpbhaaGreat
open Go.RowKit Go.Lk
set_option linter.unusedVariables false
set_option linter.unusedSimpArgs false
theorem wrap_ok (x:Int) (h:-9223372036854775808≤x) (h2:x < 9223372036854775808):IntKind.i64.wrap x=x:=by simp [IntKind.wrap,IntKind.bits,IntKind.signed];omega
theorem may_ok {l:List In} {s k:Int} (h:mayB l s k=true):l.length≤20000∧0≤s∧s < l.length∧2≤k∧k≤1002∧∀ I ∈ l,I.okB l.length k=true:=by
 simp only [mayB,belowB,capsB,Bool.and_eq_true,decide_eq_true_eq,List.all_eq_true] at h
 exact ⟨h.1.1.1,h.1.1.2.1,h.1.1.2.2,h.1.2.1.1,h.1.2.1.2,h.2⟩
theorem ok_op {I:In} {n k:Int} (h:I.okB n k=true):(I.op=1∨I.op=2∨I.op=3∨I.op=4∨I.op=5∨I.op=6∨I.op=7):=by
 simp only [In.okB,Bool.and_eq_true] at h
 have h3:=h.1.2
 unfold isArgB at h3
 split at h3
 ·rename_i e;simp at e;omega
 ·split at h3
  ·rename_i e;simp at e;omega
  ·split at h3
   ·rename_i e;simp at e;omega
   ·split at h3
    ·rename_i e;simp at e;omega
    ·cases h3
def actI (tx:List Int) (I:In) (j:Nat):Ac:=
 if I.op=2 then .alt I.x.toNat I.y.toNat
 else if I.op=7 then .go I.x.toNat
 else if I.op=3 then .cap I.x.toNat I.a.toNat
 else if I.op=4 then (if holdsB I.a (atP tx j)=true then .go I.x.toNat else .stop)
 else if I.op=1 then (if (decide (j < tx.length) && hsB I.R (tx.getD j 0))=true then .rune I.x.toNat else .stop)
 else if I.op=5 then .fit I.a
 else .stop
def act (l:List In) (tx:List Int) (j i:Nat):Ac:=actI tx (l.getD i default) j
def prOf (l:List In) (tx:List Int) (S K:Nat):Pr:=⟨act l tx,l.length,S,K⟩
theorem ok_x {I:In} {n k:Int} (h:I.okB n k=true) (hx:hasXB I.op=true):0≤I.x∧I.x < n:=by
 simp only [In.okB,Bool.and_eq_true,isTargetB,hx,if_true,belowB,decide_eq_true_eq] at h
 exact h.1.1.1
theorem ok_y {I:In} {n k:Int} (h:I.okB n k=true) (hy:hasYB I.op=true):0≤I.y∧I.y < n:=by
 simp only [In.okB,Bool.and_eq_true,isTargetB,hy,if_true,belowB,decide_eq_true_eq] at h
 exact h.1.1.2
theorem ok_a {I:In} {n k:Int} (h:I.okB n k=true) (ho:I.op=3):0≤I.a∧I.a < k:=by
 simp only [In.okB,Bool.and_eq_true,isArgB,ho] at h
 have:=h.1.2
 simp [belowB] at this
 exact this
theorem ok_R {I:In} {n k:Int} (h:I.okB n k=true) (ho:I.op=1):rightB I.R=true:=by
 simp only [In.okB,Bool.and_eq_true,isRangesB,ho] at h
 have:=h.2
 simp at this
 exact this.2
theorem actI_ok {tx:List Int} {I:In} {n:Nat} {k:Int} {j:Nat} (h:I.okB n k=true):(actI tx I j).ok n:=by
 unfold actI
 split
 ·rename_i e
  have h1:=ok_x h (by rw [e];rfl)
  have h2:=ok_y h (by rw [e];rfl)
  exact ⟨by omega,by omega⟩
 ·split
  ·rename_i e
   have h1:=ok_x h (by rw [e];rfl)
   show _ < _
   omega
  ·split
   ·rename_i e
    have h1:=ok_x h (by rw [e];rfl)
    show _ < _
    omega
   ·split
    ·rename_i e
     split
     ·have h1:=ok_x h (by rw [e];rfl)
      show _ < _
      omega
     ·trivial
    ·split
     ·rename_i e
      split
      ·have h1:=ok_x h (by rw [e];rfl)
       show _ < _
       omega
      ·trivial
     ·split <;> trivial
theorem getD_in' {l:List In} {i:Nat} (hi:i < l.length):l.getD i default=l[i]:=by simp [List.getD_eq_getElem?_getD,List.getElem?_eq_getElem hi]
theorem act_ok {l:List In} {tx:List Int} {s k:Int} (h:mayB l s k=true) (j i:Nat) (hi:i < l.length):(act l tx j i).ok l.length:=by
 unfold act
 rw [getD_in' hi]
 exact actI_ok ((may_ok h).2.2.2.2.2 _ (List.getElem_mem hi))
theorem pr_ok {l:List In} {tx:List Int} {S K:Nat} (h:mayB l (S:Int) (K:Int)=true):(prOf l tx S K).Ok:=by
 have hm:=may_ok h
 exact ⟨fun j i hi=>act_ok h j i hi,by show S < l.length;omega⟩
theorem act_end (l:List In) (tx:List Int) (i x:Nat):act l tx tx.length i≠.rune x:=by
 unfold act actI
 intro h
 split at h
 ·cases h
 ·split at h
  ·cases h
  ·split at h
   ·cases h
   ·split at h
    ·split at h <;> cases h
    ·split at h
     ·simp at h
     ·split at h <;> cases h
end Go.Proofs.YtacaanhnlfpbhaaGreat
