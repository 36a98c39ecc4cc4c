/- HELPERS: texts of ours put together. -/
import Derived.Test.YtacaanhnlfpbhaaGreatK27
import Derived.Test.YtacaanhnlfpbhaaGreatK05
import Derived.WalkKit
import Derived.Laws.BitsLemmas
import Derived.Test.YtacaanhnlfpbhaaGreatK14
import Derived.Test.YtacaanhnlfpbhaaGreatK15
import Derived.Test.YtacaanhnlfpbhaaGreatK03
import Derived.Test.YtacaanhnlfpbhaaGreatK02
import Derived.Test.YtacaanhnlfpbhaaGreatK13
import Derived.Laws.EntriesVeiled
import Derived.WalkLawsBesides
import Derived.Lib.SliceRun
import Derived.Deep.OwnRows
import Derived.Deep.Cut
import Derived.Deep.CutRange
import Derived.Test.YtacaanhnlfpbhaaGreatK04
import Derived.OrdersHeld
import Derived.StillTail
import Derived.Tactics
import Derived.RowKit
import Derived.Below
namespace Go.Proofs.YtacaanhnlfpbhaaGreat
set_option linter.unusedVariables false
set_option linter.unusedSimpArgs false
def ats (j:Nat) (T:List Th):List (Nat × Nat × List Int):=T.map fun t => (t.1,j,t.2)
theorem ats_append (j:Nat) (T U:List Th):ats j (T ++ U) = ats j T ++ ats j U:=by simp [ats]
inductive Qv (A:Nat → Nat → Ac) (n a len j:Nat) (m0:List Pt) (s:Vst) (m:List Pt):Fd → Prop
 | far (R:List Pt) (y:Int × List Int):Da A m0 (ats (j + 1) s.next) R (some y) → Qv A n a len j m0 s m (some y)
 | here (R:List Pt) (y:Int × List Int):Da A m0 (ats (j + 1) s.next) R none → s.over = true → s.found = some y → Qv A n a len j m0 s m (some y)
 | on (R:List Pt):Da A m0 (ats (j + 1) s.next) R none → s.over = false → (∀ i,(i,j) ∈ m ↔ i ∈ s.met) → EqP (j + 1) m R → OkP n a len m → Qv A n a len j m0 s m none
def Dc (A:Nat → Nat → Ac) (m:List Pt) (r:Fd) (i j:Nat) (c:List Int) (m':List Pt) (r':Fd):Prop:=(∃ y,r = some y ∧ m' = m ∧ r' = r) ∨ (r = none ∧ Df A m i j c m' r')
theorem EqP.here {k:Nat} {m R:List Pt} (h:EqP k m R) {i j:Nat} (hj:j < k):EqP k (m ++ [(i,j)]) R:=by
 intro q hq x
 rw [← h q hq x]
 simp only [List.mem_append,List.mem_singleton,Prod.mk.injEq]
 constructor
 ·rintro (h | ⟨_,rfl⟩)
  ·exact h
  ·omega
 ·exact .inl
theorem mark_iff {m:List Pt} {s:Vst} {i j:Nat} (h:∀ i,(i,j) ∈ m ↔ i ∈ s.met):∀ x,(x,j) ∈ m ++ [(i,j)] ↔ x ∈ (s.mark i).met:=by
 intro x
 simp only [List.mem_append,List.mem_singleton,Prod.mk.injEq,and_true,Vst.mark,h x]
theorem vis_q {P:Pr} (hP:P.Ok) {a len j:Nat} (hlen:∀ i x,P.A len i ≠ .rune x) (ha:a ≤ j) (hj:j ≤ len) {m0:List Pt}:∀ (f i:Nat) (c:List Int) (s:Vst) (m:List Pt) (r:Fd),i < P.n → c.length = P.K → P.n < f + s.met.length → Inv P.n P.K s → Qv P.A P.n a len j m0 s m r →
  ∃ m' r',Dc P.A m r i j c m' r' ∧ Qv P.A P.n a len j m0 (vis (P.A j) j f i c s) m' r':=by
 intro f
 induction f with
 | zero =>
  intro i c s m r hi hc hf hv hq
  have:=hv.small
  omega
 | succ f ih =>
  intro i c s m r hi hc hf hv hq
  cases hq with
  | far R y hd =>
   obtain ⟨x,hx⟩:=(vis_grow (A:=P.A j) (j:=j) (f + 1) i c s).next
   refine ⟨m,some y,.inl ⟨y,rfl,rfl,rfl⟩,.far R y ?_⟩
   rw [hx,ats_append]
   exact da_hit hd rfl _
  | here R y hd ho hfd =>
   refine ⟨m,some y,.inl ⟨y,rfl,rfl,rfl⟩,?_⟩
   rw [vis_over ho]
   exact .here R y hd ho hfd
  | on R hd ho hm he hok =>
   by_cases him:i ∈ s.met
   ·refine ⟨m,none,.inr ⟨rfl,.old _ _ _ _ ((hm i).2 him)⟩,?_⟩
    have:vis (P.A j) j (f + 1) i c s = s:=by
     unfold vis
     rw [if_pos (by simp [him])]
    rw [this]
    exact .on R hd ho hm he hok
   ·have hnm:(i,j) ∉ m:=fun h => him ((hm i).1 h)
    have hv1:=hv.mark hi him
    have hok1:=hok.add hnm hi ha hj
    have hq1:Qv P.A P.n a len j m0 (s.mark i) (m ++ [(i,j)]) none:=.on R hd ho (mark_iff hm) (he.here (Nat.lt_succ_self j)) hok1
    have hf1:P.n < f + (s.mark i).met.length:=by simp [Vst.mark];omega
    have hx:=hP.ok j i hi
    unfold vis
    rw [if_neg (by simp [ho,him])]
    cases e:P.A j i with
    | fit b =>
     refine ⟨m ++ [(i,j)],some (b,c),.inr ⟨rfl,.fit _ _ _ _ b hnm e⟩,?_⟩
     exact .here R (b,c) hd rfl rfl
    | stop => exact ⟨m ++ [(i,j)],none,.inr ⟨rfl,.stop _ _ _ _ hnm e⟩,hq1⟩
    | go x =>
     rw [e] at hx
     obtain ⟨m',r',hdc,hq'⟩:=ih x c _ _ _ hx hc hf1 hv1 hq1
     rcases hdc with ⟨y,h,_⟩ | ⟨_,hdf⟩
     ·cases h
     ·exact ⟨m',r',.inr ⟨rfl,.go _ _ _ _ x _ _ hnm e hdf⟩,hq'⟩
    | cap x b =>
     rw [e] at hx
     obtain ⟨m',r',hdc,hq'⟩:=ih x (c.set b (j:Int)) _ _ _ hx (by simpa using hc) hf1 hv1 hq1
     rcases hdc with ⟨y,h,_⟩ | ⟨_,hdf⟩
     ·cases h
     ·exact ⟨m',r',.inr ⟨rfl,.cap _ _ _ _ x b _ _ hnm e hdf⟩,hq'⟩
    | rune x =>
     rw [e] at hx
     have hne:j ≠ len:=fun h => hlen i x (h ▸ e)
     obtain ⟨m',r',hdf⟩:=df_total hP hlen (P.n * (len - a + 1)) _ hok1 (by omega) x (j + 1) c hx (by omega) (by omega) hc
     obtain ⟨R',hR,hE⟩:=df_cong hdf (Nat.le_refl _) (he.here (i:=i) (Nat.lt_succ_self j))
     refine ⟨m',r',.inr ⟨rfl,.rune _ _ _ _ x _ _ hnm e hdf⟩,?_⟩
     have hone:Da P.A R (ats (j + 1) [(x,c)]) R' r':=by
      cases r' with
      | some y => exact .hit _ _ _ _ _ _ _ hR
      | none => exact .miss _ _ _ _ _ _ _ _ hR (.nil _)
     have hall:Da P.A m0 (ats (j + 1) (s.next ++ [(x,c)])) R' r':=by
      rw [ats_append]
      exact da_miss hd rfl hone
     cases r' with
     | some y => exact .far R' y hall
     | none =>
      refine .on R' hall ho (fun k => ?_) hE (df_ok hP hlen hdf hx (by omega) (by omega) hc hok1).1
      rw [df_keep hdf (k,j) (Nat.lt_succ_self j)]
      exact mark_iff hm k
    | alt x y =>
     rw [e] at hx
     obtain ⟨m1,r1,hdc,hq2⟩:=ih x c _ _ _ hx.1 hc hf1 hv1 hq1
     rcases hdc with ⟨z,h,_⟩ | ⟨_,hdf⟩
     ·cases h
     ·obtain ⟨g,hg⟩:=(vis_grow (A:=P.A j) (j:=j) f x c (s.mark i)).met
      obtain ⟨m2,r2,hdc2,hq3⟩:=ih y c _ m1 r1 hx.2 hc (by rw [hg,List.length_append];omega) (vis_inv (hP.ok j) f x c _ hx.1 hc hv1) hq2
      rcases hdc2 with ⟨z,rfl,rfl,rfl⟩ | ⟨rfl,hdf2⟩
      ·exact ⟨_,_,.inr ⟨rfl,.altx _ _ _ _ x y _ _ hnm e hdf⟩,hq3⟩
      ·exact ⟨_,_,.inr ⟨rfl,.alty _ _ _ _ x y _ _ _ hnm e hdf hdf2⟩,hq3⟩
def Dd (A:Nat → Nat → Ac) (m:List Pt) (r:Fd) (T:List (Nat × Nat × List Int)) (m':List Pt) (r':Fd):Prop:=(∃ y,r = some y ∧ m' = m ∧ r' = r) ∨ (r = none ∧ Da A m T m' r')
theorem vall_q {P:Pr} (hP:P.Ok) {a len j f:Nat} (hlen:∀ i x,P.A len i ≠ .rune x) (ha:a ≤ j) (hj:j ≤ len) {m0:List Pt} (hf:P.n < f):∀ (T:List Th) (s:Vst) (m:List Pt) (r:Fd),(∀ t ∈ T,t.1 < P.n ∧ t.2.length = P.K) → Inv P.n P.K s → Qv P.A P.n a len j m0 s m r →
  ∃ m' r',Dd P.A m r (ats j T) m' r' ∧ Qv P.A P.n a len j m0 (vall (P.A j) j f T s) m' r':=by
 intro T
 induction T with
 | nil =>
  intro s m r _ hv hq
  refine ⟨m,r,?_,hq⟩
  cases r with
  | some y => exact .inl ⟨y,rfl,rfl,rfl⟩
  | none => exact .inr ⟨rfl,.nil _⟩
 | cons t T ih =>
  intro s m r hT hv hq
  have ht:=hT t List.mem_cons_self
  obtain ⟨m1,r1,hd1,hq1⟩:=vis_q hP hlen ha hj f t.1 t.2 s m r ht.1 ht.2 (by omega) hv hq
  obtain ⟨m2,r2,hd2,hq2⟩:=ih _ m1 r1 (fun u hu => hT u (List.mem_cons_of_mem _ hu)) (vis_inv (hP.ok j) f t.1 t.2 s ht.1 ht.2 hv) hq1
  rw [vall_cons]
  refine ⟨m2,r2,?_,hq2⟩
  rcases hd1 with ⟨y,rfl,rfl,rfl⟩ | ⟨rfl,hdf⟩
  ·rcases hd2 with ⟨z,h1,h2,h3⟩ | ⟨h,_⟩
   ·exact .inl ⟨z,h1,h2,h3⟩
   ·cases h
  ·refine .inr ⟨rfl,?_⟩
   rcases hd2 with ⟨y,rfl,rfl,rfl⟩ | ⟨rfl,hda⟩
   ·exact .hit _ _ _ _ _ _ _ hdf
   ·exact .miss _ _ _ _ _ _ _ _ hdf hda
def bgs (P:Pr) (a:Nat) (anch:Bool) (fd:Fd):Nat → Nat → List (Nat × Nat × List Int)
 | 0,_ => []
 | m + 1,j => (if bgB a anch j fd = true then [(P.S,j,List.replicate P.K (-1))] else []) ++ bgs P a anch fd m (j + 1)
theorem bgs_some (P:Pr) (a:Nat) (anch:Bool) (y:Int × List Int):∀ (m j:Nat),a < j → bgs P a anch (some y) m j = []
 | 0,_,_ => rfl
 | m + 1,j,h => by
  have hn:¬ bgB a anch j (some y) = true:=by simp [bgB];omega
  simp only [bgs]
  rw [if_neg hn,bgs_some P a anch y m (j + 1) (by omega)]
  rfl
theorem bgs_from (P:Pr) (a:Nat) (anch:Bool) (fd:Fd):∀ (m j:Nat),∀ t ∈ bgs P a anch fd m j,t.1 = P.S ∧ j ≤ t.2.1 ∧ t.2.1 < j + m ∧ t.2.2 = List.replicate P.K (-1)
 | 0,_ => by simp [bgs]
 | m + 1,j => by
  intro t ht
  simp only [bgs] at ht
  rcases List.mem_append.1 ht with h | h
  ·split at h
   ·simp at h;subst h;exact ⟨rfl,Nat.le_refl _,by show j < _;omega,rfl⟩
   ·simp at h
  ·have:=bgs_from P a anch fd m (j + 1) t h
   exact ⟨this.1,by omega,by omega,this.2.2.2⟩
theorem place_q {P:Pr} (hP:P.Ok) {a len j:Nat} {anch:Bool} (hlen:∀ i x,P.A len i ≠ .rune x) (ha:a ≤ j) (hj:j ≤ len) {m0:List Pt} (hok:OkP P.n a len m0) (h0:∀ p ∈ m0,p.2 < j) {T:List Th} {fd:Fd} (hT:∀ t ∈ T,t.1 < P.n ∧ t.2.length = P.K) (hfd:∀ y,fd = some y → y.2.length = P.K) :
  ∃ m' r',Da P.A m0 (ats j T ++ (if bgB a anch j fd = true then [(P.S,j,List.replicate P.K (-1))] else [])) m' r' ∧ Qv P.A P.n a len j m0 (place P a anch j T fd) m' r':=by
 have hv:=new_inv P.n P.K fd hfd
 have hq:Qv P.A P.n a len j m0 (newV fd) m0 none:=.on m0 (.nil _) rfl (fun i => by
  simp only [newV,List.not_mem_nil,iff_false]
  intro h
  have:=h0 _ h
  simp at this) (fun q hq i => Iff.rfl) hok
 obtain ⟨m1,r1,hd1,hq1⟩:=vall_q hP hlen ha hj (Nat.lt_succ_self P.n) T (newV fd) m0 none hT hv hq
 have hd1':Da P.A m0 (ats j T) m1 r1:=by
  rcases hd1 with ⟨y,h,_⟩ | ⟨_,h⟩
  ·cases h
  ·exact h
 unfold place
 dsimp only
 split
 ·obtain ⟨m2,r2,hd2,hq2⟩:=vis_q hP hlen ha hj (P.n + 1) P.S (List.replicate P.K (-1)) _ m1 r1 hP.S (by simp) (by omega) (vall_inv (hP.ok j) T (newV fd) hT hv) hq1
  refine ⟨m2,r2,?_,hq2⟩
  rcases hd2 with ⟨y,rfl,rfl,rfl⟩ | ⟨rfl,hdf⟩
  ·exact da_hit hd1' rfl _
  ·refine da_miss hd1' rfl ?_
   cases r2 with
   | some y => exact .hit _ _ _ _ _ _ _ hdf
   | none => exact .miss _ _ _ _ _ _ _ _ hdf (.nil _)
 ·refine ⟨m1,r1,?_,hq1⟩
  rw [List.append_nil]
  exact hd1'
theorem vis_end {A:Nat → Ac} {j:Nat} (hA:∀ i x,A i ≠ .rune x):∀ (f i:Nat) (c:List Int) (s:Vst),s.next = [] → (vis A j f i c s).next = []:=by
 intro f
 induction f with
 | zero => intro i c s h;exact h
 | succ f ihf =>
  intro i c s h
  unfold vis
  split
  ·exact h
  ·split
   ·exact ihf _ _ _ (ihf _ _ _ h)
   ·exact ihf _ _ _ h
   ·exact ihf _ _ _ h
   ·rename_i x e;exact absurd e (hA _ _)
   ·exact h
   ·exact h
theorem vall_end {A:Nat → Ac} {j f:Nat} (hA:∀ i x,A i ≠ .rune x):∀ (T:List Th) (s:Vst),s.next = [] → (vall A j f T s).next = []:=by
 intro T
 induction T with
 | nil => intro s h;exact h
 | cons t T ih => intro s h;rw [vall_cons];exact ih _ (vis_end hA _ _ _ _ h)
theorem place_end {P:Pr} {a j:Nat} {anch:Bool} (hlen:∀ i x,P.A j i ≠ .rune x) (T:List Th) (fd:Fd):(place P a anch j T fd).next = []:=by
 unfold place
 dsimp only
 split
 ·exact vis_end hlen _ _ _ _ (vall_end hlen _ _ rfl)
 ·exact vall_end hlen _ _ rfl
theorem itr_q {P:Pr} (hP:P.Ok) {a len:Nat} {anch:Bool} (hlen:∀ i x,P.A len i ≠ .rune x):∀ (m j:Nat) (T:List Th) (fd:Fd) (m0:List Pt),j + m = len + 1 → a ≤ j → (m = 0 → T = []) → OkP P.n a len m0 → (∀ p ∈ m0,p.2 < j) → (∀ t ∈ T,t.1 < P.n ∧ t.2.length = P.K) → (∀ y,fd = some y → y.2.length = P.K) →
  ∃ m' r',Da P.A m0 (ats j T ++ bgs P a anch fd m j) m' r' ∧ (itr P a anch m j T fd).2 = r'.or fd:=by
 intro m
 induction m with
 | zero =>
  intro j T fd m0 hj ha hT0 hok h0 hT hfd
  rw [hT0 rfl]
  exact ⟨m0,none,.nil _,rfl⟩
 | succ m ih =>
  intro j T fd m0 hj ha _ hok h0 hT hfd
  obtain ⟨m1,r1,hd1,hq⟩:=place_q (anch:=anch) hP hlen ha (by omega) hok h0 hT hfd
  have hiv:=place_inv hP (a:=a) (j:=j) (anch:=anch) hT hfd
  have hnx:m = 0 → (place P a anch j T fd).next = []:=fun e => by
   subst e
   obtain rfl:j = len:=by omega
   exact place_end hlen T fd
  obtain ⟨m2,r2,hd2,hr2⟩:=ih (j + 1) (place P a anch j T fd).next (place P a anch j T fd).found m0 (by omega) (by omega) hnx hok (fun p hp => by have:=h0 p hp;omega) hiv.nx hiv.fd
  have hfo:=(place_grow P a j anch T fd).found
  simp only [itr,bgs]
  rw [hr2,← List.append_assoc]
  generalize place P a anch j T fd = s at hq hd2 hfo ⊢
  cases hq with
  | far R y hd =>
   refine ⟨m1,some y,da_hit hd1 rfl _,?_⟩
   obtain ⟨_,rfl⟩:=da_det (da_hit hd rfl _) hd2
   rfl
  | here R y hd ho hf =>
   refine ⟨m1,some y,da_hit hd1 rfl _,?_⟩
   rw [hf,bgs_some P a anch y m (j + 1) (by omega),List.append_nil] at hd2
   obtain ⟨_,rfl⟩:=da_det hd hd2
   rw [hf]
   rfl
  | on R hd ho hm he hok' =>
   have hf:s.found = fd:=(hfo ho).1
   rw [hf] at hd2 ⊢
   rcases da_split _ hd2 with ⟨z,hz,h3⟩ | ⟨m3,h3,h4⟩
   ·have:=(da_det hd h3).2
    rw [hz] at this
    cases this
   ·obtain ⟨rfl,_⟩:=da_det hd h3
    obtain ⟨m5,h5,_⟩:=da_cong (k:=j + 1) h4 (fun t ht => (bgs_from P a anch fd m (j + 1) t ht).2.1) (fun q hq i => (he q hq i).symm)
    exact ⟨m5,r2,da_miss hd1 rfl h5,rfl⟩
theorem lock_da {P:Pr} (hP:P.Ok) {a len:Nat} {anch:Bool} (hlen:∀ i x,P.A len i ≠ .rune x) (ha:a ≤ len) {m':List Pt} {r:Fd} (h:Da P.A [] (bgs P a anch none (len - a + 1) a) m' r):(lockRun P len a anch).1 = r:=by
 obtain ⟨m2,r2,hd,hr⟩:=itr_q (anch:=anch) hP hlen (len - a + 1) a [] none [] (by omega) (Nat.le_refl _) (fun _ => rfl) (OkP.nil _ _ _) (by simp) (by simp) (by simp)
 obtain ⟨_,rfl⟩:=da_det h hd
 unfold lockRun
 rw [lock_itr P a anch _ _ _ _ _ (Nat.le_refl _),hr]
 cases r <;> rfl
inductive Tk where
 | go (i j:Nat)
 | un (a:Nat) (o:Int)
def nx (A:Nat → Nat → Ac) (i j:Nat) (c:List Int):List Tk × List Int:=
 match A j i with
 | .alt x y => ([.go x j,.go y j],c)
 | .go x => ([.go x j],c)
 | .cap x a => ([.go x j,.un a (c.getD a 0)],c.set a (j:Int))
 | .rune x => ([.go x (j + 1)],c)
 | .fit _ => ([],c)
 | .stop => ([],c)
inductive Ev (A:Nat → Nat → Ac):Nat → List Tk → List Pt → List Int → Fd → List Pt → Prop
 | nil (m:List Pt) (c:List Int):Ev A 0 [] m c none m
 | un (n a:Nat) (o:Int) (st:List Tk) (m:List Pt) (c:List Int) (r:Fd) (m':List Pt):Ev A n st m (c.set a o) r m' → Ev A (n + 1) (.un a o :: st) m c r m'
 | old (n i j:Nat) (st:List Tk) (m:List Pt) (c:List Int) (r:Fd) (m':List Pt):(i,j) ∈ m → Ev A n st m c r m' → Ev A (n + 1) (.go i j :: st) m c r m'
 | fit (i j:Nat) (st:List Tk) (m:List Pt) (c:List Int) (a:Int):(i,j) ∉ m → A j i = .fit a → Ev A 0 (.go i j :: st) m c (some (a,c)) (m ++ [(i,j)])
 | step (n i j:Nat) (st:List Tk) (m:List Pt) (c:List Int) (r:Fd) (m':List Pt):(i,j) ∉ m → (∀ a,A j i ≠ .fit a) → Ev A n ((nx A i j c).1 ++ st) (m ++ [(i,j)]) (nx A i j c).2 r m' → Ev A (n + 1) (.go i j :: st) m c r m'
theorem set_old (c:List Int) (a:Nat) (v:Int):(c.set a v).set a (c.getD a 0) = c:=by
 rw [List.set_set]
 by_cases h:a < c.length
 ·simp [List.getD_eq_getElem?_getD,List.getElem?_eq_getElem h]
 ·rw [List.set_eq_of_length_le (by omega)]
theorem df_ev {A:Nat → Nat → Ac} {m:List Pt} {i j:Nat} {c:List Int} {m':List Pt} {r:Fd} (h:Df A m i j c m' r):∀ st,(∀ y,r = some y → ∃ n,Ev A n (.go i j :: st) m c (some y) m') ∧ (r = none → ∀ k r2 m2,Ev A k st m' c r2 m2 → ∃ n,Ev A n (.go i j :: st) m c r2 m2):=by
 induction h with
 | old m i j c hm => intro st;exact ⟨fun y h => (by cases h),fun _ k r2 m2 h => ⟨_,.old _ _ _ _ _ _ _ _ hm h⟩⟩
 | fit m i j c a hm e => intro st;exact ⟨fun y h => (by cases h;exact ⟨_,.fit _ _ _ _ _ _ hm e⟩),fun h => (by cases h)⟩
 | stop m i j c hm e =>
  intro st
  refine ⟨fun y h => (by cases h),fun _ k r2 m2 h => ⟨_,.step k _ _ _ _ _ _ _ hm (by simp [e]) ?_⟩⟩
  simp only [nx,e];exact h
 | go m i j c x m' r hm e hd ih =>
  intro st
  obtain ⟨h1,h2⟩:=ih st
  refine ⟨fun y h => ?_,fun h k r2 m2 hk => ?_⟩
  ·obtain ⟨n,hn⟩:=h1 y h
   exact ⟨_,.step n _ _ _ _ _ _ _ hm (by simp [e]) (by simp only [nx,e];exact hn)⟩
  ·obtain ⟨n,hn⟩:=h2 h k r2 m2 hk
   exact ⟨_,.step n _ _ _ _ _ _ _ hm (by simp [e]) (by simp only [nx,e];exact hn)⟩
 | cap m i j c x a m' r hm e hd ih =>
  intro st
  obtain ⟨h1,h2⟩:=ih (.un a (c.getD a 0) :: st)
  refine ⟨fun y h => ?_,fun h k r2 m2 hk => ?_⟩
  ·obtain ⟨n,hn⟩:=h1 y h
   exact ⟨_,.step n _ _ _ _ _ _ _ hm (by simp [e]) (by simp only [nx,e];exact hn)⟩
  ·obtain ⟨n,hn⟩:=h2 h (k + 1) r2 m2 (.un _ _ _ _ _ _ _ _ (by rw [set_old];exact hk))
   exact ⟨_,.step n _ _ _ _ _ _ _ hm (by simp [e]) (by simp only [nx,e];exact hn)⟩
 | rune m i j c x m' r hm e hd ih =>
  intro st
  obtain ⟨h1,h2⟩:=ih st
  refine ⟨fun y h => ?_,fun h k r2 m2 hk => ?_⟩
  ·obtain ⟨n,hn⟩:=h1 y h
   exact ⟨_,.step n _ _ _ _ _ _ _ hm (by simp [e]) (by simp only [nx,e];exact hn)⟩
  ·obtain ⟨n,hn⟩:=h2 h k r2 m2 hk
   exact ⟨_,.step n _ _ _ _ _ _ _ hm (by simp [e]) (by simp only [nx,e];exact hn)⟩
 | altx m i j c x y m' z hm e hd ih =>
  intro st
  obtain ⟨h1,_⟩:=ih (.go y j :: st)
  refine ⟨fun y h => ?_,fun h => by cases h⟩
  obtain ⟨n,hn⟩:=h1 y h
  exact ⟨_,.step n _ _ _ _ _ _ _ hm (by simp [e]) (by simp only [nx,e];exact hn)⟩
 | alty m i j c x y m1 m' r hm e hd hd2 ih ih2 =>
  intro st
  obtain ⟨_,h2⟩:=ih (.go y j :: st)
  obtain ⟨g1,g2⟩:=ih2 st
  refine ⟨fun z h => ?_,fun h k r2 m2 hk => ?_⟩
  ·obtain ⟨n,hn⟩:=g1 z h
   obtain ⟨n2,hn2⟩:=h2 rfl _ _ _ hn
   exact ⟨_,.step n2 _ _ _ _ _ _ _ hm (by simp [e]) (by simp only [nx,e];exact hn2)⟩
  ·obtain ⟨n,hn⟩:=g2 h k r2 m2 hk
   obtain ⟨n2,hn2⟩:=h2 rfl _ _ _ hn
   exact ⟨_,.step n2 _ _ _ _ _ _ _ hm (by simp [e]) (by simp only [nx,e];exact hn2)⟩
theorem df_ev1 {A:Nat → Nat → Ac} {m:List Pt} {i j:Nat} {c:List Int} {m':List Pt} {r:Fd} (h:Df A m i j c m' r):∃ n,Ev A n [.go i j] m c r m':=by
 obtain ⟨h1,h2⟩:=df_ev h []
 cases r with
 | some y => exact h1 y rfl
 | none => exact h2 rfl _ _ _ (.nil _ _)
def base:List Tk → List Int → List Int
 | [],c => c
 | .un a o :: st,c => base st (c.set a o)
 | .go _ _ :: st,c => base st c
def Tk.ok (n a len K:Nat):Tk → Prop
 | .go i j => i < n ∧ a ≤ j ∧ j ≤ len
 | .un b o => b < K ∧ -1 ≤ o ∧ o ≤ (len:Int)
def okCZ (len:Nat) (c:List Int):Prop:=∀ v ∈ c,-1 ≤ v ∧ v ≤ (len:Int)
theorem okCZ.set {len:Nat} {c:List Int} (h:okCZ len c) (a:Nat) {v:Int} (hv:-1 ≤ v ∧ v ≤ (len:Int)):okCZ len (c.set a v):=fun u hu => by
 rcases List.mem_or_eq_of_mem_set hu with h1 | rfl
 ·exact h u h1
 ·exact hv
theorem okCZ.get {len:Nat} {c:List Int} (h:okCZ len c) (a:Nat):-1 ≤ c.getD a 0 ∧ c.getD a 0 ≤ (len:Int):=by
 by_cases ha:a < c.length
 ·rw [List.getD_eq_getElem?_getD,List.getElem?_eq_getElem ha]
  exact h _ (List.getElem_mem ha)
 ·rw [List.getD_eq_getElem?_getD,List.getElem?_eq_none (by omega)]
  simp
theorem okCZ.rep (len K:Nat):okCZ len (List.replicate K (-1)):=fun v hv => by
 have:=List.eq_of_mem_replicate hv
 omega
end Go.Proofs.YtacaanhnlfpbhaaGreat
namespace Go.Lk
open Go.RowKit
set_option linter.unusedVariables false
set_option linter.unusedSimpArgs false
theorem wrap_i64 (n:Int):IntKind.i64.wrap n = if 9223372036854775808 ≤ n % 18446744073709551616 then n % 18446744073709551616 - 18446744073709551616 else n % 18446744073709551616:=by
 simp [IntKind.wrap,IntKind.bits,IntKind.signed]
def holdsB (x y:Int):Bool:=bits .andNot .i64 x y == 0
end Go.Lk
namespace Go.Proofs.YtacaanhnlfpbhaaGreat
open Go.RowKit Go.Lk
set_option linter.unusedVariables false
set_option linter.unusedSimpArgs false
theorem wrap_ok (x:Int) (h:-9223372036854775808 ≤ x) (h2:x < 9223372036854775808):IntKind.i64.wrap x = x:=by simp [IntKind.wrap,IntKind.bits,IntKind.signed];omega
theorem may_ok {l:List In} {s k:Int} (h:mayB l s k = true):l.length ≤ 20000 ∧ 0 ≤ s ∧ s < l.length ∧ 2 ≤ k ∧ k ≤ 1002 ∧ ∀ I ∈ l,I.okB l.length k = true:=by
 simp only [mayB,belowB,capsB,Bool.and_eq_true,decide_eq_true_eq,List.all_eq_true] at h
 exact ⟨h.1.1.1,h.1.1.2.1,h.1.1.2.2,h.1.2.1.1,h.1.2.1.2,h.2⟩
theorem ok_op {I:In} {n k:Int} (h:I.okB n k = true):(I.op = 1 ∨ I.op = 2 ∨ I.op = 3 ∨ I.op = 4 ∨ I.op = 5 ∨ I.op = 6 ∨ I.op = 7):=by
 simp only [In.okB,Bool.and_eq_true] at h
 have h3:=h.1.2
 unfold isArgB at h3
 split at h3
 ·rename_i e;simp at e;omega
 ·split at h3
  ·rename_i e;simp at e;omega
  ·split at h3
   ·rename_i e;simp at e;omega
   ·split at h3
    ·rename_i e;simp at e;omega
    ·cases h3
def actI (tx:List Int) (I:In) (j:Nat):Ac:=
 if I.op = 2 then .alt I.x.toNat I.y.toNat
 else if I.op = 7 then .go I.x.toNat
 else if I.op = 3 then .cap I.x.toNat I.a.toNat
 else if I.op = 4 then (if holdsB I.a (atP tx j) = true then .go I.x.toNat else .stop)
 else if I.op = 1 then (if (decide (j < tx.length) && hsB I.R (tx.getD j 0)) = true then .rune I.x.toNat else .stop)
 else if I.op = 5 then .fit I.a
 else .stop
def act (l:List In) (tx:List Int) (j i:Nat):Ac:=actI tx (l.getD i default) j
def prOf (l:List In) (tx:List Int) (S K:Nat):Pr:=⟨act l tx,l.length,S,K⟩
theorem ok_x {I:In} {n k:Int} (h:I.okB n k = true) (hx:hasXB I.op = true):0 ≤ I.x ∧ I.x < n:=by
 simp only [In.okB,Bool.and_eq_true,isTargetB,hx,if_true,belowB,decide_eq_true_eq] at h
 exact h.1.1.1
theorem ok_y {I:In} {n k:Int} (h:I.okB n k = true) (hy:hasYB I.op = true):0 ≤ I.y ∧ I.y < n:=by
 simp only [In.okB,Bool.and_eq_true,isTargetB,hy,if_true,belowB,decide_eq_true_eq] at h
 exact h.1.1.2
theorem ok_a {I:In} {n k:Int} (h:I.okB n k = true) (ho:I.op = 3):0 ≤ I.a ∧ I.a < k:=by
 simp only [In.okB,Bool.and_eq_true,isArgB,ho] at h
 have:=h.1.2
 simp [belowB] at this
 exact this
theorem ok_R {I:In} {n k:Int} (h:I.okB n k = true) (ho:I.op = 1):rightB I.R = true:=by
 simp only [In.okB,Bool.and_eq_true,isRangesB,ho] at h
 have:=h.2
 simp at this
 exact this.2
theorem actI_ok {tx:List Int} {I:In} {n:Nat} {k:Int} {j:Nat} (h:I.okB n k = true):(actI tx I j).ok n:=by
 unfold actI
 split
 ·rename_i e
  have h1:=ok_x h (by rw [e];rfl)
  have h2:=ok_y h (by rw [e];rfl)
  exact ⟨by omega,by omega⟩
 ·split
  ·rename_i e
   have h1:=ok_x h (by rw [e];rfl)
   show _ < _
   omega
  ·split
   ·rename_i e
    have h1:=ok_x h (by rw [e];rfl)
    show _ < _
    omega
   ·split
    ·rename_i e
     split
     ·have h1:=ok_x h (by rw [e];rfl)
      show _ < _
      omega
     ·trivial
    ·split
     ·rename_i e
      split
      ·have h1:=ok_x h (by rw [e];rfl)
       show _ < _
       omega
      ·trivial
     ·split <;> trivial
theorem getD_in' {l:List In} {i:Nat} (hi:i < l.length):l.getD i default = l[i]:=by simp [List.getD_eq_getElem?_getD,List.getElem?_eq_getElem hi]
theorem act_ok {l:List In} {tx:List Int} {s k:Int} (h:mayB l s k = true) (j i:Nat) (hi:i < l.length):(act l tx j i).ok l.length:=by
 unfold act
 rw [getD_in' hi]
 exact actI_ok ((may_ok h).2.2.2.2.2 _ (List.getElem_mem hi))
theorem pr_ok {l:List In} {tx:List Int} {S K:Nat} (h:mayB l (S:Int) (K:Int) = true):(prOf l tx S K).Ok:=by
 have hm:=may_ok h
 exact ⟨fun j i hi => act_ok h j i hi,by show S < l.length;omega⟩
theorem act_end (l:List In) (tx:List Int) (i x:Nat):act l tx tx.length i ≠ .rune x:=by
 unfold act actI
 intro h
 split at h
 ·cases h
 ·split at h
  ·cases h
  ·split at h
   ·cases h
   ·split at h
    ·split at h <;> cases h
    ·split at h
     ·simp at h
     ·split at h <;> cases h
end Go.Proofs.YtacaanhnlfpbhaaGreat
namespace Go.Proofs.YtacaanhnlfpbhaaGreat
open Go.RowKit
set_option linter.unusedVariables false
set_option linter.unusedSimpArgs false
theorem u64_in (n:Nat) (h:n < 2 ^ 64):IntKind.u64.wrap (n:Int) = (n:Int):=by
 simp [IntKind.wrap,IntKind.bits,IntKind.signed]
 omega
theorem u64_in' (n:Int) (h0:0 ≤ n) (h:n < 2 ^ 64):IntKind.u64.wrap n = n:=by
 simp [IntKind.wrap,IntKind.bits,IntKind.signed]
 omega
theorem pow_lt (i:Nat):2 ^ (i % 64) < 2 ^ 64:=Nat.pow_lt_pow_right (by decide) (Nat.mod_lt _ (by decide))
abbrev U64 (M:List Nat):List Value:=M.map (fun (x:Nat) => Value.int .u64 (x:Int))
theorem getD_in (M:List Nat) {j:Nat} (hj:j < M.length):M.getD j 0 = M[j]:=by simp [List.getD,hj]
theorem and_pow (a k:Nat):a &&& 2 ^ k = if a.testBit k then 2 ^ k else 0:=by
 apply Nat.eq_of_testBit_eq
 intro j
 rw [Nat.testBit_and,Nat.testBit_two_pow]
 by_cases hj:k = j
 ·subst hj
  by_cases h:a.testBit k = true
  ·simp [h,Nat.testBit_two_pow]
  ·simp [h]
 ·by_cases h:a.testBit k = true
  ·simp [h,Nat.testBit_two_pow,hj]
  ·simp [h,hj]
theorem info68:(Tryz.prog.info? 233).map (fun i => (i.zero,i.size,i.bytes)) = some (some (.int .u64 0),1,8):=by kernel_rfl
end Go.Proofs.YtacaanhnlfpbhaaGreat
namespace Go.Proofs.YtacaanhnlfpbhaaGreat
open Go.RowKit Go.Lk
set_option linter.unusedVariables false
set_option linter.unusedSimpArgs false
structure Mv where
 ad:Option Addr
 n:Nat
 c:Nat
 S:Nat
 K:Nat
 tad:Option Addr
 tn:Nat
 tc:Nat
 j:Nat
 sb:Nat
 bits:Int
 z1:Option Addr
 n1:Nat
 c1:Nat
 k1:Nat
 z2:Option Addr
 n2:Nat
 c2:Nat
 k2:Nat
 ub:Nat
 uc:Nat
 fok:Bool
 f1:Option Addr
 f2:Nat
 f3:Nat
 fw:Int
 fs:Nat
end Go.Proofs.YtacaanhnlfpbhaaGreat
