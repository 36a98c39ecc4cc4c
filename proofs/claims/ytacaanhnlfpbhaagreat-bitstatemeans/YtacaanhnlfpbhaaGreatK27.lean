/- HELPERS: texts of ours put together. -/
namespace Go.Proofs.YtacaanhnlfpbhaaGreat
set_option linter.unusedVariables false
set_option linter.unusedSimpArgs false
inductive Ac where
 | alt (x y:Nat)
 | go (x:Nat)
 | cap (x a:Nat)
 | rune (x:Nat)
 | fit (a:Int)
 | stop
abbrev Th:=Nat × List Int
abbrev Fd:=Option (Int × List Int)
structure Vst where
 met:List Nat
 next:List Th
 found:Fd
 over:Bool
def Vst.mark (s:Vst) (i:Nat):Vst:={ s with met:=s.met ++ [i] }
def vis (A:Nat → Ac) (j:Nat):Nat → Nat → List Int → Vst → Vst
 | 0,_,_,s => s
 | f + 1,i,c,s =>
  if (s.over || s.met.contains i) = true then s else
  match A i with
  | .alt x y => vis A j f y c (vis A j f x c (s.mark i))
  | .go x => vis A j f x c (s.mark i)
  | .cap x a => vis A j f x (c.set a (j:Int)) (s.mark i)
  | .rune x => { s.mark i with next:=s.next ++ [(x,c)] }
  | .fit a => { s.mark i with found:=some (a,c),over:=true }
  | .stop => s.mark i
def vall (A:Nat → Ac) (j f:Nat) (T:List Th) (s:Vst):Vst:=T.foldl (fun s t => vis A j f t.1 t.2 s) s
def newV (fd:Fd):Vst:=⟨[],[],fd,false⟩
structure Pr where
 A:Nat → Nat → Ac
 n:Nat
 S:Nat
 K:Nat
def bgB (a:Nat) (anch:Bool) (j:Nat) (fd:Fd):Bool:=decide (j = a) || (!anch && fd.isNone)
def place (P:Pr) (a:Nat) (anch:Bool) (j:Nat) (T:List Th) (fd:Fd):Vst:=
 let s:=vall (P.A j) j (P.n + 1) T (newV fd)
 if bgB a anch j fd = true then vis (P.A j) j (P.n + 1) P.S (List.replicate P.K (-1)) s else s
def lock (P:Pr) (a:Nat) (anch:Bool):Nat → Nat → List Th → Fd → Nat → Fd × Nat
 | 0,_,_,fd,st => (fd,st)
 | m + 1,j,T,fd,st =>
  let s:=place P a anch j T fd
  if (decide (m = 0) || (s.next.isEmpty && (s.found.isSome || anch))) = true then (s.found,st + s.met.length)
  else lock P a anch m (j + 1) s.next s.found (st + s.met.length)
def itr (P:Pr) (a:Nat) (anch:Bool):Nat → Nat → List Th → Fd → List Th × Fd
 | 0,_,T,fd => (T,fd)
 | m + 1,j,T,fd => itr P a anch m (j + 1) (place P a anch j T fd).next (place P a anch j T fd).found
theorem vis_over {A:Nat → Ac} {j f i:Nat} {c:List Int} {s:Vst} (h:s.over = true):vis A j f i c s = s:=by
 cases f with
 | zero => rfl
 | succ f => simp [vis,h]
theorem vall_cons (A:Nat → Ac) (j f:Nat) (t:Th) (T:List Th) (s:Vst):vall A j f (t :: T) s = vall A j f T (vis A j f t.1 t.2 s):=rfl
def Ac.ok (n:Nat):Ac → Prop
 | .alt x y => x < n ∧ y < n
 | .go x => x < n
 | .cap x _ => x < n
 | .rune x => x < n
 | .fit _ => True
 | .stop => True
structure Inv (n K:Nat) (s:Vst):Prop where
 nd:s.met.Nodup
 lt:∀ k ∈ s.met,k < n
 nx:∀ t ∈ s.next,t.1 < n ∧ t.2.length = K
 le:s.next.length ≤ s.met.length
 fd:∀ y,s.found = some y → y.2.length = K
theorem nodup_le {n:Nat} {l:List Nat} (h:l.Nodup) (hl:∀ k ∈ l,k < n):l.length ≤ n:=by
 induction n generalizing l with
 | zero =>
  cases l with
  | nil => simp
  | cons a l => exact absurd (hl a List.mem_cons_self) (by omega)
 | succ n ih =>
  have h1:=ih (l:=l.erase n) (h.erase n) (fun k hk => by
   have h2:=(List.Nodup.mem_erase_iff h).1 hk
   have:=hl k h2.2
   have:=h2.1
   omega)
  have:=List.length_erase (a:=n) (l:=l)
  split at this <;> omega
theorem Inv.small {n K:Nat} {s:Vst} (h:Inv n K s):s.met.length ≤ n:=nodup_le h.nd h.lt
theorem Inv.mark {n K:Nat} {s:Vst} (h:Inv n K s) {i:Nat} (hi:i < n) (hm:i ∉ s.met):Inv n K (s.mark i):=by
 refine ⟨?_,fun k hk => ?_,h.nx,?_,h.fd⟩
 ·simp only [Vst.mark]
  rw [List.nodup_append]
  refine ⟨h.nd,by simp,fun a ha b hb => ?_⟩
  simp at hb
  subst hb
  exact fun e => hm (e ▸ ha)
 ·simp only [Vst.mark,List.mem_append,List.mem_singleton] at hk
  rcases hk with hk | rfl
  ·exact h.lt k hk
  ·exact hi
 ·have:=h.le
  simp only [Vst.mark,List.length_append,List.length_singleton]
  omega
theorem new_inv (n K:Nat) (fd:Fd) (hfd:∀ y,fd = some y → y.2.length = K):Inv n K (newV fd):=⟨by simp [newV],by simp [newV],by simp [newV],by simp [newV],hfd⟩
theorem not_met {s:Vst} {i:Nat} (h:¬ (s.over || s.met.contains i) = true):s.over = false ∧ i ∉ s.met:=by
 simp at h
 exact h
theorem vis_inv {A:Nat → Ac} {j n K:Nat} (hA:∀ i,i < n → (A i).ok n):∀ (f i:Nat) (c:List Int) (s:Vst),i < n → c.length = K → Inv n K s → Inv n K (vis A j f i c s):=by
 intro f
 induction f with
 | zero => intro i c s _ _ h;exact h
 | succ f ih =>
  intro i c s hi hc h
  unfold vis
  split
  ·exact h
  ·rename_i hm
   obtain ⟨ho,hm⟩:=not_met hm
   have h1:=h.mark hi hm
   have hok:=hA i hi
   split
   ·rename_i x y e
    rw [e] at hok
    exact ih _ _ _ hok.2 hc (ih _ _ _ hok.1 hc h1)
   ·rename_i x e
    rw [e] at hok
    exact ih _ _ _ hok hc h1
   ·rename_i x a e
    rw [e] at hok
    exact ih _ _ _ hok (by simpa using hc) h1
   ·rename_i x e
    rw [e] at hok
    refine ⟨h1.nd,h1.lt,fun t ht => ?_,?_,h1.fd⟩
    ·simp only [List.mem_append,List.mem_singleton] at ht
     rcases ht with ht | rfl
     ·exact h.nx t ht
     ·exact ⟨hok,hc⟩
    ·have:=h.le
     simp only [Vst.mark,List.length_append,List.length_singleton]
     omega
   ·refine ⟨h1.nd,h1.lt,h1.nx,h1.le,fun y hy => ?_⟩
    simp only [Option.some.injEq] at hy
    subst hy
    exact hc
   ·exact h1
theorem vall_inv {A:Nat → Ac} {j n K f:Nat} (hA:∀ i,i < n → (A i).ok n):∀ (T:List Th) (s:Vst),(∀ t ∈ T,t.1 < n ∧ t.2.length = K) → Inv n K s → Inv n K (vall A j f T s):=by
 intro T
 induction T with
 | nil => intro s _ h;exact h
 | cons t T ih =>
  intro s hT h
  rw [vall_cons]
  exact ih _ (fun u hu => hT u (List.mem_cons_of_mem _ hu)) (vis_inv hA f t.1 t.2 s (hT t List.mem_cons_self).1 (hT t List.mem_cons_self).2 h)
structure Pr.Ok (P:Pr):Prop where
 ok:∀ j i,i < P.n → (P.A j i).ok P.n
 S:P.S < P.n
theorem place_inv {P:Pr} (hP:P.Ok) {a j:Nat} {anch:Bool} {T:List Th} {fd:Fd} (hT:∀ t ∈ T,t.1 < P.n ∧ t.2.length = P.K) (hfd:∀ y,fd = some y → y.2.length = P.K):Inv P.n P.K (place P a anch j T fd):=by
 have h:=vall_inv (j:=j) (f:=P.n + 1) (hP.ok j) T (newV fd) hT (new_inv P.n P.K fd hfd)
 unfold place
 dsimp only
 split
 ·exact vis_inv (hP.ok j) _ _ _ _ hP.S (by simp) h
 ·exact h
structure Grow (s t:Vst):Prop where
 met:∃ m,t.met = s.met ++ m
 next:∃ x,t.next = s.next ++ x
 found:t.over = false → t.found = s.found ∧ s.over = false
 some:s.found.isSome = true → t.found.isSome = true
theorem Grow.refl (s:Vst):Grow s s:=⟨⟨[],by simp⟩,⟨[],by simp⟩,fun h => ⟨rfl,h⟩,id⟩
theorem Grow.trans {s t u:Vst} (h:Grow s t) (k:Grow t u):Grow s u:=by
 obtain ⟨m,hm⟩:=h.met
 obtain ⟨m2,hm2⟩:=k.met
 obtain ⟨x,hx⟩:=h.next
 obtain ⟨x2,hx2⟩:=k.next
 refine ⟨⟨m ++ m2,by rw [hm2,hm,List.append_assoc]⟩,⟨x ++ x2,by rw [hx2,hx,List.append_assoc]⟩,fun ho => ?_,fun hs => k.some (h.some hs)⟩
 obtain ⟨h1,h2⟩:=k.found ho
 obtain ⟨h3,h4⟩:=h.found h2
 exact ⟨h1.trans h3,h4⟩
theorem Grow.mark (s:Vst) (i:Nat):Grow s (s.mark i):=⟨⟨[i],rfl⟩,⟨[],by simp [Vst.mark]⟩,fun h => ⟨rfl,h⟩,id⟩
theorem vis_grow {A:Nat → Ac} {j:Nat}:∀ (f i:Nat) (c:List Int) (s:Vst),Grow s (vis A j f i c s):=by
 intro f
 induction f with
 | zero => intro i c s;exact Grow.refl s
 | succ f ih =>
  intro i c s
  unfold vis
  split
  ·exact Grow.refl s
  ·rename_i hm
   obtain ⟨ho,hm⟩:=not_met hm
   have h1:=Grow.mark s i
   split
   ·exact h1.trans ((ih _ _ _).trans (ih _ _ _))
   ·exact h1.trans (ih _ _ _)
   ·exact h1.trans (ih _ _ _)
   ·exact ⟨⟨[i],rfl⟩,⟨[_],rfl⟩,fun h => ⟨rfl,h⟩,id⟩
   ·exact ⟨⟨[i],rfl⟩,⟨[],by simp [Vst.mark]⟩,fun h => by simp at h,fun _ => rfl⟩
   ·exact h1
theorem vall_grow {A:Nat → Ac} {j f:Nat}:∀ (T:List Th) (s:Vst),Grow s (vall A j f T s):=by
 intro T
 induction T with
 | nil => intro s;exact Grow.refl s
 | cons t T ih => intro s;rw [vall_cons];exact (vis_grow f t.1 t.2 s).trans (ih _)
theorem place_grow (P:Pr) (a j:Nat) (anch:Bool) (T:List Th) (fd:Fd):Grow (newV fd) (place P a anch j T fd):=by
 unfold place
 dsimp only
 split
 ·exact (vall_grow T _).trans (vis_grow _ _ _ _)
 ·exact vall_grow T _
theorem place_nil {P:Pr} {a j:Nat} {anch:Bool} {fd:Fd} (hj:j ≠ a) (h:(fd.isSome || anch) = true):place P a anch j [] fd = newV fd:=by
 have:bgB a anch j fd = false:=by
  cases fd <;> simp_all [bgB]
 unfold place
 rw [this]
 rfl
theorem itr_nil {P:Pr} {a:Nat} {anch:Bool} {fd:Fd} (h:(fd.isSome || anch) = true):∀ (m j:Nat),a < j → (itr P a anch m j [] fd).2 = fd:=by
 intro m
 induction m with
 | zero => intro j _;rfl
 | succ m ih =>
  intro j hj
  simp only [itr]
  rw [place_nil (by omega) h]
  exact ih (j + 1) (by omega)
theorem lock_itr (P:Pr) (a:Nat) (anch:Bool):∀ (m j:Nat) (T:List Th) (fd:Fd) (st:Nat),a ≤ j → (lock P a anch m j T fd st).1 = (itr P a anch m j T fd).2:=by
 intro m
 induction m with
 | zero => intro j T fd st _;rfl
 | succ m ih =>
  intro j T fd st hj
  simp only [lock,itr]
  split
  ·rename_i h
   simp only [Bool.or_eq_true,Bool.and_eq_true,decide_eq_true_eq] at h
   rcases h with rfl | ⟨h1,h2⟩
   ·rfl
   ·rw [List.isEmpty_iff.1 h1,itr_nil (by simpa using h2) m (j + 1) (by omega)]
  ·exact ih _ _ _ _ (by omega)
def lockRun (P:Pr) (len a:Nat) (anch:Bool):Fd × Nat:=lock P a anch (len - a + 1) a [] none 0
abbrev Pt:=Nat × Nat
inductive Df (A:Nat → Nat → Ac):List Pt → Nat → Nat → List Int → List Pt → Fd → Prop
 | old (m:List Pt) (i j:Nat) (c:List Int):(i,j) ∈ m → Df A m i j c m none
 | fit (m:List Pt) (i j:Nat) (c:List Int) (a:Int):(i,j) ∉ m → A j i = .fit a → Df A m i j c (m ++ [(i,j)]) (some (a,c))
 | stop (m:List Pt) (i j:Nat) (c:List Int):(i,j) ∉ m → A j i = .stop → Df A m i j c (m ++ [(i,j)]) none
 | go (m:List Pt) (i j:Nat) (c:List Int) (x:Nat) (m':List Pt) (r:Fd):(i,j) ∉ m → A j i = .go x → Df A (m ++ [(i,j)]) x j c m' r → Df A m i j c m' r
 | cap (m:List Pt) (i j:Nat) (c:List Int) (x a:Nat) (m':List Pt) (r:Fd):(i,j) ∉ m → A j i = .cap x a → Df A (m ++ [(i,j)]) x j (c.set a (j:Int)) m' r → Df A m i j c m' r
 | rune (m:List Pt) (i j:Nat) (c:List Int) (x:Nat) (m':List Pt) (r:Fd):(i,j) ∉ m → A j i = .rune x → Df A (m ++ [(i,j)]) x (j + 1) c m' r → Df A m i j c m' r
 | altx (m:List Pt) (i j:Nat) (c:List Int) (x y:Nat) (m':List Pt) (z:Int × List Int):(i,j) ∉ m → A j i = .alt x y → Df A (m ++ [(i,j)]) x j c m' (some z) → Df A m i j c m' (some z)
 | alty (m:List Pt) (i j:Nat) (c:List Int) (x y:Nat) (m1 m':List Pt) (r:Fd):(i,j) ∉ m → A j i = .alt x y → Df A (m ++ [(i,j)]) x j c m1 none → Df A m1 y j c m' r → Df A m i j c m' r
theorem df_det {A:Nat → Nat → Ac} {m:List Pt} {i j:Nat} {c:List Int} {m':List Pt} {r:Fd} (h:Df A m i j c m' r):∀ {m2:List Pt} {r2:Fd},Df A m i j c m2 r2 → m' = m2 ∧ r = r2:=by
 induction h with
 | old m i j c hm =>
  intro m2 r2 h2
  cases h2 with
  | old _ _ _ _ h3 => exact ⟨rfl,rfl⟩
  | fit _ _ _ _ a h3 e2 => exact absurd hm h3
  | stop _ _ _ _ h3 e2 => exact absurd hm h3
  | go _ _ _ _ x2 _ _ h3 e2 h4 => exact absurd hm h3
  | cap _ _ _ _ x2 a _ _ h3 e2 h4 => exact absurd hm h3
  | rune _ _ _ _ x2 _ _ h3 e2 h4 => exact absurd hm h3
  | altx _ _ _ _ x2 y _ _ h3 e2 h4 => exact absurd hm h3
  | alty _ _ _ _ x2 y _ _ _ h3 e2 h4 h5 => exact absurd hm h3
 | fit m i j c a hm e =>
  intro m2 r2 h2
  cases h2 <;> simp_all
 | stop m i j c hm e =>
  intro m2 r2 h2
  cases h2 <;> simp_all
 | go m i j c x m' r hm e hd ih =>
  intro m2 r2 h2
  cases h2 with
  | old _ _ _ _ h3 => exact absurd h3 hm
  | fit _ _ _ _ a h3 e2 => rw [e] at e2;cases e2
  | stop _ _ _ _ h3 e2 => rw [e] at e2;cases e2
  | go _ _ _ _ x2 _ _ h3 e2 h4 => rw [e] at e2;cases e2;exact ih h4
  | cap _ _ _ _ x2 a _ _ h3 e2 h4 => rw [e] at e2;cases e2
  | rune _ _ _ _ x2 _ _ h3 e2 h4 => rw [e] at e2;cases e2
  | altx _ _ _ _ x2 y _ _ h3 e2 h4 => rw [e] at e2;cases e2
  | alty _ _ _ _ x2 y _ _ _ h3 e2 h4 h5 => rw [e] at e2;cases e2
 | cap m i j c x a m' r hm e hd ih =>
  intro m2 r2 h2
  cases h2 with
  | old _ _ _ _ h3 => exact absurd h3 hm
  | fit _ _ _ _ a h3 e2 => rw [e] at e2;cases e2
  | stop _ _ _ _ h3 e2 => rw [e] at e2;cases e2
  | go _ _ _ _ x2 _ _ h3 e2 h4 => rw [e] at e2;cases e2
  | cap _ _ _ _ x2 a _ _ h3 e2 h4 => rw [e] at e2;cases e2;exact ih h4
  | rune _ _ _ _ x2 _ _ h3 e2 h4 => rw [e] at e2;cases e2
  | altx _ _ _ _ x2 y _ _ h3 e2 h4 => rw [e] at e2;cases e2
  | alty _ _ _ _ x2 y _ _ _ h3 e2 h4 h5 => rw [e] at e2;cases e2
 | rune m i j c x m' r hm e hd ih =>
  intro m2 r2 h2
  cases h2 with
  | old _ _ _ _ h3 => exact absurd h3 hm
  | fit _ _ _ _ a h3 e2 => rw [e] at e2;cases e2
  | stop _ _ _ _ h3 e2 => rw [e] at e2;cases e2
  | go _ _ _ _ x2 _ _ h3 e2 h4 => rw [e] at e2;cases e2
  | cap _ _ _ _ x2 a _ _ h3 e2 h4 => rw [e] at e2;cases e2
  | rune _ _ _ _ x2 _ _ h3 e2 h4 => rw [e] at e2;cases e2;exact ih h4
  | altx _ _ _ _ x2 y _ _ h3 e2 h4 => rw [e] at e2;cases e2
  | alty _ _ _ _ x2 y _ _ _ h3 e2 h4 h5 => rw [e] at e2;cases e2
 | altx m i j c x y m' z hm e hd ih =>
  intro m2 r2 h2
  cases h2 with
  | old _ _ _ _ h3 => exact absurd h3 hm
  | fit _ _ _ _ a h3 e2 => rw [e] at e2;cases e2
  | stop _ _ _ _ h3 e2 => rw [e] at e2;cases e2
  | go _ _ _ _ x2 _ _ h3 e2 h4 => rw [e] at e2;cases e2
  | cap _ _ _ _ x2 a _ _ h3 e2 h4 => rw [e] at e2;cases e2
  | rune _ _ _ _ x2 _ _ h3 e2 h4 => rw [e] at e2;cases e2
  | altx _ _ _ _ x2 y _ _ h3 e2 h4 => rw [e] at e2;cases e2;exact ih h4
  | alty _ _ _ _ x2 y _ _ _ h3 e2 h4 h5 =>
   rw [e] at e2;cases e2
   cases (ih h4).2
 | alty m i j c x y m1 m' r hm e hd hd2 ih ih2 =>
  intro m2 r2 h2
  cases h2 with
  | old _ _ _ _ h3 => exact absurd h3 hm
  | fit _ _ _ _ a h3 e2 => rw [e] at e2;cases e2
  | stop _ _ _ _ h3 e2 => rw [e] at e2;cases e2
  | go _ _ _ _ x2 _ _ h3 e2 h4 => rw [e] at e2;cases e2
  | cap _ _ _ _ x2 a _ _ h3 e2 h4 => rw [e] at e2;cases e2
  | rune _ _ _ _ x2 _ _ h3 e2 h4 => rw [e] at e2;cases e2
  | altx _ _ _ _ x2 y _ _ h3 e2 h4 => rw [e] at e2;cases e2;cases (ih h4).2
  | alty _ _ _ _ x2 y _ _ _ h3 e2 h4 h5 =>
   rw [e] at e2;cases e2
   obtain ⟨rfl,_⟩:=ih h4
   exact ih2 h5
def EqP (k:Nat) (m m2:List Pt):Prop:=∀ q,k ≤ q → ∀ i,(i,q) ∈ m ↔ (i,q) ∈ m2
theorem EqP.add {k:Nat} {m m2:List Pt} (h:EqP k m m2) (p:Pt):EqP k (m ++ [p]) (m2 ++ [p]):=by
 intro q hq i
 simp only [List.mem_append,h q hq i]
theorem df_cong {A:Nat → Nat → Ac} {m:List Pt} {i j:Nat} {c:List Int} {m':List Pt} {r:Fd} (h:Df A m i j c m' r) {k:Nat}:∀ {m2:List Pt},k ≤ j → EqP k m m2 → ∃ m2',Df A m2 i j c m2' r ∧ EqP k m' m2':=by
 induction h with
 | old m i j c hm => intro m2 hk he;exact ⟨m2,.old _ _ _ _ ((he j hk i).1 hm),he⟩
 | fit m i j c a hm e => intro m2 hk he;exact ⟨_,.fit _ _ _ _ a (fun h => hm ((he j hk i).2 h)) e,he.add _⟩
 | stop m i j c hm e => intro m2 hk he;exact ⟨_,.stop _ _ _ _ (fun h => hm ((he j hk i).2 h)) e,he.add _⟩
 | go m i j c x m' r hm e hd ih =>
  intro m2 hk he
  obtain ⟨m3,h3,h4⟩:=ih hk (he.add _)
  exact ⟨m3,.go _ _ _ _ x _ _ (fun h => hm ((he j hk i).2 h)) e h3,h4⟩
 | cap m i j c x a m' r hm e hd ih =>
  intro m2 hk he
  obtain ⟨m3,h3,h4⟩:=ih hk (he.add _)
  exact ⟨m3,.cap _ _ _ _ x a _ _ (fun h => hm ((he j hk i).2 h)) e h3,h4⟩
 | rune m i j c x m' r hm e hd ih =>
  intro m2 hk he
  obtain ⟨m3,h3,h4⟩:=ih (by omega) (he.add _)
  exact ⟨m3,.rune _ _ _ _ x _ _ (fun h => hm ((he j hk i).2 h)) e h3,h4⟩
 | altx m i j c x y m' z hm e hd ih =>
  intro m2 hk he
  obtain ⟨m3,h3,h4⟩:=ih hk (he.add _)
  exact ⟨m3,.altx _ _ _ _ x y _ _ (fun h => hm ((he j hk i).2 h)) e h3,h4⟩
 | alty m i j c x y m1 m' r hm e hd hd2 ih ih2 =>
  intro m2 hk he
  obtain ⟨m3,h3,h4⟩:=ih hk (he.add _)
  obtain ⟨m5,h5,h6⟩:=ih2 hk h4
  exact ⟨m5,.alty _ _ _ _ x y _ _ _ (fun h => hm ((he j hk i).2 h)) e h3 h5,h6⟩
theorem df_keep {A:Nat → Nat → Ac} {m:List Pt} {i j:Nat} {c:List Int} {m':List Pt} {r:Fd} (h:Df A m i j c m' r):∀ p:Pt,p.2 < j → (p ∈ m' ↔ p ∈ m):=by
 have hx:∀ (m:List Pt) (i j:Nat) (p:Pt),p.2 < j → (p ∈ m ++ [(i,j)] ↔ p ∈ m):=fun m i j p hp => by
  simp only [List.mem_append,List.mem_singleton]
  constructor
  ·rintro (h | rfl)
   ·exact h
   ·simp at hp
  ·exact .inl
 induction h with
 | old m i j c hm => intro p hp;exact Iff.rfl
 | fit m i j c a hm e => exact hx m i j
 | stop m i j c hm e => exact hx m i j
 | go m i j c x m' r hm e hd ih => intro p hp;exact (ih p hp).trans (hx m i j p hp)
 | cap m i j c x a m' r hm e hd ih => intro p hp;exact (ih p hp).trans (hx m i j p hp)
 | rune m i j c x m' r hm e hd ih => intro p hp;exact (ih p (by omega)).trans (hx m i j p hp)
 | altx m i j c x y m' z hm e hd ih => intro p hp;exact (ih p hp).trans (hx m i j p hp)
 | alty m i j c x y m1 m' r hm e hd hd2 ih ih2 => intro p hp;exact (ih2 p hp).trans ((ih p hp).trans (hx m i j p hp))
structure OkP (n a len:Nat) (m:List Pt):Prop where
 nd:m.Nodup
 ok:∀ p ∈ m,p.1 < n ∧ a ≤ p.2 ∧ p.2 ≤ len
theorem OkP.nil (n a len:Nat):OkP n a len []:=⟨by simp,by simp⟩
theorem OkP.add {n a len:Nat} {m:List Pt} (h:OkP n a len m) {i j:Nat} (hm:(i,j) ∉ m) (hi:i < n) (ha:a ≤ j) (hj:j ≤ len):OkP n a len (m ++ [(i,j)]):=by
 refine ⟨?_,fun p hp => ?_⟩
 ·rw [List.nodup_append]
  refine ⟨h.nd,by simp,fun x hx y hy => ?_⟩
  simp at hy
  subst hy
  exact fun e => hm (e ▸ hx)
 ·rcases List.mem_append.1 hp with hp | hp
  ·exact h.ok p hp
  ·simp at hp
   subst hp
   exact ⟨hi,ha,hj⟩
theorem enc_inj {n i i' d d':Nat} (hi:i < n) (hi':i' < n) (h:d * n + i = d' * n + i'):d = d' ∧ i = i':=by
 have h1:(d * n + i) / n = d:=by rw [Nat.mul_comm,Nat.mul_add_div (by omega),Nat.div_eq_of_lt hi];omega
 have h2:(d' * n + i') / n = d':=by rw [Nat.mul_comm,Nat.mul_add_div (by omega),Nat.div_eq_of_lt hi'];omega
 have:d = d':=by rw [← h1,← h2,h]
 subst this
 exact ⟨rfl,by omega⟩
theorem enc_lt {n i d q:Nat} (hi:i < n) (hd:d < q):d * n + i < n * q:=by
 have:(d + 1) * n ≤ q * n:=Nat.mul_le_mul_right _ hd
 rw [Nat.succ_mul] at this
 rw [Nat.mul_comm n q]
 omega
theorem nodup_map_inj {α:Type} (f:α → Nat):∀ (l:List α),l.Nodup → (∀ x ∈ l,∀ y ∈ l,f x = f y → x = y) → (l.map f).Nodup
 | [],_,_ => by simp
 | x :: l,h,hf => by
  rw [List.map_cons,List.nodup_cons]
  rw [List.nodup_cons] at h
  refine ⟨fun hx => ?_,nodup_map_inj f l h.2 (fun y hy z hz => hf y (List.mem_cons_of_mem _ hy) z (List.mem_cons_of_mem _ hz))⟩
  obtain ⟨y,hy,e⟩:=List.mem_map.1 hx
  have:=hf x List.mem_cons_self y (List.mem_cons_of_mem _ hy) e.symm
  exact h.1 (this ▸ hy)
theorem OkP.small {n a len:Nat} {m:List Pt} (h:OkP n a len m):m.length ≤ n * (len - a + 1):=by
 have h1:=nodup_le (n:=n * (len - a + 1)) (l:=m.map fun p => (p.2 - a) * n + p.1) (nodup_map_inj _ m h.nd (fun x hx y hy e => by
  have hx':=h.ok x hx
  have hy':=h.ok y hy
  have:=enc_inj hx'.1 hy'.1 e
  obtain ⟨x1,x2⟩:=x
  obtain ⟨y1,y2⟩:=y
  simp at this hx' hy' ⊢
  omega)) (fun k hk => by
   obtain ⟨p,hp,rfl⟩:=List.mem_map.1 hk
   have hp':=h.ok p hp
   exact enc_lt hp'.1 (by omega))
 simpa using h1
theorem df_ok {P:Pr} (hP:P.Ok) {a len:Nat} (hlen:∀ i x,P.A len i ≠ .rune x) {m:List Pt} {i j:Nat} {c:List Int} {m':List Pt} {r:Fd} (h:Df P.A m i j c m' r):i < P.n → a ≤ j → j ≤ len → c.length = P.K → OkP P.n a len m → OkP P.n a len m' ∧ m.length ≤ m'.length ∧ (∀ p ∈ m,p ∈ m') ∧ ∀ y,r = some y → y.2.length = P.K:=by
 have hsub:∀ (m:List Pt) (p:Pt) (m':List Pt),(∀ q ∈ m ++ [p],q ∈ m') → ∀ q ∈ m,q ∈ m':=fun m p m' h q hq => h q (List.mem_append_left _ hq)
 induction h with
 | old m i j c hm => intro hi ha hj hc ho;exact ⟨ho,Nat.le_refl _,fun p hp => hp,by simp⟩
 | fit m i j c a hm e => intro hi ha hj hc ho;exact ⟨ho.add hm hi ha hj,by simp,fun p hp => List.mem_append_left _ hp,fun y hy => by simp at hy;subst hy;exact hc⟩
 | stop m i j c hm e => intro hi ha hj hc ho;exact ⟨ho.add hm hi ha hj,by simp,fun p hp => List.mem_append_left _ hp,by simp⟩
 | go m i j c x m' r hm e hd ih =>
  intro hi ha hj hc ho
  have hx:=hP.ok j i hi
  rw [e] at hx
  obtain ⟨h1,h2,h3,h4⟩:=ih hx ha hj hc (ho.add hm hi ha hj)
  exact ⟨h1,by simp at h2;omega,hsub _ _ _ h3,h4⟩
 | cap m i j c x a m' r hm e hd ih =>
  intro hi ha hj hc ho
  have hx:=hP.ok j i hi
  rw [e] at hx
  obtain ⟨h1,h2,h3,h4⟩:=ih hx ha hj (by simpa using hc) (ho.add hm hi ha hj)
  exact ⟨h1,by simp at h2;omega,hsub _ _ _ h3,h4⟩
 | rune m i j c x m' r hm e hd ih =>
  intro hi ha hj hc ho
  have hx:=hP.ok j i hi
  rw [e] at hx
  have hne:j ≠ len:=fun h => hlen i x (h ▸ e)
  obtain ⟨h1,h2,h3,h4⟩:=ih hx (by omega) (by omega) hc (ho.add hm hi ha hj)
  exact ⟨h1,by simp at h2;omega,hsub _ _ _ h3,h4⟩
 | altx m i j c x y m' z hm e hd ih =>
  intro hi ha hj hc ho
  have hx:=hP.ok j i hi
  rw [e] at hx
  obtain ⟨h1,h2,h3,h4⟩:=ih hx.1 ha hj hc (ho.add hm hi ha hj)
  exact ⟨h1,by simp at h2;omega,hsub _ _ _ h3,h4⟩
 | alty m i j c x y m1 m' r hm e hd hd2 ih ih2 =>
  intro hi ha hj hc ho
  have hx:=hP.ok j i hi
  rw [e] at hx
  obtain ⟨h1,h2,h3,h4⟩:=ih hx.1 ha hj hc (ho.add hm hi ha hj)
  obtain ⟨g1,g2,g3,g4⟩:=ih2 hx.2 ha hj hc h1
  exact ⟨g1,by simp at h2;omega,fun p hp => g3 p (hsub _ _ _ h3 p hp),g4⟩
theorem df_total {P:Pr} (hP:P.Ok) {a len:Nat} (hlen:∀ i x,P.A len i ≠ .rune x):∀ (N:Nat) (m:List Pt),OkP P.n a len m → P.n * (len - a + 1) ≤ N + m.length → ∀ (i j:Nat) (c:List Int),i < P.n → a ≤ j → j ≤ len → c.length = P.K → ∃ m' r,Df P.A m i j c m' r:=by
 intro N
 induction N with
 | zero =>
  intro m ho hN i j c hi ha hj hc
  by_cases hm:(i,j) ∈ m
  ·exact ⟨_,_,.old _ _ _ _ hm⟩
  ·have:=(ho.add hm hi ha hj).small
   simp at this
   omega
 | succ N ih =>
  intro m ho hN i j c hi ha hj hc
  by_cases hm:(i,j) ∈ m
  ·exact ⟨_,_,.old _ _ _ _ hm⟩
  ·have ho':=ho.add hm hi ha hj
   have hx:=hP.ok j i hi
   have hN':P.n * (len - a + 1) ≤ N + (m ++ [(i,j)]).length:=by simp;omega
   cases e:P.A j i with
   | fit y => exact ⟨_,_,.fit _ _ _ _ y hm e⟩
   | stop => exact ⟨_,_,.stop _ _ _ _ hm e⟩
   | go x =>
    rw [e] at hx
    obtain ⟨m',r,h⟩:=ih _ ho' hN' x j c hx ha hj hc
    exact ⟨m',r,.go _ _ _ _ x _ _ hm e h⟩
   | cap x b =>
    rw [e] at hx
    obtain ⟨m',r,h⟩:=ih _ ho' hN' x j (c.set b (j:Int)) hx ha hj (by simpa using hc)
    exact ⟨m',r,.cap _ _ _ _ x b _ _ hm e h⟩
   | rune x =>
    rw [e] at hx
    have hne:j ≠ len:=fun h => hlen i x (h ▸ e)
    obtain ⟨m',r,h⟩:=ih _ ho' hN' x (j + 1) c hx (by omega) (by omega) hc
    exact ⟨m',r,.rune _ _ _ _ x _ _ hm e h⟩
   | alt x y =>
    rw [e] at hx
    obtain ⟨m',r,h⟩:=ih _ ho' hN' x j c hx.1 ha hj hc
    cases r with
    | some z => exact ⟨m',_,.altx _ _ _ _ x y _ _ hm e h⟩
    | none =>
     obtain ⟨g1,g2,_⟩:=df_ok hP hlen h hx.1 ha hj hc ho'
     obtain ⟨m2,r2,h2⟩:=ih _ g1 (by omega) y j c hx.2 ha hj hc
     exact ⟨m2,r2,.alty _ _ _ _ x y _ _ _ hm e h h2⟩
inductive Da (A:Nat → Nat → Ac):List Pt → List (Nat × Nat × List Int) → List Pt → Fd → Prop
 | nil (m:List Pt):Da A m [] m none
 | hit (m:List Pt) (i j:Nat) (c:List Int) (T:List (Nat × Nat × List Int)) (m':List Pt) (z:Int × List Int):Df A m i j c m' (some z) → Da A m ((i,j,c) :: T) m' (some z)
 | miss (m:List Pt) (i j:Nat) (c:List Int) (T:List (Nat × Nat × List Int)) (m1 m':List Pt) (r:Fd):Df A m i j c m1 none → Da A m1 T m' r → Da A m ((i,j,c) :: T) m' r
theorem da_det {A:Nat → Nat → Ac} {m:List Pt} {T:List (Nat × Nat × List Int)} {m':List Pt} {r:Fd} (h:Da A m T m' r):∀ {m2:List Pt} {r2:Fd},Da A m T m2 r2 → m' = m2 ∧ r = r2:=by
 induction h with
 | nil m => intro m2 r2 h2;cases h2;exact ⟨rfl,rfl⟩
 | hit m i j c T m' z hd =>
  intro m2 r2 h2
  cases h2 with
  | hit _ _ _ _ _ _ _ h3 => exact df_det hd h3
  | miss _ _ _ _ _ _ _ _ h3 h4 => cases (df_det hd h3).2
 | miss m i j c T m1 m' r hd h ih =>
  intro m2 r2 h2
  cases h2 with
  | hit _ _ _ _ _ _ _ h3 => cases (df_det hd h3).2
  | miss _ _ _ _ _ _ _ _ h3 h4 => obtain ⟨rfl,_⟩:=df_det hd h3;exact ih h4
theorem da_hit {A:Nat → Nat → Ac} {m:List Pt} {T:List (Nat × Nat × List Int)} {m':List Pt} {r:Fd} (h:Da A m T m' r):∀ {z},r = some z → ∀ U,Da A m (T ++ U) m' r:=by
 induction h with
 | nil m => intro z hz;cases hz
 | hit m i j c T m' z hd => intro _ _ U;exact .hit _ _ _ _ _ _ _ hd
 | miss m i j c T m1 m' r hd h ih => intro z hz U;exact .miss _ _ _ _ _ _ _ _ hd (ih hz U)
theorem da_miss {A:Nat → Nat → Ac} {m:List Pt} {T:List (Nat × Nat × List Int)} {m':List Pt} {r:Fd} (h:Da A m T m' r):r = none → ∀ {U m2 r2},Da A m' U m2 r2 → Da A m (T ++ U) m2 r2:=by
 induction h with
 | nil m => intro _ U m2 r2 h2;exact h2
 | hit m i j c T m' z hd => intro hz;cases hz
 | miss m i j c T m1 m' r hd h ih => intro hz U m2 r2 h2;exact .miss _ _ _ _ _ _ _ _ hd (ih hz h2)
theorem da_split {A:Nat → Nat → Ac}:∀ (T:List (Nat × Nat × List Int)) {m U m2 r2},Da A m (T ++ U) m2 r2 → (∃ z,r2 = some z ∧ Da A m T m2 r2) ∨ ∃ m1,Da A m T m1 none ∧ Da A m1 U m2 r2
 | [],m,U,m2,r2,h => .inr ⟨m,.nil _,h⟩
 | t :: T,m,U,m2,r2,h => by
  cases h with
  | hit _ i j c _ _ z hd => exact .inl ⟨z,rfl,.hit _ _ _ _ _ _ _ hd⟩
  | miss _ i j c _ m1 _ _ hd h' =>
   rcases da_split T h' with ⟨z,hz,h3⟩ | ⟨m3,h3,h4⟩
   ·exact .inl ⟨z,hz,.miss _ _ _ _ _ _ _ _ hd h3⟩
   ·exact .inr ⟨m3,.miss _ _ _ _ _ _ _ _ hd h3,h4⟩
theorem da_cong {A:Nat → Nat → Ac} {k:Nat} {m:List Pt} {T:List (Nat × Nat × List Int)} {m':List Pt} {r:Fd} (h:Da A m T m' r):∀ {m2:List Pt},(∀ t ∈ T,k ≤ t.2.1) → EqP k m m2 → ∃ m2',Da A m2 T m2' r ∧ EqP k m' m2':=by
 induction h with
 | nil m => intro m2 _ he;exact ⟨m2,.nil _,he⟩
 | hit m i j c T m' z hd =>
  intro m2 hT he
  obtain ⟨m3,h3,h4⟩:=df_cong hd (hT _ List.mem_cons_self) he
  exact ⟨m3,.hit _ _ _ _ _ _ _ h3,h4⟩
 | miss m i j c T m1 m' r hd h ih =>
  intro m2 hT he
  obtain ⟨m3,h3,h4⟩:=df_cong hd (hT _ List.mem_cons_self) he
  obtain ⟨m5,h5,h6⟩:=ih (fun t ht => hT t (List.mem_cons_of_mem _ ht)) h4
  exact ⟨m5,.miss _ _ _ _ _ _ _ _ h3 h5,h6⟩
theorem da_ok {P:Pr} (hP:P.Ok) {a len:Nat} (hlen:∀ i x,P.A len i ≠ .rune x) {m:List Pt} {T:List (Nat × Nat × List Int)} {m':List Pt} {r:Fd} (h:Da P.A m T m' r):(∀ t ∈ T,t.1 < P.n ∧ a ≤ t.2.1 ∧ t.2.1 ≤ len ∧ t.2.2.length = P.K) → OkP P.n a len m → OkP P.n a len m' ∧ m.length ≤ m'.length ∧ (∀ p ∈ m,p ∈ m') ∧ ∀ y,r = some y → y.2.length = P.K:=by
 induction h with
 | nil m => intro _ ho;exact ⟨ho,Nat.le_refl _,fun p hp => hp,by simp⟩
 | hit m i j c T m' z hd =>
  intro hT ho
  have ht:=hT _ List.mem_cons_self
  exact df_ok hP hlen hd ht.1 ht.2.1 ht.2.2.1 ht.2.2.2 ho
 | miss m i j c T m1 m' r hd h ih =>
  intro hT ho
  have ht:=hT _ List.mem_cons_self
  obtain ⟨g1,g2,g3,_⟩:=df_ok hP hlen hd ht.1 ht.2.1 ht.2.2.1 ht.2.2.2 ho
  obtain ⟨f1,f2,f3,f4⟩:=ih (fun t ht => hT t (List.mem_cons_of_mem _ ht)) g1
  exact ⟨f1,by omega,fun p hp => f3 p (g3 p hp),f4⟩
theorem da_total {P:Pr} (hP:P.Ok) {a len:Nat} (hlen:∀ i x,P.A len i ≠ .rune x):∀ (T:List (Nat × Nat × List Int)) (m:List Pt),(∀ t ∈ T,t.1 < P.n ∧ a ≤ t.2.1 ∧ t.2.1 ≤ len ∧ t.2.2.length = P.K) → OkP P.n a len m → ∃ m' r,Da P.A m T m' r
 | [],m,_,_ => ⟨m,none,.nil _⟩
 | (i,j,c) :: T,m,hT,ho => by
  have ht:=hT _ List.mem_cons_self
  obtain ⟨m1,r1,h1⟩:=df_total hP hlen (P.n * (len - a + 1)) m ho (by omega) i j c ht.1 ht.2.1 ht.2.2.1 ht.2.2.2
  cases r1 with
  | some z => exact ⟨_,_,.hit _ _ _ _ _ _ _ h1⟩
  | none =>
   have g1:=(df_ok hP hlen h1 ht.1 ht.2.1 ht.2.2.1 ht.2.2.2 ho).1
   obtain ⟨m2,r2,h2⟩:=da_total hP hlen T m1 (fun t ht => hT t (List.mem_cons_of_mem _ ht)) g1
   exact ⟨m2,r2,.miss _ _ _ _ _ _ _ _ h1 h2⟩
end Go.Proofs.YtacaanhnlfpbhaaGreat
