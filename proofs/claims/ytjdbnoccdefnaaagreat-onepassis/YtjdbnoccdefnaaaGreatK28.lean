/- HELPERS: texts of ours put together. -/
import Derived.Maps.OwnSet
import Derived.Lib.SlKeysI
import Derived.Test.YtjdbnoccdefnaaaGreatK27
import Derived.Test.YtjdbnoccdefnaaaGreatK23
namespace Go.Proofs.YtjdbnoccdefnaaaGreat
open Go.RowKit Go.Maps
set_option linter.unusedVariables false
set_option linter.unusedSimpArgs false
theorem keyed3:Keyed Tryz.prog 3:=int_keyed Tryz.underlying3
theorem own_tight {P:Program} {k:TypeId} {R:Value → Option (DataW Unit × List MemPlace)} {w:World} {b n:Nat} {D:DataW Unit} (h:w.ownsMap P k R b n D):w.ownsMap P k R b (Maps.size D) D:=by
  obtain ⟨es,clock,hb,F,hs,rfl⟩:=h
  refine ⟨es,clock,hb,F,?_,rfl⟩
  have e:Maps.size (DataW.map ((es.toList.map (Go.WideElems.rg P k R)).foldr DataW.insert [])) = es.size:=by
    rw [Maps.size_eq,length_sorted]
    simp
  exact Nat.le_of_eq e.symm
theorem keys_ok {R:Value → Option (DataW Unit × List MemPlace)} {w:World} {b n:Nat} {D:DataW Unit} (h:w.ownsMap Tryz.prog 3 R b n D):∃ es,D = .map es ∧ es.Pairwise (fun p q => p.1 ≠ q.1) ∧ ∀ p ∈ es,∃ x,p.1 = .int .i64 x:=by
  obtain ⟨es,hD,hpw,_⟩:=h.entries keyed3
  obtain ⟨es',hD',hko⟩:=h.keysOf
  obtain rfl:es = es':=by rw [hD] at hD';simpa using hD'
  exact ⟨es,hD,hpw,fun p hp => by obtain ⟨v,hv⟩:=hko p hp;obtain ⟨x,_,hx,_⟩:=Maps.keyOf_i64 Tryz.underlying3 hv;exact ⟨x,hx⟩⟩
structure MpD (w:World) (b:Nat) (D:DataW Unit) (L:List Int):Prop where
  own:w.ownsMap Tryz.prog 3 (unitElem (H:=Unit)) b L.length D
  nd:L.Nodup
  hs:∀ x,x ∈ L ↔ Maps.has D (.int .i64 x) = true
  sz:Maps.size D = L.length
def MpS (w:World) (b:Nat) (L:List Int):Prop:=∃ D,MpD w b D L
theorem MpS.lt {w:World} {b:Nat} {L:List Int} (h:MpS w b L):b < w.heap.size:=by
  obtain ⟨D,h⟩:=h
  exact h.own.lt
theorem MpS.kept {w w':World} {b:Nat} {L:List Int} (h:MpS w b L) (hk:w'.heap[b]? = w.heap[b]?):MpS w' b L:=by
  obtain ⟨D,h⟩:=h
  refine ⟨D,?_,h.nd,h.hs,h.sz⟩
  obtain ⟨es,clock,hb,F,hs,hD⟩:=h.own
  exact ⟨es,clock,hk.trans hb,F,hs,hD⟩
theorem MpD.of {w:World} {b n:Nat} {D:DataW Unit} (h:w.ownsMap Tryz.prog 3 (unitElem (H:=Unit)) b n D) {L:List Int} (hn:L.Nodup) (hs:∀ x,x ∈ L ↔ Maps.has D (.int .i64 x) = true):MpD w b D L:=by
  obtain ⟨es,hD,hpw,hk'⟩:=keys_ok h
  have hp:L.Perm (intKeys D):=by rw [hD];exact perm_intKeys hpw hk' hn (fun x => by rw [hs x,hD])
  have hl:Maps.size D = L.length:=by rw [hp.length_eq,hD];simp [Maps.size,intKeys]
  exact ⟨hl ▸ own_tight h,hn,hs,hl⟩
theorem MpD.perm {w:World} {b:Nat} {D:DataW Unit} {L:List Int} (h:MpD w b D L):(intKeys D).Perm L:=by
  obtain ⟨es,hD,hpw,hk'⟩:=keys_ok h.own
  rw [hD]
  exact (perm_intKeys hpw hk' h.nd (fun x => by rw [h.hs x,hD])).symm
def ins (x:Int) (L:List Int):List Int:=if x ∈ L then L else x :: L
theorem mem_ins {x y:Int} {L:List Int}:y ∈ ins x L ↔ y = x ∨ y ∈ L:=by
  unfold ins
  split
  · exact ⟨.inr,fun h => by rcases h with rfl | h;assumption;exact h⟩
  · simp
theorem MpS.put {w w':World} {b n:Nat} {D:DataW Unit} {L:List Int} {x:Int} (h:MpD w b D L) (h2:w'.ownsMap Tryz.prog 3 (unitElem (H:=Unit)) b n (D.put (.int .i64 x) (.agg []))):MpS w' b (ins x L):=by
  refine ⟨_,.of h2 ?_ fun y => ?_⟩
  · unfold ins
    split
    · exact h.nd
    · rename_i hx
      exact List.nodup_cons.2 ⟨hx,h.nd⟩
  · rw [mem_ins]
    by_cases e:y = x
    · subst e
      rw [has_put_same h.own.isMap (k:=.int .i64 y) (by exact trivial)]
      simp
    · rw [has_put_other (by intro e2;exact e (by simpa using e2)),← h.hs y]
      simp [e]
def del (x:Int) (L:List Int):List Int:=L.filter fun y => decide (y ≠ x)
theorem mem_del {x y:Int} {L:List Int}:y ∈ del x L ↔ y ≠ x ∧ y ∈ L:=by
  unfold del
  simp [and_comm]
theorem MpS.cut {w w':World} {b n:Nat} {D:DataW Unit} {L:List Int} {x:Int} (h:MpD w b D L) (h2:w'.ownsMap Tryz.prog 3 (unitElem (H:=Unit)) b n (D.del (.int .i64 x))):MpS w' b (del x L):=by
  refine ⟨_,.of h2 (h.nd.filter _) fun y => ?_⟩
  rw [mem_del]
  by_cases e:y = x
  · subst e
    rw [has_del_same]
    simp
  · rw [has_del_other (by intro e2;exact e (by simpa using e2)),← h.hs y]
    simp [e]
theorem MpS.made (w:World):MpS (w.alloc (.map #[] 0)) w.heap.size []:=⟨_,.of (World.ownsMap_made w Tryz.prog 3 _) List.nodup_nil fun x => by simp [Maps.has]⟩
def cuts (L q:List Int):List Int:=q.foldl (fun L x => del x L) L
theorem mem_cuts {y:Int}:∀ {q L:List Int},y ∈ cuts L q ↔ y ∈ L ∧ y ∉ q
  | [],L => by simp [cuts]
  | x :: r,L => by
    show y ∈ cuts (del x L) r ↔ _
    rw [mem_cuts,mem_del]
    simp
    exact ⟨fun h => ⟨h.1.2,h.1.1,h.2⟩,fun h => ⟨⟨h.2.1,h.1⟩,h.2.2⟩⟩
theorem cuts_snoc (L q:List Int) (x:Int):cuts L (q ++ [x]) = del x (cuts L q):=by simp [cuts,List.foldl_append]
def put1 (K L:List Int) (x:Int):List Int:=if x ∈ K then L else ins x L
def puts (K L xs:List Int):List Int:=xs.foldl (put1 K) L
theorem mem_puts {K:List Int} {y:Int}:∀ {xs L:List Int},y ∈ puts K L xs ↔ y ∈ L ∨ (y ∈ xs ∧ y ∉ K)
  | [],L => by simp [puts]
  | x :: r,L => by
    show y ∈ puts K (put1 K L x) r ↔ _
    rw [mem_puts]
    unfold put1
    by_cases hx:x ∈ K
    · rw [if_pos hx]
      simp
      exact ⟨fun h => h.elim .inl (fun h => .inr ⟨.inr h.1,h.2⟩),fun h => h.elim .inl (fun h => h.1.elim (fun e => absurd (e ▸ hx) h.2) (fun h1 => .inr ⟨h1,h.2⟩))⟩
    · rw [if_neg hx,mem_ins]
      simp
      exact ⟨fun h => h.elim (fun h => h.elim (fun e => .inr ⟨.inl e,fun h2 => hx (e ▸ h2)⟩) .inl) (fun h => .inr ⟨.inr h.1,h.2⟩),fun h => h.elim (fun h => .inl (.inr h)) (fun h => h.1.elim (fun e => .inl (.inl e)) (fun h1 => .inr ⟨h1,h.2⟩))⟩
theorem puts_snoc (K L xs:List Int) (x:Int):puts K L (xs ++ [x]) = put1 K (puts K L xs) x:=by simp [puts,List.foldl_append]
end Go.Proofs.YtjdbnoccdefnaaaGreat
namespace Go.Proofs.YtjdbnoccdefnaaaGreat
set_option linter.unusedVariables false
set_option linter.unusedSimpArgs false
theorem Uk.mem {eps:Nat → List Nat} {K:Nat → Prop} {a o d:List Nat} (h:Uk eps K a o d):∀ i ∈ a,i ∈ o ∨ i ∈ d:=by
  induction h with
  | nil => intro i hi;cases hi
  | door hk h ih => intro i hi;rcases List.mem_cons.1 hi with rfl | hi;exact .inr (by simp);exact (ih i hi).imp id (fun h => by simp [h])
  | go hk h ih => intro i hi;rcases List.mem_cons.1 hi with rfl | hi;exact .inl (by simp);exact (ih i (by simp [hi])).imp (fun h => by simp [h]) id
theorem Uk.cl {eps:Nat → List Nat} {K:Nat → Prop} {a o d:List Nat} (h:Uk eps K a o d):∀ j ∈ o,∀ x ∈ eps j,x ∈ o ∨ x ∈ d:=by
  induction h with
  | nil => intro i hi;cases hi
  | door hk h ih => intro j hj x hx;exact (ih j hj x hx).imp id (fun h => by simp [h])
  | go hk h ih =>
    intro j hj x hx
    rcases List.mem_cons.1 hj with rfl | hj
    · exact (h.mem x (by simp [hx])).imp (fun h => by simp [h]) id
    · exact (ih j hj x hx).imp (fun h => by simp [h]) id
variable {P:PD} {nx:Nat → Nat} {s:Nat}
theorem Pl_all {K:Nat → Prop} (h:KI P K) {n:Nat} {q d:List Nat} (hk:Uk P.eps K [n] q d) (hp:P.Pl n):∃ o,Us P.eps [n] o ∧ (∀ i ∈ q,i ∈ o) ∧ (∀ i ∈ q,P.Pl i):=by
  obtain ⟨o',h1,h2⟩:=hk.full (clo:=P.clo) (fun i hi => (h.pl i (hk.notK.2 i hi)).clo.1)
  obtain ⟨o,h3,h4,h5⟩:=hp
  obtain rfl:=h3.det h1
  exact ⟨o,h3,fun i hi => h2.symm.subset (by simp [hi]),fun i hi => PD.Pl.sub h3 h4 h5 (h2.symm.subset (by simp [hi]))⟩
theorem KI.grow {K:Nat → Prop} (h:KI P K) {n:Nat} {q d:List Nat} (hk:Uk P.eps K [n] q d) (hp:P.Pl n):KI P fun i => K i ∨ i ∈ q:=by
  obtain ⟨o,h1,h2,h3⟩:=Pl_all h hk hp
  refine ⟨fun i hi => ?_,fun i hi j hj => ?_⟩
  · rcases hi with hi | hi
    · exact h.pl i hi
    · exact h3 i hi
  · rcases hi with hi | hi
    · exact .inl (h.cl i hi j hj)
    · rcases hk.cl i hi j hj with h4 | h4
      · exact .inr h4
      · exact .inl (hk.notK.2 j h4)
inductive Rch (P:PD) (nx:Nat → Nat) (s:Nat):Nat → Prop
  | start:Rch P nx s s
  | step {i j:Nat} {o:List Nat}:Rch P nx s i → Us P.eps [i] o → j ∈ o → P.rd j = true → Rch P nx s (nx j)
def OneWay (P:PD) (nx:Nat → Nat) (s:Nat):Prop:=∀ i,Rch P nx s i → P.Pl i
structure SI (P:PD) (nx:Nat → Nat) (s:Nat) (K L:Nat → Prop):Prop where
  ki:KI P K
  rk:∀ i,K i → ∃ a o,Rch P nx s a ∧ Us P.eps [a] o ∧ i ∈ o
  rl:∀ i,L i → Rch P nx s i
  no:∀ i,L i → ¬ K i
  st:K s ∨ L s
  nx:∀ i,K i → P.rd i = true → K (nx i) ∨ L (nx i)
theorem SI.start:SI P nx s (fun _ => False) (fun i => i = s):=
  ⟨⟨fun i h => h.elim,fun i h => h.elim⟩,fun i h => h.elim,fun i h => h ▸ .start,fun i _ h => h,.inr rfl,fun i h => h.elim⟩
theorem SI.step {K L K' L':Nat → Prop} (h:SI P nx s K L) {i:Nat} {q d:List Nat} (hi:Rch P nx s i) (hp:P.Pl i) (hk:Uk P.eps K [i] q d)
    (hK:∀ x,K' x ↔ K x ∨ x ∈ q) (hL:∀ x,L' x ↔ (L x ∧ x ∉ q) ∨ ((∃ j,j ∈ q ∧ P.rd j = true ∧ x = nx j) ∧ ¬ K' x)):SI P nx s K' L':=by
  obtain ⟨o,h1,h2,h3⟩:=Pl_all h.ki hk hp
  have hg:=h.ki.grow hk hp
  refine ⟨⟨fun x hx => hg.pl x ((hK x).1 hx),fun x hx y hy => (hK y).2 (hg.cl x ((hK x).1 hx) y hy)⟩,fun x hx => ?_,fun x hx => ?_,fun x hx hx2 => ?_,?_,fun x hx hr => ?_⟩
  · rcases (hK x).1 hx with h4 | h4
    · exact h.rk x h4
    · exact ⟨i,o,hi,h1,h2 x h4⟩
  · rcases (hL x).1 hx with h4 | ⟨⟨j,h4,h5,rfl⟩,-⟩
    · exact h.rl x h4.1
    · exact .step hi h1 (h2 j h4) h5
  · rcases (hL x).1 hx with h4 | h4
    · rcases (hK x).1 hx2 with h5 | h5
      · exact h.no x h4.1 h5
      · exact h4.2 h5
    · exact h4.2 hx2
  · by_cases hs:s ∈ q
    · exact .inl ((hK s).2 (.inr hs))
    · rcases h.st with h4 | h4
      · exact .inl ((hK s).2 (.inl h4))
      · exact .inr ((hL s).2 (.inl ⟨h4,hs⟩))
  · by_cases hn:K' (nx x)
    · exact .inl hn
    · refine .inr ?_
      rcases (hK x).1 hx with h4 | h4
      · rcases h.nx x h4 hr with h5 | h5
        · exact absurd ((hK _).2 (.inl h5)) hn
        · exact (hL _).2 (.inl ⟨h5,fun h6 => hn ((hK _).2 (.inr h6))⟩)
      · exact (hL _).2 (.inr ⟨⟨x,h4,hr,rfl⟩,hn⟩)
theorem SI.done {K L:Nat → Prop} (h:SI P nx s K L) (hL:∀ i,¬ L i):OneWay P nx s:=by
  have hK:∀ i,Rch P nx s i → K i:=fun i hi => by
    induction hi with
    | start => exact h.st.resolve_right (hL s)
    | step h1 h2 h3 h4 ih =>
      have:=h.ki.clo h2 (fun x hx => by simp at hx;rw [hx];exact ih) _ h3
      exact (h.nx _ this h4).resolve_right (hL _)
  exact fun i hi => h.ki.pl i (hK i hi)
structure DI (P:PD) (nx:Nat → Nat) (s:Nat) (V T:Nat → Prop):Prop where
  v:∀ i,V i → P.Pl i
  t:∀ i,T i → Rch P nx s i
  st:V s ∨ T s
  nx:∀ i,V i → ∀ o,Us P.eps [i] o → ∀ j ∈ o,P.rd j = true → V (nx j) ∨ T (nx j)
theorem DI.start:DI P nx s (fun _ => False) (fun i => i = s):=⟨fun i h => h.elim,fun i h => h ▸ .start,.inr rfl,fun i h => h.elim⟩
theorem DI.skip {V T T':Nat → Prop} (h:DI P nx s V T) {i:Nat} (hi:V i) (hT:∀ x,T x → x = i ∨ T' x) (hT':∀ x,T' x → T x):DI P nx s V T':=
  ⟨h.v,fun x hx => h.t x (hT' x hx),h.st.elim .inl (fun h2 => (hT s h2).elim (fun e => .inl (e ▸ hi)) .inr),fun x hx o ho j hj hr => (h.nx x hx o ho j hj hr).elim .inl (fun h2 => (hT _ h2).elim (fun e => .inl (e ▸ hi)) .inr)⟩
theorem DI.step {V T V' T':Nat → Prop} (h:DI P nx s V T) {i:Nat} {o:List Nat} (hi:T i) (hp:P.Pl i) (hu:Us P.eps [i] o)
    (hV:∀ x,V' x ↔ V x ∨ x = i) (hT:∀ x,T x → x = i ∨ T' x) (hT':∀ x,T' x → T x ∨ ∃ j ∈ o,P.rd j = true ∧ x = nx j) (hn:∀ j ∈ o,P.rd j = true → T' (nx j)):DI P nx s V' T':=by
  refine ⟨fun x hx => ?_,fun x hx => ?_,?_,fun x hx o' ho j hj hr => ?_⟩
  · rcases (hV x).1 hx with h1 | rfl
    · exact h.v x h1
    · exact hp
  · rcases hT' x hx with h1 | ⟨j,h1,h2,rfl⟩
    · exact h.t x h1
    · exact .step (h.t i hi) hu h1 h2
  · rcases h.st with h1 | h1
    · exact .inl ((hV s).2 (.inl h1))
    · rcases hT s h1 with e | h2
      · exact .inl ((hV s).2 (.inr e))
      · exact .inr h2
  · rcases (hV x).1 hx with h1 | rfl
    · rcases h.nx x h1 o' ho j hj hr with h2 | h2
      · exact .inl ((hV _).2 (.inl h2))
      · rcases hT _ h2 with e | h3
        · exact .inl ((hV _).2 (.inr e))
        · exact .inr h3
    · obtain rfl:=ho.det hu
      exact .inr (hn j hj hr)
theorem DI.done {V T:Nat → Prop} (h:DI P nx s V T) (hT:∀ i,¬ T i):OneWay P nx s:=by
  have hK:∀ i,Rch P nx s i → V i:=fun i hi => by
    induction hi with
    | start => exact h.st.resolve_right (hT s)
    | step h1 h2 h3 h4 ih => exact (h.nx _ ih _ h2 _ h3 h4).resolve_right (hT _)
  exact fun i hi => h.v i (hK i hi)
end Go.Proofs.YtjdbnoccdefnaaaGreat
namespace Go.Proofs.YtjdbnoccdefnaaaGreat
open Go.RowKit
set_option linter.unusedVariables false
set_option linter.unusedSimpArgs false
variable {N:Nat} {w:World} {sb:Nat} {A:Array Value} {ad:Option Addr} {c n g of:Nat} {l:List In} {kg:Nat} {Fk:List Nat} {nk:Nat} {Kl:List Int} {S:List Int} {R:List Nat} {G:List (Int × Int)} {m:Nat} {D:List Int} {mg:Nat} {Fm:List Nat} {vr vg vd:Value}
  {S2:List Int} {R2:List Nat} {G2:List (Int × Int)} {m2:Nat} {D2:List Int} {mg2:Nat} {Fm2:List Nat} {vr2 vg2 vd2:Value} {vb:Value} {DD:List Int} {k:Int}
theorem Sv.low (h:Sv N w sb A ad c n g of l kg Fk nk Kl S R G m D mg Fm vr vg vd S2 R2 G2 m2 D2 mg2 Fm2 vr2 vg2 vd2 vb DD):∀ b ∈ Fs sb Fm vr vg vd Fm2 vr2 vg2 vd2 vb,N ≤ b ∧ b < w.heap.size:=fun b hb => by
  rcases List.mem_append.1 hb with hb | hb
  · exact h.near.low b hb
  · rcases List.mem_append.1 hb with hb | hb
    · exact h.far.low b hb
    · exact h.rb.lt b (by simpa using hb)
theorem Sv.apart (h:Sv N w sb A ad c n g of l kg Fk nk Kl S R G m D mg Fm vr vg vd S2 R2 G2 m2 D2 mg2 Fm2 vr2 vg2 vd2 vb DD):∀ b ∈ Fs sb Fm vr vg vd Fm2 vr2 vg2 vd2 vb,b ∉ Fk:=fun b hb hk => by
  obtain ⟨h1,h2,h3⟩:=h.d3 b hk
  rcases List.mem_append.1 hb with hb | hb
  · exact h1 hb
  · rcases List.mem_append.1 hb with hb | hb
    · exact h2 hb
    · exact h3 (by simpa using hb)
theorem Sv.kept {w':World} (h:Sv N w sb A ad c n g of l kg Fk nk Kl S R G m D mg Fm vr vg vd S2 R2 G2 m2 D2 mg2 Fm2 vr2 vg2 vd2 vb DD) {Fk':List Nat} {Kl':List Int} (hb:Below N w w') (hk:∀ b ∈ Fs sb Fm vr vg vd Fm2 vr2 vg2 vd2 vb,w'.heap[b]? = w.heap[b]?)
    (hs:SetS N w' kg Fk' nk Kl') (hn:∀ b ∈ Fk',b ∈ Fk ∨ w.heap.size ≤ b):Sv N w' sb A ad c n g of l kg Fk' nk Kl' S R G m D mg Fm vr vg vd S2 R2 G2 m2 D2 mg2 Fm2 vr2 vg2 vd2 vb DD:=by
  refine ⟨h.near.kept fun b hm => hk b (List.mem_append_left _ hm),h.far.kept fun b hm => hk b (List.mem_append_right _ (List.mem_append_left _ hm)),⟨h.env.pi.kept hb (Nat.le_refl _),h.env.at_,hs,h.env.n2⟩,h.a1,h.a14,row_kept h.rb fun b hm => hk b (List.mem_append_right _ (List.mem_append_right _ (by simpa using hm))),h.d1,h.d2,fun b hm => ?_⟩
  rcases hn b hm with h1 | h1
  · exact h.d3 b h1
  · refine ⟨fun h2 => ?_,fun h2 => ?_,fun h2 => ?_⟩
    · have:=(h.near.low b h2).2;omega
    · have:=(h.far.low b h2).2;omega
    · have:=(h.rb.lt b h2).2;omega
theorem Sv.known {w':World} (h:Sv N w sb A ad c n g of l kg Fk nk Kl S R G m D mg Fm vr vg vd S2 R2 G2 m2 D2 mg2 Fm2 vr2 vg2 vd2 vb DD) {Fk':List Nat} {Kl':List Int} (hN:N ≤ w.heap.size) (hs:SetS N w' kg Fk' nk Kl') (hc:Chg w w' Fk Fk') :
    Sv N w' sb A ad c n g of l kg Fk' nk Kl' S R G m D mg Fm vr vg vd S2 R2 G2 m2 D2 mg2 Fm2 vr2 vg2 vd2 vb DD:=
  h.kept (hc.below hN fun b hb => (h.env.ks.low b hb).1) (fun b hb => hc.block b (h.low b hb).2 (h.apart b hb)) hs hc.new
theorem Sv.beside {w':World} {mb:Nat} (h:Sv N w sb A ad c n g of l kg Fk nk Kl S R G m D mg Fm vr vg vd S2 R2 G2 m2 D2 mg2 Fm2 vr2 vg2 vd2 vb DD) (hmN:N ≤ mb) (hg:w.grownBy w' (some mb)) (h1:mb ∉ Fs sb Fm vr vg vd Fm2 vr2 vg2 vd2 vb) (h2:mb ∉ Fk) :
    Sv N w' sb A ad c n g of l kg Fk nk Kl S R G m D mg Fm vr vg vd S2 R2 G2 m2 D2 mg2 Fm2 vr2 vg2 vd2 vb DD:=
  h.kept ⟨hg.os,hg.tape,hg.output,hg.size,fun b hb => hg.block b (by have:=h.near.lo;have:=h.near.sblt;omega) (fun e => by injection e with e;omega)⟩ (fun b hb => hg.block b (h.low b hb).2 (fun e => by injection e with e;exact h1 (e ▸ hb)))
    (h.env.ks.kept fun b hb => hg.block b (h.env.ks.low b hb).2 (fun e => by injection e with e;exact h2 (e ▸ hb))) (fun b hb => .inl hb)
theorem keyI {x:Int} {n:Nat} (hx:0 ≤ x ∧ x < n) (hn:n ≤ 20000):keyOf Tryz.prog 3 (.int .i64 x) = some (.int .i64 x):=
  Maps.keyOf_int_mk Tryz.underlying3 (WalkArith.wf_i64 (by omega))
set_option maxRecDepth 100000 in
set_option maxHeartbeats 4000000 in
theorem reach36 {x:Int} {mb:Nat} {L:List Int} (h:Sv N w sb A ad c n g of l kg Fk nk Kl S R G m D mg Fm vr vg vd S2 R2 G2 m2 D2 mg2 Fm2 vr2 vg2 vd2 vb DD) (h0:A[0]? = some (.map (some mb))) (hM:MpS w mb L) (hx:0 ≤ x ∧ x < n) (hL:L.length ≤ n) :
    Calls Tryz.prog 36 #[.pointer (some ⟨sb,0,none⟩),.int .i64 x] w fun e w' => e = .returned (.tuple #[]) ∧ MpS w' mb (put1 Kl L x) ∧ w.grownBy w' (some mb):=by
  have D48:=has12 N kg Fk nk Kl x w (hid h.env.ks)
  have hn2:=h.env.n2
  have c0:w.cell? ⟨sb,0,none⟩ = some (.map (some mb)):=(h.near.cell _).trans h0
  have c1:w.cell? ⟨sb,1,none⟩ = some (.pointer (some ⟨kg,0,none⟩)):=(h.near.cell _).trans h.a1
  have hkey:=keyI hx hn2
  obtain ⟨D0,hD⟩:=hM
  clear h
  by_cases hin:x ∈ Kl
  · rw [decide_eq_true hin] at D48
    have e1:put1 Kl L x = L:=by unfold put1;rw [if_pos hin]
    go_enter Tryz.func36,Tryz.ntmps36
    go_wp2_with (go_at_call 48;(with_reducible refine D48.mono ?_);rintro e w3 ⟨rfl,kk,rfl⟩)
    go_end0
    exact ⟨rfl,by rw [e1];exact ⟨D0,hD.own,hD.nd,hD.hs,hD.sz⟩,rfl,rfl,rfl,Nat.le_refl _,fun _ _ _ => rfl⟩
  · rw [decide_eq_false hin] at D48
    have e1:put1 Kl L x = ins x L:=by unfold put1;rw [if_neg hin]
    have HD:=hid hD
    have hown:∀ kk,(w.drewN kk).ownsMap Tryz.prog 3 (unitElem (H:=Unit)) mb L.length D0:=fun kk => hD.own
    clear hD
    go_enter Tryz.func36,Tryz.ntmps36
    go_wp2_with (first
      | (go_at_call 48;(with_reducible refine D48.mono ?_);rintro e w3 ⟨rfl,kk,rfl⟩)
      | (at_mapUpdate;refine wpList_mapUpdate_own _ rfl _ _ _ 73 rfl 3 86 keyed3 Tryz.underlying73 (unitElem (H:=Unit)) mb L.length D0 rfl (hown _) (by unfold maxLen;omega) _ _ _ rfl rfl hkey _ [] unitElem_mk ?_;intro w1 hown1 hgrow1)
      | go_in)
    go_end0
    exact ⟨rfl,MpS.put HD.out hown1,hgrow1.os,hgrow1.tape,hgrow1.output,hgrow1.size,hgrow1.block⟩
end Go.Proofs.YtjdbnoccdefnaaaGreat
