/- HELPERS: texts of ours put together. -/
import Derived.RowKit
import Derived.Test.YtjdbnoccdefnaaaGreatK05
import Derived.Test.YtjdbnoccdefnaaaGreatK04
import Derived.Test.YtjdbnoccdefnaaaGreatK02
import Derived.Test.YtjdbnoccdefnaaaGreatK01
import Derived.Deep.SlicePairs
import Derived.Test.YtjdbnoccdefnaaaGreatProg
import Derived.WalkKit
import Derived.ProofKit
import Derived.BigQuiet
import Derived.WalkSmall
import Derived.Deep.QuietTactic
import Derived.Deep.RegionWith
import Derived.Lib.SmallJoins
import Derived.Lib.MinMax
import Derived.Maps.AppendAt
import Derived.Laws.AppendOwnNone
import Derived.Lib.Small
import Derived.Deep.Cut
import Derived.Deep.CutRange
import Derived.Deep.RegionHeld3
namespace Go.Proofs.YtjdbnoccdefnaaaGreat
set_option linter.unusedVariables false
set_option linter.unusedSimpArgs false
section
variable {eps:Nat → List Nat}
inductive Us (eps:Nat → List Nat):List Nat → List Nat → Prop
  | nil:Us eps [] []
  | cons {n:Nat} {r o:List Nat}:Us eps (eps n ++ r) o → Us eps (n :: r) (n :: o)
theorem Us.det {a o:List Nat} (h:Us eps a o):∀ {o':List Nat},Us eps a o' → o = o':=by
  induction h with
  | nil => intro o' h;cases h;rfl
  | cons h ih => intro o' h';cases h' with | cons h' => rw [ih h']
theorem Us.app {a o:List Nat} (h:Us eps a o):∀ {b o':List Nat},Us eps b o' → Us eps (a ++ b) (o ++ o'):=by
  induction h with
  | nil => intro b o' h';exact h'
  | cons h ih =>
    intro b o' h'
    exact .cons (by have:=ih h';rwa [List.append_assoc] at this)
theorem Us.split:∀ {c o:List Nat},Us eps c o → ∀ {a b:List Nat},c = a ++ b → ∃ o1 o2,Us eps a o1 ∧ Us eps b o2 ∧ o = o1 ++ o2:=by
  intro c o h
  induction h with
  | nil => intro a b e;obtain ⟨rfl,rfl⟩:=List.append_eq_nil_iff.1 e.symm;exact ⟨[],[],.nil,.nil,rfl⟩
  | @cons n r o h ih =>
    intro a b e
    cases a with
    | nil => simp at e;subst e;exact ⟨[],n :: o,.nil,.cons h,rfl⟩
    | cons m a =>
      simp only [List.cons_append,List.cons.injEq] at e
      obtain ⟨rfl,rfl⟩:=e
      obtain ⟨o1,o2,h1,h2,rfl⟩:=ih (a:=eps n ++ a) (b:=b) (by simp)
      exact ⟨n :: o1,o2,.cons h1,h2,rfl⟩
theorem Us.one {n:Nat} {o:List Nat} (h:Us eps [n] o):∃ o1,Us eps (eps n) o1 ∧ o = n :: o1:=by
  cases h with
  | cons h => rw [List.append_nil] at h;exact ⟨_,h,rfl⟩
theorem Us.mk {n:Nat} {o:List Nat} (h:Us eps (eps n) o):Us eps [n] (n :: o):=.cons (by rw [List.append_nil];exact h)
theorem Us.mem {a o:List Nat} (h:Us eps a o):∀ i ∈ a,i ∈ o:=by
  induction h with
  | nil => intro i h;cases h
  | cons h ih =>
    intro i hi
    rcases List.mem_cons.1 hi with rfl | hi
    · simp
    · exact List.mem_cons_of_mem _ (ih i (List.mem_append_right _ hi))
theorem Us.sub {a o:List Nat} (h:Us eps a o):∀ i ∈ o,∃ p q s,Us eps [i] q ∧ o = p ++ (q ++ s):=by
  induction h with
  | nil => intro i h;cases h
  | @cons n r o h ih =>
    intro i hi
    rcases List.mem_cons.1 hi with rfl | hi
    · obtain ⟨o1,o2,h1,h2,rfl⟩:=h.split rfl
      exact ⟨[],i :: o1,o2,.mk h1,rfl⟩
    · obtain ⟨p,q,s,h1,rfl⟩:=ih i hi
      exact ⟨n :: p,q,s,h1,rfl⟩
theorem Us.lt {N:Nat} (he:∀ i,i < N → ∀ j ∈ eps i,j < N) {a o:List Nat} (h:Us eps a o):(∀ i ∈ a,i < N) → ∀ i ∈ o,i < N:=by
  induction h with
  | nil => intro _ i h;cases h
  | @cons n r o h ih =>
    intro ha i hi
    have hn:=ha n (by simp)
    rcases List.mem_cons.1 hi with rfl | hi
    · exact hn
    · exact ih (fun j hj => by
        rcases List.mem_append.1 hj with hj | hj
        · exact he n hn j hj
        · exact ha j (by simp [hj])) i hi
inductive Uk (eps:Nat → List Nat) (K:Nat → Prop):List Nat → List Nat → List Nat → Prop
  | nil:Uk eps K [] [] []
  | door {n:Nat} {r o d:List Nat}:K n → Uk eps K r o d → Uk eps K (n :: r) o (n :: d)
  | go {n:Nat} {r o d:List Nat}:¬ K n → Uk eps K (eps n ++ r) o d → Uk eps K (n :: r) (n :: o) d
variable {K:Nat → Prop}
theorem Uk.det {a o d:List Nat} (h:Uk eps K a o d):∀ {o' d':List Nat},Uk eps K a o' d' → o = o' ∧ d = d':=by
  induction h with
  | nil => intro o' d' h;cases h;exact ⟨rfl,rfl⟩
  | door hk h ih =>
    intro o' d' h'
    cases h' with
    | door _ h' => obtain ⟨e1,e2⟩:=ih h';exact ⟨e1,by rw [e2]⟩
    | go hk' _ => exact absurd hk hk'
  | go hk h ih =>
    intro o' d' h'
    cases h' with
    | door hk' _ => exact absurd hk' hk
    | go _ h' => obtain ⟨e1,e2⟩:=ih h';exact ⟨by rw [e1],e2⟩
theorem Uk.app {a o d:List Nat} (h:Uk eps K a o d):∀ {b o' d':List Nat},Uk eps K b o' d' → Uk eps K (a ++ b) (o ++ o') (d ++ d'):=by
  induction h with
  | nil => intro b o' d' h';exact h'
  | door hk h ih => intro b o' d' h';exact .door hk (ih h')
  | go hk h ih => intro b o' d' h';exact .go hk (by have:=ih h';rwa [List.append_assoc] at this)
theorem Uk.split:∀ {c o d:List Nat},Uk eps K c o d → ∀ {a b:List Nat},c = a ++ b → ∃ o1 d1 o2 d2,Uk eps K a o1 d1 ∧ Uk eps K b o2 d2 ∧ o = o1 ++ o2 ∧ d = d1 ++ d2:=by
  intro c o d h
  induction h with
  | nil => intro a b e;obtain ⟨rfl,rfl⟩:=List.append_eq_nil_iff.1 e.symm;exact ⟨[],[],[],[],.nil,.nil,rfl,rfl⟩
  | @door n r o d hk h ih =>
    intro a b e
    cases a with
    | nil => simp at e;subst e;exact ⟨[],[],o,n :: d,.nil,.door hk h,rfl,rfl⟩
    | cons m a =>
      simp only [List.cons_append,List.cons.injEq] at e
      obtain ⟨rfl,rfl⟩:=e
      obtain ⟨o1,d1,o2,d2,h1,h2,rfl,rfl⟩:=ih (a:=a) (b:=b) rfl
      exact ⟨o1,n :: d1,o2,d2,.door hk h1,h2,rfl,rfl⟩
  | @go n r o d hk h ih =>
    intro a b e
    cases a with
    | nil => simp at e;subst e;exact ⟨[],[],n :: o,d,.nil,.go hk h,rfl,rfl⟩
    | cons m a =>
      simp only [List.cons_append,List.cons.injEq] at e
      obtain ⟨rfl,rfl⟩:=e
      obtain ⟨o1,d1,o2,d2,h1,h2,rfl,rfl⟩:=ih (a:=eps n ++ a) (b:=b) (by simp)
      exact ⟨n :: o1,d1,o2,d2,.go hk h1,h2,rfl,rfl⟩
theorem Uk.notK {a o d:List Nat} (h:Uk eps K a o d):(∀ i ∈ o,¬ K i) ∧ ∀ i ∈ d,K i:=by
  induction h with
  | nil => exact ⟨fun i h => (by cases h),fun i h => (by cases h)⟩
  | door hk h ih => exact ⟨ih.1,fun i hi => by rcases List.mem_cons.1 hi with rfl | hi;exact hk;exact ih.2 i hi⟩
  | go hk h ih => exact ⟨fun i hi => by rcases List.mem_cons.1 hi with rfl | hi;exact hk;exact ih.1 i hi,ih.2⟩
theorem Uk.lt {N:Nat} (he:∀ i,i < N → ∀ j ∈ eps i,j < N) {a o d:List Nat} (h:Uk eps K a o d):(∀ i ∈ a,i < N) → (∀ i ∈ o,i < N) ∧ ∀ i ∈ d,i < N:=by
  induction h with
  | nil => intro _;exact ⟨fun i h => (by cases h),fun i h => (by cases h)⟩
  | @door n r o d hk h ih =>
    intro ha
    have h1:=ih (fun j hj => ha j (by simp [hj]))
    exact ⟨h1.1,fun i hi => by rcases List.mem_cons.1 hi with rfl | hi;exact ha i (by simp);exact h1.2 i hi⟩
  | @go n r o d hk h ih =>
    intro ha
    have hn:=ha n (by simp)
    have h1:=ih (fun j hj => by
      rcases List.mem_append.1 hj with hj | hj
      · exact he n hn j hj
      · exact ha j (by simp [hj]))
    exact ⟨fun i hi => by rcases List.mem_cons.1 hi with rfl | hi;exact hn;exact h1.1 i hi,h1.2⟩
theorem Uk.full {clo:Nat → List Nat} {a o d:List Nat} (h:Uk eps K a o d):(∀ i ∈ d,Us eps [i] (clo i)) → ∃ o',Us eps a o' ∧ o'.Perm (o ++ d.flatMap clo):=by
  induction h with
  | nil => intro _;exact ⟨[],.nil,by simp⟩
  | @door n r o d hk h ih =>
    intro hc
    obtain ⟨o2,h1,h2⟩:=ih (fun i hi => hc i (by simp [hi]))
    refine ⟨clo n ++ o2,(hc n (by simp)).app h1,?_⟩
    rw [List.flatMap_cons]
    exact (h2.append_left (clo n)).trans (by rw [← List.append_assoc,← List.append_assoc];exact List.perm_append_comm.append_right _)
  | @go n r o d hk h ih =>
    intro hc
    obtain ⟨o2,h1,h2⟩:=ih hc
    exact ⟨n :: o2,.cons h1,h2.cons n⟩
theorem Uk.of_full:∀ (k:Nat) {a o':List Nat},o'.length ≤ k → Us eps a o' → ∃ o d,Uk eps K a o d:=by
  intro k
  induction k with
  | zero =>
    intro a o' hl h
    cases h with
    | nil => exact ⟨[],[],.nil⟩
    | cons h => simp at hl
  | succ k ih =>
    intro a o' hl h
    cases h with
    | nil => exact ⟨[],[],.nil⟩
    | @cons n r o h =>
      simp at hl
      by_cases hk:K n
      · obtain ⟨o1,o2,h1,h2,rfl⟩:=h.split rfl
        obtain ⟨o,d,h3⟩:=ih (by simp at hl;omega) h2
        exact ⟨o,n :: d,.door hk h3⟩
      · obtain ⟨o,d,h3⟩:=ih hl h
        exact ⟨n :: o,d,.go hk h3⟩
theorem Uk.none {a o d:List Nat} (hK:∀ i,¬ K i) (h:Uk eps K a o d):Us eps a o ∧ d = []:=by
  induction h with
  | nil => exact ⟨.nil,rfl⟩
  | door hk h ih => exact absurd hk (hK _)
  | go hk h ih => exact ⟨.cons ih.1,ih.2⟩
theorem Us.uk {a o:List Nat} (hK:∀ i,¬ K i) (h:Us eps a o):Uk eps K a o []:=by
  induction h with
  | nil => exact .nil
  | cons h ih => exact .go (hK _) ih
inductive Fo (eps:Nat → List Nat) (ch:Nat → Prop):Nat → Nat → Prop
  | stop {i:Nat}:¬ ch i → Fo eps ch i i
  | go {i x f:Nat}:ch i → eps i = [x] → Fo eps ch x f → Fo eps ch i f
variable {ch:Nat → Prop}
theorem Fo.us {i f:Nat} (h:Fo eps ch i f):∀ {o:List Nat},Us eps [i] o → ∃ c q,o = c ++ q ∧ Us eps [f] q ∧ (∀ j ∈ c,ch j ∧ Fo eps ch j f) ∧ ¬ ch f:=by
  induction h with
  | @stop i hi => intro o ho;exact ⟨[],o,rfl,ho,fun j h => (by cases h),hi⟩
  | @go i x f hi hx hf ih =>
    intro o ho
    obtain ⟨o1,h1,rfl⟩:=ho.one
    rw [hx] at h1
    obtain ⟨c,q,rfl,h2,h3,h4⟩:=ih h1
    exact ⟨i :: c,q,rfl,h2,fun j hj => by
      rcases List.mem_cons.1 hj with rfl | hj
      · exact ⟨hi,.go hi hx hf⟩
      · exact h3 j hj,h4⟩
theorem Fo.det {i f:Nat} (h:Fo eps ch i f):∀ {g:Nat},Fo eps ch i g → f = g:=by
  induction h with
  | stop hi => intro g h;cases h with | stop _ => rfl | go hi' _ _ => exact absurd hi' hi
  | go hi hx hf ih => intro g h;cases h with | stop hi' => exact absurd hi hi' | go _ hx' hf' => rw [hx] at hx';cases hx';exact ih hf'
theorem Fo.ex (hch:∀ i,ch i → ∃ x,eps i = [x]):∀ (k:Nat) {i:Nat} {o:List Nat},o.length ≤ k → Us eps [i] o → ∃ f,Fo eps ch i f:=by
  intro k
  induction k with
  | zero => intro i o hl h;obtain ⟨o1,_,rfl⟩:=h.one;simp at hl
  | succ k ih =>
    intro i o hl h
    by_cases hi:ch i
    · obtain ⟨x,hx⟩:=hch i hi
      obtain ⟨o1,h1,rfl⟩:=h.one
      rw [hx] at h1
      obtain ⟨f,hf⟩:=ih (by simpa using hl) h1
      exact ⟨f,.go hi hx hf⟩
    · exact ⟨i,.stop hi⟩
end
structure PD where
  eps:Nat → List Nat
  rd:Nat → Bool
  mt:Nat → Bool
  ap:Nat → Nat → Prop
  sym:∀ {i j},ap i j → ap j i
variable {P:PD}
def PD.PL (P:PD) (o:List Nat):Prop:=(o.filter P.mt).length ≤ 1 ∧ (o.filter P.rd).Pairwise P.ap
def PD.Pl (P:PD) (n:Nat):Prop:=∃ o,Us P.eps [n] o ∧ o.Nodup ∧ P.PL o
def PD.cross (P:PD) (o q:List Nat):Prop:=(o.filter P.mt).length + (q.filter P.mt).length ≤ 1 ∧ ∀ i ∈ o.filter P.rd,∀ j ∈ q.filter P.rd,P.ap i j
theorem PD.PL.perm {o o':List Nat} (h:P.PL o) (hp:o.Perm o'):P.PL o':=⟨by rw [← (hp.filter P.mt).length_eq];exact h.1,((hp.filter P.rd).pairwise_iff P.sym).1 h.2⟩
theorem PD.PL_app {o q:List Nat}:P.PL (o ++ q) ↔ P.PL o ∧ P.PL q ∧ P.cross o q:=by
  unfold PD.PL PD.cross
  rw [List.filter_append,List.filter_append,List.length_append,List.pairwise_append]
  constructor
  · rintro ⟨h1,h2,h3,h4⟩
    exact ⟨⟨by omega,h2⟩,⟨by omega,h3⟩,h1,h4⟩
  · rintro ⟨⟨h1,h2⟩,⟨h3,h4⟩,h5,h6⟩
    exact ⟨h5,h2,h4,h6⟩
theorem PD.Pl.sub {n i:Nat} {o:List Nat} (hu:Us P.eps [n] o) (hn:o.Nodup) (hp:P.PL o) (hi:i ∈ o):P.Pl i:=by
  obtain ⟨p,q,s,h1,rfl⟩:=hu.sub i hi
  have e1:=(PD.PL_app.1 hp).2.1
  have e2:=(PD.PL_app.1 e1).1
  exact ⟨q,h1,((List.nodup_append.1 (List.nodup_append.1 hn).2.1)).1,e2⟩
noncomputable def PD.clo (P:PD) (n:Nat):List Nat:=by
  classical exact if h:∃ o,Us P.eps [n] o then h.choose else []
theorem PD.clo_eq {n:Nat} {o:List Nat} (h:Us P.eps [n] o):P.clo n = o:=by
  unfold PD.clo
  have hx:∃ o,Us P.eps [n] o:=⟨o,h⟩
  rw [dif_pos hx]
  exact hx.choose_spec.det h
theorem PD.Pl.clo {n:Nat} (h:P.Pl n):Us P.eps [n] (P.clo n) ∧ (P.clo n).Nodup ∧ P.PL (P.clo n):=by
  obtain ⟨o,h1,h2,h3⟩:=h
  rw [PD.clo_eq h1]
  exact ⟨h1,h2,h3⟩
structure KI (P:PD) (K:Nat → Prop):Prop where
  pl:∀ i,K i → P.Pl i
  cl:∀ i,K i → ∀ j ∈ P.eps i,K j
variable {K:Nat → Prop}
theorem KI.clo (h:KI P K):∀ {a o:List Nat},Us P.eps a o → (∀ i ∈ a,K i) → ∀ i ∈ o,K i:=by
  intro a o hu
  induction hu with
  | nil => intro _ i h;cases h
  | @cons n r o hu ih =>
    intro ha i hi
    have hn:=ha n (by simp)
    rcases List.mem_cons.1 hi with rfl | hi
    · exact hn
    · exact ih (fun j hj => by
        rcases List.mem_append.1 hj with hj | hj
        · exact h.cl n hn j hj
        · exact ha j (by simp [hj])) i hi
theorem KI.plain (h:KI P K) {n:Nat} {o d:List Nat} (hk:Uk P.eps K [n] o d):P.Pl n ↔ o.Nodup ∧ P.PL o ∧ (d.flatMap P.clo).Nodup ∧ P.PL (d.flatMap P.clo) ∧ P.cross o (d.flatMap P.clo):=by
  have hkn:=hk.notK
  have hcl:∀ i ∈ d,Us P.eps [i] (P.clo i):=fun i hi => (h.pl i (hkn.2 i hi)).clo.1
  obtain ⟨o',hu,hp⟩:=hk.full hcl
  have hD:∀ i ∈ d.flatMap P.clo,K i:=fun i hi => by
    obtain ⟨j,hj,hij⟩:=List.mem_flatMap.1 hi
    exact h.clo (hcl j hj) (fun q hq => by simp at hq;rw [hq];exact hkn.2 j hj) i hij
  constructor
  · rintro ⟨o2,h1,h2,h3⟩
    obtain rfl:=h1.det hu
    have h4:=(hp.nodup_iff).1 h2
    have h5:=h3.perm hp
    obtain ⟨h6,h7,h8⟩:=PD.PL_app.1 h5
    obtain ⟨h9,h10,_⟩:=List.nodup_append.1 h4
    exact ⟨h9,h6,h10,h7,h8⟩
  · rintro ⟨h1,h2,h3,h4,h5⟩
    refine ⟨o',hu,(hp.nodup_iff).2 (List.nodup_append.2 ⟨h1,h3,?_⟩),(PD.PL_app.2 ⟨h2,h4,h5⟩).perm hp.symm⟩
    intro i hi j hj e
    subst e
    exact hkn.1 i hi (hD i hj)
end Go.Proofs.YtjdbnoccdefnaaaGreat
namespace Go.Proofs.YtjdbnoccdefnaaaGreat
open Go.RowKit
set_option linter.unusedVariables false
set_option linter.unusedSimpArgs false
theorem right_mem:∀ (R:List (Int × Int)) (m:Int),rightFrom m R = true → ∀ r ∈ R,0 ≤ r.1 ∧ r.1 ≤ 1114111 ∧ 0 ≤ r.2 ∧ r.2 ≤ 1114111:=by
  intro R
  induction R with
  | nil => intro m _ r hr;simp at hr
  | cons a R ih =>
    intro m h r hr
    simp only [rightFrom,Bool.and_eq_true] at h
    rcases List.mem_cons.1 hr with rfl | hr
    · have:=h.1
      simp [okG,dom] at this
      omega
    · exact ih _ h.2 r hr
theorem right_ok {R:List (Int × Int)} (h:rightB R = true):R.length ≤ 5000 ∧ ∀ r ∈ R,0 ≤ r.1 ∧ r.1 ≤ 1114111 ∧ 0 ≤ r.2 ∧ r.2 ≤ 1114111:=by
  simp only [rightB,Bool.and_eq_true,decide_eq_true_eq] at h
  exact ⟨h.1,right_mem R 0 h.2⟩
inductive Fit (n k:Int):In → Prop where
  | rune (x:Int) (R:List (Int × Int)):0 ≤ x → x < n → 0 < R.length → rightB R = true → Fit n k ⟨1,x,0,0,R⟩
  | alt (x y:Int):0 ≤ x → x < n → 0 ≤ y → y < n → Fit n k ⟨2,x,y,0,[]⟩
  | cap (x a:Int):0 ≤ x → x < n → 0 ≤ a → a < k → Fit n k ⟨3,x,0,a,[]⟩
  | assert (x a:Int):0 ≤ x → x < n → 0 ≤ a → a ≤ 32 → Fit n k ⟨4,x,0,a,[]⟩
  | mtch (a:Int):0 ≤ a → a < 100 → Fit n k ⟨5,0,0,a,[]⟩
  | fail:Fit n k ⟨6,0,0,0,[]⟩
  | nop (x:Int):0 ≤ x → x < n → Fit n k ⟨7,x,0,0,[]⟩
theorem fit_of {I:In} {n k:Int} (h:I.okB n k = true):Fit n k I:=by
  obtain ⟨op,x,y,a,R⟩:=I
  simp only [In.okB,Bool.and_eq_true] at h
  obtain ⟨⟨⟨h1,h2⟩,h3⟩,h4⟩:=h
  by_cases e1:op = 1
  · subst e1
    simp [isTargetB,hasXB,hasYB,isArgB,isRangesB,belowB] at h1 h2 h3 h4
    subst h2;subst h3
    exact Fit.rune x R h1.1 h1.2 (by have:=h4.1;cases R <;> simp_all) h4.2
  by_cases e2:op = 2
  · subst e2
    simp [isTargetB,hasXB,hasYB,isArgB,isRangesB,belowB] at h1 h2 h3 h4
    subst h3;subst h4
    exact Fit.alt x y h1.1 h1.2 h2.1 h2.2
  by_cases e3:op = 3
  · subst e3
    simp [isTargetB,hasXB,hasYB,isArgB,isRangesB,belowB] at h1 h2 h3 h4
    subst h2;subst h4
    exact Fit.cap x a h1.1 h1.2 h3.1 h3.2
  by_cases e4:op = 4
  · subst e4
    simp [isTargetB,hasXB,hasYB,isArgB,isRangesB,belowB,assertB] at h1 h2 h3 h4
    subst h2;subst h4
    exact Fit.assert x a h1.1 h1.2 (by omega) (by omega)
  by_cases e5:op = 5
  · subst e5
    simp [isTargetB,hasXB,hasYB,isArgB,isRangesB,belowB] at h1 h2 h3 h4
    subst h1;subst h2;subst h4
    exact Fit.mtch a h3.1 h3.2
  by_cases e6:op = 6
  · subst e6
    simp [isTargetB,hasXB,hasYB,isArgB,isRangesB,belowB] at h1 h2 h3 h4
    subst h1;subst h2;subst h3;subst h4
    exact Fit.fail
  by_cases e7:op = 7
  · subst e7
    simp [isTargetB,hasXB,hasYB,isArgB,isRangesB,belowB] at h1 h2 h3 h4
    subst h2;subst h3;subst h4
    exact Fit.nop x h1.1 h1.2
  simp [isArgB,e1,e2,e3,e4,e5,e6,e7] at h3
theorem may_fit {l:List In} {s k:Int} (h:mayB l s k = true):l.length ≤ 20000 ∧ 0 ≤ s ∧ s < l.length ∧ 2 ≤ k ∧ k ≤ 1002 ∧ ∀ I ∈ l,Fit (l.length:Int) k I:=by
  simp only [mayB,Bool.and_eq_true,decide_eq_true_eq,List.all_eq_true] at h
  obtain ⟨⟨⟨h1,h2⟩,h3⟩,h4⟩:=h
  simp [belowB] at h2
  simp [capsB] at h3
  exact ⟨h1,h2.1,h2.2,by omega,by omega,fun I hI => fit_of (h4 I hI)⟩
end Go.Proofs.YtjdbnoccdefnaaaGreat
