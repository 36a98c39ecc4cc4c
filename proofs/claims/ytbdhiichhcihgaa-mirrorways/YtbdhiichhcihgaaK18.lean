/- HELPERS: texts of ours put together. -/
import Derived.Test.YtbdhiichhcihgaaK07
import Derived.Test.YtbdhiichhcihgaaK03
import Derived.Test.YtbdhiichhcihgaaK14
import Derived.Test.YtbdhiichhcihgaaK17
import Derived.Test.YtbdhiichhcihgaaK01
import Derived.Deep.SlicePairs
import Derived.RowKit
import Derived.Laws.EntriesVeiled
import Derived.WalkLawsBesides
import Derived.Lib.LazyBuf
import Derived.Deep.Cut
import Derived.Laws.Rows
import Derived.Deep.MidRow
import Derived.Deep.OwnRows
import Derived.WalkKit
import Derived.Laws.BitsLemmas
import Derived.Deep.RegionHeld2
import Derived.Lib.MinMax
import Derived.BigQuiet
import Derived.Laws.StructEq
import Derived.Deep.DrawnRows
import Derived.Test.YtbdhiichhcihgaaK05
import Derived.Test.YtbdhiichhcihgaaK08
import Derived.Test.YtbdhiichhcihgaaK04
import Derived.Test.YtbdhiichhcihgaaK02
import Derived.Test.YtbdhiichhcihgaaProg
import Derived.ProofKit
import Derived.WalkSmall
import Derived.Deep.QuietTactic
import Derived.Deep.RegionWith
import Derived.Deep.WholeRow
import Derived.Lib.Small
import Derived.Deep.Onto
import Derived.Test.YtbdhiichhcihgaaK16
namespace Go.Proofs.Ytbdhiichhcihgaa
open Go.RowKit Go.Lk
set_option linter.unusedVariables false
set_option linter.unusedSimpArgs false
section
variable {tx:List Int}
theorem mtC_app {a b:List Tn}:∀ {p q:Nat},MtC tx (a ++ b) p q ↔ ∃ r,MtC tx a p r ∧ MtC tx b r q:=by
 induction a with
 | nil => intro p q;simp [MtC]
 | cons t a ih =>
  intro p q
  simp only [List.cons_append,MtC,ih]
  constructor
  ·rintro ⟨r,h1,r',h2,h3⟩;exact ⟨r',⟨r,h1,h2⟩,h3⟩
  ·rintro ⟨r',⟨r,h1,h2⟩,h3⟩;exact ⟨r,h1,r',h2,h3⟩
theorem mtC_one {t:Tn} {p q:Nat}:MtC tx [t] p q ↔ Mt tx t p q:=by
 simp only [MtC]
 constructor
 ·rintro ⟨r,h,rfl⟩;exact h
 ·intro h;exact ⟨q,h,rfl⟩
theorem mtC_rep {t:Tn}:∀ {c p q:Nat},MtC tx (List.replicate c t) p q ↔ Iter (Mt tx t) c p q:=by
 intro c
 induction c with
 | zero => intro p q;simp [MtC,Iter]
 | succ c ih => intro p q;simp only [List.replicate_succ,MtC,Iter,ih]
theorem mt_row:∀ {l:List Tn} {p q:Nat},Mt tx (rowN l) p q ↔ MtC tx l p q
 | [],p,q => by simp [rowN,Mt,MtC]
 | [x],p,q => by rw [mtC_one];rfl
 | x :: y :: l,p,q => by simp [rowN,Mt]
theorem mt_loop {x:Tn} {mn mx:Int} {lz:Bool} {p q:Nat}:Mt tx (loopN x mn mx lz) p q ↔ ∃ c:Nat,mn ≤ (c:Int) ∧ (mx < 0 ∨ (c:Int) ≤ mx) ∧ Iter (Mt tx x) c p q:=by
 simp [loopN,Mt,mtH_one]
theorem iter_one {R:Nat → Nat → Prop} {p q:Nat}:Iter R 1 p q ↔ R p q:=by
 constructor
 ·rintro ⟨r,h,h'⟩;simp only [Iter] at h';subst h';exact h
 ·intro h;exact ⟨q,h,rfl⟩
theorem mt_opt {x:Tn} {lz:Bool}:∀ {k p q:Nat},Mt tx (optN x lz k) p q ↔ ∃ c:Nat,c ≤ k + 1 ∧ Iter (Mt tx x) c p q:=by
 intro k
 induction k with
 | zero =>
  intro p q
  simp only [optN,mt_loop]
  constructor
  ·rintro ⟨c,_,h | h,h'⟩
   ·omega
   ·exact ⟨c,by omega,h'⟩
  ·rintro ⟨c,h,h'⟩;exact ⟨c,by omega,.inr (by omega),h'⟩
 | succ k ih =>
  intro p q
  simp only [optN,mt_loop]
  constructor
  ·rintro ⟨c,_,h | h,h'⟩
   ·omega
   ·have hc:c = 0 ∨ c = 1:=by omega
    rcases hc with rfl | rfl
    ·exact ⟨0,by omega,h'⟩
    ·rw [iter_one,mt_row] at h'
     simp only [MtC] at h'
     obtain ⟨r,h1,r',h2,rfl⟩:=h'
     obtain ⟨c,hc,h3⟩:=ih.1 h2
     exact ⟨c + 1,by omega,r,h1,h3⟩
  ·rintro ⟨c,h,h'⟩
   cases c with
   | zero => exact ⟨0,by omega,.inr (by omega),h'⟩
   | succ c =>
    obtain ⟨r,h1,h2⟩:=h'
    refine ⟨1,by omega,.inr (by omega),iter_one.2 (mt_row.2 ?_)⟩
    exact ⟨r,h1,q,ih.2 ⟨c,by omega,h2⟩,rfl⟩
theorem mt_spr {x:Tn} {mn mx:Int} {lz:Bool} (h0:0 ≤ mn) (h1:mx = -1 ∨ mn ≤ mx) {p q:Nat}:Mt tx (sprN x mn mx lz) p q ↔ ∃ c:Nat,mn ≤ (c:Int) ∧ (mx < 0 ∨ (c:Int) ≤ mx) ∧ Iter (Mt tx x) c p q:=by
 unfold sprN
 by_cases hx:mx < 0
 ·rw [if_pos hx]
  by_cases h2:mn < 2
  ·rw [if_pos h2,mt_loop]
   constructor
   ·rintro ⟨c,a,_,b⟩;exact ⟨c,a,.inl hx,b⟩
   ·rintro ⟨c,a,_,b⟩;exact ⟨c,a,.inl (by omega),b⟩
  ·rw [if_neg h2,mt_row,mtC_app]
   constructor
   ·rintro ⟨r,a,b⟩
    rw [mtC_rep] at a
    rw [mtC_one,mt_loop] at b
    obtain ⟨c,b1,_,b2⟩:=b
    exact ⟨(mn - 1).toNat + c,by omega,.inl hx,a.add b2⟩
   ·rintro ⟨c,a,_,b⟩
    have e:c = (mn - 1).toNat + (c - (mn - 1).toNat):=by omega
    rw [e] at b
    obtain ⟨r,b1,b2⟩:=b.split
    exact ⟨r,mtC_rep.2 b1,mtC_one.2 (mt_loop.2 ⟨_,by omega,.inl (by omega),b2⟩)⟩
 ·rw [if_neg hx,mt_row,mtC_app]
  by_cases h2:mn < mx
  ·rw [if_pos h2]
   constructor
   ·rintro ⟨r,a,b⟩
    rw [mtC_rep] at a
    rw [mtC_one,mt_opt] at b
    obtain ⟨c,b1,b2⟩:=b
    exact ⟨mn.toNat + c,by omega,.inr (by omega),a.add b2⟩
   ·rintro ⟨c,a,a',b⟩
    have e:c = mn.toNat + (c - mn.toNat):=by omega
    rw [e] at b
    obtain ⟨r,b1,b2⟩:=b.split
    exact ⟨r,mtC_rep.2 b1,mtC_one.2 (mt_opt.2 ⟨_,by omega,b2⟩)⟩
  ·rw [if_neg h2]
   simp only [mtC_rep]
   constructor
   ·rintro ⟨r,a,b⟩
    simp only [MtC] at b
    subst b
    exact ⟨mn.toNat,by omega,.inr (by omega),a⟩
   ·rintro ⟨c,a,a',b⟩
    have e:c = mn.toNat:=by omega
    subst e
    exact ⟨q,b,rfl⟩
end
mutual
theorem mt_spread (tx:List Int):∀ t:Tn,t.fine = true → Mt tx t.spread = Mt tx t
 | .mk k R a s mn mx lz ix nm,h => by
  simp only [Tn.fine,Bool.and_eq_true] at h
  have hk:=fine_kind0 h.1
  have hL:=mt_spreadL tx s h.2
  by_cases k6:k = 6
  ·subst k6
   have hs1:s.length = 1 ∧ 0 ≤ mn ∧ (mx = -1 ∨ mn ≤ mx):=by omega
   obtain ⟨u,rfl⟩:=List.length_eq_one_iff.1 hs1.1
   have hu:=hL.1 u (by simp)
   funext p q
   simp only [Tn.spread,spreadL,if_true]
   rw [eq_iff_iff,mt_spr hs1.2.1 hs1.2.2,hu]
   simp [Mt,mtH_one]
  ·funext p q
   simp only [Tn.spread,if_neg k6]
   simp only [Mt,hL.2.1,hL.2.2.1,hL.2.2.2,k6,false_and]
theorem mt_spreadL (tx:List Int):∀ ts:List Tn,fineL ts = true → (∀ t ∈ ts,Mt tx t.spread = Mt tx t) ∧ MtC tx (spreadL ts) = MtC tx ts ∧ MtA tx (spreadL ts) = MtA tx ts ∧ MtH tx (spreadL ts) = MtH tx ts
 | [],h => ⟨by simp,rfl,rfl,rfl⟩
 | t :: ts,h => by
  simp only [fineL,Bool.and_eq_true] at h
  have h1:=mt_spread tx t h.1
  have h2:=mt_spreadL tx ts h.2
  refine ⟨fun u hu => ?_,?_,?_,?_⟩
  ·rcases List.mem_cons.1 hu with rfl | hu
   ·exact h1
   ·exact h2.1 u hu
  ·funext p q;simp only [spreadL,MtC,h1,h2.2.1]
  ·funext p q;simp only [spreadL,MtA,h1,h2.2.2.1]
  ·funext p q;simp only [spreadL,MtH,h1]
end
/-! within the text -/
def Onw (n:Nat) (R:Nat → Nat → Prop):Prop:=∀ p q,p ≤ n → R p q → p ≤ q ∧ q ≤ n
theorem iter_onw {n:Nat} {R:Nat → Nat → Prop} (h:Onw n R):∀ c,Onw n (Iter R c):=by
 intro c
 induction c with
 | zero => intro p q hp hr;simp only [Iter] at hr;omega
 | succ c ih =>
  intro p q hp hr
  obtain ⟨r,h1,h2⟩:=hr
  have:=h p r hp h1
  have:=ih r q this.2 h2
  omega
mutual
theorem mt_onw (tx:List Int):∀ t:Tn,Onw tx.length (Mt tx t)
 | .mk k R a s mn mx lz ix nm => by
  have hL:=mt_onwL tx s
  intro p q hp h
  simp only [Mt] at h
  rcases h with ⟨_,h⟩ | ⟨_,h1,_,h⟩ | ⟨_,_,h⟩ | ⟨_,h⟩ | ⟨_,h⟩ | ⟨_,h⟩ | ⟨_,c,_,_,h⟩
  ·omega
  ·omega
  ·omega
  ·exact hL.1 p q hp h
  ·exact hL.2.1 p q hp h
  ·exact hL.2.2 p q hp h
  ·exact iter_onw hL.2.2 c p q hp h
theorem mt_onwL (tx:List Int):∀ ts:List Tn,Onw tx.length (MtC tx ts) ∧ Onw tx.length (MtA tx ts) ∧ Onw tx.length (MtH tx ts)
 | [] => ⟨fun p q hp h => by simp only [MtC] at h;omega,fun p q hp h => by simp [MtA] at h,fun p q hp h => by simp [MtH] at h⟩
 | t :: ts => by
  have h1:=mt_onw tx t
  have h2:=mt_onwL tx ts
  refine ⟨fun p q hp h => ?_,fun p q hp h => ?_,fun p q hp h => ?_⟩
  ·obtain ⟨r,a,b⟩:=h
   have:=h1 p r hp a
   have:=h2.1 r q this.2 b
   omega
  ·rcases h with h | h
   ·exact h1 p q hp h
   ·exact h2.2.1 p q hp h
  ·exact h1 p q hp h
end
def Sym (n:Nat) (R R':Nat → Nat → Prop):Prop:=∀ p q,p ≤ n → q ≤ n → (R p q ↔ R' (n - q) (n - p))
theorem sym_seq {n:Nat} {A A' B B':Nat → Nat → Prop} (oA:Onw n A) (oB':Onw n B') (hA:Sym n A A') (hB:Sym n B B'):Sym n (fun p q => ∃ r,A p r ∧ B r q) (fun p q => ∃ r,B' p r ∧ A' r q):=by
 intro p q hp hq
 constructor
 ·rintro ⟨r,h1,h2⟩
  have:=oA p r hp h1
  exact ⟨n - r,(hB r q this.2 hq).1 h2,(hA p r hp this.2).1 h1⟩
 ·rintro ⟨r,h1,h2⟩
  have:=oB' (n - q) r (by omega) h1
  refine ⟨n - r,(hA p (n - r) hp (by omega)).2 ?_,(hB (n - r) q (by omega) hq).2 ?_⟩
  ·rw [show n - (n - r) = r by omega];exact h2
  ·rw [show n - (n - r) = r by omega];exact h1
theorem iter_snoc {R:Nat → Nat → Prop} {c p q:Nat}:Iter R (c + 1) p q ↔ ∃ r,Iter R c p r ∧ R r q:=by
 constructor
 ·intro h
  obtain ⟨r,h1,h2⟩:=Iter.split (a:=c) (b:=1) h
  exact ⟨r,h1,iter_one.1 h2⟩
 ·rintro ⟨r,h1,h2⟩
  exact h1.add (iter_one.2 h2)
theorem sym_iter {n:Nat} {R R':Nat → Nat → Prop} (o:Onw n R) (o':Onw n R') (h:Sym n R R'):∀ c,Sym n (Iter R c) (Iter R' c):=by
 intro c
 induction c with
 | zero => intro p q hp hq;simp only [Iter];omega
 | succ c ih =>
  intro p q hp hq
  have e:=sym_seq o (iter_onw o' c) h ih p q hp hq
  rw [iter_snoc (R:=R')]
  exact e
/-! what holds at a place,read backward -/
namespace Look
theorem rev_at (l:List Int) (k:Nat) (hk:k < l.length):l.reverse.getD k 0 = l.getD (l.length - 1 - k) 0:=by
 simp [List.getD_eq_getElem?_getD,List.getElem?_reverse hk]
theorem flip_sumB (b1 b2 b3 b4 b5:Bool):Go.Lk.flipI (sumB b1 b2 b3 b4 b5 6) = sumB b2 b1 b4 b3 b5 6:=by
 cases b1 <;> cases b2 <;> cases b3 <;> cases b4 <;> cases b5 <;> decide +kernel
theorem at_back (l:List Int) (p:Nat) (hp:p ≤ l.length):atP l p = Go.Lk.flipI (atP l.reverse (l.length - p)):=by
 unfold atP
 rw [flip_sumB]
 have e1:begB p = endB l.reverse (l.length - p):=by
  unfold begB endB;rw [List.length_reverse];congr 1;simp only [eq_iff_iff];omega
 have e2:endB l p = begB (l.length - p):=by
  unfold begB endB;congr 1;simp only [eq_iff_iff];omega
 have e3:blB l p = elB l.reverse (l.length - p):=by
  unfold blB elB
  rw [List.length_reverse]
  by_cases h0:p = 0
  ·subst h0;simp
  ·have h1:¬ l.length - p = l.length:=by omega
   simp only [h0,h1,decide_false,Bool.false_or]
   rw [rev_at _ _ (by omega),show l.length - 1 - (l.length - p) = p - 1 by omega]
 have e4:elB l p = blB l.reverse (l.length - p):=by
  unfold blB elB
  by_cases h0:p = l.length
  ·have h1:l.length - p = 0:=by omega
   simp [h0]
  ·have h1:¬ l.length - p = 0:=by omega
   simp only [h0,h1,decide_false,Bool.false_or]
   rw [rev_at _ _ (by omega),show l.length - 1 - (l.length - p - 1) = p by omega]
 have e5:waB l p = wbB l.reverse (l.length - p):=by
  unfold waB wbB
  rw [List.length_reverse]
  by_cases h0:p = 0
  ·subst h0;simp
  ·have h1:0 < p:=by omega
   have h2:l.length - p < l.length:=by omega
   simp only [h1,h2,decide_true,Bool.true_and]
   rw [rev_at _ _ (by omega),show l.length - 1 - (l.length - p) = p - 1 by omega]
 have e6:wbB l p = waB l.reverse (l.length - p):=by
  unfold waB wbB
  by_cases h0:p = l.length
  ·simp [h0]
  ·have h1:0 < l.length - p:=by omega
   have h2:p < l.length:=by omega
   simp only [h1,h2,decide_true,Bool.true_and]
   rw [rev_at _ _ (by omega),show l.length - 1 - (l.length - p - 1) = p by omega]
 have e7:edgeB l p = edgeB l.reverse (l.length - p):=by
  unfold edgeB
  rw [e5,e6]
  cases wbB l.reverse (l.length - p) <;> cases waB l.reverse (l.length - p) <;> rfl
 rw [e1,e2,e3,e4,e7]
end Look
theorem held_flip (a:Int) (ha:assertB a = true) (b1 b2 b3 b4 b5:Bool):(bits .andNot .i64 a (Go.Lk.flipI (sumB b1 b2 b3 b4 b5 6)) == 0) = (bits .andNot .i64 (Go.Lk.flipI a) (sumB b1 b2 b3 b4 b5 6) == 0):=by
 simp only [assertB,Bool.or_eq_true,beq_iff_eq] at ha
 have ha':a = 1 ∨ a = 2 ∨ a = 4 ∨ a = 8 ∨ a = 16 ∨ a = 32:=by omega
 rcases ha' with rfl | rfl | rfl | rfl | rfl | rfl <;> cases b1 <;> cases b2 <;> cases b3 <;> cases b4 <;> cases b5 <;> decide +kernel
theorem held_back {tx:List Int} {a:Int} (ha:assertB a = true) {p:Nat} (hp:p ≤ tx.length):heldB tx a p = heldB tx.reverse (Go.Lk.flipI a) (tx.length - p):=by
 unfold heldB Look.atN
 rw [if_neg (by omega),if_neg (by rw [List.length_reverse];omega),Int.toNat_natCast,Int.toNat_natCast,Look.at_back tx p hp]
 exact held_flip a ha _ _ _ _ _
mutual
theorem mt_mir (tx:List Int):∀ t:Tn,t.fine = true → Sym tx.length (Mt tx t) (Mt tx.reverse t.mir)
 | .mk k R a s mn mx lz ix nm,h => by
  simp only [Tn.fine,Bool.and_eq_true] at h
  have hk:=fine_kind0 h.1
  have hF:=fine_node h.1
  have hL:=mt_mirL tx s h.2
  have hn:tx.reverse.length = tx.length:=List.length_reverse
  by_cases k7:k = 7
  ·subst k7
   have hs1:s.length = 1:=by omega
   obtain ⟨u,rfl⟩:=List.length_eq_one_iff.1 hs1
   intro p q hp hq
   have:=hL.1 u (by simp) p q hp hq
   simp only [Tn.mir,mirL,if_true]
   rw [← this]
   simp [Mt,MtH]
  intro p q hp hq
  simp only [Tn.mir,if_neg k7]
  by_cases k4:k = 4
  ·subst k4
   rw [if_pos rfl]
   simp only [Mt]
   simpa using hL.2.1 p q hp hq
  rw [if_neg k4]
  by_cases k1:k = 1
  ·subst k1
   simp [Mt];omega
  by_cases k2:k = 2
  ·subst k2
   simp only [Mt]
   simp only [show ¬ (2:Int) = 1 by decide,show ¬ (2:Int) = 3 by decide,show ¬ (2:Int) = 4 by decide,show ¬ (2:Int) = 5 by decide,show ¬ (2:Int) = 6 by decide,show ¬ (2:Int) = 7 by decide,false_and,false_or,or_false,true_and]
   rw [hn]
   constructor
   ·rintro ⟨h1,h2,rfl⟩
    refine ⟨by omega,?_,by omega⟩
    rw [Look.rev_at _ _ (by omega),show tx.length - 1 - (tx.length - (p + 1)) = p by omega]
    exact h2
   ·rintro ⟨h1,h2,h3⟩
    have e:q = p + 1:=by omega
    subst e
    rw [Look.rev_at _ _ (by omega),show tx.length - 1 - (tx.length - (p + 1)) = p by omega] at h2
    exact ⟨by omega,h2,rfl⟩
  by_cases k3:k = 3
  ·subst k3
   have ha:=hF.ast rfl
   simp only [Mt]
   simp only [show ¬ (3:Int) = 1 by decide,show ¬ (3:Int) = 2 by decide,show ¬ (3:Int) = 4 by decide,show ¬ (3:Int) = 5 by decide,show ¬ (3:Int) = 6 by decide,show ¬ (3:Int) = 7 by decide,false_and,false_or,or_false,true_and]
   constructor
   ·rintro ⟨h1,rfl⟩
    exact ⟨by rw [← held_back ha hp];exact h1,rfl⟩
   ·rintro ⟨h1,h2⟩
    have e:q = p:=by omega
    subst e
    exact ⟨by rw [held_back ha hp];exact h1,rfl⟩
  by_cases k5:k = 5
  ·subst k5
   simp only [Mt]
   simpa using hL.2.2 p q hp hq
  have k6:k = 6:=by omega
  subst k6
  have hs1:s.length = 1:=by omega
  obtain ⟨u,rfl⟩:=List.length_eq_one_iff.1 hs1
  have hu:=hL.1 u (by simp)
  have o':=mt_onw tx.reverse u.mir
  rw [hn] at o'
  simp only [Mt,mirL,mtH_one]
  simp only [show ¬ (6:Int) = 1 by decide,show ¬ (6:Int) = 2 by decide,show ¬ (6:Int) = 3 by decide,show ¬ (6:Int) = 4 by decide,show ¬ (6:Int) = 5 by decide,show ¬ (6:Int) = 7 by decide,false_and,false_or,or_false,true_and]
  constructor
  ·rintro ⟨c,h1,h2,h3⟩;exact ⟨c,h1,h2,(sym_iter (mt_onw tx u) o' hu c p q hp hq).1 h3⟩
  ·rintro ⟨c,h1,h2,h3⟩;exact ⟨c,h1,h2,(sym_iter (mt_onw tx u) o' hu c p q hp hq).2 h3⟩
theorem mt_mirL (tx:List Int):∀ ts:List Tn,fineL ts = true → (∀ t ∈ ts,Sym tx.length (Mt tx t) (Mt tx.reverse t.mir)) ∧ Sym tx.length (MtC tx ts) (MtC tx.reverse (mirL ts).reverse) ∧ Sym tx.length (MtA tx ts) (MtA tx.reverse (mirL ts))
 | [],h => ⟨by simp,fun p q hp hq => by simp [mirL,MtC];omega,fun p q hp hq => by simp [mirL,MtA]⟩
 | t :: ts,h => by
  simp only [fineL,Bool.and_eq_true] at h
  have h1:=mt_mir tx t h.1
  have h2:=mt_mirL tx ts h.2
  have hn:tx.reverse.length = tx.length:=List.length_reverse
  refine ⟨fun u hu => ?_,?_,?_⟩
  ·rcases List.mem_cons.1 hu with rfl | hu
   ·exact h1
   ·exact h2.1 u hu
  ·intro p q hp hq
   have o':=(mt_onwL tx.reverse (mirL ts).reverse).1
   rw [hn] at o'
   have e:=sym_seq (mt_onw tx t) o' h1 h2.2.1 p q hp hq
   simp only [MtC,mirL,List.reverse_cons,mtC_app]
   refine e.trans ?_
   constructor
   ·rintro ⟨r,a,b⟩;exact ⟨r,a,_,b,rfl⟩
   ·rintro ⟨r,a,r',b,c⟩;exact ⟨r,a,by rw [c];exact b⟩
  ·intro p q hp hq
   simp only [MtA,mirL,h1 p q hp hq,h2.2.2 p q hp hq]
end
theorem repN_le {mn mx:Int} {a b:Nat} (h:a ≤ b):repN mn mx a ≤ repN mn mx b:=by
 unfold repN
 split
 ·have:=Nat.mul_le_mul_left (max mn.toNat 1) h
  omega
 ·have h1:=Nat.mul_le_mul_left mn.toNat h
  have h2:=Nat.mul_le_mul_left (mx - mn).toNat (show 1 + a ≤ 1 + b by omega)
  omega
theorem szL_app (a b:List Tn):szL (a ++ b) = szL a + szL b:=by
 induction a with
 | nil => simp [szL]
 | cons t a ih => simp only [List.cons_append,szL,ih];omega
theorem szL_rev (a:List Tn):szL a.reverse = szL a:=by
 induction a with
 | nil => rfl
 | cons t a ih => simp only [List.reverse_cons,szL_app,szL,ih];omega
mutual
theorem mir_sz:∀ t:Tn,t.fine = true → t.mir.sz ≤ t.sz
 | .mk k R a s mn mx lz ix nm,h => by
  simp only [Tn.fine,Bool.and_eq_true] at h
  have hk:=fine_kind0 h.1
  have hL:=mirL_sz s h.2
  by_cases k7:k = 7
  ·subst k7
   have hs1:s.length = 1:=by omega
   obtain ⟨u,rfl⟩:=List.length_eq_one_iff.1 hs1
   simp only [mirL,szL] at hL
   simp only [Tn.mir,mirL,if_true,Tn.sz,szL,show ¬ (7:Int) = 6 by decide,if_false]
   omega
  ·simp only [Tn.mir,if_neg k7,Tn.sz]
   by_cases k4:k = 4
   ·rw [if_pos k4,szL_rev,if_neg (by omega),if_neg (by omega)];omega
   ·rw [if_neg k4]
    split
    ·exact repN_le hL
    ·omega
theorem mirL_sz:∀ ts:List Tn,fineL ts = true → szL (mirL ts) ≤ szL ts
 | [],_ => Nat.le_refl _
 | t :: ts,h => by
  simp only [fineL,Bool.and_eq_true] at h
  have h1:=mir_sz t h.1
  have h2:=mirL_sz ts h.2
  simp only [mirL,szL]
  omega
end
theorem errP_parts {t:Tn} {tn:Nat} {at_:Int} (h:errP t tn at_ = 0):tn ≤ 64 ∧ t.sound = true ∧ t.sz ≤ 2000 ∧ 0 ≤ at_ ∧ at_ ≤ (tn:Int):=by
 unfold errP at h
 split at h
 ·cases h
 ·split at h
  ·cases h
  ·split at h
   ·cases h
   ·split at h
    ·cases h
    ·rename_i g1 g2 g3 g4
     exact ⟨by omega,by simpa using g2,by omega,by omega,by omega⟩
theorem errP_on {t:Tn} {tn:Nat} {a q:Int} (h:errP t tn a = 0) (h1:a ≤ q) (h2:q ≤ tn):errP t tn q = 0:=by
 obtain ⟨p1,p2,p3,p4,p5⟩:=errP_parts h
 unfold errP
 rw [if_neg (by omega),if_neg (by simp [p2]),if_neg (by omega),if_neg (by omega)]
abbrev BNo (w:World) (b:Nat) (N:Nv):Prop:=w.heap[b]? = some (.cells #[.int .i64 N.k,.slice N.r1 N.r2 N.r3,.int .i64 N.a2,.slice N.s1 N.s2 N.s3,.int .i64 N.a4,.int .i64 N.a5,.bool N.a6,.int .i64 N.a7,.string N.a8] 25 (0,0))
theorem idx_inj {n p q i e:Nat} (h:p * n + q = i * n + e) (hq:q < n) (he:e < n):p = i ∧ q = e:=by
 have h1:(p * n + q) / n = p:=by rw [Nat.mul_comm,Nat.mul_add_div (by omega),Nat.div_eq_of_lt hq];omega
 have h2:(i * n + e) / n = i:=by rw [Nat.mul_comm,Nat.mul_add_div (by omega),Nat.div_eq_of_lt he];omega
 have hp:p = i:=by rw [← h1,h,h2]
 subst hp
 omega
theorem idx_lt {n p q:Nat} (hp:p < n) (hq:q < n):p * n + q < n * n:=by
 have:(p + 1) * n ≤ n * n:=Nat.mul_le_mul_right n (by omega)
 rw [Nat.add_mul] at this
 omega
structure Oly (b:Nat) (w w':World):Prop where
 os:w'.os = w.os
 tape:w'.tape = w.tape
 output:w'.output = w.output
 size:w'.heap.size = w.heap.size
 blk:∀ c,c ≠ b → w'.heap[c]? = w.heap[c]?
theorem Oly.refl (b:Nat) (w:World):Oly b w w:=⟨rfl,rfl,rfl,rfl,fun _ _ => rfl⟩
theorem Oly.set {b i:Nat} {w w':World} (h:Oly b w w') (v:Value):Oly b w (w'.setCell ⟨b,i,none⟩ v):=
 ⟨h.os,h.tape,h.output,by simp [World.setCell,h.size],fun c hc => (Below.heap_setCell _ _ _ _ hc).trans (h.blk c hc)⟩
theorem Oly.drew {b:Nat} {w w':World} (h:Oly b w w'):Oly b w w'.drew:=⟨h.os,h.tape,h.output,h.size,h.blk⟩
theorem Oly.below {b N:Nat} {w w1 w':World} (hb:Below N w w1) (h:Oly b w1 w') (hN:N ≤ b):Below N w w':=
 ⟨h.os.trans hb.os,h.tape.trans hb.tape,h.output.trans hb.output,by rw [h.size];exact hb.size,fun c hc => (h.blk c (by omega)).trans (hb.block c hc)⟩
def AnsX (t:Tn) (tx:List Int) (i:Nat) (w:World) (e:Ending) (w':World):Prop:=
 ∃ la lc l,e = .returned (.tuple #[.slice la l.length lc,.int .i64 0]) ∧ Parsed w.heap.size w' (.slice la l.length lc) l ∧ (∀ x ∈ l,∃ q:Nat,x.1 = (q:Int)) ∧ (∀ q:Nat,(q:Int) ∈ l.map Prod.fst ↔ Mt tx t i q) ∧ l.length ≤ 65 ∧ Below w.heap.size w w'
theorem AnsW.okX {t:Tn} {tx:List Int} {tn:Nat} {i:Nat} {w w':World} {e:Ending} (h:AnsW t tx tn (i:Int) w e w') (h0:errP t tn (i:Int) = 0) (hf:t.fine = true):AnsX t tx i w e w':=by
 obtain ⟨pv,l,rfl,h1,h2,h3,h4⟩:=h
 obtain ⟨la,lc,rfl⟩:=h1.form
 obtain ⟨h5,h6⟩:=h2 h0
 rw [Int.toNat_natCast] at h5
 obtain ⟨_,e1,e2⟩:=h5.ends
 rw [h0]
 refine ⟨la,lc,l,rfl,h1,e1,fun q => ?_,h6,h4⟩
 rw [e2 q,mt_spread tx t hf]
theorem AnsW.noX {t:Tn} {tx:List Int} {tn:Nat} {i:Nat} {w w':World} {e:Ending} (h:AnsW t tx tn (i:Int) w e w') (h0:errP t tn (i:Int) ≠ 0):∃ x,x ≠ 0 ∧ e = .returned (.tuple #[.slice none 0 0,.int .i64 x]) ∧ Below w.heap.size w w':=by
 obtain ⟨pv,l,rfl,h1,h2,h3,h4⟩:=h
 obtain ⟨rfl,_⟩:=h3 h0
 exact ⟨_,h0,rfl,h4⟩
def ReaC (t:Tn) (tx:List Int) (tn:Nat) (w:World) (e:Ending) (w':World):Prop:=
 ∃ ob f,e = .returned (.tuple #[.slice (some ⟨ob,0,none⟩) ((tn + 1) * (tn + 1)) ((tn + 1) * (tn + 1)),.bool true]) ∧ w.heap.size ≤ ob ∧ BRw w' ob ((tn + 1) * (tn + 1)) f ∧ (∀ p q,p ≤ tn → q ≤ tn → (f (p * (tn + 1) + q) = true ↔ Mt tx t p q)) ∧ Below w.heap.size w w'
set_option maxRecDepth 100000 in
set_option maxHeartbeats 32000000 in
theorem reaches7_ok {w:World} {N:Nv} {t:Tn} {tad:Option Addr} {tn tc:Nat} {tx:List Int} (h:TI w w.heap.size N t) (hT:Look.TextAt w.heap.size w tad tn tx) (htc:tn ≤ tc) (ht12:tn ≤ 12) (hE:errP t tn 0 = 0) :
  Calls Try.prog 7 #[N.v,.slice tad tn tc] w (ReaC t tx tn w):=by
 obtain ⟨U,hU⟩:∃ U,U = w.alloc (.cells #[.int .i64 N.k,.slice N.r1 N.r2 N.r3,.int .i64 N.a2,.slice N.s1 N.s2 N.s3,.int .i64 N.a4,.int .i64 N.a5,.bool N.a6,.int .i64 N.a7,.string N.a8] 25):=⟨_,rfl⟩
 have hbU:Below w.heap.size w U:=by rw [hU];exact Joins.below_alloc1 w _
 have hX:BNo U w.heap.size N:=by rw [hU];exact heap_alloc_new w _
 have hxU:w.heap.size < U.heap.size:=(Array.getElem?_eq_some_iff.1 hX).1
 have HTI:Hid (∀ (W:World),Below w.heap.size w W → TI W W.heap.size N t):=fun W hW => (h.kept fun b hb => hW.block b hb).le hW.size
 have HTW:Hid (∀ W,Below w.heap.size w W → Look.TextAt W.heap.size W tad tn tx):=fun W h => (hT.below h).mono h.size
 have HTL:=hid hT.1
 obtain ⟨p1,p2,p3,p4,p5⟩:=errP_parts hE
 have hf:=(sound_parts p2).1
 obtain ⟨n,hn⟩:∃ n,n = tn + 1:=⟨_,rfl⟩
 obtain ⟨M,hM⟩:∃ M,M = n * n:=⟨_,rfl⟩
 have hM2:M ≤ 10000:=by rw [hM];exact Nat.le_trans (Nat.mul_le_mul (show n ≤ 13 by omega) (show n ≤ 13 by omega)) (by omega)
 have a0:IntKind.i64.wrap ((tn:Int) + 1) = (n:Int):=by rw [wrap_ok _ (by omega) (by omega)];omega
 have a1:IntKind.i64.wrap ((n:Int) * (n:Int)) = (M:Int):=by rw [← Int.natCast_mul,← hM,wrap_ok _ (by omega) (by omega)]
 obtain ⟨U2,hU2⟩:∃ U2,U2 = U.alloc (.cells (madeCells #[.bool false] M) 4):=⟨_,rfl⟩
 have hmk:=makeB M hM2 U
 rw [← hU2] at hmk
 have hbU2:Below U.heap.size U U2:=by rw [hU2];exact Joins.below_alloc1 U _
 have hb2:Below w.heap.size w U2:=hbU.trans (Joins.below_le hbU2 hbU.size)
 have hR2:BRw U2 U.heap.size M (fun _ => false):=by rw [hU2];exact BRw.made U M
 obtain ⟨ob,hob⟩:∃ ob,ob = U.heap.size:=⟨_,rfl⟩
 rw [← hob] at hmk hR2
 have hobw:w.heap.size < ob:=by omega
 clear hU2 hob
 have HX2:Hid (BNo U2 w.heap.size N):=(hbU2.block _ hxU).trans hX
 obtain ⟨x,hx⟩:∃ x,x = w.heap.size:=⟨_,rfl⟩
 rw [← hx] at HX2 hobw
 have HB2:=hid hb2
 have HR2:=hid hR2
 have HXE:=hid hx
 have HME:=hid hM
 have HNE:=hid hn
 have HE:=hid hE
 have HF:=hid hf
 have hn13:n ≤ 13:=by omega
 have hnn:tn < n:=by omega
 clear h hT hbU hX hxU p1 p2 p3 p4 p5 hf hM hn hbU2 hb2 hR2 hE
 have HPOST:Hid (∀ W f,BRw W ob M f → (∀ p q,p ≤ tn → q ≤ tn → (f (p * n + q) = true ↔ p < n ∧ Mt tx t p q)) → Below w.heap.size w W → ReaC t tx tn w (.returned (.tuple #[.slice (some ⟨ob,0,none⟩) M M,.bool true])) W):=fun W f h1 h2 h3 => by
  have e1:=HNE.out
  have e2:=HME.out
  subst e1
  subst e2
  refine ⟨ob,f,rfl,by have:=HXE.out;omega,h1,fun p q hp hq => ?_,h3⟩
  rw [h2 p q hp hq]
  exact ⟨fun h => h.2,fun h => ⟨by omega,h⟩⟩
 obtain ⟨Q,hQ⟩:∃ Q,Q = ReaC t tx tn w:=⟨_,rfl⟩
 rw [← hQ] at HPOST ⊢
 go_enter Try.func7,Try.ntmps7
 go_upto_region 1 with fail
 rw [← hU,← hx]
 clear hU hx
 go_upto_region 3 with fail
 clear hmk a0 a1 hQ
 go_wp2_with fail
 go_loopw [8] (fun u wq => ∃ i:Nat,u = .int .i64 (i:Int) ∧ i ≤ n ∧ Hid (∃ f,BRw wq ob M f ∧ (∀ p q,p ≤ tn → q ≤ tn → (f (p * n + q) = true ↔ p < i ∧ Mt tx t p q))) ∧ Hid (BNo wq x N) ∧ Hid (Below w.heap.size w wq)) (fun u _ => n - (intOf u).toNat)
 case atStart => exact ⟨0,rfl,Nat.zero_le _,⟨_,HR2.out,fun p q _ _ => by simp⟩,HX2.out,HB2.out⟩
 case round =>
  obtain ⟨i,rfl,hi,HFF,HBX,HBW⟩:=hrel
  by_cases hin:i < n
  case neg =>
   have g1:decide ((i:Int) < (n:Int)) = false:=by simp;omega
   have hie:i = n:=by omega
   obtain ⟨f,hf1,hf2⟩:=HFF.out
   rw [hie] at hf2
   have HQF:=hid (HPOST.out wr f hf1 hf2 HBW.out)
   clear hf1 hf2 HFF hie
   go_wp2
   all_goals exact HQF.out
  have g1:decide ((i:Int) < (n:Int)) = true:=by simp;omega
  have a1:IntKind.i64.wrap ((i:Int) + 1) = (i:Int) + 1:=by rw [wrap_ok _ (by omega) (by omega)]
  have hit:i ≤ tn:=by have:=HNE.out;omega
  have hpe:errP t tn (i:Int) = 0:=errP_on HE.out (by omega) (by omega)
  have HQ:=(parses14 N t tx tad tn tc (i:Int) wr (HTI.out _ HBW.out) (HTW.out _ HBW.out) htc).mono fun e w' h => AnsW.okX h hpe HF.out
  obtain ⟨c0,c1,c2,c3,c4,c5,c6,c7,c8⟩:=nine' HBX.out
  have hobr:ob < wr.heap.size:=by obtain ⟨f,hf1,_⟩:=HFF.out;exact hf1.lt
  clear hpe
  go_upto_region 7 with (go_at_call 12;(with_reducible refine HQ.mono ?_);rintro e X1 ⟨la,lc,l,rfl,hl1,hl2,hl3,hl4,hb⟩;have HL1:=hid hl1;have HL2:=hid hl2;have HL3:=hid hl3;have HXB:=hid hb;clear hb hl1 hl2 hl3 HQ)
  clear c0 c1 c2 c3 c4 c5 c6 c7 c8
  have HBX1:Hid (BNo X1 x N):=(HXB.out.block x (by have:=HBW.out.size;have:=HXE.out;omega)).trans HBX.out
  have HBW1:Hid (Below w.heap.size w X1):=HBW.out.trans (Joins.below_le HXB.out HBW.out.size)
  have HF1:Hid (∃ f,BRw X1 ob M f ∧ (∀ p q,p ≤ tn → q ≤ tn → (f (p * n + q) = true ↔ p < i ∧ Mt tx t p q))):=by
   obtain ⟨f,hf1,hf2⟩:=HFF.out
   exact ⟨f,hf1.kept (HXB.out.block ob hf1.lt),hf2⟩
  generalize hll:l.length = ll at hl4
  have HLL:=hid hll
  have HEND:Hid (∀ k,k < ll → ∃ b,la = some ⟨b,0,none⟩ ∧ ob < b ∧ ∃ q:Nat,q ≤ tn ∧ l[k]?.map Prod.fst = some (q:Int) ∧ ∀ W,Oly ob X1 W → W.cell? ⟨b,k * 2,none⟩ = some (.int .i64 (q:Int))):=fun k hk => by
   rcases HL1.out.ends with ⟨_,e⟩ | ⟨b,cap,e,hb1,hb2,hc⟩
   ·rw [e] at hll;simp at hll;omega
   ·simp only [Value.slice.injEq] at e
    have hk':k < l.length:=by omega
    obtain ⟨q,hq⟩:=HL2.out l[k] (List.getElem_mem hk')
    have hm:=(HL3.out q).1 (by rw [← hq];exact List.mem_map_of_mem (List.getElem_mem hk'))
    have ho:=(mt_onw tx t i q (by rw [← HTL.out];exact hit) hm).2
    refine ⟨b,e.1,by omega,q,by rw [← HTL.out] at ho;exact ho,by rw [List.getElem?_eq_getElem hk'];simp [hq],fun W hW => ?_⟩
    rw [cell_eq (hW.blk b (by omega)),hc k hk',hq]
  clear hll HL1 HL2 HXB HBW HBX HFF
  go_upto_region 10 with fail
  go_loopw [11] (fun u wq => ∃ k:Nat,u = .int .i64 (k:Int) ∧ k ≤ ll ∧ Hid (Oly ob X1 wq) ∧ Hid (∃ f,BRw wq ob M f ∧ (∀ p q,p ≤ tn → q ≤ tn → (f (p * n + q) = true ↔ (p < i ∧ Mt tx t p q) ∨ (p = i ∧ (q:Int) ∈ (l.take k).map Prod.fst))))) (fun u _ => ll - (intOf u).toNat)
  case atStart =>
   refine ⟨0,rfl,Nat.zero_le _,Oly.refl _ _,?_⟩
   obtain ⟨f,hf1,hf2⟩:=HF1.out
   exact ⟨f,hf1,fun p q hp hq => by rw [hf2 p q hp hq];simp⟩
  case round =>
   obtain ⟨k,rfl,hk,HOL,HFF⟩:=hrel
   by_cases hkl:k < ll
   case neg =>
    have g2:decide ((k:Int) < (ll:Int)) = false:=by simp;omega
    have hke:k = ll:=by omega
    have HWB:Hid (Below w.heap.size w wr):=Oly.below HBW1.out HOL.out (by have:=HXE.out;omega)
    have HXX:Hid (BNo wr x N):=(HOL.out.blk x (by omega)).trans HBX1.out
    have HFN:Hid (∃ f,BRw wr ob M f ∧ (∀ p q,p ≤ tn → q ≤ tn → (f (p * n + q) = true ↔ p < i + 1 ∧ Mt tx t p q))):=by
     obtain ⟨f,hf1,hf2⟩:=HFF.out
     refine ⟨f,hf1,fun p q hp hq => ?_⟩
     rw [hf2 p q hp hq,hke,← HLL.out,List.take_length,HL3.out q]
     constructor
     ·rintro (⟨h1,h2⟩ | ⟨rfl,h2⟩)
      ·exact ⟨by omega,h2⟩
      ·exact ⟨by omega,h2⟩
     ·rintro ⟨h1,h2⟩
      by_cases e:p = i
      ·subst e;exact .inr ⟨rfl,h2⟩
      ·exact .inl ⟨by omega,h2⟩
    clear HFF hke
    go_wp2
    refine ⟨⟨i + 1,by push_cast;rfl,by omega,HFN.out,HXX.out,HWB.out⟩,by simp [intOf];omega⟩
   have g2:decide ((k:Int) < (ll:Int)) = true:=by simp;omega
   have g3:(k:Int) < (ll:Int):=by omega
   have a2:IntKind.i64.wrap ((k:Int) + 1) = (k:Int) + 1:=by rw [wrap_ok _ (by omega) (by omega)]
   obtain ⟨b,hla,hbo,q,hq,hlq,hcl⟩:=HEND.out k hkl
   subst hla
   have hc:=hcl wr HOL.out
   obtain ⟨j,hj⟩:∃ j,j = i * n + q:=⟨_,rfl⟩
   have hjM:j < M:=by rw [hj,HME.out];exact idx_lt hin (by omega)
   obtain ⟨in1,hin1⟩:∃ in1,in1 = i * n:=⟨_,rfl⟩
   have a3:IntKind.i64.wrap ((i:Int) * (n:Int)) = (in1:Int):=by rw [← Int.natCast_mul,← hin1,wrap_ok _ (by omega) (by omega)]
   have a4:IntKind.i64.wrap ((in1:Int) + (q:Int)) = (j:Int):=by rw [← Int.natCast_add,hin1,← hj,wrap_ok _ (by omega) (by omega)]
   clear hin1
   have b4:(j:Int) < (M:Int):=by omega
   have hcj:∃ v,wr.cell? ⟨ob,j,none⟩ = some v:=by obtain ⟨f,hf1,_⟩:=HFF.out;exact ⟨_,hf1.cell hjM⟩
   obtain ⟨vj,hcj⟩:=hcj
   have hfj:wr.frozen? ⟨ob,j,none⟩ = false:=by obtain ⟨f,hf1,_⟩:=HFF.out;exact hf1.free j
   have HNX:Hid (∀ W,W = wr ∨ W = wr.drew → Oly ob X1 (W.setCell ⟨ob,j,none⟩ (.bool true)) ∧ ∃ f,BRw (W.setCell ⟨ob,j,none⟩ (.bool true)) ob M f ∧ (∀ p q,p ≤ tn → q ≤ tn → (f (p * n + q) = true ↔ (p < i ∧ Mt tx t p q) ∨ (p = i ∧ (q:Int) ∈ (l.take (k + 1)).map Prod.fst)))):=fun W hW => by
    have hO:Oly ob X1 W:=by rcases hW with rfl | rfl;exact HOL.out;exact HOL.out.drew
    refine ⟨hO.set _,?_⟩
    obtain ⟨f,hf1,hf2⟩:=HFF.out
    have hf1':BRw W ob M f:=hf1.kept (by rcases hW with rfl | rfl <;> rfl)
    refine ⟨_,hf1'.set j true,fun p' q' hp' hq' => ?_⟩
    have hk':k < l.length:=by have:=HLL.out;omega
    have et:(l.take (k + 1)).map Prod.fst = (l.take k).map Prod.fst ++ [(q:Int)]:=by
     rw [List.take_succ_eq_append_getElem hk',List.map_append]
     rw [List.getElem?_eq_getElem hk'] at hlq
     simp at hlq
     simp [hlq]
    rw [et]
    have:=HNE.out
    by_cases e:p' * n + q' = j
    ·rw [if_pos e]
     obtain ⟨rfl,rfl⟩:=idx_inj (e.trans hj) (by omega) (by omega)
     simp
    ·rw [if_neg e,hf2 p' q' hp' hq']
     have:¬ (p' = i ∧ (q':Int) = (q:Int)):=fun ⟨h1,h2⟩ => e (by rw [hj,h1];congr 1;omega)
     simp only [List.mem_append,List.mem_singleton]
     constructor
     ·rintro (h | ⟨h1,h2⟩)
      ·exact .inl h
      ·exact .inr ⟨h1,.inl h2⟩
     ·rintro (h | ⟨h1,h2 | h2⟩)
      ·exact .inl h
      ·exact .inr ⟨h1,h2⟩
      ·exact absurd ⟨h1,h2⟩ this
   clear HFF hcl hlq HOL hj
   go_upto_region 11 with fail
   all_goals go_wp2
   all_goals (refine ⟨⟨k + 1,by push_cast;rfl,by omega,?_,?_⟩,by simp [intOf];omega⟩)
   all_goals first | exact (HNX.out _ (.inl rfl)).1 | exact (HNX.out _ (.inl rfl)).2 | exact (HNX.out _ (.inr rfl)).1 | exact (HNX.out _ (.inr rfl)).2
set_option maxRecDepth 100000 in
set_option maxHeartbeats 32000000 in
theorem reaches7_no {w:World} {N:Nv} {t:Tn} {tad:Option Addr} {tn tc:Nat} {tx:List Int} (h:TI w w.heap.size N t) (hT:Look.TextAt w.heap.size w tad tn tx) (htc:tn ≤ tc) (ht12:tn ≤ 12) (hE:errP t tn 0 ≠ 0) :
  Calls Try.prog 7 #[N.v,.slice tad tn tc] w fun e w' => ∃ a c,e = .returned (.tuple #[.slice a c c,.bool false]) ∧ Below w.heap.size w w':=by
 obtain ⟨U,hU⟩:∃ U,U = w.alloc (.cells #[.int .i64 N.k,.slice N.r1 N.r2 N.r3,.int .i64 N.a2,.slice N.s1 N.s2 N.s3,.int .i64 N.a4,.int .i64 N.a5,.bool N.a6,.int .i64 N.a7,.string N.a8] 25):=⟨_,rfl⟩
 have hbU:Below w.heap.size w U:=by rw [hU];exact Joins.below_alloc1 w _
 have hX:BNo U w.heap.size N:=by rw [hU];exact heap_alloc_new w _
 have hxU:w.heap.size < U.heap.size:=(Array.getElem?_eq_some_iff.1 hX).1
 obtain ⟨n,hn⟩:∃ n,n = tn + 1:=⟨_,rfl⟩
 obtain ⟨M,hM⟩:∃ M,M = n * n:=⟨_,rfl⟩
 have hM2:M ≤ 10000:=by rw [hM];exact Nat.le_trans (Nat.mul_le_mul (show n ≤ 13 by omega) (show n ≤ 13 by omega)) (by omega)
 have a0:IntKind.i64.wrap ((tn:Int) + 1) = (n:Int):=by rw [wrap_ok _ (by omega) (by omega)];omega
 have a1:IntKind.i64.wrap ((n:Int) * (n:Int)) = (M:Int):=by rw [← Int.natCast_mul,← hM,wrap_ok _ (by omega) (by omega)]
 obtain ⟨U2,hU2⟩:∃ U2,U2 = U.alloc (.cells (madeCells #[.bool false] M) 4):=⟨_,rfl⟩
 have hmk:=makeB M hM2 U
 rw [← hU2] at hmk
 have hbU2:Below U.heap.size U U2:=by rw [hU2];exact Joins.below_alloc1 U _
 clear hU2
 have hb2:Below w.heap.size w U2:=hbU.trans (Joins.below_le hbU2 hbU.size)
 have hX2:BNo U2 w.heap.size N:=(hbU2.block _ hxU).trans hX
 have HQ:=(parses14 N t tx tad tn tc ((0:Nat):Int) U2 ((h.kept fun b hb => hb2.block b hb).le hb2.size) ((hT.below hb2).mono hb2.size) htc).mono fun e w' h => AnsW.noX h hE
 have HQ':Calls Try.prog 12 #[N.v,.slice tad tn tc,.int .i64 0] U2 fun e w' => ∃ x,x ≠ 0 ∧ e = .returned (.tuple #[.slice none 0 0,.int .i64 x]) ∧ Below U2.heap.size U2 w':=HQ
 have HB2:=hid hb2
 obtain ⟨x,hx⟩:∃ x,x = w.heap.size:=⟨_,rfl⟩
 rw [← hx] at hX2
 obtain ⟨c0,c1,c2,c3,c4,c5,c6,c7,c8⟩:=nine' hX2
 have g1:decide ((0:Int) < (n:Int)) = true:=by simp;omega
 have g1':decide (0 < n) = true:=by simp;omega
 have HNP:=hid (show 0 < n by omega)
 clear h hT hbU hX hxU hM hn hbU2 hb2 hX2 hE HQ
 go_enter Try.func7,Try.ntmps7
 go_upto_region 1 with fail
 rw [← hU,← hx]
 clear hU hx
 go_upto_region 3 with fail
 clear hmk a0 a1
 go_wp2_with fail
 go_loopw [8] (fun u wq => u = .int .i64 0 ∧ wq = U2) (fun _ _ => 0)
 case atStart => exact ⟨rfl,rfl⟩
 case round =>
  obtain ⟨rfl,rfl⟩:=hrel
  go_upto_region 7 with (go_at_call 12;(with_reducible refine HQ'.mono ?_);rintro e X1 ⟨y,hy,rfl,hb⟩;have HY:=hid hy;have HXB:=hid hb;clear hb hy HQ')
  clear c0 c1 c2 c3 c4 c5 c6 c7 c8
  have g2:(y != 0) = true:=by simp;exact HY.out
  go_wp2
  all_goals go_ret2
  all_goals exact ⟨_,_,rfl,HB2.out.trans (Joins.below_le HXB.out HB2.out.size)⟩
end Go.Proofs.Ytbdhiichhcihgaa
