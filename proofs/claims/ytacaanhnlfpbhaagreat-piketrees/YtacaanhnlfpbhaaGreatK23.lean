/- HELPERS: texts of ours put together. -/
import Derived.Test.YtacaanhnlfpbhaaGreatK20
import Derived.Test.YtacaanhnlfpbhaaGreatK10
import Derived.Test.YtacaanhnlfpbhaaGreatK09
import Derived.Test.YtacaanhnlfpbhaaGreatK22
import Derived.Test.YtacaanhnlfpbhaaGreatK02
import Derived.Test.YtacaanhnlfpbhaaGreatK01
namespace Go.Proofs.YtacaanhnlfpbhaaGreat
open Go.RowKit
set_option linter.unusedVariables false
set_option linter.unusedSimpArgs false
structure Mp where
 C:Int→Int→Prop
 L:Nat→Nat→Prop
 X:Int→Int→Prop
 Bd:Int→Way
 Xr:Int→Int→Prop
 Yr:Int→Int→Prop
inductive Hp (G:Mp):Way→Int→Prop
 | once {n n':Int} {d:Way} (h:G.C n n'):Hp G (.once n d) n
 | more {m n0:Int} {d:Way} (hX:G.X m n0) (h:Hp G d n0):Hp G (.once m d) n0
 | noted {c:Nat} {n0:Int} {d:Way} (h:Hp G d n0):Hp G (.noted c d) n0
mutual
inductive Sip (G:Mp) (E':Nat→Way):List Int→Way→Way→Prop
 | core {D:List Int} {W r:Way} (h:Sic G E' D W r):Sip G E' D W r
 | jump {D:List Int} {W:Way} {x:Nat} (h:Sip G E' D W (E' x)):Sip G E' D W (.again x)
 | ahead {D:List Int} {W d:Way} {j n0:Int} (hX:G.Xr j n0) (hh:Hp G W n0) (hD:j ∉ D) (h:Sip G E' (j :: D) W d):Sip G E' D W (.once j d)
inductive Sic (G:Mp) (E':Nat→Way):List Int→Way→Way→Prop
 | through {D:List Int}:Sic G E' D .through .through
 | once {D:List Int} {n n':Int} {d d':Way} (hC:G.C n n') (h:Sip G E' [] d d'):Sic G E' D (.once n d) (.once n' d')
 | onceA {D:List Int} {n n':Int} {l:List Way} {d':Way} {M:List Int} (hC:G.C n n') (h:Spa G E' M l d') (hY:∀ m ∈ M,G.Yr m n') (hM:M.Nodup):Sic G E' D (.once n (.inOrder l)) (.once n' d')
 | more {D:List Int} {m n0:Int} {d W':Way} (hX:G.X m n0) (hb:G.Bd m=d) (hh:Hp G d n0) (h:Sip G E' D d W'):Sic G E' D (.once m d) W'
 | noted {D:List Int} {c:Nat} {d d':Way} (h:Sip G E' D d d'):Sic G E' D (.noted c d) (.noted c d')
 | runeOf {D:List Int} {R:Rng} {d d':Way} (h:Sip G E' [] d d'):Sic G E' D (.runeOf R d) (.runeOf R d')
 | none {D:List Int} {R:Rng} {d:Way} (hR:R=[]):Sic G E' D (.runeOf R d) (.inOrder [])
 | ifHolds {D:List Int} {a:Int} {d d':Way} (h:Sip G E' [] d d'):Sic G E' D (.ifHolds a d) (.ifHolds a d')
 | again {D:List Int} {b b':Nat} (h:G.L b b'):Sic G E' D (.again b) (.again b')
inductive Spa (G:Mp) (E':Nat→Way):List Int→List Way→Way→Prop
 | two {x y x' y':Way} (h:Sip G E' [] x x') (h':Sip G E' [] y y'):Spa G E' [] [x,y] (.inOrder [x',y'])
 | more {x x' d2:Way} {l:List Way} {b:Int} {x2:Nat} {M:List Int} (h:Sip G E' [] x x') (hE:E' x2=.once b d2) (t:Spa G E' M l d2):Spa G E' (b :: M) (x :: l) (.inOrder [x',.again x2])
end
structure Mp.Ok (G:Mp) (E E':Nat→Way):Prop where
 one:∀ n n' m m',G.C n n'→G.C m m'→(n=m↔n'=m')
 noC:∀ m n0 n',G.X m n0→¬ G.C m n'
 oneX:∀ m n0 n1,G.X m n0→G.X m n1→n0=n1
 noCr:∀ j n0 n,G.Xr j n0→¬ G.C n j
 oneXr:∀ j n0 n1,G.Xr j n0→G.Xr j n1→n0=n1
 yC:∀ b a n,G.Yr b a→¬ G.C n b
 yX:∀ b a n0,G.Yr b a→¬ G.Xr b n0
 oneY:∀ b a a1,G.Yr b a→G.Yr b a1→a=a1
 loop:∀ b b',G.L b b'→Sip G E' [] (E b) (E' b')
structure Alp (G:Mp) (P:Int→Int→Prop) (D:List Int) (p:Nat) (s s':Sg):Prop where
 dn:∀ n n' q,G.C n n'→((n,q) ∈ s.done↔(n',q) ∈ s'.done)
 ex:∀ m n0 q,G.X m n0→(m,q) ∈ s.done→(n0,q) ∈ s.done∨P m q
 er:∀ j n0 q,G.Xr j n0→(j,q) ∈ s'.done→(n0,q) ∈ s.done∨(j ∈ D∧q=(p:Int))
 ya:∀ b a q,G.Yr b a→(b,q) ∈ s'.done→(a,q) ∈ s'.done
 nt:s.notes=s'.notes
 pr:s.parses=s'.parses
def Frp (G:Mp) (s' s1':Sg) (T:Int→Int→Prop):Prop:=∀ b a q,G.Yr b a→(a,q) ∈ s'.done→(b,q) ∈ s1'.done→(b,q) ∈ s'.done∨T b q
section
variable {G:Mp} {tx:List Int} {E E':Nat→Way}
theorem Alp.at {p:Nat} {s s':Sg} (h:Alp G NoP [] p s s') (p1:Nat):Alp G NoP [] p1 s s':=⟨h.dn,h.ex,fun j n0 q a b=>(by
  rcases h.er j n0 q a b with c | ⟨c,_⟩
  ·exact .inl c
  ·cases c),h.ya,h.nt,h.pr⟩
theorem Hp.fn (hG:G.Ok E E') {W:Way} {a b:Int} (h:Hp G W a):Hp G W b→a=b:=by
 induction h with
 | @once n n' d h =>
  intro h2
  cases h2 with
  | once _=>rfl
  | more hX _=>exact absurd h (hG.noC _ _ _ hX)
 | more hX h ih =>
  intro h2
  cases h2 with
  | once h3=>exact absurd h3 (hG.noC _ _ _ hX)
  | more _ h3=>exact ih h3
 | noted h ih =>
  intro h2
  cases h2 with
  | noted h3=>exact ih h3
theorem Hp.c {W:Way} {n0:Int} (h:Hp G W n0):∃ n0',G.C n0 n0':=by
 induction h with
 | once h=>exact ⟨_,h⟩
 | more _ _ ih=>exact ih
 | noted _ ih=>exact ih
theorem left_skip (hG:G.Ok E E') {W:Way} {n0:Int} (hh:Hp G W n0):∀ {p:Nat} {s s1:Sg},Ex tx E W p s s1→(n0,(p:Int)) ∈ s.done→s1.notes=s.notes∧s1.parses=s.parses∧(∀ x ∈ s.done,x ∈ s1.done)∧∀ x ∈ s1.done,x ∈ s.done∨∃ m,G.X m n0∧x=(m,(p:Int)):=by
 induction hh with
 | @once n n' d h =>
  intro p s s1 hx hd
  cases hx with
  | skip _=>exact ⟨rfl,rfl,fun x h=>h,fun x h=>.inl h⟩
  | once hn _=>exact absurd hd hn
 | @more m n0 d hX h ih =>
  intro p s s1 hx hd
  cases hx with
  | skip _=>exact ⟨rfl,rfl,fun x h=>h,fun x h=>.inl h⟩
  | once hn hx =>
   obtain ⟨a,b,c,e⟩:=ih hx (List.mem_append.2 (.inl hd))
   refine ⟨a,b,fun x h=>c x (List.mem_append.2 (.inl h)),fun x h=>?_⟩
   rcases e x h with h | h
   ·rcases mem_snoc.1 h with h | h
    ·exact .inl h
    ·exact .inr ⟨m,hX,h⟩
   ·exact .inr h
 | @noted c n0 d h ih =>
  intro p s s1 hx hd
  have hno:=hx.notes
  cases hx with
  | noted hx =>
   obtain ⟨a,b,c,e⟩:=ih hx hd
   exact ⟨hno,b,c,e⟩
theorem right_skip (hG:G.Ok E E') {D:List Int} {W W':Way} (h:Sip G E' D W W'):∀ (n0 n0':Int) (p:Nat) (s':Sg),Hp G W n0→G.C n0 n0'→(n0',(p:Int)) ∈ s'.done→∃ s1',Ex tx E' W' p s' s1'∧s1'.notes=s'.notes∧s1'.parses=s'.parses∧(∀ x ∈ s'.done,x ∈ s1'.done)∧∀ x ∈ s1'.done,x ∈ s'.done∨∃ j,G.Xr j n0∧x=(j,(p:Int)):=by
 refine Sip.rec (motive_1:=fun D W W' _=>∀ (n0 n0':Int) (p:Nat) (s':Sg),Hp G W n0→G.C n0 n0'→(n0',(p:Int)) ∈ s'.done→∃ s1',Ex tx E' W' p s' s1'∧s1'.notes=s'.notes∧s1'.parses=s'.parses∧(∀ x ∈ s'.done,x ∈ s1'.done)∧∀ x ∈ s1'.done,x ∈ s'.done∨∃ j,G.Xr j n0∧x=(j,(p:Int)))
  (motive_2:=fun D W W' _=>∀ (n0 n0':Int) (p:Nat) (s':Sg),Hp G W n0→G.C n0 n0'→(n0',(p:Int)) ∈ s'.done→∃ s1',Ex tx E' W' p s' s1'∧s1'.notes=s'.notes∧s1'.parses=s'.parses∧(∀ x ∈ s'.done,x ∈ s1'.done)∧∀ x ∈ s1'.done,x ∈ s'.done∨∃ j,G.Xr j n0∧x=(j,(p:Int)))
  (motive_3:=fun _ _ _ _=>True) ?_ ?_ ?_ ?_ ?_ ?_ ?_ ?_ ?_ ?_ ?_ ?_ ?_ ?_ h
 ·intro D W r _ ih;exact ih
 ·intro D W x _ ih n0 n0' p s' hh hc hd
  obtain ⟨s1',a,b⟩:=ih n0 n0' p s' hh hc hd
  exact ⟨s1',.again a,b⟩
 ·intro D W d j n1 hX hh1 hD _ ih n0 n0' p s' hh hc hd
  by_cases hj:(j,(p:Int)) ∈ s'.done
  ·exact ⟨s',.skip hj,rfl,rfl,fun x h=>h,fun x h=>.inl h⟩
  ·obtain ⟨s1',a,b,c,e,f⟩:=ih n0 n0' p { s' with done:=s'.done ++ [(j,(p:Int))] } hh hc (mem_snoc.2 (.inl hd))
   refine ⟨s1',.once hj a,b,c,fun x h=>e x (mem_snoc.2 (.inl h)),fun x h=>?_⟩
   rcases f x h with h | h
   ·rcases mem_snoc.1 h with h | h
    ·exact .inl h
    ·exact .inr ⟨j,by rw [hh.fn hG hh1];exact hX,h⟩
   ·exact .inr h
 ·intro D n0 n0' p s' hh;cases hh
 ·intro D n n' d d' hC _ _ n0 n0' p s' hh hc hd
  cases hh with
  | once _=>rw [← (hG.one _ _ _ _ hC hc).1 rfl] at hd;exact ⟨s',.skip hd,rfl,rfl,fun x h=>h,fun x h=>.inl h⟩
  | more hX _=>exact absurd hC (hG.noC _ _ _ hX)
 ·intro D n n' l d' M hC _ _ _ _ n0 n0' p s' hh hc hd
  cases hh with
  | once _=>rw [← (hG.one _ _ _ _ hC hc).1 rfl] at hd;exact ⟨s',.skip hd,rfl,rfl,fun x h=>h,fun x h=>.inl h⟩
  | more hX _=>exact absurd hC (hG.noC _ _ _ hX)
 ·intro D m n1 d W' hX hb hh1 _ ih n0 n0' p s' hh hc hd
  cases hh with
  | once h3=>exact absurd h3 (hG.noC _ _ _ hX)
  | more _ h3=>exact ih n0 n0' p s' h3 hc hd
 ·intro D c d d' _ ih n0 n0' p s' hh hc hd
  cases hh with
  | noted hh =>
   obtain ⟨s1',a,b,e,f,g⟩:=ih n0 n0' p { s' with notes:=s'.notes.set c (p:Int) } hh hc hd
   have hx2:Ex tx E' (.noted c d') p s' { s1' with notes:=s1'.notes.set c (s'.notes.getD c 0) }:=Ex.noted (c:=c) a
   exact ⟨_,hx2,hx2.notes,e,f,g⟩
 ·intro D R d d' _ _ n0 n0' p s' hh;cases hh
 ·intro D R d _ n0 n0' p s' hh;cases hh
 ·intro D a d d' _ _ n0 n0' p s' hh;cases hh
 ·intro D b b' _ n0 n0' p s' hh;cases hh
 ·intros;trivial
 ·intros;trivial
def Pep (G:Mp) (P:Int→Int→Prop) (W:Way) (p:Nat):Prop:=∀ m q,P m q→q=(p:Int)∧(∃ n0,G.X m n0∧Hp G W n0)∧SizeOf.sizeOf W≤SizeOf.sizeOf (G.Bd m)
theorem Pep.no (W:Way) (p:Nat):Pep G NoP W p:=fun m q h=>h.elim
def Ded (G:Mp) (D:List Int) (W:Way):Prop:=∀ j ∈ D,∃ n0,G.Xr j n0∧Hp G W n0
theorem Alp.settle (hG:G.Ok E E') {P:Int→Int→Prop} {D:List Int} {W:Way} {p:Nat} {n0:Int} {s s':Sg} (h:Alp G P D p s s') (hP:Pep G P W p) (hDd:Ded G D W) (hh:Hp G W n0) (hd:(n0,(p:Int)) ∈ s.done):Alp G NoP [] p s s':=
 ⟨h.dn,fun m n1 q a b=>(by
  rcases h.ex m n1 q a b with c | c
  ·exact .inl c
  ·obtain ⟨rfl,⟨n2,h1,h2⟩,_⟩:=hP m q c
   rw [hG.oneX m n1 n2 a h1,h2.fn hG hh]
   exact .inl hd),fun j n1 q a b=>(by
  rcases h.er j n1 q a b with c | ⟨c,rfl⟩
  ·exact .inl c
  ·obtain ⟨n2,h1,h2⟩:=hDd j c
   rw [hG.oneXr j n1 n2 a h1,h2.fn hG hh]
   exact .inl hd),h.ya,h.nt,h.pr⟩
theorem Alp.plain {P:Int→Int→Prop} {D:List Int} {W:Way} {p:Nat} {s s':Sg} (h:Alp G P D p s s') (hP:Pep G P W p) (hDd:Ded G D W) (hW:∀ n0,¬ Hp G W n0):Alp G NoP [] p s s':=
 ⟨h.dn,fun m n1 q a b=>(by
  rcases h.ex m n1 q a b with c | c
  ·exact .inl c
  ·obtain ⟨_,⟨n2,_,h2⟩,_⟩:=hP m q c
   exact absurd h2 (hW n2)),fun j n1 q a b=>(by
  rcases h.er j n1 q a b with c | ⟨c,_⟩
  ·exact .inl c
  ·obtain ⟨n2,_,h2⟩:=hDd j c
   exact absurd h2 (hW n2)),h.ya,h.nt,h.pr⟩
theorem Frp.refl (s:Sg) (T:Int→Int→Prop):Frp G s s T:=fun m n q _ _ h=>.inl h
def Res (G:Mp) (tx:List Int) (E':Nat→Way) (W':Way) (p:Nat) (s1 s':Sg) (T:Int→Int→Prop):Prop:=∃ s1',Ex tx E' W' p s' s1'∧Alp G NoP [] p s1 s1'∧Frp G s' s1' T
structure Sp3 (G:Mp) (tx:List Int) (E E':Nat→Way) (W:Way) (p:Nat) (s s1:Sg):Prop where
 ex:Ex tx E W p s s1
 one:∀ (D:List Int) (r:Way) (s':Sg) (P:Int→Int→Prop),Sic G E' D W r→Alp G P D p s s'→Pep G P W p→Ded G D W→Res G tx E' r p s1 s' NoT
 row:∀ (l:List Way) (n':Int) (M:List Int) (d':Way) (s':Sg),W=.inOrder l→Spa G E' M l d'→(∀ m ∈ M,G.Yr m n')→M.Nodup→(n',(p:Int)) ∈ s'.done→(∀ m ∈ M,(m,(p:Int)) ∉ s'.done)→Alp G NoP [] p s s'→Res G tx E' d' p s1 s' (fun m q=>m ∈ M∧q=(p:Int))
theorem sp_ahead (hG:G.Ok E E') {W:Way} {p:Nat} {s s1:Sg} (h:Sp3 G tx E E' W p s s1) {D:List Int} {W':Way} (hS:Sip G E' D W W'):∀ (s':Sg) (P:Int→Int→Prop),Alp G P D p s s'→Pep G P W p→Ded G D W→Res G tx E' W' p s1 s' NoT:=by
 revert h
 refine Sip.rec (motive_1:=fun D W W' _=>Sp3 G tx E E' W p s s1→∀ (s':Sg) (P:Int→Int→Prop),Alp G P D p s s'→Pep G P W p→Ded G D W→Res G tx E' W' p s1 s' NoT) (motive_2:=fun D W W' _=>True) (motive_3:=fun _ _ _ _=>True) ?_ ?_ ?_ ?_ ?_ ?_ ?_ ?_ ?_ ?_ ?_ ?_ ?_ ?_ hS
 ·intro D W r hc _ h s' P hA hP hD
  exact h.one D r s' P hc hA hP hD
 ·intro D W x _ ih h s' P hA hP hD
  obtain ⟨s1',a,b⟩:=ih h s' P hA hP hD
  exact ⟨s1',.again a,b⟩
 ·intro D W d j n0 hX hh hjD _ ih h s' P hA hP hD
  by_cases hj:(j,(p:Int)) ∈ s'.done
  ·have hd:(n0,(p:Int)) ∈ s.done:=by
    rcases hA.er j n0 _ hX hj with c | ⟨c,_⟩
    ·exact c
    ·exact absurd c hjD
   have hA2:=hA.settle hG hP hD hh hd
   obtain ⟨e1,e2,e3,e4⟩:=left_skip hG hh h.ex hd
   refine ⟨s',.skip hj,⟨fun n n' q hC=>?_,fun m n1 q hX1 hm=>?_,fun j1 n1 q hX1 hm=>?_,hA2.ya,by rw [e1];exact hA2.nt,by rw [e2];exact hA2.pr⟩,.refl _ _⟩
   ·rw [← hA2.dn n n' q hC]
    refine ⟨fun hm=>?_,fun hm=>e3 _ hm⟩
    rcases e4 _ hm with hm | ⟨m,hX2,e⟩
    ·exact hm
    ·simp only [Prod.mk.injEq] at e
     exact absurd hC (by rw [e.1];exact hG.noC _ _ _ hX2)
   ·rcases e4 _ hm with hm | ⟨m2,hX2,e⟩
    ·rcases hA2.ex m n1 q hX1 hm with c | c
     ·exact .inl (e3 _ c)
     ·exact .inr c
    ·simp only [Prod.mk.injEq] at e
     obtain ⟨rfl,rfl⟩:=e
     rw [hG.oneX _ _ _ hX1 hX2]
     exact .inl (e3 _ hd)
   ·rcases hA2.er j1 n1 q hX1 hm with c | c
    ·exact .inl (e3 _ c)
    ·exact .inr c
  ·have hA1:Alp G P (j :: D) p s { s' with done:=s'.done ++ [(j,(p:Int))] }:=by
    refine ⟨fun n n' q hC=>?_,hA.ex,fun j1 n1 q hX1 hm=>?_,fun b a q hY hm=>?_,hA.nt,hA.pr⟩
    ·simp only [mem_snoc,Prod.mk.injEq]
     rw [hA.dn n n' q hC]
     refine ⟨.inl,?_⟩
     rintro (h | ⟨rfl,_⟩)
     ·exact h
     ·exact absurd hC (hG.noCr _ _ _ hX)
    ·simp only [mem_snoc,Prod.mk.injEq] at hm
     rcases hm with hm | ⟨rfl,rfl⟩
     ·rcases hA.er j1 n1 q hX1 hm with c | ⟨c,e⟩
      ·exact .inl c
      ·exact .inr ⟨List.mem_cons_of_mem _ c,e⟩
     ·exact .inr ⟨List.mem_cons_self ..,rfl⟩
    ·simp only [mem_snoc,Prod.mk.injEq] at hm ⊢
     rcases hm with hm | ⟨rfl,_⟩
     ·exact .inl (hA.ya b a q hY hm)
     ·exact absurd hX (hG.yX _ _ _ hY)
   have hD1:Ded G (j :: D) W:=fun j1 hj1=>by
    rcases List.mem_cons.1 hj1 with rfl | hj1
    ·exact ⟨n0,hX,hh⟩
    ·exact hD j1 hj1
   obtain ⟨s1',a,b,c⟩:=ih h _ P hA1 hP hD1
   refine ⟨s1',.once hj a,b,fun b1 a1 q hY ha hb=>?_⟩
   rcases c b1 a1 q hY (mem_snoc.2 (.inl ha)) hb with h | h
   ·rcases mem_snoc.1 h with h | h
    ·exact .inl h
    ·simp only [Prod.mk.injEq] at h
     exact absurd hX (by rw [← h.1];exact hG.yX _ _ _ hY)
   ·exact .inr h
 ·intros;trivial
 ·intros;trivial
 ·intros;trivial
 ·intros;trivial
 ·intros;trivial
 ·intros;trivial
 ·intros;trivial
 ·intros;trivial
 ·intros;trivial
 ·intros;trivial
 ·intros;trivial
end
section
variable {G:Mp} {tx:List Int} {E E':Nat→Way}
theorem chn_two {M:Way→Sg→Sg→Prop} {x:Way} {l:List Way} {s s2:Sg} (h:Chn M (x :: l) s s2):∃ s1,M x s s1∧Chn M l s1 s2:=by cases h with | cons h t=>exact ⟨_,h,t⟩
theorem chn_none {M:Way→Sg→Sg→Prop} {s s2:Sg} (h:Chn M [] s s2):s2=s:=by cases h;rfl
theorem ex_two {x y:Way} {p:Nat} {s s1 s2:Sg} (h:Ex tx E x p s s1) (h':Ex tx E y p s1 s2):Ex tx E (.inOrder [x,y]) p s s2:=inOrder_of (.cons h (.cons h' (.nil _)))
theorem spa_chn (hG:G.Ok E E') {p:Nat} {M:List Int} {l:List Way} {d':Way} (h:Spa G E' M l d'):∀ (n':Int) (s s1 s':Sg),Chn (fun d s s1=>Sp3 G tx E E' d p s s1) l s s1→(∀ m ∈ M,G.Yr m n')→M.Nodup→(n',(p:Int)) ∈ s'.done→(∀ m ∈ M,(m,(p:Int)) ∉ s'.done)→Alp G NoP [] p s s'→Res G tx E' d' p s1 s' (fun m q=>m ∈ M∧q=(p:Int)):=by
 refine Spa.rec (motive_1:=fun _ _ _ _=>True) (motive_2:=fun _ _ _ _=>True) (motive_3:=fun M l d' _=>∀ (n':Int) (s s1 s':Sg),Chn (fun d s s1=>Sp3 G tx E E' d p s s1) l s s1→(∀ m ∈ M,G.Yr m n')→M.Nodup→(n',(p:Int)) ∈ s'.done→(∀ m ∈ M,(m,(p:Int)) ∉ s'.done)→Alp G NoP [] p s s'→Res G tx E' d' p s1 s' (fun m q=>m ∈ M∧q=(p:Int))) ?_ ?_ ?_ ?_ ?_ ?_ ?_ ?_ ?_ ?_ ?_ ?_ ?_ ?_ h
 ·intros;trivial
 ·intros;trivial
 ·intros;trivial
 ·intros;trivial
 ·intros;trivial
 ·intros;trivial
 ·intros;trivial
 ·intros;trivial
 ·intros;trivial
 ·intros;trivial
 ·intros;trivial
 ·intros;trivial
 ·intro x y x' y' hx hy _ _ n' s s1 s' hc hY hM hn hno hA
  obtain ⟨sm,c1,hc⟩:=chn_two hc
  obtain ⟨se,c2,hc⟩:=chn_two hc
  have:=chn_none hc
  subst this
  obtain ⟨a1,x1,b1,f1⟩:=sp_ahead hG c1 hx s' NoP hA (Pep.no _ _) (fun j hj=>by cases hj)
  obtain ⟨a2,x2,b2,f2⟩:=sp_ahead hG c2 hy a1 NoP b1 (Pep.no _ _) (fun j hj=>by cases hj)
  refine ⟨a2,ex_two x1 x2,b2,fun b a q hY ha hb=>?_⟩
  rcases f2 b a q hY (x1.mono _ ha) hb with h | h
  ·rcases f1 b a q hY ha h with h | h
   ·exact .inl h
   ·exact h.elim
  ·exact h.elim
 ·intro x x' d2 l b x2 M hx hE ht _ iht n' s s1 s' hc hY hM hn hno hA
  obtain ⟨sm,c1,hc⟩:=chn_two hc
  obtain ⟨hbM,hM⟩:=List.nodup_cons.1 hM
  have hYb:=hY b (List.mem_cons_self ..)
  obtain ⟨a1,x1,b1,f1⟩:=sp_ahead hG c1 hx s' NoP hA (Pep.no _ _) (fun j hj=>by cases hj)
  have hnot:∀ m ∈ b :: M,(m,(p:Int)) ∉ a1.done:=fun m hm hd=>by
   rcases f1 m n' _ (hY m hm) hn hd with h | h
   ·exact hno m hm h
   ·exact h
  have hn1:(n',(p:Int)) ∈ a1.done:=x1.mono _ hn
  have hA1:Alp G NoP [] p sm { a1 with done:=a1.done ++ [(b,(p:Int))] }:=by
   refine ⟨fun n n1 q hC=>?_,b1.ex,fun j n1 q hX hm=>?_,fun b2 a q hY2 hm=>?_,b1.nt,b1.pr⟩
   ·simp only [mem_snoc,Prod.mk.injEq]
    rw [b1.dn n n1 q hC]
    refine ⟨.inl,?_⟩
    rintro (h | ⟨rfl,_⟩)
    ·exact h
    ·exact absurd hC (hG.yC _ _ _ hYb)
   ·simp only [mem_snoc,Prod.mk.injEq] at hm
    rcases hm with hm | ⟨rfl,_⟩
    ·exact b1.er j n1 q hX hm
    ·exact absurd hX (hG.yX _ _ _ hYb)
   ·simp only [mem_snoc,Prod.mk.injEq] at hm ⊢
    rcases hm with hm | ⟨rfl,rfl⟩
    ·exact .inl (b1.ya b2 a q hY2 hm)
    ·rw [hG.oneY _ _ _ hY2 hYb]
     exact .inl hn1
  obtain ⟨a2,x2',b2,f2⟩:=iht n' sm s1 { a1 with done:=a1.done ++ [(b,(p:Int))] } hc (fun m hm=>hY m (List.mem_cons_of_mem _ hm)) hM (mem_snoc.2 (.inl hn1)) (fun m hm hd=>by
   rcases mem_snoc.1 hd with hd | hd
   ·exact hnot m (List.mem_cons_of_mem _ hm) hd
   ·simp only [Prod.mk.injEq] at hd
    rw [hd.1] at hm
    exact hbM hm) hA1
  refine ⟨a2,ex_two x1 (.again (by rw [hE];exact .once (hnot b (List.mem_cons_self ..)) x2')),b2,fun c a q hYc ha hb=>?_⟩
  rcases f2 c a q hYc (mem_snoc.2 (.inl (x1.mono _ ha))) hb with h | h
  ·rcases mem_snoc.1 h with h | h
   ·rcases f1 c a q hYc ha h with h | h
    ·exact .inl h
    ·exact h.elim
   ·simp only [Prod.mk.injEq] at h
    exact .inr ⟨by rw [h.1];exact List.mem_cons_self ..,h.2⟩
  ·exact .inr ⟨List.mem_cons_of_mem _ h.1,h.2⟩
end
section
variable {G:Mp} {tx:List Int} {E E':Nat→Way}
theorem sp_ex (hG:G.Ok E E') {W:Way} {p:Nat} {s s1:Sg} (h:Ex tx E W p s s1):Sp3 G tx E E' W p s s1:=by
 have hex:=h
 induction h with
 | through p s =>
  refine ⟨hex,fun D r s' P hS hA hP hD=>?_,fun l n' M d' s' e=>(by cases e)⟩
  have hA:=hA.plain hP hD (fun n0 h=>by cases h)
  cases hS
  exact ⟨_,.through p s',⟨hA.dn,hA.ex,hA.er,hA.ya,hA.nt,by simp only [hA.nt,hA.pr]⟩,fun m n q _ _ h=>.inl h⟩
 | @skip n d p s h =>
  refine ⟨hex,fun D r s' P hS hA hP hD=>?_,fun l n' M d' s' e=>(by cases e)⟩
  cases hS with
  | once hC _=>exact ⟨s',.skip ((hA.dn _ _ _ hC).1 h),hA.settle hG hP hD (.once hC) h,.refl _ _⟩
  | onceA hC _ _ _=>exact ⟨s',.skip ((hA.dn _ _ _ hC).1 h),hA.settle hG hP hD (.once hC) h,.refl _ _⟩
  | @more _ _ n0 _ _ hX hb hh hS =>
   have hd:(n0,(p:Int)) ∈ s.done:=by
    rcases hA.ex _ _ _ hX h with hd | hp
    ·exact hd
    ·have:=(hP _ _ hp).2.2
     rw [hb] at this
     simp at this
     omega
   obtain ⟨n0',hC⟩:=hh.c
   have hA2:=hA.settle hG hP hD (.more hX hh) hd
   obtain ⟨s1',x1,e1,e2,e3,e4⟩:=right_skip (tx:=tx) hG hS n0 n0' p s' hh hC ((hA.dn _ _ _ hC).1 hd)
   refine ⟨s1',x1,⟨fun a a' q ha=>?_,hA2.ex,fun j n1 q hX1 hm=>?_,fun b a q hY hm=>?_,by rw [e1];exact hA2.nt,by rw [e2];exact hA2.pr⟩,fun b a q hY ha hb=>?_⟩
   ·rw [hA2.dn a a' q ha]
    refine ⟨fun hm=>e3 _ hm,fun hm=>?_⟩
    rcases e4 _ hm with hm | ⟨j,hX2,e⟩
    ·exact hm
    ·simp only [Prod.mk.injEq] at e
     exact absurd ha (by rw [e.1];exact hG.noCr _ _ _ hX2)
   ·rcases e4 _ hm with hm | ⟨j2,hX2,e⟩
    ·exact hA2.er j n1 q hX1 hm
    ·simp only [Prod.mk.injEq] at e
     obtain ⟨rfl,rfl⟩:=e
     rw [hG.oneXr _ _ _ hX1 hX2]
     exact .inl hd
   ·rcases e4 _ hm with hm | ⟨j2,hX2,e⟩
    ·exact e3 _ (hA2.ya b a q hY hm)
    ·simp only [Prod.mk.injEq] at e
     exact absurd hX2 (by rw [← e.1];exact hG.yX _ _ _ hY)
   ·rcases e4 _ hb with hm | ⟨j2,hX2,e⟩
    ·exact .inl hm
    ·simp only [Prod.mk.injEq] at e
     exact absurd hX2 (by rw [← e.1];exact hG.yX _ _ _ hY)
 | @once n d p s s1 h hd ih =>
  have ih:=ih hd
  refine ⟨hex,fun D r s' P hS hA hP hD=>?_,fun l n' M d' s' e=>(by cases e)⟩
  have paired:∀ n',G.C n n'→Alp G NoP [] p { s with done:=s.done ++ [(n,(p:Int))] } { s' with done:=s'.done ++ [(n',(p:Int))] }:=fun n' hC=>by
   have hA1:Alp G P D p { s with done:=s.done ++ [(n,(p:Int))] } { s' with done:=s'.done ++ [(n',(p:Int))] }:=by
    refine ⟨fun a a' q ha=>?_,fun m n0 q hX hm=>?_,fun j n0 q hX hm=>?_,fun b a q hY hm=>?_,hA.nt,hA.pr⟩
    ·simp only [mem_snoc,Prod.mk.injEq]
     rw [hA.dn a a' q ha,hG.one a a' n n' ha hC]
    ·simp only [mem_snoc] at hm ⊢
     rcases hm with hm | hm
     ·rcases hA.ex m n0 q hX hm with hm | hm
      ·exact .inl (.inl hm)
      ·exact .inr hm
     ·simp only [Prod.mk.injEq] at hm
      exact absurd hC (by rw [← hm.1];exact hG.noC _ _ _ hX)
    ·simp only [mem_snoc] at hm ⊢
     rcases hm with hm | hm
     ·rcases hA.er j n0 q hX hm with hm | hm
      ·exact .inl (.inl hm)
      ·exact .inr hm
     ·simp only [Prod.mk.injEq] at hm
      exact absurd hC (by rw [← hm.1];exact hG.noCr _ _ _ hX)
    ·simp only [mem_snoc] at hm ⊢
     rcases hm with hm | hm
     ·exact .inl (hA.ya b a q hY hm)
     ·simp only [Prod.mk.injEq] at hm
      exact absurd hC (by rw [← hm.1];exact hG.yC _ _ _ hY)
   exact hA1.settle hG hP hD (.once hC) (by simp)
  cases hS with
  | @once _ _ n' _ d' hC hS =>
   have hn:(n',(p:Int)) ∉ s'.done:=fun hm=>h ((hA.dn _ _ _ hC).2 hm)
   obtain ⟨s1',hx,hA3,hF⟩:=sp_ahead hG ih hS _ NoP (paired n' hC) (Pep.no _ _) (fun j hj=>by cases hj)
   refine ⟨s1',.once hn hx,hA3,fun b a q hY ha hb=>?_⟩
   rcases hF b a q hY (mem_snoc.2 (.inl ha)) hb with c | c
   ·rcases mem_snoc.1 c with c | c
    ·exact .inl c
    ·simp only [Prod.mk.injEq] at c
     exact absurd hC (by rw [← c.1];exact hG.yC _ _ _ hY)
   ·exact c.elim
  | @onceA _ _ n' l d' M hC hS hY hM =>
   have hn:(n',(p:Int)) ∉ s'.done:=fun hm=>h ((hA.dn _ _ _ hC).2 hm)
   obtain ⟨s1',hx,hA3,hF⟩:=ih.row l n' M d' _ rfl hS hY hM (by simp) (fun m hm hd=>by
    rcases mem_snoc.1 hd with hd | hd
    ·exact hn (hA.ya m n' _ (hY m hm) hd)
    ·simp only [Prod.mk.injEq] at hd
     exact absurd hC (by rw [← hd.1];exact hG.yC _ _ _ (hY m hm))) (paired n' hC)
   refine ⟨s1',.once hn hx,hA3,fun b a q hYb ha hb=>?_⟩
   rcases hF b a q hYb (mem_snoc.2 (.inl ha)) hb with c | ⟨cm,rfl⟩
   ·rcases mem_snoc.1 c with c | c
    ·exact .inl c
    ·simp only [Prod.mk.injEq] at c
     exact absurd hC (by rw [← c.1];exact hG.yC _ _ _ hYb)
   ·rw [hG.oneY b a n' hYb (hY b cm)] at ha
    exact absurd ha hn
  | @more _ _ n0 _ _ hX hb hh hS =>
   have hA1:Alp G (fun m q=>P m q∨(m=n∧q=(p:Int))) D p { s with done:=s.done ++ [(n,(p:Int))] } s':=by
    refine ⟨fun a a' q ha=>?_,fun m n1 q hX1 hm=>?_,fun j n1 q hX1 hm=>?_,hA.ya,hA.nt,hA.pr⟩
    ·simp only [mem_snoc,Prod.mk.injEq]
     rw [← hA.dn a a' q ha]
     constructor
     ·rintro (hm | ⟨rfl,_⟩)
      ·exact hm
      ·exact absurd ha (hG.noC _ _ _ hX)
     ·exact .inl
    ·simp only [mem_snoc,Prod.mk.injEq] at hm ⊢
     rcases hm with hm | hm
     ·rcases hA.ex m n1 q hX1 hm with hm | hm
      ·exact .inl (.inl hm)
      ·exact .inr (.inl hm)
     ·exact .inr (.inr hm)
    ·rcases hA.er j n1 q hX1 hm with c | c
     ·exact .inl (mem_snoc.2 (.inl c))
     ·exact .inr c
   exact sp_ahead hG ih hS s' _ hA1 (fun m q hm=>by
    rcases hm with hm | ⟨rfl,rfl⟩
    ·obtain ⟨a,⟨n2,b1,b2⟩,c⟩:=hP m q hm
     refine ⟨a,⟨n2,b1,?_⟩,?_⟩
     ·rw [← (Hp.more hX hh).fn hG b2]
      exact hh
     ·simp at c
      omega
    ·exact ⟨rfl,⟨n0,hX,hh⟩,by rw [hb];exact Nat.le_refl _⟩) (fun j hj=>by
    obtain ⟨n2,b1,b2⟩:=hD j hj
    refine ⟨n2,b1,?_⟩
    rw [← (Hp.more hX hh).fn hG b2]
    exact hh)
 | @noted c d p s s1 hd ih =>
  have ih:=ih hd
  refine ⟨hex,fun D r s' P hS hA hP hD=>?_,fun l n' M d' s' e=>(by cases e)⟩
  have hPd:Pep G P d p:=fun m q hm=>by
   obtain ⟨a,⟨n2,b1,b2⟩,e⟩:=hP m q hm
   cases b2 with
   | noted b2=>exact ⟨a,⟨n2,b1,b2⟩,by simp at e;omega⟩
  have hDd:Ded G D d:=fun j hj=>by
   obtain ⟨n2,b1,b2⟩:=hD j hj
   cases b2 with
   | noted b2=>exact ⟨n2,b1,b2⟩
  have hno:s1.notes.set c (s.notes.getD c 0)=s.notes:=(Ex.noted hd).notes
  cases hS with
  | @noted _ _ _ d' hS =>
   obtain ⟨s1',hx,hA3,hF⟩:=sp_ahead hG ih hS { s' with notes:=s'.notes.set c (p:Int) } P ⟨hA.dn,hA.ex,hA.er,hA.ya,by simp only [hA.nt],hA.pr⟩ hPd hDd
   have hx2:=Ex.noted (c:=c) (s:=s') hx
   refine ⟨_,hx2,⟨hA3.dn,hA3.ex,hA3.er,hA3.ya,?_,hA3.pr⟩,hF⟩
   have e2:=hx2.notes
   simp only at e2 ⊢
   rw [hno,e2]
   exact hA.nt
 | over h =>
  refine ⟨hex,fun D r s' P hS hA hP hD=>?_,fun l n' M d' s' e=>(by cases e)⟩
  have hA:=hA.plain hP hD (fun n0 h=>by cases h)
  cases hS with
  | runeOf hS=>exact ⟨s',.over h,hA,.refl _ _⟩
  | none _=>exact ⟨s',inOrder_of (.nil _),hA,.refl _ _⟩
 | other h hr =>
  refine ⟨hex,fun D r s' P hS hA hP hD=>?_,fun l n' M d' s' e=>(by cases e)⟩
  have hA:=hA.plain hP hD (fun n0 h=>by cases h)
  cases hS with
  | runeOf hS=>exact ⟨s',.other h hr,hA,.refl _ _⟩
  | none _=>exact ⟨s',inOrder_of (.nil _),hA,.refl _ _⟩
 | @rune L d p s s1 h hr hd ih =>
  have ih:=ih hd
  refine ⟨hex,fun D r s' P hS hA hP hD=>?_,fun l n' M d' s' e=>(by cases e)⟩
  have hA:=hA.plain hP hD (fun n0 h=>by cases h)
  cases hS with
  | runeOf hS =>
   obtain ⟨s1',hx,hA3,hF⟩:=sp_ahead hG ih hS s' NoP (hA.at (p + 1)) (Pep.no _ _) (fun j hj=>by cases hj)
   exact ⟨s1',.rune h hr hx,hA3.at p,hF⟩
  | none hR=>subst hR;simp [hasB] at hr
 | fails h =>
  refine ⟨hex,fun D r s' P hS hA hP hD=>?_,fun l n' M d' s' e=>(by cases e)⟩
  have hA:=hA.plain hP hD (fun n0 h=>by cases h)
  cases hS with | ifHolds hS=>exact ⟨s',.fails h,hA,.refl _ _⟩
 | holds h hd ih =>
  have ih:=ih hd
  refine ⟨hex,fun D r s' P hS hA hP hD=>?_,fun l n' M d' s' e=>(by cases e)⟩
  have hA:=hA.plain hP hD (fun n0 h=>by cases h)
  cases hS with
  | ifHolds hS =>
   obtain ⟨s1',hx,hA3,hF⟩:=sp_ahead hG ih hS s' NoP hA (Pep.no _ _) (fun j hj=>by cases hj)
   exact ⟨s1',.holds h hx,hA3,hF⟩
 | @inOrder l p ss h ih =>
  refine ⟨hex,fun D r s' P hS hA hP hD=>(by cases hS),fun l1 n' M d' s' e hL hY hM hn hno hA=>?_⟩
  cases e
  exact spa_chn hG hL n' _ _ s' (chn_of l ss fun i hi=>ih i hi (h i hi)) hY hM hn hno hA
 | again h ih =>
  have ih:=ih h
  refine ⟨hex,fun D r s' P hS hA hP hD=>?_,fun l n' M d' s' e=>(by cases e)⟩
  have hA:=hA.plain hP hD (fun n0 h=>by cases h)
  cases hS with
  | again hL =>
   obtain ⟨s1',hx,hA3,hF⟩:=sp_ahead hG ih (hG.loop _ _ hL) s' NoP hA (Pep.no _ _) (fun j hj=>by cases hj)
   exact ⟨s1',.again hx,hA3,hF⟩
end
abbrev BNo (w:World) (b:Nat) (N:Nv):Prop:=w.heap[b]?=some (.cells #[.int .i64 N.k,.slice N.r1 N.r2 N.r3,.int .i64 N.a2,.slice N.s1 N.s2 N.s3,.int .i64 N.a4,.int .i64 N.a5,.bool N.a6,.int .i64 N.a7,.string N.a8] 25 (0,0))
theorem fine_kind0 {k:Int} {R:List (Int × Int)} {a:Int} {n:Nat} {mn mx:Int} {lz:Bool} {ix:Int} {nm:ByteArray} (h:nodeB k R a n mn mx lz ix nm=true) :
  ((k=1∨k=2∨k=3)∧n=0∧R.length≤5000)∨((k=4∨k=5)∧2≤n)∨(k=6∧n=1∧0≤mn∧mn≤1000∧(mx=-1∨mn≤mx∧mx≤1000))∨(k=7∧n=1∧1≤ix∧ix≤500):=by
 have hk:k=1∨k=2∨k=3∨k=4∨k=5∨k=6∨k=7:=(fine_node h).kind
 rcases hk with rfl | rfl | rfl | rfl | rfl | rfl | rfl
 ·simp [nodeB,bareB] at h;left;refine ⟨by omega,by omega,?_⟩;have:=h.1;simp [h]
 ·simp [nodeB,bareB] at h;left;exact ⟨by omega,by omega,rightB_len h.1⟩
 ·simp [nodeB,bareB] at h;left;refine ⟨by omega,by omega,?_⟩;simp [h]
 ·simp [nodeB,bareB] at h;right;left;exact ⟨by omega,by omega⟩
 ·simp [nodeB,bareB] at h;right;left;exact ⟨by omega,by omega⟩
 ·simp [nodeB,bareB] at h;right;right;left;exact ⟨rfl,by omega,by omega,by omega,by omega⟩
 ·simp [nodeB,bareB] at h;right;right;right;exact ⟨rfl,by omega,by omega,by omega⟩
mutual
def Tn.len:Tn→Nat
 | .mk k _ _ s mn mx _ _ _=>if k=2∨k=3 then 1 else if k=7 then lenL s + 2 else if k=4 then lenL s else if k=5 then lenL s + 2 * (s.length - 1) else if k=6 then (if mn=1∨mx=1 then lenL s + 1 else lenL s + 2) else 0
def lenL:List Tn→Nat
 | []=>0
 | t :: ts=>t.len + lenL ts
end
def forkI (round past:Nat) (lz:Bool):In:=if lz then ⟨2,(past:Int),(round:Int),0,[]⟩ else ⟨2,(round:Int),(past:Int),0,[]⟩
mutual
def Tn.lay:Tn→Nat→List In
 | .mk k R a s mn mx lz ix nm,n =>
  if k=2 then (if R.length=0 then [⟨6,0,0,0,[]⟩] else [⟨1,((n + 1:Nat):Int),0,0,R⟩])
  else if k=3 then [⟨4,((n + 1:Nat):Int),0,a,[]⟩]
  else if k=7 then ⟨3,((n + 1:Nat):Int),0,2 * ix,[]⟩ :: (layL s (n + 1) ++ [⟨3,((n + 1 + lenL s + 1:Nat):Int),0,2 * ix + 1,[]⟩])
  else if k=4 then layL s n
  else if k=5 then layA s n ((n + (lenL s + 2 * (s.length - 1)):Nat):Int)
  else if k=6 then
   if mn=1 then layL s n ++ [forkI n (n + lenL s + 1) lz]
   else if mx=1 then forkI (n + 1) (n + 1 + lenL s) lz :: layL s (n + 1)
   else forkI (n + 1) (n + 1 + lenL s + 1) lz :: (layL s (n + 1) ++ [⟨7,(n:Int),0,0,[]⟩])
  else []
def layL:List Tn→Nat→List In
 | [],_=>[]
 | t :: ts,n=>t.lay n ++ layL ts (n + t.len)
def layA:List Tn→Nat→Int→List In
 | [],_,_=>[]
 | [t],n,_=>t.lay n
 | t :: u :: ts,n,f=>⟨2,((n + 1:Nat):Int),((n + t.len + 2:Nat):Int),0,[]⟩ :: (t.lay (n + 1) ++ ⟨7,f,0,0,[]⟩ :: layA (u :: ts) (n + t.len + 2) f)
end
mutual
theorem lay_len:∀ (t:Tn) (n:Nat),(t.lay n).length=t.len
 | .mk k R a s mn mx lz ix nm,n=>by
  have h1:=layL_len s
  have h2:=layA_len s
  by_cases k2:k=2
  ·subst k2;simp [Tn.lay,Tn.len];split <;> rfl
  by_cases k3:k=3
  ·subst k3;simp [Tn.lay,Tn.len]
  by_cases k7:k=7
  ·subst k7;simp [Tn.lay,Tn.len,h1]
  by_cases k4:k=4
  ·subst k4;simp [Tn.lay,Tn.len,h1]
  by_cases k5:k=5
  ·subst k5;simp [Tn.lay,Tn.len,h2]
  by_cases k6:k=6
  ·subst k6
   by_cases m1:mn=1
   ·simp [Tn.lay,Tn.len,h1,m1]
   by_cases x1:mx=1
   ·simp [Tn.lay,Tn.len,h1,m1,x1]
   simp [Tn.lay,Tn.len,h1,m1,x1]
  simp [Tn.lay,Tn.len,k2,k3,k4,k5,k6,k7]
theorem layL_len:∀ (ts:List Tn) (n:Nat),(layL ts n).length=lenL ts
 | [],_=>rfl
 | t :: ts,n=>by simp only [layL,lenL,List.length_append,lay_len t n,layL_len ts (n + t.len)]
theorem layA_len:∀ (ts:List Tn) (n:Nat) (f:Int),(layA ts n f).length=lenL ts + 2 * (ts.length - 1)
 | [],_,_=>rfl
 | [t],n,_=>by simp only [layA,lenL,lay_len t n,List.length_cons,List.length_nil];omega
 | t :: u :: ts,n,f=>by
  have h:=layA_len (u :: ts) (n + t.len + 2) f
  simp only [layA,lenL,List.length_cons,List.length_append,lay_len t (n + 1),h]
  omega
end
theorem lenL_append (a b:List Tn):lenL (a ++ b)=lenL a + lenL b:=by
 induction a with
 | nil=>simp [lenL]
 | cons t a ih=>simp only [List.cons_append,lenL,ih];omega
theorem layL_append (a b:List Tn) (n:Nat):layL (a ++ b) n=layL a n ++ layL b (n + lenL a):=by
 induction a generalizing n with
 | nil=>simp [layL,lenL]
 | cons t a ih=>simp only [List.cons_append,layL,lenL,ih,List.append_assoc,Nat.add_assoc]
theorem lenL_rep (m:Nat) (l:List Tn):lenL (List.replicate m l).flatten=m * lenL l:=by
 induction m with
 | zero=>simp [lenL]
 | succ m ih=>rw [List.replicate_succ,List.flatten_cons,lenL_append,ih,Nat.add_mul];omega
mutual
def Tn.ln:Tn→Nat
 | .mk k _ _ s mn mx _ _ _=>if k=2∨k=3 then 1 else if k=7 then lnL s 0 + 2 else if k=5 then lnL s 0 + 2 * (s.length - 1) else if k=6 then (if mx≠-1 then mn.toNat * lnL s 0 + (mx - mn).toNat * (1 + lnL s 0) else if mn=0 then lnL s 0 + 2 else mn.toNat * lnL s 0 + 1) else lnL s 0
def lnL:List Tn→Nat→Nat
 | [],a=>a
 | t :: ts,a=>lnL ts (min (a + t.ln) 20001)
end
mutual
def Tn.top:Tn→Int
 | .mk _ _ _ s _ _ _ ix _=>topL s ix
def topL:List Tn→Int→Int
 | [],a=>a
 | t :: ts,a=>topL ts (max a t.top)
end
theorem topL_ge:∀ (ts:List Tn) (a:Int),a≤topL ts a
 | [],a=>Int.le_refl _
 | t :: ts,a=>by have:=topL_ge ts (max a t.top);simp only [topL];omega
theorem fine_ix {k:Int} {R:List (Int × Int)} {a:Int} {n:Nat} {mn mx:Int} {lz:Bool} {ix:Int} {nm:ByteArray} (h:nodeB k R a n mn mx lz ix nm=true):0≤ix∧ix≤500:=by
 have hk:=fine_kind0 h
 have hk':k=1∨k=2∨k=3∨k=4∨k=5∨k=6∨k=7:=by omega
 rcases hk' with rfl | rfl | rfl | rfl | rfl | rfl | rfl <;> simp [nodeB,bareB] at h <;> omega
mutual
theorem top_fine:∀ t:Tn,t.fine=true→0≤t.top∧t.top≤500
 | .mk k R a s mn mx lz ix nm,h=>by
  simp only [Tn.fine,Bool.and_eq_true] at h
  have h1:=fine_ix h.1
  simp only [Tn.top]
  exact topL_fine s h.2 ix h1
theorem topL_fine:∀ ts:List Tn,fineL ts=true→∀ a:Int,0≤a∧a≤500→0≤topL ts a∧topL ts a≤500
 | [],_=>fun a h=>h
 | t :: ts,h=>fun a ha=>by
  simp only [fineL,Bool.and_eq_true] at h
  have h1:=top_fine t h.1
  simp only [topL]
  exact topL_fine ts h.2 _ (by omega)
end
end Go.Proofs.YtacaanhnlfpbhaaGreat
