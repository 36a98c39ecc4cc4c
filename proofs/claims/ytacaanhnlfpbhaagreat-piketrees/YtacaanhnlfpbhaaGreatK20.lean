/- HELPERS: texts of ours put together. -/
import Derived.Test.YtacaanhnlfpbhaaGreatK09
namespace Go.Proofs.YtacaanhnlfpbhaaGreat
open Go.RowKit
set_option linter.unusedVariables false
set_option linter.unusedSimpArgs false
structure Mau where
 C:Int→Int→Prop
 L:Nat→Nat→Prop
 X:Int→Int→Prop
 Bd:Int→Way
 Y:Int→Int→Prop
inductive Hdu (G:Mau):Way→Int→Prop
 | once {n n':Int} {d:Way} (h:G.C n n'):Hdu G (.once n d) n
 | more {m n0:Int} {d:Way} (hX:G.X m n0) (h:Hdu G d n0):Hdu G (.once m d) n0
 | noted {c:Nat} {n0:Int} {d:Way} (h:Hdu G d n0):Hdu G (.noted c d) n0
mutual
inductive Siu (G:Mau):Way→Way→Prop
 | through:Siu G .through .through
 | once {n n':Int} {d d':Way} (hC:G.C n n') (h:Siu G d d'):Siu G (.once n d) (.once n' d')
 | onceA {n n':Int} {l l':List Way} {M:List Int} (hC:G.C n n') (h:SiL G M l l') (hY:∀ m ∈ M,G.Y m n) (hM:M.Nodup):Siu G (.once n (.inOrder l)) (.once n' (.inOrder l'))
 | more {m n0:Int} {d W':Way} (hX:G.X m n0) (hb:G.Bd m=d) (hh:Hdu G d n0) (h:Siu G d W'):Siu G (.once m d) W'
 | noted {c:Nat} {d d':Way} (h:Siu G d d'):Siu G (.noted c d) (.noted c d')
 | runeOf {R:Rng} {d d':Way} (h:Siu G d d'):Siu G (.runeOf R d) (.runeOf R d')
 | ifHolds {a:Int} {d d':Way} (h:Siu G d d'):Siu G (.ifHolds a d) (.ifHolds a d')
 | again {b b':Nat} (h:G.L b b'):Siu G (.again b) (.again b')
inductive SiL (G:Mau):List Int→List Way→List Way→Prop
 | nil:SiL G [] [] []
 | cons {d d':Way} {l l':List Way} {M:List Int} (h:Siu G d d') (t:SiL G M l l'):SiL G M (d :: l) (d' :: l')
 | flat {d:Way} {l k' l':List Way} {M N:List Int} (h:SiF G N d k') (t:SiL G M l l'):SiL G (N ++ M) (d :: l) (k' ++ l')
inductive SiF (G:Mau):List Int→Way→List Way→Prop
 | alt {m:Int} {l l':List Way} {M:List Int} (h:SiL G M l l'):SiF G (m :: M) (.once m (.inOrder l)) l'
 | wrap {e:Int} {d:Way} {l':List Way} {M:List Int} (h:SiF G M d l'):SiF G (e :: M) (.once e d) l'
end
structure Mau.Ok (G:Mau) (E E':Nat→Way):Prop where
 one:∀ n n' m m',G.C n n'→G.C m m'→(n=m↔n'=m')
 noC:∀ m n0 n',G.X m n0→¬ G.C m n'
 oneX:∀ m n0 n1,G.X m n0→G.X m n1→n0=n1
 yC:∀ m n n',G.Y m n→¬ G.C m n'
 yX:∀ m n n0,G.Y m n→¬ G.X m n0
 oneY:∀ m n n1,G.Y m n→G.Y m n1→n=n1
 loop:∀ b b',G.L b b'→Siu G (E b) (E' b')
structure Alu (G:Mau) (P:Int→Int→Prop) (s s':Sg):Prop where
 dn:∀ n n' q,G.C n n'→((n,q) ∈ s.done↔(n',q) ∈ s'.done)
 ex:∀ m n0 q,G.X m n0→(m,q) ∈ s.done→(n0,q) ∈ s.done∨P m q
 ya:∀ m n q,G.Y m n→(m,q) ∈ s.done→(n,q) ∈ s.done
 nt:s.notes=s'.notes
 pr:s.parses=s'.parses
def Fra (G:Mau) (s s1:Sg) (T:Int→Int→Prop):Prop:=∀ m n q,G.Y m n→(n,q) ∈ s.done→(m,q) ∈ s1.done→(m,q) ∈ s.done∨T m q
section
variable {G:Mau} {tx:List Int} {E E':Nat→Way}
theorem Alu.none {P:Int→Int→Prop} {s s':Sg} (h:Alu G P s s') (hP:∀ m q,¬ P m q):Alu G NoP s s':=
 ⟨h.dn,fun m n0 q a b=>by rcases h.ex m n0 q a b with c | c;exact .inl c;exact absurd c (hP m q),h.ya,h.nt,h.pr⟩
theorem Hdu.fn (hG:G.Ok E E') {W:Way} {a b:Int} (h:Hdu G W a):Hdu G W b→a=b:=by
 induction h with
 | @once n n' d h =>
  intro h2
  cases h2 with
  | once _=>rfl
  | more hX _=>exact absurd h (hG.noC _ _ _ hX)
 | more hX h ih =>
  intro h2
  cases h2 with
  | once h3=>exact absurd h3 (hG.noC _ _ _ hX)
  | more _ h3=>exact ih h3
 | noted h ih =>
  intro h2
  cases h2 with
  | noted h3=>exact ih h3
theorem Hdu.c {W:Way} {n0:Int} (h:Hdu G W n0):∃ n0',G.C n0 n0':=by
 induction h with
 | once h=>exact ⟨_,h⟩
 | more _ _ ih=>exact ih
 | noted _ ih=>exact ih
theorem siu_skip (hG:G.Ok E E') {W W':Way} (h:Siu G W W'):∀ (n0 n0':Int) (p:Nat) (s':Sg),Hdu G W n0→G.C n0 n0'→(n0',(p:Int)) ∈ s'.done→Ex tx E' W' p s' s':=by
 refine Siu.rec (motive_1:=fun W W' _=>∀ (n0 n0':Int) (p:Nat) (s':Sg),Hdu G W n0→G.C n0 n0'→(n0',(p:Int)) ∈ s'.done→Ex tx E' W' p s' s') (motive_2:=fun _ _ _ _=>True) (motive_3:=fun _ _ _ _=>True) ?_ ?_ ?_ ?_ ?_ ?_ ?_ ?_ ?_ ?_ ?_ ?_ ?_ h
 ·intro n0 n0' p s' hh;cases hh
 ·intro n n' d d' hC h ih n0 n0' p s' hh hc hd
  cases hh with
  | once _=>rw [← (hG.one _ _ _ _ hC hc).1 rfl] at hd;exact .skip hd
  | more hX _=>exact absurd hC (hG.noC _ _ _ hX)
 ·intro n n' l l' M hC _ _ _ _ n0 n0' p s' hh hc hd
  cases hh with
  | once _=>rw [← (hG.one _ _ _ _ hC hc).1 rfl] at hd;exact .skip hd
  | more hX _=>exact absurd hC (hG.noC _ _ _ hX)
 ·intro m n1 d W' hX hb hh h ih n0 n0' p s' h2 hc hd
  cases h2 with
  | once h3=>exact absurd h3 (hG.noC _ _ _ hX)
  | more hX2 h3=>exact ih _ _ p s' h3 hc hd
 ·intro c d d' h ih n0 n0' p s' hh hc hd
  cases hh with
  | noted hh =>
   have this:Ex tx E' (.noted c d') p s' { s' with notes:=(s'.notes.set c (p:Int)).set c (s'.notes.getD c 0) }:=Ex.noted (c:=c) (ih n0 n0' p { s' with notes:=s'.notes.set c (p:Int) } hh hc hd)
   rw [noted_self] at this
   exact this
 ·intro R d d' h ih n0 n0' p s' hh;cases hh
 ·intro a d d' h ih n0 n0' p s' hh;cases hh
 ·intro b b' h n0 n0' p s' hh;cases hh
 ·trivial
 ·intros;trivial
 ·intros;trivial
 ·intros;trivial
 ·intros;trivial
def Peu (G:Mau) (P:Int→Int→Prop) (W:Way) (p:Nat):Prop:=∀ m q,P m q→q=(p:Int)∧(∃ n0,G.X m n0∧Hdu G W n0)∧SizeOf.sizeOf W≤SizeOf.sizeOf (G.Bd m)
theorem Peu.no (W:Way) (p:Nat):Peu G NoP W p:=fun m q h=>h.elim
theorem Alu.settle (hG:G.Ok E E') {P:Int→Int→Prop} {W:Way} {p:Nat} {n0:Int} {s s':Sg} (h:Alu G P s s') (hP:Peu G P W p) (hh:Hdu G W n0) (hd:(n0,(p:Int)) ∈ s.done):Alu G NoP s s':=
 ⟨h.dn,fun m n1 q a b=>by
  rcases h.ex m n1 q a b with c | c
  ·exact .inl c
  ·obtain ⟨rfl,⟨n2,h1,h2⟩,_⟩:=hP m q c
   rw [hG.oneX m n1 n2 a h1,h2.fn hG hh]
   exact .inl hd,h.ya,h.nt,h.pr⟩
theorem Peu.none {P:Int→Int→Prop} {W:Way} {p:Nat} (hP:Peu G P W p) (hW:∀ n0,¬ Hdu G W n0):∀ m q,¬ P m q:=fun m q h=>by
 obtain ⟨_,⟨n0,_,h2⟩,_⟩:=hP m q h
 exact hW n0 h2
theorem Ex.mono {W:Way} {p:Nat} {s s1:Sg} (h:Ex tx E W p s s1):∀ x ∈ s.done,x ∈ s1.done:=by
 induction h with
 | through p s=>intro x hx;exact hx
 | skip h=>intro x hx;exact hx
 | once h hd ih=>intro x hx;exact ih x (List.mem_append.2 (.inl hx))
 | noted hd ih=>intro x hx;exact ih x hx
 | over h=>intro x hx;exact hx
 | other h hr=>intro x hx;exact hx
 | rune h hr hd ih=>exact ih
 | fails h=>intro x hx;exact hx
 | holds h hd ih=>exact ih
 | @inOrder l p ss h ih =>
  have key:∀ m,m≤l.length→∀ x ∈ (ss 0).done,x ∈ (ss m).done:=by
   intro m
   induction m with
   | zero=>intro _ x hx;exact hx
   | succ m im=>intro hm x hx;exact ih m (by omega) x (im (by omega) x hx)
  exact key _ (Nat.le_refl _)
 | again h ih=>exact ih
inductive Chn (M:Way→Sg→Sg→Prop):List Way→Sg→Sg→Prop
 | nil (s:Sg):Chn M [] s s
 | cons {d:Way} {l:List Way} {s s1 s2:Sg} (h:M d s s1) (t:Chn M l s1 s2):Chn M (d :: l) s s2
theorem Chn.app {M:Way→Sg→Sg→Prop} {l k:List Way} {s s1 s2:Sg} (h:Chn M l s s1) (h':Chn M k s1 s2):Chn M (l ++ k) s s2:=by
 induction h with
 | nil s=>exact h'
 | cons h _ ih=>exact .cons h (ih h')
theorem chn_of {M:Way→Sg→Sg→Prop}:∀ (l:List Way) (ss:Nat→Sg),(∀ i (hi:i < l.length),M (l[i]'hi) (ss i) (ss (i + 1)))→Chn M l (ss 0) (ss l.length)
 | [],ss,_=>.nil _
 | d :: l,ss,h=>.cons (h 0 (by simp)) (chn_of l (fun i=>ss (i + 1)) fun i hi=>h (i + 1) (by simp;omega))
theorem chn_ss {M:Way→Sg→Sg→Prop} {l:List Way} {s s1:Sg} (h:Chn M l s s1):∃ ss:Nat→Sg,ss 0=s∧ss l.length=s1∧∀ i (hi:i < l.length),M (l[i]'hi) (ss i) (ss (i + 1)):=by
 induction h with
 | nil s=>exact ⟨fun _=>s,rfl,rfl,fun i hi=>by simp at hi⟩
 | @cons d l s s1 s2 h _ ih =>
  obtain ⟨ss,h0,h1,h2⟩:=ih
  refine ⟨fun i=>match i with | 0=>s | i + 1=>ss i,rfl,h1,fun i hi=>?_⟩
  cases i with
  | zero=>show M d s (ss 0);rw [h0];exact h
  | succ i=>exact h2 i (by simpa using hi)
theorem inOrder_of {l:List Way} {p:Nat} {s s1:Sg} (h:Chn (fun d s s1=>Ex tx E d p s s1) l s s1):Ex tx E (.inOrder l) p s s1:=by
 obtain ⟨ss,rfl,rfl,h2⟩:=chn_ss h
 exact .inOrder ss h2
theorem Fra.refl (s:Sg) (T:Int→Int→Prop):Fra G s s T:=fun m n q _ _ h=>.inl h
theorem Fra.trans {s s1 s2:Sg} {T:Int→Int→Prop} (h:Fra G s s1 T) (h':Fra G s1 s2 T) (hm:∀ x ∈ s.done,x ∈ s1.done):Fra G s s2 T:=fun m n q hY hn h2=>by
 rcases h' m n q hY (hm _ hn) h2 with h3 | h3
 ·exact h m n q hY hn h3
 ·exact .inr h3
abbrev NoT:Int→Int→Prop:=fun _ _=>False
structure Su3 (G:Mau) (tx:List Int) (E':Nat→Way) (W:Way) (p:Nat) (s s1:Sg):Prop where
 mono:∀ x ∈ s.done,x ∈ s1.done
 one:∀ (W':Way) (s':Sg) (P:Int→Int→Prop),Siu G W W'→Alu G P s s'→Peu G P W p→∃ s1',Ex tx E' W' p s' s1'∧Alu G NoP s1 s1'∧Fra G s s1 NoT
 row:∀ (l:List Way) (n:Int) (M:List Int) (l':List Way) (s':Sg),W=.inOrder l→SiL G M l l'→(∀ m ∈ M,G.Y m n)→M.Nodup→(n,(p:Int)) ∈ s.done→(∀ m ∈ M,(m,(p:Int)) ∉ s.done)→Alu G NoP s s'→∃ s1',Chn (fun d s s1=>Ex tx E' d p s s1) l' s' s1'∧Alu G NoP s1 s1'∧Fra G s s1 (fun m q=>m ∈ M∧q=(p:Int))
 fl:∀ (n:Int) (M:List Int) (l':List Way) (s':Sg),SiF G M W l'→(∀ m ∈ M,G.Y m n)→M.Nodup→(n,(p:Int)) ∈ s.done→(∀ m ∈ M,(m,(p:Int)) ∉ s.done)→Alu G NoP s s'→∃ s1',Chn (fun d s s1=>Ex tx E' d p s s1) l' s' s1'∧Alu G NoP s1 s1'∧Fra G s s1 (fun m q=>m ∈ M∧q=(p:Int))
theorem sil_chn {p:Nat} {l:List Way} {s s1:Sg} (h:Chn (fun d s s1=>Su3 G tx E' d p s s1) l s s1):∀ (n:Int) (M:List Int) (l':List Way) (s':Sg),SiL G M l l'→(∀ m ∈ M,G.Y m n)→M.Nodup→(n,(p:Int)) ∈ s.done→(∀ m ∈ M,(m,(p:Int)) ∉ s.done)→Alu G NoP s s' →
  (∀ x ∈ s.done,x ∈ s1.done)∧∃ s1',Chn (fun d s s1=>Ex tx E' d p s s1) l' s' s1'∧Alu G NoP s1 s1'∧Fra G s s1 (fun m q=>m ∈ M∧q=(p:Int)):=by
 induction h with
 | nil s =>
  intro n M l' s' hL hY hM hn hno hA
  cases hL
  exact ⟨fun x hx=>hx,s',.nil _,hA,.refl _ _⟩
 | @cons d l s s1 s2 h t ih =>
  intro n M l' s' hL hY hM hn hno hA
  cases hL with
  | @cons _ d' _ l' M hS hL =>
   obtain ⟨s1',x1,a1,f1⟩:=h.one d' s' NoP hS hA (Peu.no _ _)
   obtain ⟨m2,s2',x2,a2,f2⟩:=ih n M l' s1' hL hY hM (h.mono _ hn) (fun m hm hd=>by
    rcases f1 m n _ (hY m hm) hn hd with h | h
    ·exact hno m hm h
    ·exact h) a1
   refine ⟨fun x hx=>m2 x (h.mono x hx),s2',.cons x1 x2,a2,Fra.trans (fun m n q a b c=>?_) f2 h.mono⟩
   rcases f1 m n q a b c with h | h
   ·exact .inl h
   ·exact h.elim
  | @flat _ _ k' l' M N hF hL =>
   rw [List.nodup_append] at hM
   obtain ⟨hN,hM,hd⟩:=hM
   obtain ⟨s1',x1,a1,f1⟩:=h.fl n N k' s' hF (fun m hm=>hY m (List.mem_append.2 (.inl hm))) hN hn (fun m hm=>hno m (List.mem_append.2 (.inl hm))) hA
   obtain ⟨m2,s2',x2,a2,f2⟩:=ih n M l' s1' hL (fun m hm=>hY m (List.mem_append.2 (.inr hm))) hM (h.mono _ hn) (fun m hm hx=>by
    rcases f1 m n _ (hY m (List.mem_append.2 (.inr hm))) hn hx with h | h
    ·exact hno m (List.mem_append.2 (.inr hm)) h
    ·exact hd m h.1 m hm rfl) a1
   refine ⟨fun x hx=>m2 x (h.mono x hx),s2',x1.app x2,a2,Fra.trans (fun m n q a b c=>?_) (fun m n q a b c=>?_) h.mono⟩
   ·rcases f1 m n q a b c with h | h
    ·exact .inl h
    ·exact .inr ⟨List.mem_append.2 (.inl h.1),h.2⟩
   ·rcases f2 m n q a b c with h | h
    ·exact .inl h
    ·exact .inr ⟨List.mem_append.2 (.inr h.1),h.2⟩
theorem mem_snoc {x y:Int × Int} {l:List (Int × Int)}:x ∈ l ++ [y]↔x ∈ l∨x=y:=by simp
theorem siu_ex (hG:G.Ok E E') {W:Way} {p:Nat} {s s1:Sg} (h:Ex tx E W p s s1):Su3 G tx E' W p s s1:=by
 have hmono:=h.mono
 induction h with
 | through p s =>
  refine ⟨hmono,fun W' s' P hS hA hP=>?_,fun l n M l' s' e=>(by cases e),fun n M l' s' hF=>(by cases hF)⟩
  have hA:=hA.none (hP.none fun n0 h=>by cases h)
  cases hS
  exact ⟨_,.through p s',⟨hA.dn,hA.ex,hA.ya,hA.nt,by simp only [hA.nt,hA.pr]⟩,fun m n q _ _ h=>.inl h⟩
 | @skip n d p s h =>
  refine ⟨hmono,fun W' s' P hS hA hP=>?_,fun l n M l' s' e=>(by cases e),fun n M l' s' hF hY hM hn hno hA=>?_⟩
  ·cases hS with
   | once hC hS=>exact ⟨s',.skip ((hA.dn _ _ _ hC).1 h),hA.settle hG hP (.once hC) h,.refl _ _⟩
   | onceA hC _ _ _=>exact ⟨s',.skip ((hA.dn _ _ _ hC).1 h),hA.settle hG hP (.once hC) h,.refl _ _⟩
   | @more _ n0 _ _ hX hb hh hS =>
    have hd:(n0,(p:Int)) ∈ s.done:=by
     rcases hA.ex _ _ _ hX h with hd | hp
     ·exact hd
     ·have:=(hP _ _ hp).2.2
      rw [hb] at this
      simp at this
      omega
    obtain ⟨n0',hC⟩:=hh.c
    exact ⟨s',siu_skip hG hS n0 n0' p s' hh hC ((hA.dn _ _ _ hC).1 hd),hA.settle hG hP (.more hX hh) hd,.refl _ _⟩
  ·cases hF with
   | alt _=>exact absurd h (hno _ (by simp))
   | wrap _=>exact absurd h (hno _ (by simp))
 | @once n d p s s1 h hd ih =>
  have ih:=ih hd.mono
  refine ⟨hmono,fun W' s' P hS hA hP=>?_,fun l n M l' s' e=>(by cases e),fun n1 M l' s' hF hY hM hn hno hA=>?_⟩
  ·have paired:∀ n',G.C n n'→Alu G NoP { s with done:=s.done ++ [(n,(p:Int))] } { s' with done:=s'.done ++ [(n',(p:Int))] }:=fun n' hC=>by
    have hA1:Alu G P { s with done:=s.done ++ [(n,(p:Int))] } { s' with done:=s'.done ++ [(n',(p:Int))] }:=by
     refine ⟨fun a a' q ha=>?_,fun m n0 q hX hm=>?_,fun m n0 q hY hm=>?_,hA.nt,hA.pr⟩
     ·simp only [List.mem_append,List.mem_singleton,Prod.mk.injEq]
      rw [hA.dn a a' q ha,hG.one a a' n n' ha hC]
     ·simp only [mem_snoc] at hm ⊢
      rcases hm with hm | hm
      ·rcases hA.ex m n0 q hX hm with hm | hm
       ·exact .inl (.inl hm)
       ·exact .inr hm
      ·simp only [Prod.mk.injEq] at hm
       exact absurd hC (by rw [← hm.1];exact hG.noC _ _ _ hX)
     ·simp only [mem_snoc] at hm ⊢
      rcases hm with hm | hm
      ·exact .inl (hA.ya m n0 q hY hm)
      ·simp only [Prod.mk.injEq] at hm
       exact absurd hC (by rw [← hm.1];exact hG.yC _ _ _ hY)
    exact hA1.settle hG hP (.once hC) (by simp)
   cases hS with
   | @once _ n' _ d' hC hS =>
    have hn:(n',(p:Int)) ∉ s'.done:=fun hm=>h ((hA.dn _ _ _ hC).2 hm)
    obtain ⟨s1',hx,hA3,hF⟩:=ih.one d' _ NoP hS (paired n' hC) (Peu.no _ _)
    refine ⟨s1',.once hn hx,hA3,fun m n2 q a b c=>?_⟩
    rcases hF m n2 q a (mem_snoc.2 (.inl b)) c with c | c
    ·rcases mem_snoc.1 c with c | c
     ·exact .inl c
     ·simp only [Prod.mk.injEq] at c
      exact absurd hC (by rw [← c.1];exact hG.yC _ _ _ a)
    ·exact c.elim
   | @onceA _ n' l l' M hC hS hY hM =>
    have hn:(n',(p:Int)) ∉ s'.done:=fun hm=>h ((hA.dn _ _ _ hC).2 hm)
    obtain ⟨s1',hx,hA3,hF⟩:=ih.row l n M l' _ rfl hS hY hM (by simp) (fun m hm hd=>by
     rcases mem_snoc.1 hd with hd | hd
     ·exact h (hA.ya m n _ (hY m hm) hd)
     ·simp only [Prod.mk.injEq] at hd
      exact absurd hC (by rw [← hd.1];exact hG.yC _ _ _ (hY m hm))) (paired n' hC)
    refine ⟨s1',.once hn (inOrder_of hx),hA3,fun m n2 q a b c=>?_⟩
    rcases hF m n2 q a (mem_snoc.2 (.inl b)) c with c | ⟨cm,rfl⟩
    ·rcases mem_snoc.1 c with c | c
     ·exact .inl c
     ·simp only [Prod.mk.injEq] at c
      exact absurd hC (by rw [← c.1];exact hG.yC _ _ _ a)
    ·rw [hG.oneY m n2 n a (hY m cm)] at b
     exact absurd b h
   | @more _ n0 _ _ hX hb hh hS =>
    have hA1:Alu G (fun m q=>P m q∨(m=n∧q=(p:Int))) { s with done:=s.done ++ [(n,(p:Int))] } s':=by
     refine ⟨fun a a' q ha=>?_,fun m n1 q hX1 hm=>?_,fun m n1 q hY hm=>?_,hA.nt,hA.pr⟩
     ·simp only [mem_snoc,Prod.mk.injEq]
      rw [← hA.dn a a' q ha]
      constructor
      ·rintro (hm | ⟨rfl,_⟩)
       ·exact hm
       ·exact absurd ha (hG.noC _ _ _ hX)
      ·exact .inl
     ·simp only [mem_snoc,Prod.mk.injEq] at hm ⊢
      rcases hm with hm | hm
      ·rcases hA.ex m n1 q hX1 hm with hm | hm
       ·exact .inl (.inl hm)
       ·exact .inr (.inl hm)
      ·exact .inr (.inr hm)
     ·simp only [mem_snoc,Prod.mk.injEq] at hm ⊢
      rcases hm with hm | ⟨rfl,_⟩
      ·exact .inl (hA.ya m n1 q hY hm)
      ·exact absurd hX (hG.yX _ _ _ hY)
    obtain ⟨s1',hx,hA3,hF⟩:=ih.one W' s' _ hS hA1 (fun m q hm=>by
     rcases hm with hm | ⟨rfl,rfl⟩
     ·obtain ⟨a,⟨n2,b1,b2⟩,c⟩:=hP m q hm
      refine ⟨a,⟨n2,b1,?_⟩,?_⟩
      ·rw [← (Hdu.more hX hh).fn hG b2]
       exact hh
      ·simp at c
       omega
     ·exact ⟨rfl,⟨n0,hX,hh⟩,by rw [hb];exact Nat.le_refl _⟩)
    refine ⟨s1',hx,hA3,fun m n2 q a b c=>?_⟩
    rcases hF m n2 q a (mem_snoc.2 (.inl b)) c with c | c
    ·rcases mem_snoc.1 c with c | c
     ·exact .inl c
     ·simp only [Prod.mk.injEq] at c
      exact absurd hX (by rw [← c.1];exact hG.yX _ _ _ a)
    ·exact c.elim
  ·have inner:∀ M0,M=n :: M0→Alu G NoP { s with done:=s.done ++ [(n,(p:Int))] } s'∧(∀ m ∈ M0,(m,(p:Int)) ∉ s.done ++ [(n,(p:Int))]):=fun M0 e=>by
    subst e
    have hYn:=hY n (by simp)
    refine ⟨⟨fun a a' q ha=>?_,fun m n0 q hX hm=>?_,fun m n0 q hY2 hm=>?_,hA.nt,hA.pr⟩,fun m hm hd=>?_⟩
    ·simp only [mem_snoc,Prod.mk.injEq]
     rw [← hA.dn a a' q ha]
     constructor
     ·rintro (hm | ⟨rfl,_⟩)
      ·exact hm
      ·exact absurd ha (hG.yC _ _ _ hYn)
     ·exact .inl
    ·simp only [mem_snoc,Prod.mk.injEq] at hm ⊢
     rcases hm with hm | ⟨rfl,_⟩
     ·rcases hA.ex m n0 q hX hm with hm | hm
      ·exact .inl (.inl hm)
      ·exact .inr hm
     ·exact absurd hX (hG.yX _ _ _ hYn)
    ·simp only [mem_snoc,Prod.mk.injEq] at hm ⊢
     rcases hm with hm | ⟨rfl,rfl⟩
     ·exact .inl (hA.ya m n0 q hY2 hm)
     ·rw [hG.oneY _ _ _ hY2 hYn]
      exact .inl hn
    ·rcases mem_snoc.1 hd with hd | hd
     ·exact hno m (List.mem_cons_of_mem _ hm) hd
     ·simp only [Prod.mk.injEq] at hd
      rw [hd.1] at hm
      exact (List.nodup_cons.1 hM).1 hm
   have fin:∀ M0,M=n :: M0→∀ s1:Sg,Fra G { s with done:=s.done ++ [(n,(p:Int))] } s1 (fun m q=>m ∈ M0∧q=(p:Int))→Fra G s s1 (fun m q=>m ∈ M∧q=(p:Int)):=fun M0 e s1 hR m n2 q a b c=>by
    subst e
    rcases hR m n2 q a (mem_snoc.2 (.inl b)) c with c | c
    ·rcases mem_snoc.1 c with c | c
     ·exact .inl c
     ·simp only [Prod.mk.injEq] at c
      exact .inr ⟨by rw [c.1];simp,c.2⟩
    ·exact .inr ⟨List.mem_cons_of_mem _ c.1,c.2⟩
   cases hF with
   | @alt _ l _ M0 hL =>
    obtain ⟨i1,i2⟩:=inner M0 rfl
    obtain ⟨s1',hx,hA3,hF⟩:=ih.row l n1 M0 l' s' rfl hL (fun m hm=>hY m (List.mem_cons_of_mem _ hm)) (List.nodup_cons.1 hM).2 (mem_snoc.2 (.inl hn)) i2 i1
    exact ⟨s1',hx,hA3,fin M0 rfl _ hF⟩
   | @wrap _ _ _ M0 hL =>
    obtain ⟨i1,i2⟩:=inner M0 rfl
    obtain ⟨s1',hx,hA3,hF⟩:=ih.fl n1 M0 l' s' hL (fun m hm=>hY m (List.mem_cons_of_mem _ hm)) (List.nodup_cons.1 hM).2 (mem_snoc.2 (.inl hn)) i2 i1
    exact ⟨s1',hx,hA3,fin M0 rfl _ hF⟩
 | @noted c d p s s1 hd ih =>
  have ih:=ih hd.mono
  refine ⟨hmono,fun W' s' P hS hA hP=>?_,fun l n M l' s' e=>(by cases e),fun n M l' s' hF=>(by cases hF)⟩
  have hPd:Peu G P d p:=fun m q hm=>by
   obtain ⟨a,⟨n2,b1,b2⟩,e⟩:=hP m q hm
   cases b2 with
   | noted b2=>exact ⟨a,⟨n2,b1,b2⟩,by simp at e;omega⟩
  have hno:s1.notes.set c (s.notes.getD c 0)=s.notes:=(Ex.noted hd).notes
  cases hS with
  | @noted _ _ d' hS =>
   obtain ⟨s1',hx,hA3,hF⟩:=ih.one d' { s' with notes:=s'.notes.set c (p:Int) } P hS ⟨hA.dn,hA.ex,hA.ya,by simp only [hA.nt],hA.pr⟩ hPd
   have hx2:=Ex.noted (c:=c) (s:=s') hx
   refine ⟨_,hx2,⟨hA3.dn,hA3.ex,hA3.ya,?_,hA3.pr⟩,hF⟩
   have e2:=hx2.notes
   simp only at e2 ⊢
   rw [hno,e2]
   exact hA.nt
 | over h =>
  refine ⟨hmono,fun W' s' P hS hA hP=>?_,fun l n M l' s' e=>(by cases e),fun n M l' s' hF=>(by cases hF)⟩
  have hA:=hA.none (hP.none fun n0 h=>by cases h)
  cases hS with | runeOf hS=>exact ⟨s',.over h,hA,.refl _ _⟩
 | other h hr =>
  refine ⟨hmono,fun W' s' P hS hA hP=>?_,fun l n M l' s' e=>(by cases e),fun n M l' s' hF=>(by cases hF)⟩
  have hA:=hA.none (hP.none fun n0 h=>by cases h)
  cases hS with | runeOf hS=>exact ⟨s',.other h hr,hA,.refl _ _⟩
 | rune h hr hd ih =>
  have ih:=ih hd.mono
  refine ⟨hmono,fun W' s' P hS hA hP=>?_,fun l n M l' s' e=>(by cases e),fun n M l' s' hF=>(by cases hF)⟩
  have hA:=hA.none (hP.none fun n0 h=>by cases h)
  cases hS with
  | runeOf hS =>
   obtain ⟨s1',hx,hA3,hF⟩:=ih.one _ s' NoP hS hA (Peu.no _ _)
   exact ⟨s1',.rune h hr hx,hA3,hF⟩
 | fails h =>
  refine ⟨hmono,fun W' s' P hS hA hP=>?_,fun l n M l' s' e=>(by cases e),fun n M l' s' hF=>(by cases hF)⟩
  have hA:=hA.none (hP.none fun n0 h=>by cases h)
  cases hS with | ifHolds hS=>exact ⟨s',.fails h,hA,.refl _ _⟩
 | holds h hd ih =>
  have ih:=ih hd.mono
  refine ⟨hmono,fun W' s' P hS hA hP=>?_,fun l n M l' s' e=>(by cases e),fun n M l' s' hF=>(by cases hF)⟩
  have hA:=hA.none (hP.none fun n0 h=>by cases h)
  cases hS with
  | ifHolds hS =>
   obtain ⟨s1',hx,hA3,hF⟩:=ih.one _ s' NoP hS hA (Peu.no _ _)
   exact ⟨s1',.holds h hx,hA3,hF⟩
 | @inOrder l p ss h ih =>
  refine ⟨hmono,fun W' s' P hS hA hP=>(by cases hS),fun l1 n M l' s' e hL hY hM hn hno hA=>?_,fun n M l' s' hF=>(by cases hF)⟩
  cases e
  exact (sil_chn (chn_of l ss fun i hi=>ih i hi (h i hi).mono) n M l' s' hL hY hM hn hno hA).2
 | again h ih =>
  have ih:=ih h.mono
  refine ⟨hmono,fun W' s' P hS hA hP=>?_,fun l n M l' s' e=>(by cases e),fun n M l' s' hF=>(by cases hF)⟩
  have hA:=hA.none (hP.none fun n0 h=>by cases h)
  cases hS with
  | again hL =>
   obtain ⟨s1',hx,hA3,hF⟩:=ih.one _ s' NoP (hG.loop _ _ hL) hA (Peu.no _ _)
   exact ⟨s1',.again hx,hA3,hF⟩
end
structure Miu (n n':Int) (G:Mau):Prop where
 le:∀ a a',G.C a a'→a≤n∧a'≤n'
 xle:∀ m n0,G.X m n0→m≤n
 yle:∀ m n0,G.Y m n0→m≤n∧n0≤n
 one:∀ a a' m m',G.C a a'→G.C m m'→(a=m↔a'=m')
 noC:∀ m n0 a',G.X m n0→¬ G.C m a'
 oneX:∀ m n0 n1,G.X m n0→G.X m n1→n0=n1
 yC:∀ m n0 n',G.Y m n0→¬ G.C m n'
 yX:∀ m n0 n1,G.Y m n0→¬ G.X m n1
 oneY:∀ m n0 n1,G.Y m n0→G.Y m n1→n0=n1
def Mau.free (G:Mau) (m:Int):Prop:=(∀ a',¬ G.C m a')∧(∀ n0,¬ G.X m n0)∧∀ n0,¬ G.Y m n0
structure Gru (E E':Nat→Way) (n n':Int) (G:Mau) (n1 n1':Int) (G':Mau):Prop where
 l1:n≤n1
 l2:n'≤n1'
 c:∀ a a',G.C a a'→G'.C a a'
 x:∀ m n0,G.X m n0→G'.X m n0
 y:∀ m n0,G.Y m n0→G'.Y m n0
 bd:∀ m,m≤n→G'.Bd m=G.Bd m
 l:∀ b b',G.L b b'→G'.L b b'
 fr:∀ m,m≤n→G.free m→G'.free m
 new:∀ b b',G'.L b b'→G.L b b'∨Siu G' (E b) (E' b')
section
variable {E E':Nat→Way} {n n' n1 n1' n2 n2':Int} {G G1 G2:Mau}
theorem Gru.refl (n n':Int) (G:Mau):Gru E E' n n' G n n' G:=⟨Int.le_refl _,Int.le_refl _,fun _ _ h=>h,fun _ _ h=>h,fun _ _ h=>h,fun _ _=>rfl,fun _ _ h=>h,fun _ _ h=>h,fun _ _ h=>.inl h⟩
theorem Hdu.up (hc:∀ a a',G.C a a'→G1.C a a') (hx:∀ m n0,G.X m n0→G1.X m n0) {W:Way} {h0:Int} (h:Hdu G W h0):Hdu G1 W h0:=by
 induction h with
 | once h=>exact .once (hc _ _ h)
 | more hX _ ih=>exact .more (hx _ _ hX) ih
 | noted _ ih=>exact .noted ih
theorem siu_up (hI:Miu n n' G) (hc:∀ a a',G.C a a'→G1.C a a') (hx:∀ m n0,G.X m n0→G1.X m n0) (hy:∀ m n0,G.Y m n0→G1.Y m n0) (hb:∀ m,m≤n→G1.Bd m=G.Bd m) (hl:∀ b b',G.L b b'→G1.L b b') :
  (∀ {W W':Way},Siu G W W'→Siu G1 W W')∧(∀ {M:List Int} {l l':List Way},SiL G M l l'→SiL G1 M l l')∧∀ {M:List Int} {d:Way} {l':List Way},SiF G M d l'→SiF G1 M d l':=by
 have key:∀ W W' (h:Siu G W W'),Siu G1 W W':=fun W W' h=>by
  refine Siu.rec (motive_1:=fun W W' _=>Siu G1 W W') (motive_2:=fun M l l' _=>SiL G1 M l l') (motive_3:=fun M d l' _=>SiF G1 M d l') ?_ ?_ ?_ ?_ ?_ ?_ ?_ ?_ ?_ ?_ ?_ ?_ ?_ h
  ·exact .through
  ·intro n n' d d' hC _ ih;exact .once (hc _ _ hC) ih
  ·intro n n' l l' M hC _ hY hM ih;exact .onceA (hc _ _ hC) ih (fun m hm=>hy _ _ (hY m hm)) hM
  ·intro m n0 d W' hX hb2 hh _ ih;exact .more (hx _ _ hX) ((hb _ (hI.xle _ _ hX)).trans hb2) (hh.up hc hx) ih
  ·intro c d d' _ ih;exact .noted ih
  ·intro R d d' _ ih;exact .runeOf ih
  ·intro a d d' _ ih;exact .ifHolds ih
  ·intro b b' h;exact .again (hl _ _ h)
  ·exact .nil
  ·intro d d' l l' M _ _ ih it;exact .cons ih it
  ·intro d l k' l' M N _ _ ih it;exact .flat ih it
  ·intro m l l' M _ ih;exact .alt ih
  ·intro e d l' M _ ih;exact .wrap ih
 have key2:∀ M l l' (h:SiL G M l l'),SiL G1 M l l':=fun M l l' h=>by
  refine SiL.rec (motive_1:=fun W W' _=>Siu G1 W W') (motive_2:=fun M l l' _=>SiL G1 M l l') (motive_3:=fun M d l' _=>SiF G1 M d l') ?_ ?_ ?_ ?_ ?_ ?_ ?_ ?_ ?_ ?_ ?_ ?_ ?_ h
  ·exact .through
  ·intro n n' d d' hC _ ih;exact .once (hc _ _ hC) ih
  ·intro n n' l l' M hC _ hY hM ih;exact .onceA (hc _ _ hC) ih (fun m hm=>hy _ _ (hY m hm)) hM
  ·intro m n0 d W' hX hb2 hh _ ih;exact .more (hx _ _ hX) ((hb _ (hI.xle _ _ hX)).trans hb2) (hh.up hc hx) ih
  ·intro c d d' _ ih;exact .noted ih
  ·intro R d d' _ ih;exact .runeOf ih
  ·intro a d d' _ ih;exact .ifHolds ih
  ·intro b b' h;exact .again (hl _ _ h)
  ·exact .nil
  ·intro d d' l l' M _ _ ih it;exact .cons ih it
  ·intro d l k' l' M N _ _ ih it;exact .flat ih it
  ·intro m l l' M _ ih;exact .alt ih
  ·intro e d l' M _ ih;exact .wrap ih
 refine ⟨fun h=>key _ _ h,fun h=>key2 _ _ _ h,?_⟩
 intro M d l' h
 cases h with
 | alt h=>exact .alt (key2 _ _ _ h)
 | wrap h =>
  have key3:∀ M d l' (h:SiF G M d l'),SiF G1 M d l':=fun M d l' h=>by
   refine SiF.rec (motive_1:=fun _ _ _=>True) (motive_2:=fun _ _ _ _=>True) (motive_3:=fun M d l' _=>SiF G1 M d l') ?_ ?_ ?_ ?_ ?_ ?_ ?_ ?_ ?_ ?_ ?_ ?_ ?_ h
   ·trivial
   ·intros;trivial
   ·intros;trivial
   ·intros;trivial
   ·intros;trivial
   ·intros;trivial
   ·intros;trivial
   ·intros;trivial
   ·trivial
   ·intros;trivial
   ·intros;trivial
   ·intro m l l' M h _;exact .alt (key2 _ _ _ h)
   ·intro e d l' M _ ih;exact .wrap ih
  exact .wrap (key3 _ _ _ h)
theorem Gru.sim (h:Gru E E' n n' G n1 n1' G1) (hI:Miu n n' G) {W W':Way} (hS:Siu G W W'):Siu G1 W W':=(siu_up hI h.c h.x h.y h.bd h.l).1 hS
theorem Gru.simL (h:Gru E E' n n' G n1 n1' G1) (hI:Miu n n' G) {M:List Int} {l l':List Way} (hS:SiL G M l l'):SiL G1 M l l':=(siu_up hI h.c h.x h.y h.bd h.l).2.1 hS
theorem Gru.trans (h:Gru E E' n n' G n1 n1' G1) (h':Gru E E' n1 n1' G1 n2 n2' G2) (hI:Miu n1 n1' G1):Gru E E' n n' G n2 n2' G2:=
 ⟨Int.le_trans h.l1 h'.l1,Int.le_trans h.l2 h'.l2,fun a a' x=>h'.c _ _ (h.c _ _ x),fun a a' x=>h'.x _ _ (h.x _ _ x),fun a a' x=>h'.y _ _ (h.y _ _ x),fun m hm=>(h'.bd m (Int.le_trans hm h.l1)).trans (h.bd m hm),fun b b' x=>h'.l _ _ (h.l _ _ x),fun m hm hf=>h'.fr m (Int.le_trans hm h.l1) (h.fr m hm hf),fun b b' x=>by
  rcases h'.new b b' x with x | x
  ·rcases h.new b b' x with x | x
   ·exact .inl x
   ·exact .inr (h'.sim hI x)
  ·exact .inr x⟩
def Mau.pair (G:Mau) (n n':Int):Mau:={ G with C:=fun a a'=>G.C a a'∨(a=n + 1∧a'=n' + 1) }
def Mau.extra (G:Mau) (n h0:Int) (d:Way):Mau:={ G with X:=fun m n0=>G.X m n0∨(m=n + 1∧n0=h0),Bd:=upd G.Bd (n + 1) d }
def Mau.loops (G:Mau) (b b':Nat):Mau:={ G with L:=fun x x'=>G.L x x'∨(x=b∧x'=b') }
def Mau.stand (G:Mau) (M:List Int) (N:Int):Mau:={ G with Y:=fun m n0=>G.Y m n0∨(m ∈ M∧n0=N) }
theorem Miu.wide (h:Miu n n' G) (h1:n≤n1) (h2:n'≤n1'):Miu n1 n1' G:=⟨fun a a' x=>by have:=h.le a a' x;omega,fun m n0 x=>by have:=h.xle m n0 x;omega,fun m n0 x=>by have:=h.yle m n0 x;omega,h.one,h.noC,h.oneX,h.yC,h.yX,h.oneY⟩
theorem Gru.wide (n n':Int) (G:Mau) (h1:n≤n1) (h2:n'≤n1'):Gru E E' n n' G n1 n1' G:=⟨h1,h2,fun _ _ h=>h,fun _ _ h=>h,fun _ _ h=>h,fun _ _=>rfl,fun _ _ h=>h,fun _ _ h=>h,fun _ _ h=>.inl h⟩
theorem Miu.new (h:Miu n n' G) {m:Int} (hm:n < m):G.free m:=⟨fun a' hc=>by have:=h.le _ _ hc;omega,fun n0 hx=>by have:=h.xle _ _ hx;omega,fun n0 hy=>by have:=h.yle _ _ hy;omega⟩
theorem Miu.pair (h:Miu n n' G):Miu (n + 1) (n' + 1) (G.pair n n'):=by
 have hnew:=h.new (m:=n + 1) (by omega)
 refine ⟨fun a a' hc=>?_,fun m n0 hx=>by have:=h.xle m n0 hx;omega,fun m n0 hy=>by have:=h.yle m n0 hy;omega,fun a a' m m' h1 h2=>?_,fun m n0 a' hx hc=>?_,h.oneX,fun m n0 a' hy hc=>?_,h.yX,h.oneY⟩
 ·rcases hc with hc | hc
  ·have:=h.le a a' hc;omega
  ·omega
 ·rcases h1 with h1 | h1 <;> rcases h2 with h2 | h2
  ·exact h.one a a' m m' h1 h2
  ·have:=h.le a a' h1;omega
  ·have:=h.le m m' h2;omega
  ·omega
 ·rcases hc with hc | ⟨rfl,_⟩
  ·exact h.noC m n0 a' hx hc
  ·exact hnew.2.1 _ hx
 ·rcases hc with hc | ⟨rfl,_⟩
  ·exact h.yC m n0 a' hy hc
  ·exact hnew.2.2 _ hy
theorem Miu.extra (h:Miu n n' G) (h0:Int) (d:Way):Miu (n + 1) n' (G.extra n h0 d):=by
 have hnew:=h.new (m:=n + 1) (by omega)
 refine ⟨fun a a' hc=>by have:=h.le a a' hc;omega,fun m n0 hx=>?_,fun m n0 hy=>by have:=h.yle m n0 hy;omega,h.one,fun m n0 a' hx hc=>?_,fun m n0 n1 h1 h2=>?_,h.yC,fun m n0 n1 hy hx=>?_,h.oneY⟩
 ·rcases hx with hx | hx
  ·have:=h.xle m n0 hx;omega
  ·omega
 ·rcases hx with hx | ⟨rfl,_⟩
  ·exact h.noC m n0 a' hx hc
  ·exact hnew.1 _ hc
 ·rcases h1 with h1 | h1 <;> rcases h2 with h2 | h2
  ·exact h.oneX m n0 n1 h1 h2
  ·have:=h.xle m n0 h1;omega
  ·have:=h.xle m n1 h2;omega
  ·omega
 ·rcases hx with hx | ⟨rfl,_⟩
  ·exact h.yX m n0 n1 hy hx
  ·exact hnew.2.2 _ hy
theorem Miu.loops (h:Miu n n' G) (b b':Nat):Miu n n' (G.loops b b'):=⟨h.le,h.xle,h.yle,h.one,h.noC,h.oneX,h.yC,h.yX,h.oneY⟩
theorem Miu.stand (h:Miu n n' G) {M:List Int} {N:Int} (hM:∀ m ∈ M,m≤n∧G.free m) (hN:N≤n):Miu n n' (G.stand M N):=by
 refine ⟨h.le,h.xle,fun m n0 hy=>?_,h.one,h.noC,h.oneX,fun m n0 a' hy hc=>?_,fun m n0 n1 hy hx=>?_,fun m n0 n1 h1 h2=>?_⟩
 ·rcases hy with hy | ⟨hm,rfl⟩
  ·exact h.yle m n0 hy
  ·exact ⟨(hM m hm).1,hN⟩
 ·rcases hy with hy | ⟨hm,_⟩
  ·exact h.yC m n0 a' hy hc
  ·exact (hM m hm).2.1 _ hc
 ·rcases hy with hy | ⟨hm,_⟩
  ·exact h.yX m n0 n1 hy hx
  ·exact (hM m hm).2.2.1 _ hx
 ·rcases h1 with h1 | ⟨hm,rfl⟩ <;> rcases h2 with h2 | ⟨hm2,rfl⟩
  ·exact h.oneY m n0 n1 h1 h2
  ·exact absurd h1 ((hM m hm2).2.2.2 _)
  ·exact absurd h2 ((hM m hm).2.2.2 _)
  ·rfl
theorem Gru.pair (h:Miu n n' G):Gru E E' n n' G (n + 1) (n' + 1) (G.pair n n'):=⟨by omega,by omega,fun _ _ h=>.inl h,fun _ _ h=>h,fun _ _ h=>h,fun _ _=>rfl,fun _ _ h=>h,fun m hm hf=>⟨fun a' hc=>by rcases hc with hc | hc;exact hf.1 _ hc;omega,hf.2⟩,fun _ _ h=>.inl h⟩
theorem Gru.extra (n n':Int) (G:Mau) (h0:Int) (d:Way):Gru E E' n n' G (n + 1) n' (G.extra n h0 d):=
 ⟨by omega,by omega,fun _ _ h=>h,fun _ _ h=>.inl h,fun _ _ h=>h,fun m hm=>by show upd G.Bd (n + 1) d m=_;simp only [upd];rw [if_neg (by omega)],fun _ _ h=>h,fun m hm hf=>⟨hf.1,fun n0 hx=>by rcases hx with hx | hx;exact hf.2.1 _ hx;omega,hf.2.2⟩,fun _ _ h=>.inl h⟩
def SMu (E E':Nat→Way) (n:Int) (B:Way) (n1:Int) (W:Way) (n':Int) (B':Way) (n1':Int) (W':Way):Prop:=
 ∀ G,Miu n n' G→Siu G B B'→(∃ h,Hdu G B h)→∃ G',Miu n1 n1' G'∧Gru E E' n n' G n1 n1' G'∧Siu G' W W'∧∃ h,Hdu G' W h
theorem SMu.self (n n':Int) (B B':Way):SMu E E' n B n B n' B' n' B':=fun G hI hS hH=>⟨G,hI,.refl _ _ _,hS,hH⟩
theorem SMu.seq {B W V B' W' V':Way} (h:SMu E E' n B n1 W n' B' n1' W') (h':SMu E E' n1 W n2 V n1' W' n2' V'):SMu E E' n B n2 V n' B' n2' V':=fun G hI hS hH=>by
 obtain ⟨G1,i1,g1,s1,d1⟩:=h G hI hS hH
 obtain ⟨G2,i2,g2,s2,d2⟩:=h' G1 i1 s1 d1
 exact ⟨G2,i2,g1.trans g2 i1,s2,d2⟩
theorem SMu.pair {B W B' W':Way} (h:∀ G,Miu n n' G→Siu G B B'→(∃ h,Hdu G B h)→∃ G',Miu n1 n1' G'∧Gru E E' n n' G n1 n1' G'∧Siu G' W W'):SMu E E' n B (n1 + 1) (.once (n1 + 1) W) n' B' (n1' + 1) (.once (n1' + 1) W'):=fun G hI hS hH=>by
 obtain ⟨G1,i1,g1,s1⟩:=h G hI hS hH
 have g2:=Gru.pair (E:=E) (E':=E') i1
 exact ⟨_,i1.pair,g1.trans g2 i1,.once (.inr ⟨rfl,rfl⟩) (g2.sim i1 s1),_,.once (.inr ⟨rfl,rfl⟩)⟩
theorem SMu.alts {B B':Way} {Ws Ws':List Way} (h:∀ G,Miu n n' G→Siu G B B'→(∃ h,Hdu G B h)→∃ G' M,Miu n1 n1' G'∧Gru E E' n n' G n1 n1' G'∧SiL G' M Ws Ws'∧M.Nodup∧∀ m ∈ M,n < m∧m≤n1∧G'.free m):SMu E E' n B (n1 + 1) (.once (n1 + 1) (.inOrder Ws)) n' B' (n1' + 1) (.once (n1' + 1) (.inOrder Ws')):=fun G hI hS hH=>by
 obtain ⟨G1,M,i1,g1,s1,hM,hf⟩:=h G hI hS hH
 have g2:=Gru.pair (E:=E) (E':=E') i1
 have i2:=i1.pair
 have hf2:∀ m ∈ M,m≤n1 + 1∧(G1.pair n1 n1').free m:=fun m hm=>⟨by have:=(hf m hm).2.1;omega,g2.fr m (hf m hm).2.1 (hf m hm).2.2⟩
 have i3:=i2.stand hf2 (Int.le_refl (n1 + 1))
 have g3:Gru E E' n n' G (n1 + 1) (n1' + 1) ((G1.pair n1 n1').stand M (n1 + 1)):=by
  have g:=g1.trans g2 i1
  refine ⟨g.l1,g.l2,g.c,g.x,fun m n0 hy=>.inl (g.y _ _ hy),g.bd,g.l,fun m hm hfm=>?_,fun b b' hb=>?_⟩
  ·have h4:=g.fr m hm hfm
   refine ⟨h4.1,h4.2.1,fun n0 hy=>?_⟩
   rcases hy with hy | ⟨hm2,_⟩
   ·exact h4.2.2 _ hy
   ·have:=(hf m hm2).1;omega
  ·rcases g.new b b' hb with h | h
   ·exact .inl h
   ·exact .inr ((siu_up (G1:=(G1.pair n1 n1').stand M (n1 + 1)) i2 (fun _ _ h=>h) (fun _ _ h=>h) (fun _ _ h=>.inl h) (fun _ _=>rfl) (fun _ _ h=>h)).1 h)
 refine ⟨_,i3,g3,.onceA (M:=M) (.inr ⟨rfl,rfl⟩) ?_ (fun m hm=>.inr ⟨hm,rfl⟩) hM,_,.once (.inr ⟨rfl,rfl⟩)⟩
 exact (siu_up (G1:=(G1.pair n1 n1').stand M (n1 + 1)) i2 (fun _ _ h=>h) (fun _ _ h=>h) (fun _ _ h=>.inl h) (fun _ _=>rfl) (fun _ _ h=>h)).2.1 (g2.simL i1 s1)
theorem SMu.extra {B W B' W':Way} (h:SMu E E' n B n1 W n' B' n1' W'):SMu E E' n B (n1 + 1) (.once (n1 + 1) W) n' B' n1' W':=fun G hI hS hH=>by
 obtain ⟨G1,i1,g1,s1,h0,d1⟩:=h G hI hS hH
 have g2:=Gru.extra (E:=E) (E':=E') n1 n1' G1 h0 W
 have d2:Hdu (G1.extra n1 h0 W) W h0:=d1.up g2.c g2.x
 exact ⟨_,i1.extra h0 W,g1.trans g2 i1,.more (.inr ⟨rfl,rfl⟩) (by show upd G1.Bd (n1 + 1) W (n1 + 1)=W;simp [upd]) d2 (g2.sim i1 s1),h0,.more (.inr ⟨rfl,rfl⟩) d2⟩
theorem SMu.round {b b':Nat} {B B':Way} {lz:Bool} (h:SMu E E' (n + 1) (Dcd lz n b B) n2 (E b) (n' + 1) (Dcd lz n' b' B') n2' (E' b')) (G:Mau) (hI:Miu n n' G) (hS:Siu G B B') :
  ∃ G',Miu n2 n2' G'∧Gru E E' n n' G n2 n2' G'∧Siu G' (E b) (E' b')∧Siu G' (Dcd lz n b B) (Dcd lz n' b' B')∧(∃ h,Hdu G' (E b) h)∧∃ h,Hdu G' (Dcd lz n b B) h:=by
 obtain ⟨G0,hG0⟩:∃ G0,G0=(G.loops b b').pair n n':=⟨_,rfl⟩
 have hI0:Miu (n + 1) (n' + 1) G0:=by rw [hG0];exact (hI.loops b b').pair
 have hC:G0.C (n + 1) (n' + 1):=by rw [hG0];exact .inr ⟨rfl,rfl⟩
 have hL:G0.L b b':=by rw [hG0];exact .inr ⟨rfl,rfl⟩
 have hB:Siu G0 B B':=by rw [hG0];exact (siu_up (G1:=(G.loops b b').pair n n') hI (fun _ _ h=>Or.inl h) (fun _ _ h=>h) (fun _ _ h=>h) (fun _ _=>rfl) (fun _ _ h=>Or.inl h)).1 hS
 have hD:Siu G0 (Dcd lz n b B) (Dcd lz n' b' B'):=by
  refine .onceA (M:=[]) hC ?_ (fun m hm=>by cases hm) List.nodup_nil
  cases lz
  ·exact .cons (.again hL) (.cons hB .nil)
  ·exact .cons hB (.cons (.again hL) .nil)
 obtain ⟨G1,i1,g1,s1,d1⟩:=h G0 hI0 hD ⟨_,.once hC⟩
 refine ⟨G1,i1,⟨by have:=g1.l1;omega,by have:=g1.l2;omega,fun a a' x=>g1.c _ _ (by rw [hG0];exact .inl x),fun m n0 x=>g1.x _ _ (by rw [hG0];exact x),fun m n0 x=>g1.y _ _ (by rw [hG0];exact x),fun m hm=>(g1.bd m (by omega)).trans (by rw [hG0];rfl),fun x x' hx=>g1.l _ _ (by rw [hG0];exact .inl hx),fun m hm hf=>g1.fr m (by omega) ?_,fun x x' hx=>?_⟩,s1,g1.sim hI0 hD,d1,_,.once (g1.c _ _ hC)⟩
 ·rw [hG0]
  exact ⟨fun a' hc=>by rcases hc with hc | hc;exact hf.1 _ hc;omega,hf.2⟩
 ·rcases g1.new x x' hx with hx | hx
  ·rw [hG0] at hx
   rcases hx with hx | ⟨rfl,rfl⟩
   ·exact .inl hx
   ·exact .inr s1
  ·exact .inr hx
theorem SMu.two {B W B' W':Way} {lz:Bool} (h:SMu E E' n B n1 W n' B' n1' W'):SMu E E' n B (n1 + 1) (.once (n1 + 1) (.inOrder (if lz=true then [B,W] else [W,B]))) n' B' (n1' + 1) (.once (n1' + 1) (.inOrder (if lz=true then [B',W'] else [W',B']))):=
 SMu.alts fun G hI hS hH=>by
  obtain ⟨G1,i1,g1,s1,_⟩:=h G hI hS hH
  have hB:=g1.sim hI hS
  refine ⟨G1,[],i1,g1,?_,List.nodup_nil,fun m hm=>by cases hm⟩
  cases lz
  ·exact .cons s1 (.cons hB .nil)
  ·exact .cons hB (.cons s1 .nil)
end
end Go.Proofs.YtacaanhnlfpbhaaGreat
