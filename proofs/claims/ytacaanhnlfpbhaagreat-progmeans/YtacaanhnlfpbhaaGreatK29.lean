/- HELPERS: texts of ours put together. -/
import Derived.Test.YtacaanhnlfpbhaaGreatK17
namespace Go.Proofs.YtacaanhnlfpbhaaGreat
open Go.RowKit
set_option linter.unusedVariables false
set_option linter.unusedSimpArgs false
structure Mau where
 C:Int → Int → Prop
 L:Nat → Nat → Prop
 X:Int → Int → Prop
 Bd:Int → Way
 Y:Int → Int → Prop
inductive Hdu (G:Mau):Way → Int → Prop
 | once {n n':Int} {d:Way} (h:G.C n n'):Hdu G (.once n d) n
 | more {m n0:Int} {d:Way} (hX:G.X m n0) (h:Hdu G d n0):Hdu G (.once m d) n0
 | noted {c:Nat} {n0:Int} {d:Way} (h:Hdu G d n0):Hdu G (.noted c d) n0
mutual
inductive Siu (G:Mau):Way → Way → Prop
 | through:Siu G .through .through
 | once {n n':Int} {d d':Way} (hC:G.C n n') (h:Siu G d d'):Siu G (.once n d) (.once n' d')
 | onceA {n n':Int} {l l':List Way} {M:List Int} (hC:G.C n n') (h:SiL G M l l') (hY:∀ m ∈ M,G.Y m n) (hM:M.Nodup):Siu G (.once n (.inOrder l)) (.once n' (.inOrder l'))
 | more {m n0:Int} {d W':Way} (hX:G.X m n0) (hb:G.Bd m = d) (hh:Hdu G d n0) (h:Siu G d W'):Siu G (.once m d) W'
 | noted {c:Nat} {d d':Way} (h:Siu G d d'):Siu G (.noted c d) (.noted c d')
 | runeOf {R:Rng} {d d':Way} (h:Siu G d d'):Siu G (.runeOf R d) (.runeOf R d')
 | ifHolds {a:Int} {d d':Way} (h:Siu G d d'):Siu G (.ifHolds a d) (.ifHolds a d')
 | again {b b':Nat} (h:G.L b b'):Siu G (.again b) (.again b')
inductive SiL (G:Mau):List Int → List Way → List Way → Prop
 | nil:SiL G [] [] []
 | cons {d d':Way} {l l':List Way} {M:List Int} (h:Siu G d d') (t:SiL G M l l'):SiL G M (d :: l) (d' :: l')
 | flat {d:Way} {l k' l':List Way} {M N:List Int} (h:SiF G N d k') (t:SiL G M l l'):SiL G (N ++ M) (d :: l) (k' ++ l')
inductive SiF (G:Mau):List Int → Way → List Way → Prop
 | alt {m:Int} {l l':List Way} {M:List Int} (h:SiL G M l l'):SiF G (m :: M) (.once m (.inOrder l)) l'
 | wrap {e:Int} {d:Way} {l':List Way} {M:List Int} (h:SiF G M d l'):SiF G (e :: M) (.once e d) l'
end
structure Mau.Ok (G:Mau) (E E':Nat → Way):Prop where
 one:∀ n n' m m',G.C n n' → G.C m m' → (n = m ↔ n' = m')
 noC:∀ m n0 n',G.X m n0 → ¬ G.C m n'
 oneX:∀ m n0 n1,G.X m n0 → G.X m n1 → n0 = n1
 yC:∀ m n n',G.Y m n → ¬ G.C m n'
 yX:∀ m n n0,G.Y m n → ¬ G.X m n0
 oneY:∀ m n n1,G.Y m n → G.Y m n1 → n = n1
 loop:∀ b b',G.L b b' → Siu G (E b) (E' b')
structure Alu (G:Mau) (P:Int → Int → Prop) (s s':Sg):Prop where
 dn:∀ n n' q,G.C n n' → ((n,q) ∈ s.done ↔ (n',q) ∈ s'.done)
 ex:∀ m n0 q,G.X m n0 → (m,q) ∈ s.done → (n0,q) ∈ s.done ∨ P m q
 ya:∀ m n q,G.Y m n → (m,q) ∈ s.done → (n,q) ∈ s.done
 nt:s.notes = s'.notes
 pr:s.parses = s'.parses
def Fra (G:Mau) (s s1:Sg) (T:Int → Int → Prop):Prop:=∀ m n q,G.Y m n → (n,q) ∈ s.done → (m,q) ∈ s1.done → (m,q) ∈ s.done ∨ T m q
section
variable {G:Mau} {tx:List Int} {E E':Nat → Way}
theorem Alu.none {P:Int → Int → Prop} {s s':Sg} (h:Alu G P s s') (hP:∀ m q,¬ P m q):Alu G NoP s s':=
 ⟨h.dn,fun m n0 q a b => by rcases h.ex m n0 q a b with c | c;exact .inl c;exact absurd c (hP m q),h.ya,h.nt,h.pr⟩
theorem Hdu.fn (hG:G.Ok E E') {W:Way} {a b:Int} (h:Hdu G W a):Hdu G W b → a = b:=by
 induction h with
 | @once n n' d h =>
  intro h2
  cases h2 with
  | once _ => rfl
  | more hX _ => exact absurd h (hG.noC _ _ _ hX)
 | more hX h ih =>
  intro h2
  cases h2 with
  | once h3 => exact absurd h3 (hG.noC _ _ _ hX)
  | more _ h3 => exact ih h3
 | noted h ih =>
  intro h2
  cases h2 with
  | noted h3 => exact ih h3
theorem Hdu.c {W:Way} {n0:Int} (h:Hdu G W n0):∃ n0',G.C n0 n0':=by
 induction h with
 | once h => exact ⟨_,h⟩
 | more _ _ ih => exact ih
 | noted _ ih => exact ih
theorem siu_skip (hG:G.Ok E E') {W W':Way} (h:Siu G W W'):∀ (n0 n0':Int) (p:Nat) (s':Sg),Hdu G W n0 → G.C n0 n0' → (n0',(p:Int)) ∈ s'.done → Ex tx E' W' p s' s':=by
 refine Siu.rec (motive_1:=fun W W' _ => ∀ (n0 n0':Int) (p:Nat) (s':Sg),Hdu G W n0 → G.C n0 n0' → (n0',(p:Int)) ∈ s'.done → Ex tx E' W' p s' s') (motive_2:=fun _ _ _ _ => True) (motive_3:=fun _ _ _ _ => True) ?_ ?_ ?_ ?_ ?_ ?_ ?_ ?_ ?_ ?_ ?_ ?_ ?_ h
 ·intro n0 n0' p s' hh;cases hh
 ·intro n n' d d' hC h ih n0 n0' p s' hh hc hd
  cases hh with
  | once _ => rw [← (hG.one _ _ _ _ hC hc).1 rfl] at hd;exact .skip hd
  | more hX _ => exact absurd hC (hG.noC _ _ _ hX)
 ·intro n n' l l' M hC _ _ _ _ n0 n0' p s' hh hc hd
  cases hh with
  | once _ => rw [← (hG.one _ _ _ _ hC hc).1 rfl] at hd;exact .skip hd
  | more hX _ => exact absurd hC (hG.noC _ _ _ hX)
 ·intro m n1 d W' hX hb hh h ih n0 n0' p s' h2 hc hd
  cases h2 with
  | once h3 => exact absurd h3 (hG.noC _ _ _ hX)
  | more hX2 h3 => exact ih _ _ p s' h3 hc hd
 ·intro c d d' h ih n0 n0' p s' hh hc hd
  cases hh with
  | noted hh =>
   have this:Ex tx E' (.noted c d') p s' { s' with notes:=(s'.notes.set c (p:Int)).set c (s'.notes.getD c 0) }:=Ex.noted (c:=c) (ih n0 n0' p { s' with notes:=s'.notes.set c (p:Int) } hh hc hd)
   rw [noted_self] at this
   exact this
 ·intro R d d' h ih n0 n0' p s' hh;cases hh
 ·intro a d d' h ih n0 n0' p s' hh;cases hh
 ·intro b b' h n0 n0' p s' hh;cases hh
 ·trivial
 ·intros;trivial
 ·intros;trivial
 ·intros;trivial
 ·intros;trivial
def Peu (G:Mau) (P:Int → Int → Prop) (W:Way) (p:Nat):Prop:=∀ m q,P m q → q = (p:Int) ∧ (∃ n0,G.X m n0 ∧ Hdu G W n0) ∧ SizeOf.sizeOf W ≤ SizeOf.sizeOf (G.Bd m)
theorem Peu.no (W:Way) (p:Nat):Peu G NoP W p:=fun m q h => h.elim
theorem Alu.settle (hG:G.Ok E E') {P:Int → Int → Prop} {W:Way} {p:Nat} {n0:Int} {s s':Sg} (h:Alu G P s s') (hP:Peu G P W p) (hh:Hdu G W n0) (hd:(n0,(p:Int)) ∈ s.done):Alu G NoP s s':=
 ⟨h.dn,fun m n1 q a b => by
  rcases h.ex m n1 q a b with c | c
  ·exact .inl c
  ·obtain ⟨rfl,⟨n2,h1,h2⟩,_⟩:=hP m q c
   rw [hG.oneX m n1 n2 a h1,h2.fn hG hh]
   exact .inl hd,h.ya,h.nt,h.pr⟩
theorem Peu.none {P:Int → Int → Prop} {W:Way} {p:Nat} (hP:Peu G P W p) (hW:∀ n0,¬ Hdu G W n0):∀ m q,¬ P m q:=fun m q h => by
 obtain ⟨_,⟨n0,_,h2⟩,_⟩:=hP m q h
 exact hW n0 h2
theorem Ex.mono {W:Way} {p:Nat} {s s1:Sg} (h:Ex tx E W p s s1):∀ x ∈ s.done,x ∈ s1.done:=by
 induction h with
 | through p s => intro x hx;exact hx
 | skip h => intro x hx;exact hx
 | once h hd ih => intro x hx;exact ih x (List.mem_append.2 (.inl hx))
 | noted hd ih => intro x hx;exact ih x hx
 | over h => intro x hx;exact hx
 | other h hr => intro x hx;exact hx
 | rune h hr hd ih => exact ih
 | fails h => intro x hx;exact hx
 | holds h hd ih => exact ih
 | @inOrder l p ss h ih =>
  have key:∀ m,m ≤ l.length → ∀ x ∈ (ss 0).done,x ∈ (ss m).done:=by
   intro m
   induction m with
   | zero => intro _ x hx;exact hx
   | succ m im => intro hm x hx;exact ih m (by omega) x (im (by omega) x hx)
  exact key _ (Nat.le_refl _)
 | again h ih => exact ih
inductive Chn (M:Way → Sg → Sg → Prop):List Way → Sg → Sg → Prop
 | nil (s:Sg):Chn M [] s s
 | cons {d:Way} {l:List Way} {s s1 s2:Sg} (h:M d s s1) (t:Chn M l s1 s2):Chn M (d :: l) s s2
theorem Chn.app {M:Way → Sg → Sg → Prop} {l k:List Way} {s s1 s2:Sg} (h:Chn M l s s1) (h':Chn M k s1 s2):Chn M (l ++ k) s s2:=by
 induction h with
 | nil s => exact h'
 | cons h _ ih => exact .cons h (ih h')
theorem chn_of {M:Way → Sg → Sg → Prop}:∀ (l:List Way) (ss:Nat → Sg),(∀ i (hi:i < l.length),M (l[i]'hi) (ss i) (ss (i + 1))) → Chn M l (ss 0) (ss l.length)
 | [],ss,_ => .nil _
 | d :: l,ss,h => .cons (h 0 (by simp)) (chn_of l (fun i => ss (i + 1)) fun i hi => h (i + 1) (by simp;omega))
theorem chn_ss {M:Way → Sg → Sg → Prop} {l:List Way} {s s1:Sg} (h:Chn M l s s1):∃ ss:Nat → Sg,ss 0 = s ∧ ss l.length = s1 ∧ ∀ i (hi:i < l.length),M (l[i]'hi) (ss i) (ss (i + 1)):=by
 induction h with
 | nil s => exact ⟨fun _ => s,rfl,rfl,fun i hi => by simp at hi⟩
 | @cons d l s s1 s2 h _ ih =>
  obtain ⟨ss,h0,h1,h2⟩:=ih
  refine ⟨fun i => match i with | 0 => s | i + 1 => ss i,rfl,h1,fun i hi => ?_⟩
  cases i with
  | zero => show M d s (ss 0);rw [h0];exact h
  | succ i => exact h2 i (by simpa using hi)
theorem inOrder_of {l:List Way} {p:Nat} {s s1:Sg} (h:Chn (fun d s s1 => Ex tx E d p s s1) l s s1):Ex tx E (.inOrder l) p s s1:=by
 obtain ⟨ss,rfl,rfl,h2⟩:=chn_ss h
 exact .inOrder ss h2
theorem Fra.refl (s:Sg) (T:Int → Int → Prop):Fra G s s T:=fun m n q _ _ h => .inl h
theorem Fra.trans {s s1 s2:Sg} {T:Int → Int → Prop} (h:Fra G s s1 T) (h':Fra G s1 s2 T) (hm:∀ x ∈ s.done,x ∈ s1.done):Fra G s s2 T:=fun m n q hY hn h2 => by
 rcases h' m n q hY (hm _ hn) h2 with h3 | h3
 ·exact h m n q hY hn h3
 ·exact .inr h3
abbrev NoT:Int → Int → Prop:=fun _ _ => False
structure Su3 (G:Mau) (tx:List Int) (E':Nat → Way) (W:Way) (p:Nat) (s s1:Sg):Prop where
 mono:∀ x ∈ s.done,x ∈ s1.done
 one:∀ (W':Way) (s':Sg) (P:Int → Int → Prop),Siu G W W' → Alu G P s s' → Peu G P W p → ∃ s1',Ex tx E' W' p s' s1' ∧ Alu G NoP s1 s1' ∧ Fra G s s1 NoT
 row:∀ (l:List Way) (n:Int) (M:List Int) (l':List Way) (s':Sg),W = .inOrder l → SiL G M l l' → (∀ m ∈ M,G.Y m n) → M.Nodup → (n,(p:Int)) ∈ s.done → (∀ m ∈ M,(m,(p:Int)) ∉ s.done) → Alu G NoP s s' → ∃ s1',Chn (fun d s s1 => Ex tx E' d p s s1) l' s' s1' ∧ Alu G NoP s1 s1' ∧ Fra G s s1 (fun m q => m ∈ M ∧ q = (p:Int))
 fl:∀ (n:Int) (M:List Int) (l':List Way) (s':Sg),SiF G M W l' → (∀ m ∈ M,G.Y m n) → M.Nodup → (n,(p:Int)) ∈ s.done → (∀ m ∈ M,(m,(p:Int)) ∉ s.done) → Alu G NoP s s' → ∃ s1',Chn (fun d s s1 => Ex tx E' d p s s1) l' s' s1' ∧ Alu G NoP s1 s1' ∧ Fra G s s1 (fun m q => m ∈ M ∧ q = (p:Int))
theorem sil_chn {p:Nat} {l:List Way} {s s1:Sg} (h:Chn (fun d s s1 => Su3 G tx E' d p s s1) l s s1):∀ (n:Int) (M:List Int) (l':List Way) (s':Sg),SiL G M l l' → (∀ m ∈ M,G.Y m n) → M.Nodup → (n,(p:Int)) ∈ s.done → (∀ m ∈ M,(m,(p:Int)) ∉ s.done) → Alu G NoP s s' →
  (∀ x ∈ s.done,x ∈ s1.done) ∧ ∃ s1',Chn (fun d s s1 => Ex tx E' d p s s1) l' s' s1' ∧ Alu G NoP s1 s1' ∧ Fra G s s1 (fun m q => m ∈ M ∧ q = (p:Int)):=by
 induction h with
 | nil s =>
  intro n M l' s' hL hY hM hn hno hA
  cases hL
  exact ⟨fun x hx => hx,s',.nil _,hA,.refl _ _⟩
 | @cons d l s s1 s2 h t ih =>
  intro n M l' s' hL hY hM hn hno hA
  cases hL with
  | @cons _ d' _ l' M hS hL =>
   obtain ⟨s1',x1,a1,f1⟩:=h.one d' s' NoP hS hA (Peu.no _ _)
   obtain ⟨m2,s2',x2,a2,f2⟩:=ih n M l' s1' hL hY hM (h.mono _ hn) (fun m hm hd => by
    rcases f1 m n _ (hY m hm) hn hd with h | h
    ·exact hno m hm h
    ·exact h) a1
   refine ⟨fun x hx => m2 x (h.mono x hx),s2',.cons x1 x2,a2,Fra.trans (fun m n q a b c => ?_) f2 h.mono⟩
   rcases f1 m n q a b c with h | h
   ·exact .inl h
   ·exact h.elim
  | @flat _ _ k' l' M N hF hL =>
   rw [List.nodup_append] at hM
   obtain ⟨hN,hM,hd⟩:=hM
   obtain ⟨s1',x1,a1,f1⟩:=h.fl n N k' s' hF (fun m hm => hY m (List.mem_append.2 (.inl hm))) hN hn (fun m hm => hno m (List.mem_append.2 (.inl hm))) hA
   obtain ⟨m2,s2',x2,a2,f2⟩:=ih n M l' s1' hL (fun m hm => hY m (List.mem_append.2 (.inr hm))) hM (h.mono _ hn) (fun m hm hx => by
    rcases f1 m n _ (hY m (List.mem_append.2 (.inr hm))) hn hx with h | h
    ·exact hno m (List.mem_append.2 (.inr hm)) h
    ·exact hd m h.1 m hm rfl) a1
   refine ⟨fun x hx => m2 x (h.mono x hx),s2',x1.app x2,a2,Fra.trans (fun m n q a b c => ?_) (fun m n q a b c => ?_) h.mono⟩
   ·rcases f1 m n q a b c with h | h
    ·exact .inl h
    ·exact .inr ⟨List.mem_append.2 (.inl h.1),h.2⟩
   ·rcases f2 m n q a b c with h | h
    ·exact .inl h
    ·exact .inr ⟨List.mem_append.2 (.inr h.1),h.2⟩
theorem mem_snoc {x y:Int × Int} {l:List (Int × Int)}:x ∈ l ++ [y] ↔ x ∈ l ∨ x = y:=by simp
theorem siu_ex (hG:G.Ok E E') {W:Way} {p:Nat} {s s1:Sg} (h:Ex tx E W p s s1):Su3 G tx E' W p s s1:=by
 have hmono:=h.mono
 induction h with
 | through p s =>
  refine ⟨hmono,fun W' s' P hS hA hP => ?_,fun l n M l' s' e => (by cases e),fun n M l' s' hF => (by cases hF)⟩
  have hA:=hA.none (hP.none fun n0 h => by cases h)
  cases hS
  exact ⟨_,.through p s',⟨hA.dn,hA.ex,hA.ya,hA.nt,by simp only [hA.nt,hA.pr]⟩,fun m n q _ _ h => .inl h⟩
 | @skip n d p s h =>
  refine ⟨hmono,fun W' s' P hS hA hP => ?_,fun l n M l' s' e => (by cases e),fun n M l' s' hF hY hM hn hno hA => ?_⟩
  ·cases hS with
   | once hC hS => exact ⟨s',.skip ((hA.dn _ _ _ hC).1 h),hA.settle hG hP (.once hC) h,.refl _ _⟩
   | onceA hC _ _ _ => exact ⟨s',.skip ((hA.dn _ _ _ hC).1 h),hA.settle hG hP (.once hC) h,.refl _ _⟩
   | @more _ n0 _ _ hX hb hh hS =>
    have hd:(n0,(p:Int)) ∈ s.done:=by
     rcases hA.ex _ _ _ hX h with hd | hp
     ·exact hd
     ·have:=(hP _ _ hp).2.2
      rw [hb] at this
      simp at this
      omega
    obtain ⟨n0',hC⟩:=hh.c
    exact ⟨s',siu_skip hG hS n0 n0' p s' hh hC ((hA.dn _ _ _ hC).1 hd),hA.settle hG hP (.more hX hh) hd,.refl _ _⟩
  ·cases hF with
   | alt _ => exact absurd h (hno _ (by simp))
   | wrap _ => exact absurd h (hno _ (by simp))
 | @once n d p s s1 h hd ih =>
  have ih:=ih hd.mono
  refine ⟨hmono,fun W' s' P hS hA hP => ?_,fun l n M l' s' e => (by cases e),fun n1 M l' s' hF hY hM hn hno hA => ?_⟩
  ·have paired:∀ n',G.C n n' → Alu G NoP { s with done:=s.done ++ [(n,(p:Int))] } { s' with done:=s'.done ++ [(n',(p:Int))] }:=fun n' hC => by
    have hA1:Alu G P { s with done:=s.done ++ [(n,(p:Int))] } { s' with done:=s'.done ++ [(n',(p:Int))] }:=by
     refine ⟨fun a a' q ha => ?_,fun m n0 q hX hm => ?_,fun m n0 q hY hm => ?_,hA.nt,hA.pr⟩
     ·simp only [List.mem_append,List.mem_singleton,Prod.mk.injEq]
      rw [hA.dn a a' q ha,hG.one a a' n n' ha hC]
     ·simp only [mem_snoc] at hm ⊢
      rcases hm with hm | hm
      ·rcases hA.ex m n0 q hX hm with hm | hm
       ·exact .inl (.inl hm)
       ·exact .inr hm
      ·simp only [Prod.mk.injEq] at hm
       exact absurd hC (by rw [← hm.1];exact hG.noC _ _ _ hX)
     ·simp only [mem_snoc] at hm ⊢
      rcases hm with hm | hm
      ·exact .inl (hA.ya m n0 q hY hm)
      ·simp only [Prod.mk.injEq] at hm
       exact absurd hC (by rw [← hm.1];exact hG.yC _ _ _ hY)
    exact hA1.settle hG hP (.once hC) (by simp)
   cases hS with
   | @once _ n' _ d' hC hS =>
    have hn:(n',(p:Int)) ∉ s'.done:=fun hm => h ((hA.dn _ _ _ hC).2 hm)
    obtain ⟨s1',hx,hA3,hF⟩:=ih.one d' _ NoP hS (paired n' hC) (Peu.no _ _)
    refine ⟨s1',.once hn hx,hA3,fun m n2 q a b c => ?_⟩
    rcases hF m n2 q a (mem_snoc.2 (.inl b)) c with c | c
    ·rcases mem_snoc.1 c with c | c
     ·exact .inl c
     ·simp only [Prod.mk.injEq] at c
      exact absurd hC (by rw [← c.1];exact hG.yC _ _ _ a)
    ·exact c.elim
   | @onceA _ n' l l' M hC hS hY hM =>
    have hn:(n',(p:Int)) ∉ s'.done:=fun hm => h ((hA.dn _ _ _ hC).2 hm)
    obtain ⟨s1',hx,hA3,hF⟩:=ih.row l n M l' _ rfl hS hY hM (by simp) (fun m hm hd => by
     rcases mem_snoc.1 hd with hd | hd
     ·exact h (hA.ya m n _ (hY m hm) hd)
     ·simp only [Prod.mk.injEq] at hd
      exact absurd hC (by rw [← hd.1];exact hG.yC _ _ _ (hY m hm))) (paired n' hC)
    refine ⟨s1',.once hn (inOrder_of hx),hA3,fun m n2 q a b c => ?_⟩
    rcases hF m n2 q a (mem_snoc.2 (.inl b)) c with c | ⟨cm,rfl⟩
    ·rcases mem_snoc.1 c with c | c
     ·exact .inl c
     ·simp only [Prod.mk.injEq] at c
      exact absurd hC (by rw [← c.1];exact hG.yC _ _ _ a)
    ·rw [hG.oneY m n2 n a (hY m cm)] at b
     exact absurd b h
   | @more _ n0 _ _ hX hb hh hS =>
    have hA1:Alu G (fun m q => P m q ∨ (m = n ∧ q = (p:Int))) { s with done:=s.done ++ [(n,(p:Int))] } s':=by
     refine ⟨fun a a' q ha => ?_,fun m n1 q hX1 hm => ?_,fun m n1 q hY hm => ?_,hA.nt,hA.pr⟩
     ·simp only [mem_snoc,Prod.mk.injEq]
      rw [← hA.dn a a' q ha]
      constructor
      ·rintro (hm | ⟨rfl,_⟩)
       ·exact hm
       ·exact absurd ha (hG.noC _ _ _ hX)
      ·exact .inl
     ·simp only [mem_snoc,Prod.mk.injEq] at hm ⊢
      rcases hm with hm | hm
      ·rcases hA.ex m n1 q hX1 hm with hm | hm
       ·exact .inl (.inl hm)
       ·exact .inr (.inl hm)
      ·exact .inr (.inr hm)
     ·simp only [mem_snoc,Prod.mk.injEq] at hm ⊢
      rcases hm with hm | ⟨rfl,_⟩
      ·exact .inl (hA.ya m n1 q hY hm)
      ·exact absurd hX (hG.yX _ _ _ hY)
    obtain ⟨s1',hx,hA3,hF⟩:=ih.one W' s' _ hS hA1 (fun m q hm => by
     rcases hm with hm | ⟨rfl,rfl⟩
     ·obtain ⟨a,⟨n2,b1,b2⟩,c⟩:=hP m q hm
      refine ⟨a,⟨n2,b1,?_⟩,?_⟩
      ·rw [← (Hdu.more hX hh).fn hG b2]
       exact hh
      ·simp at c
       omega
     ·exact ⟨rfl,⟨n0,hX,hh⟩,by rw [hb];exact Nat.le_refl _⟩)
    refine ⟨s1',hx,hA3,fun m n2 q a b c => ?_⟩
    rcases hF m n2 q a (mem_snoc.2 (.inl b)) c with c | c
    ·rcases mem_snoc.1 c with c | c
     ·exact .inl c
     ·simp only [Prod.mk.injEq] at c
      exact absurd hX (by rw [← c.1];exact hG.yX _ _ _ a)
    ·exact c.elim
  ·have inner:∀ M0,M = n :: M0 → Alu G NoP { s with done:=s.done ++ [(n,(p:Int))] } s' ∧ (∀ m ∈ M0,(m,(p:Int)) ∉ s.done ++ [(n,(p:Int))]):=fun M0 e => by
    subst e
    have hYn:=hY n (by simp)
    refine ⟨⟨fun a a' q ha => ?_,fun m n0 q hX hm => ?_,fun m n0 q hY2 hm => ?_,hA.nt,hA.pr⟩,fun m hm hd => ?_⟩
    ·simp only [mem_snoc,Prod.mk.injEq]
     rw [← hA.dn a a' q ha]
     constructor
     ·rintro (hm | ⟨rfl,_⟩)
      ·exact hm
      ·exact absurd ha (hG.yC _ _ _ hYn)
     ·exact .inl
    ·simp only [mem_snoc,Prod.mk.injEq] at hm ⊢
     rcases hm with hm | ⟨rfl,_⟩
     ·rcases hA.ex m n0 q hX hm with hm | hm
      ·exact .inl (.inl hm)
      ·exact .inr hm
     ·exact absurd hX (hG.yX _ _ _ hYn)
    ·simp only [mem_snoc,Prod.mk.injEq] at hm ⊢
     rcases hm with hm | ⟨rfl,rfl⟩
     ·exact .inl (hA.ya m n0 q hY2 hm)
     ·rw [hG.oneY _ _ _ hY2 hYn]
      exact .inl hn
    ·rcases mem_snoc.1 hd with hd | hd
     ·exact hno m (List.mem_cons_of_mem _ hm) hd
     ·simp only [Prod.mk.injEq] at hd
      rw [hd.1] at hm
      exact (List.nodup_cons.1 hM).1 hm
   have fin:∀ M0,M = n :: M0 → ∀ s1:Sg,Fra G { s with done:=s.done ++ [(n,(p:Int))] } s1 (fun m q => m ∈ M0 ∧ q = (p:Int)) → Fra G s s1 (fun m q => m ∈ M ∧ q = (p:Int)):=fun M0 e s1 hR m n2 q a b c => by
    subst e
    rcases hR m n2 q a (mem_snoc.2 (.inl b)) c with c | c
    ·rcases mem_snoc.1 c with c | c
     ·exact .inl c
     ·simp only [Prod.mk.injEq] at c
      exact .inr ⟨by rw [c.1];simp,c.2⟩
    ·exact .inr ⟨List.mem_cons_of_mem _ c.1,c.2⟩
   cases hF with
   | @alt _ l _ M0 hL =>
    obtain ⟨i1,i2⟩:=inner M0 rfl
    obtain ⟨s1',hx,hA3,hF⟩:=ih.row l n1 M0 l' s' rfl hL (fun m hm => hY m (List.mem_cons_of_mem _ hm)) (List.nodup_cons.1 hM).2 (mem_snoc.2 (.inl hn)) i2 i1
    exact ⟨s1',hx,hA3,fin M0 rfl _ hF⟩
   | @wrap _ _ _ M0 hL =>
    obtain ⟨i1,i2⟩:=inner M0 rfl
    obtain ⟨s1',hx,hA3,hF⟩:=ih.fl n1 M0 l' s' hL (fun m hm => hY m (List.mem_cons_of_mem _ hm)) (List.nodup_cons.1 hM).2 (mem_snoc.2 (.inl hn)) i2 i1
    exact ⟨s1',hx,hA3,fin M0 rfl _ hF⟩
 | @noted c d p s s1 hd ih =>
  have ih:=ih hd.mono
  refine ⟨hmono,fun W' s' P hS hA hP => ?_,fun l n M l' s' e => (by cases e),fun n M l' s' hF => (by cases hF)⟩
  have hPd:Peu G P d p:=fun m q hm => by
   obtain ⟨a,⟨n2,b1,b2⟩,e⟩:=hP m q hm
   cases b2 with
   | noted b2 => exact ⟨a,⟨n2,b1,b2⟩,by simp at e;omega⟩
  have hno:s1.notes.set c (s.notes.getD c 0) = s.notes:=(Ex.noted hd).notes
  cases hS with
  | @noted _ _ d' hS =>
   obtain ⟨s1',hx,hA3,hF⟩:=ih.one d' { s' with notes:=s'.notes.set c (p:Int) } P hS ⟨hA.dn,hA.ex,hA.ya,by simp only [hA.nt],hA.pr⟩ hPd
   have hx2:=Ex.noted (c:=c) (s:=s') hx
   refine ⟨_,hx2,⟨hA3.dn,hA3.ex,hA3.ya,?_,hA3.pr⟩,hF⟩
   have e2:=hx2.notes
   simp only at e2 ⊢
   rw [hno,e2]
   exact hA.nt
 | over h =>
  refine ⟨hmono,fun W' s' P hS hA hP => ?_,fun l n M l' s' e => (by cases e),fun n M l' s' hF => (by cases hF)⟩
  have hA:=hA.none (hP.none fun n0 h => by cases h)
  cases hS with | runeOf hS => exact ⟨s',.over h,hA,.refl _ _⟩
 | other h hr =>
  refine ⟨hmono,fun W' s' P hS hA hP => ?_,fun l n M l' s' e => (by cases e),fun n M l' s' hF => (by cases hF)⟩
  have hA:=hA.none (hP.none fun n0 h => by cases h)
  cases hS with | runeOf hS => exact ⟨s',.other h hr,hA,.refl _ _⟩
 | rune h hr hd ih =>
  have ih:=ih hd.mono
  refine ⟨hmono,fun W' s' P hS hA hP => ?_,fun l n M l' s' e => (by cases e),fun n M l' s' hF => (by cases hF)⟩
  have hA:=hA.none (hP.none fun n0 h => by cases h)
  cases hS with
  | runeOf hS =>
   obtain ⟨s1',hx,hA3,hF⟩:=ih.one _ s' NoP hS hA (Peu.no _ _)
   exact ⟨s1',.rune h hr hx,hA3,hF⟩
 | fails h =>
  refine ⟨hmono,fun W' s' P hS hA hP => ?_,fun l n M l' s' e => (by cases e),fun n M l' s' hF => (by cases hF)⟩
  have hA:=hA.none (hP.none fun n0 h => by cases h)
  cases hS with | ifHolds hS => exact ⟨s',.fails h,hA,.refl _ _⟩
 | holds h hd ih =>
  have ih:=ih hd.mono
  refine ⟨hmono,fun W' s' P hS hA hP => ?_,fun l n M l' s' e => (by cases e),fun n M l' s' hF => (by cases hF)⟩
  have hA:=hA.none (hP.none fun n0 h => by cases h)
  cases hS with
  | ifHolds hS =>
   obtain ⟨s1',hx,hA3,hF⟩:=ih.one _ s' NoP hS hA (Peu.no _ _)
   exact ⟨s1',.holds h hx,hA3,hF⟩
 | @inOrder l p ss h ih =>
  refine ⟨hmono,fun W' s' P hS hA hP => (by cases hS),fun l1 n M l' s' e hL hY hM hn hno hA => ?_,fun n M l' s' hF => (by cases hF)⟩
  cases e
  exact (sil_chn (chn_of l ss fun i hi => ih i hi (h i hi).mono) n M l' s' hL hY hM hn hno hA).2
 | again h ih =>
  have ih:=ih h.mono
  refine ⟨hmono,fun W' s' P hS hA hP => ?_,fun l n M l' s' e => (by cases e),fun n M l' s' hF => (by cases hF)⟩
  have hA:=hA.none (hP.none fun n0 h => by cases h)
  cases hS with
  | again hL =>
   obtain ⟨s1',hx,hA3,hF⟩:=ih.one _ s' NoP (hG.loop _ _ hL) hA (Peu.no _ _)
   exact ⟨s1',.again hx,hA3,hF⟩
end
end Go.Proofs.YtacaanhnlfpbhaaGreat
