/- HELPERS: texts of ours put together. -/
import Derived.Test.YtacaanhnlfpbhaaGreatK17
import Derived.Test.YtacaanhnlfpbhaaGreatK18
import Derived.Laws.Rows
namespace Go.Proofs.YtacaanhnlfpbhaaGreat
open Go.RowKit
set_option linter.unusedVariables false
set_option linter.unusedSimpArgs false
theorem Ex.det {tx:List Int} {E:Nat→Way} {W:Way} {p:Nat} {s s1:Sg} (h:Ex tx E W p s s1):∀ {s2:Sg},Ex tx E W p s s2→s1=s2:=by
 induction h with
 | through p s=>intro s2 h2;cases h2;rfl
 | skip h=>intro s2 h2;cases h2 with | skip _=>rfl | once hn _=>exact absurd h hn
 | once h hd ih=>intro s2 h2;cases h2 with | skip hn=>exact absurd hn h | once _ hd2=>exact ih hd2
 | noted hd ih=>intro s2 h2;cases h2 with | noted hd2=>rw [ih hd2]
 | over h=>intro s2 h2;cases h2 with | over _=>rfl | other h3 _=>omega | rune h3 _ _=>omega
 | other h hr=>intro s2 h2;cases h2 with | over h3=>omega | other _ _=>rfl | rune _ h3 _=>rw [hr] at h3;cases h3
 | rune h hr hd ih=>intro s2 h2;cases h2 with | over h3=>omega | other _ h3=>rw [hr] at h3;cases h3 | rune _ _ hd2=>exact ih hd2
 | fails h=>intro s2 h2;cases h2 with | fails _=>rfl | holds h3 _=>rw [h] at h3;cases h3
 | holds h hd ih=>intro s2 h2;cases h2 with | fails h3=>rw [h] at h3;cases h3 | holds _ hd2=>exact ih hd2
 | @inOrder l p ss h ih =>
  intro s2 h2
  obtain ⟨tt,e0,e1,h3⟩:∃ tt:Nat→Sg,tt 0=ss 0∧tt l.length=s2∧∀ i (hi:i < l.length),Ex tx E (l[i]'hi) p (tt i) (tt (i + 1)):=by
   generalize hs:ss 0=s0 at h2
   cases h2 with | inOrder tt h3=>exact ⟨tt,rfl,rfl,h3⟩
  have key:∀ i,i≤l.length→ss i=tt i:=by
   intro i
   induction i with
   | zero=>intro _;exact e0.symm
   | succ i ihi =>
    intro hi
    have:=h3 i (by omega)
    rw [← ihi (by omega)] at this
    exact ih i (by omega) this
  rw [key _ (Nat.le_refl _),e1]
 | again h ih=>intro s2 h2;cases h2 with | again h3=>exact ih h3
theorem Ex.env {tx:List Int} {E E':Nat→Way} {A:Nat→Prop} (hA:∀ b,A b→E b=E' b∧∀ x ∈ (E b).ags,A x) {W:Way} {p:Nat} {s s1:Sg} (h:Ex tx E W p s s1):(∀ x ∈ W.ags,A x)→Ex tx E' W p s s1:=by
 induction h with
 | through p s=>intro _;exact .through p s
 | skip h=>intro _;exact .skip h
 | once h hd ih=>intro ha;exact .once h (ih fun x hx=>ha x (by simpa [Way.ags] using hx))
 | noted hd ih=>intro ha;exact .noted (ih fun x hx=>ha x (by simpa [Way.ags] using hx))
 | over h=>intro _;exact .over h
 | other h hr=>intro _;exact .other h hr
 | rune h hr hd ih=>intro ha;exact .rune h hr (ih fun x hx=>ha x (by simpa [Way.ags] using hx))
 | fails h=>intro _;exact .fails h
 | holds h hd ih=>intro ha;exact .holds h (ih fun x hx=>ha x (by simpa [Way.ags] using hx))
 | @inOrder l p ss h ih =>
  intro ha
  refine .inOrder ss fun i hi=>ih i hi fun x hx=>ha x ?_
  simp only [Way.ags]
  have:∀ (l:List Way) (i:Nat) (hi:i < l.length),x ∈ (l[i]'hi).ags→x ∈ agsL l:=by
   intro l
   induction l with
   | nil=>intro i hi;simp at hi
   | cons d l ihl =>
    intro i hi hx
    cases i with
    | zero=>simp at hx;simp [agsL,hx]
    | succ i=>simp [agsL,ihl i (by simpa using hi) (by simpa using hx)]
  exact this l i hi hx
 | @again b p s s1 h ih =>
  intro ha
  obtain ⟨e,h2⟩:=hA b (ha b (by simp [Way.ags]))
  have:=ih h2
  rw [e] at this
  exact .again this
abbrev Nd.nv (N:Nd) (k:Int):Nv:=⟨k,N.r1,N.r2,N.r3,N.a2,N.s1,N.s2,N.s3,N.a4,N.a5,N.a6,N.a7,N.a8⟩
theorem Beg.rep {E:Nat→Way} {R:List (Int × Int)} {a:Int} {s:List Tn} {mn mx:Int} {lz:Bool} {ix:Int} {nm:ByteArray} {n n':Int} {B W:Way} (h:Beg E (.mk 6 R a s mn mx lz ix nm) n B n' W) :
  ∃ t,s=[t]∧((∃ b,mn=0∧mx=-1∧Beg E t (n + 1) (Dcd lz n b B) n' (E b)∧W=Dcd lz n b B)∨(∃ (b c:Nat) (n2:Int),mn=(c:Int) + 1∧mx=-1∧Beg E t (n + 1) (Dcd lz n b B) n2 (E b)∧BegT E t c n2 (E b) n' W) ∨
   (∃ (c m:Nat) (n1:Int) (W1:Way),mn=(c:Int)∧mx=(c:Int) + (m:Int)∧BegO E t lz B m n n1 W1∧BegT E t c n1 W1 n' W)):=by
 generalize hT:Tn.mk 6 R a s mn mx lz ix nm=T at h
 cases h with
 | any0 h=>simp only [Tn.mk.injEq] at hT;obtain ⟨_,rfl,rfl,rfl,rfl,rfl,rfl,rfl,rfl⟩:=hT;exact ⟨_,rfl,.inl ⟨_,rfl,rfl,h,rfl⟩⟩
 | any h hT2=>simp only [Tn.mk.injEq] at hT;obtain ⟨_,rfl,rfl,rfl,rfl,rfl,rfl,rfl,rfl⟩:=hT;exact ⟨_,rfl,.inr (.inl ⟨_,_,_,rfl,rfl,h,hT2⟩)⟩
 | bnd hO hT2=>simp only [Tn.mk.injEq] at hT;obtain ⟨_,rfl,rfl,rfl,rfl,rfl,rfl,rfl,rfl⟩:=hT;exact ⟨_,rfl,.inr (.inr ⟨_,_,_,_,rfl,rfl,hO,hT2⟩)⟩
 | _=>simp only [Tn.mk.injEq] at hT;exact absurd hT.1 (by decide)
theorem Beg.group {E:Nat→Way} {R:List (Int × Int)} {a:Int} {s:List Tn} {mn mx:Int} {lz:Bool} {ix:Int} {nm:ByteArray} {n n':Int} {B W:Way} (h:Beg E (.mk 7 R a s mn mx lz ix nm) n B n' W) :
  ∃ (t:Tn) (i:Nat) (n1:Int) (W1:Way),s=[t]∧ix=(i:Int)∧n'=n1 + 1∧W=.once (n1 + 1) (.noted (2 * i) W1)∧Beg E t n (.noted (2 * i + 1) B) n1 W1:=by
 generalize hT:Tn.mk 7 R a s mn mx lz ix nm=T at h
 cases h with
 | grp h=>simp only [Tn.mk.injEq] at hT;obtain ⟨_,rfl,rfl,rfl,rfl,rfl,rfl,rfl,rfl⟩:=hT;exact ⟨_,_,_,_,rfl,rfl,rfl,rfl,h⟩
 | _=>simp only [Tn.mk.injEq] at hT;exact absurd hT.1 (by decide)
theorem Beg.alts {E:Nat→Way} {R:List (Int × Int)} {a:Int} {s:List Tn} {mn mx:Int} {lz:Bool} {ix:Int} {nm:ByteArray} {n n':Int} {B W:Way} (h:Beg E (.mk 5 R a s mn mx lz ix nm) n B n' W) :
  ∃ (n1:Int) (Ws:List Way),n'=n1 + 1∧W=.once (n1 + 1) (.inOrder Ws)∧BegA E s n B n1 Ws:=by
 generalize hT:Tn.mk 5 R a s mn mx lz ix nm=T at h
 cases h with
 | alt h=>simp only [Tn.mk.injEq] at hT;obtain ⟨_,rfl,rfl,rfl,rfl,rfl,rfl,rfl,rfl⟩:=hT;exact ⟨_,_,rfl,rfl,h⟩
 | _=>simp only [Tn.mk.injEq] at hT;exact absurd hT.1 (by decide)
theorem Beg.empties {E:Nat→Way} {R:List (Int × Int)} {a:Int} {s:List Tn} {mn mx:Int} {lz:Bool} {ix:Int} {nm:ByteArray} {n n':Int} {B W:Way} (h:Beg E (.mk 1 R a s mn mx lz ix nm) n B n' W):n'=n + 1∧W=.once (n + 1) B:=by
 generalize hT:Tn.mk 1 R a s mn mx lz ix nm=T at h
 cases h with
 | empty=>exact ⟨rfl,rfl⟩
 | _=>simp only [Tn.mk.injEq] at hT;exact absurd hT.1 (by decide)
theorem Beg.classes {E:Nat→Way} {R:List (Int × Int)} {a:Int} {s:List Tn} {mn mx:Int} {lz:Bool} {ix:Int} {nm:ByteArray} {n n':Int} {B W:Way} (h:Beg E (.mk 2 R a s mn mx lz ix nm) n B n' W):n'=n + 1∧W=.once (n + 1) (.runeOf R B):=by
 generalize hT:Tn.mk 2 R a s mn mx lz ix nm=T at h
 cases h with
 | cls=>simp only [Tn.mk.injEq] at hT;obtain ⟨_,rfl,rfl,rfl,rfl,rfl,rfl,rfl,rfl⟩:=hT;exact ⟨rfl,rfl⟩
 | _=>simp only [Tn.mk.injEq] at hT;exact absurd hT.1 (by decide)
theorem BegA.last {E:Nat→Way} {ts:List Tn} {t:Tn} {n n2:Int} {B:Way} {Ws:List Way} (h:BegA E (ts ++ [t]) n B n2 Ws):∃ n1 Ws1 W,Ws=Ws1 ++ [W]∧BegA E ts n B n1 Ws1∧Beg E t n1 B n2 W:=by
 generalize hT:ts ++ [t]=T at h
 cases h with
 | nil=>simp at hT
 | snoc h h2 =>
  obtain ⟨rfl,e⟩:=List.append_inj' hT rfl
  simp at e
  subst e
  exact ⟨_,_,_,rfl,h,h2⟩
theorem BegA.none {E:Nat→Way} {n n2:Int} {B:Way} {Ws:List Way} (h:BegA E [] n B n2 Ws):n2=n∧Ws=[]:=by
 generalize hT:([]:List Tn)=T at h
 cases h with
 | nil=>exact ⟨rfl,rfl⟩
 | snoc h h2=>simp at hT
theorem Beg.asserts {E:Nat→Way} {R:List (Int × Int)} {a:Int} {s:List Tn} {mn mx:Int} {lz:Bool} {ix:Int} {nm:ByteArray} {n n':Int} {B W:Way} (h:Beg E (.mk 3 R a s mn mx lz ix nm) n B n' W):n'=n + 1∧W=.once (n + 1) (.ifHolds a B):=by
 generalize hT:Tn.mk 3 R a s mn mx lz ix nm=T at h
 cases h with
 | ast=>simp only [Tn.mk.injEq] at hT;obtain ⟨_,rfl,rfl,rfl,rfl,rfl,rfl,rfl,rfl⟩:=hT;exact ⟨rfl,rfl⟩
 | _=>simp only [Tn.mk.injEq] at hT;exact absurd hT.1 (by decide)
theorem Beg.cats {E:Nat→Way} {R:List (Int × Int)} {a:Int} {s:List Tn} {mn mx:Int} {lz:Bool} {ix:Int} {nm:ByteArray} {n n':Int} {B W:Way} (h:Beg E (.mk 4 R a s mn mx lz ix nm) n B n' W):BegC E s n B n' W:=by
 generalize hT:Tn.mk 4 R a s mn mx lz ix nm=T at h
 cases h with
 | cat h=>simp only [Tn.mk.injEq] at hT;obtain ⟨_,rfl,rfl,rfl,rfl,rfl,rfl,rfl,rfl⟩:=hT;exact h
 | _=>simp only [Tn.mk.injEq] at hT;exact absurd hT.1 (by decide)
theorem BegC.none {E:Nat→Way} {n n2:Int} {B W:Way} (h:BegC E [] n B n2 W):n2=n∧W=B:=by cases h;exact ⟨rfl,rfl⟩
theorem BegC.first {E:Nat→Way} {t:Tn} {ts:List Tn} {n n2:Int} {B W:Way} (h:BegC E (t :: ts) n B n2 W):∃ n1 W1,BegC E ts n B n1 W1∧Beg E t n1 W1 n2 W:=by
 cases h with
 | cons h h2=>exact ⟨_,_,h,h2⟩
theorem BegT.none {E:Nat→Way} {t:Tn} {n n2:Int} {B W:Way} (h:BegT E t 0 n B n2 W):n2=n∧W=B:=by cases h;exact ⟨rfl,rfl⟩
theorem BegT.next {E:Nat→Way} {t:Tn} {c:Nat} {n n2:Int} {B W:Way} (h:BegT E t (c + 1) n B n2 W):∃ n1 W1,BegT E t c n B n1 W1∧Beg E t n1 W1 n2 W:=by
 cases h with
 | succ h h2=>exact ⟨_,_,h,h2⟩
theorem BegO.none {E:Nat→Way} {t:Tn} {lz:Bool} {n n2:Int} {B W:Way} (h:BegO E t lz B 0 n n2 W):n2=n∧W=B:=by cases h;exact ⟨rfl,rfl⟩
theorem BegO.next {E:Nat→Way} {t:Tn} {lz:Bool} {c:Nat} {n n3:Int} {B W:Way} (h:BegO E t lz B (c + 1) n n3 W):∃ n1 n2 W1 W2,n3=n2 + 1∧W=.once (n2 + 1) (.inOrder (if lz=true then [B,W2] else [W2,B]))∧BegO E t lz B c n n1 W1∧Beg E t n1 W1 n2 W2:=by
 cases h with
 | succ h h2=>exact ⟨_,_,_,_,rfl,rfl,h,h2⟩
theorem sim_two {G:Mat} {A B A' B':Way} (h1:SimY G A A') (h2:SimY G B B') (lz:Bool):SimY G (.inOrder (if lz=true then [B,A] else [A,B])) (.inOrder (if lz=true then [B',A'] else [A',B'])):=by
 refine .inOrder (by cases lz <;> rfl) fun i hi hi'=>?_
 cases lz
 ·match i,hi,hi' with
  | 0,_,_=>exact h1
  | 1,_,_=>exact h2
  | i + 2,hi,_=>exact absurd (show i + 2 < 2 from hi) (by omega)
 ·match i,hi,hi' with
  | 0,_,_=>exact h2
  | 1,_,_=>exact h1
  | i + 2,hi,_=>exact absurd (show i + 2 < 2 from hi) (by omega)
structure MInvU (U:Int→Prop) (n':Int) (G:Mat):Prop where
 le:∀ a a',G.C a a'→U a∧a'≤n'
 xle:∀ m n0,G.X m n0→U m
 one:∀ a a' m m',G.C a a'→G.C m m'→(a=m↔a'=m')
 noC:∀ m n0 a',G.X m n0→¬ G.C m a'
 oneX:∀ m n0 n1,G.X m n0→G.X m n1→n0=n1
structure GrowU (E E':Nat→Way) (U:Int→Prop) (n':Int) (G:Mat) (U1:Int→Prop) (n1':Int) (G':Mat):Prop where
 l1:∀ m,U m→U1 m
 l2:n'≤n1'
 dr:G'.drop=G.drop
 nr:G'.NR=G.NR
 pr:G'.PR=G.PR
 c:∀ a a',G.C a a'→G'.C a a'
 x:∀ m n0,G.X m n0→G'.X m n0
 bd:∀ m,U m→G'.Bd m=G.Bd m
 l:∀ b b',G.L b b'→G'.L b b'
 new:∀ b b',G'.L b b'→G.L b b'∨SimY G' (E b) (E' b')
section
variable {E E':Nat→Way} {U U1 U2:Int→Prop} {n' n1' n2':Int} {G G1 G2:Mat}
theorem GrowU.refl (U:Int→Prop) (n':Int) (G:Mat):GrowU E E' U n' G U n' G:=⟨fun _ h=>h,Int.le_refl _,rfl,rfl,rfl,fun _ _ h=>h,fun _ _ h=>h,fun _ _=>rfl,fun _ _ h=>h,fun _ _ h=>.inl h⟩
theorem SimY.upU (hI:MInvU U n' G) (hd:G1.drop=G.drop) (hc:∀ a a',G.C a a'→G1.C a a') (hx:∀ m n0,G.X m n0→G1.X m n0) (hb:∀ m,U m→G1.Bd m=G.Bd m) (hl:∀ b b',G.L b b'→G1.L b b') {W W':Way} (h:SimY G W W'):SimY G1 W W':=by
 induction h with
 | through=>exact .through
 | once hC _ ih=>exact .once (hc _ _ hC) ih
 | more hX hb2 hh _ ih=>exact .more (hx _ _ hX) ((hb _ (hI.xle _ _ hX)).trans hb2) (hh.up hc hx) ih
 | noted hk _ ih=>exact .noted (hd.trans hk) ih
 | dropped hk _ ih=>exact .dropped (hd.trans hk) ih
 | runeOf _ ih=>exact .runeOf ih
 | ifHolds _ ih=>exact .ifHolds ih
 | inOrder hl _ ih=>exact .inOrder hl ih
 | again h=>exact .again (hl _ _ h)
theorem GrowU.sim (h:GrowU E E' U n' G U1 n1' G1) (hI:MInvU U n' G) {W W':Way} (hS:SimY G W W'):SimY G1 W W':=hS.upU hI h.dr h.c h.x h.bd h.l
theorem GrowU.trans (h:GrowU E E' U n' G U1 n1' G1) (h':GrowU E E' U1 n1' G1 U2 n2' G2) (hI:MInvU U1 n1' G1):GrowU E E' U n' G U2 n2' G2:=
 ⟨fun m hm=>h'.l1 m (h.l1 m hm),Int.le_trans h.l2 h'.l2,h'.dr.trans h.dr,h'.nr.trans h.nr,h'.pr.trans h.pr,fun a a' x=>h'.c _ _ (h.c _ _ x),fun a a' x=>h'.x _ _ (h.x _ _ x),fun m hm=>(h'.bd m (h.l1 m hm)).trans (h.bd m hm),fun b b' x=>h'.l _ _ (h.l _ _ x),fun b b' x=>by
  rcases h'.new b b' x with x | x
  ·rcases h.new b b' x with x | x
   ·exact .inl x
   ·exact .inr (h'.sim hI x)
  ·exact .inr x⟩
def Mat.pairU (G:Mat) (a n':Int):Mat:={ G with C:=fun x x'=>G.C x x'∨(x=a∧x'=n' + 1) }
def Mat.extraU (G:Mat) (a h0:Int) (d:Way):Mat:={ G with X:=fun m n0=>G.X m n0∨(m=a∧n0=h0),Bd:=upd G.Bd a d }
abbrev Plus (U:Int→Prop) (a:Int):Int→Prop:=fun m=>U m∨m=a
theorem MInvU.pair (h:MInvU U n' G) {a:Int} (ha:¬ U a):MInvU (Plus U a) (n' + 1) (G.pairU a n'):=by
 refine ⟨fun x x' hc=>?_,fun m n0 hx=>.inl (h.xle m n0 hx),fun x x' m m' h1 h2=>?_,fun m n0 x' hx hc=>?_,h.oneX⟩
 ·rcases hc with hc | ⟨rfl,rfl⟩
  ·have:=h.le x x' hc;exact ⟨.inl this.1,by omega⟩
  ·exact ⟨.inr rfl,Int.le_refl _⟩
 ·rcases h1 with h1 | ⟨rfl,rfl⟩ <;> rcases h2 with h2 | ⟨rfl,rfl⟩
  ·exact h.one x x' m m' h1 h2
  ·have:=h.le x x' h1
   exact ⟨fun e=>absurd (e ▸ this.1) ha,fun e=>by omega⟩
  ·have:=h.le m m' h2
   exact ⟨fun e=>absurd (e ▸ this.1) ha,fun e=>by omega⟩
  ·simp
 ·rcases hc with hc | ⟨rfl,_⟩
  ·exact h.noC m n0 x' hx hc
  ·exact ha (h.xle _ _ hx)
theorem MInvU.extra (h:MInvU U n' G) {a:Int} (ha:¬ U a) (h0:Int) (d:Way):MInvU (Plus U a) n' (G.extraU a h0 d):=by
 refine ⟨fun x x' hc=>⟨.inl (h.le x x' hc).1,(h.le x x' hc).2⟩,fun m n0 hx=>?_,h.one,fun m n0 x' hx hc=>?_,fun m n0 n1 h1 h2=>?_⟩
 ·rcases hx with hx | ⟨rfl,_⟩
  ·exact .inl (h.xle m n0 hx)
  ·exact .inr rfl
 ·rcases hx with hx | ⟨rfl,_⟩
  ·exact h.noC m n0 x' hx hc
  ·exact ha (h.le _ _ hc).1
 ·rcases h1 with h1 | ⟨rfl,rfl⟩ <;> rcases h2 with h2 | ⟨e,rfl⟩
  ·exact h.oneX m n0 n1 h1 h2
  ·subst e;exact absurd (h.xle _ _ h1) ha
  ·exact absurd (h.xle _ _ h2) ha
  ·rfl
theorem MInvU.loops (h:MInvU U n' G) (b b':Nat):MInvU U n' (G.loops b b'):=⟨h.le,h.xle,h.one,h.noC,h.oneX⟩
theorem GrowU.pair (U:Int→Prop) (a n':Int) (G:Mat):GrowU E E' U n' G (Plus U a) (n' + 1) (G.pairU a n'):=⟨fun _ h=>.inl h,by omega,rfl,rfl,rfl,fun _ _ h=>.inl h,fun _ _ h=>h,fun _ _=>rfl,fun _ _ h=>h,fun _ _ h=>.inl h⟩
theorem GrowU.extra {U:Int→Prop} {a:Int} (ha:¬ U a) (n':Int) (G:Mat) (h0:Int) (d:Way):GrowU E E' U n' G (Plus U a) n' (G.extraU a h0 d):=
 ⟨fun _ h=>.inl h,by omega,rfl,rfl,rfl,fun _ _ h=>h,fun _ _ h=>.inl h,fun m hm=>by show upd G.Bd a d m=_;simp only [upd];exact if_neg (fun (e:m=a)=>ha (e ▸ hm)),fun _ _ h=>h,fun _ _ h=>.inl h⟩
end
inductive Lt where
 | mk (lb:Nat) (k:Int) (R:List (Int × Int)) (a:Int) (s:List Lt) (mn mx:Int) (lz:Bool) (ix:Int) (nm:ByteArray)
mutual
def Lt.tn:Lt→Tn
 | .mk lb k R a s mn mx lz ix nm=>.mk k R a (tnL s) mn mx lz ix nm
def tnL:List Lt→List Tn
 | []=>[]
 | t :: ts=>t.tn :: tnL ts
end
mutual
def Lt.lbs:Lt→List Nat
 | .mk lb k R a s mn mx lz ix nm=>lb :: lbsL s
def lbsL:List Lt→List Nat
 | []=>[]
 | t :: ts=>t.lbs ++ lbsL ts
end
theorem tnL_map (ts:List Lt):tnL ts=ts.map Lt.tn:=by
 induction ts with
 | nil=>rfl
 | cons t ts ih=>simp [tnL,ih]
theorem lbsL_app (ts us:List Lt):lbsL (ts ++ us)=lbsL ts ++ lbsL us:=by
 induction ts with
 | nil=>rfl
 | cons t ts ih=>simp [lbsL,ih]
abbrev kb (lb:Nat):Int:=2 * (lb:Int) + 2
abbrev kd (lb:Nat):Int:=2 * (lb:Int) + 3
abbrev Kd (lz:Bool) (lb:Nat) (B:Way):Way:=.once (kd lb) (.inOrder (if lz=true then [B,.again lb] else [.again lb,B]))
mutual
def Lt.fw:Lt→Way→Way
 | .mk lb k R a s mn mx lz ix nm,B=>.once (kb lb)
  (if k=2 then .runeOf R B else if k=3 then .ifHolds a B else if k=4 then fwC s B else if k=5 then .inOrder (fwA s B)
   else if k=7 then .noted (2 * ix.toNat) (fwH s (.noted (2 * ix.toNat + 1) B))
   else if k=6 then (if mx < 0 then (if mn=0 then Kd lz lb B else fwH s (Kd lz lb B)) else .inOrder (if lz=true then [B,fwH s B] else [fwH s B,B]))
   else B)
def fwC:List Lt→Way→Way
 | [],B=>B
 | t :: ts,B=>t.fw (fwC ts B)
def fwA:List Lt→Way→List Way
 | [],_=>[]
 | t :: ts,B=>t.fw B :: fwA ts B
def fwH:List Lt→Way→Way
 | [],B=>B
 | t :: _,B=>t.fw B
end
mutual
def Lt.eo (E:Nat→Way):Lt→Way→Prop
 | .mk lb k R a s mn mx lz ix nm,B =>
  (k=4→eoC E s B)∧(k=5→eoA E s B)∧(k=7→eoH E s (.noted (2 * ix.toNat + 1) B)) ∧
  (k=6→(mn=0∧mx=-1∨mn=1∧mx=-1)∧E lb=fwH s (Kd lz lb B)∧eoH E s (Kd lz lb B)∨(mn=0∧mx=1)∧eoH E s B)
def eoC (E:Nat→Way):List Lt→Way→Prop
 | [],_=>True
 | t :: ts,B=>t.eo E (fwC ts B)∧eoC E ts B
def eoA (E:Nat→Way):List Lt→Way→Prop
 | [],_=>True
 | t :: ts,B=>t.eo E B∧eoA E ts B
def eoH (E:Nat→Way):List Lt→Way→Prop
 | [],_=>True
 | t :: _,B=>t.eo E B
end
theorem fwA_snoc (t:Lt) (B:Way):∀ ts:List Lt,fwA (ts ++ [t]) B=fwA ts B ++ [t.fw B]:=by
 intro ts
 induction ts with
 | nil=>rfl
 | cons u ts ih=>simp [fwA,ih]
theorem eoA_snoc (E:Nat→Way) (t:Lt) (B:Way):∀ ts:List Lt,eoA E (ts ++ [t]) B↔eoA E ts B∧t.eo E B:=by
 intro ts
 induction ts with
 | nil=>simp [eoA]
 | cons u ts ih=>simp only [List.cons_append,eoA,ih,and_assoc]
def Fresh (U:Int→Prop) (L:List Nat):Prop:=∀ lb ∈ L,¬ U (kb lb)∧¬ U (kd lb)
def Only (U U1:Int→Prop) (L:List Nat):Prop:=∀ m,U1 m→U m∨∃ lb ∈ L,m=kb lb∨m=kd lb
theorem Fresh.next {U U1:Int→Prop} {L L':List Nat} (h:Fresh U L') (ho:Only U U1 L) (hd:∀ x ∈ L,∀ y ∈ L',x≠y):Fresh U1 L':=fun lb hlb=>by
 refine ⟨fun hu=>?_,fun hu=>?_⟩
 ·rcases ho _ hu with hu | ⟨x,hx,e⟩
  ·exact (h lb hlb).1 hu
  ·have:=hd x hx lb hlb
   simp only [kb,kd] at e
   omega
 ·rcases ho _ hu with hu | ⟨x,hx,e⟩
  ·exact (h lb hlb).2 hu
  ·have:=hd x hx lb hlb
   simp only [kb,kd] at e
   omega
theorem Only.trans {U U1 U2:Int→Prop} {L L' M:List Nat} (h:Only U U1 L) (h':Only U1 U2 L') (h1:∀ x ∈ L,x ∈ M) (h2:∀ x ∈ L',x ∈ M):Only U U2 M:=fun m hm=>by
 rcases h' m hm with hm | ⟨x,hx,e⟩
 ·rcases h m hm with hm | ⟨x,hx,e⟩
  ·exact .inl hm
  ·exact .inr ⟨x,h1 x hx,e⟩
 ·exact .inr ⟨x,h2 x hx,e⟩
theorem Only.refl (U:Int→Prop) (L:List Nat):Only U U L:=fun m h=>.inl h
theorem Only.plus {U U1:Int→Prop} {L:List Nat} (h:Only U U1 L) {lb:Nat} (hl:lb ∈ L) {a:Int} (ha:a=kb lb∨a=kd lb):Only U (Plus U1 a) L:=fun m hm=>by
 rcases hm with hm | rfl
 ·exact h m hm
 ·exact .inr ⟨lb,hl,ha⟩
def SU (E E':Nat→Way) (L:List Nat) (B W:Way) (n':Int) (B':Way) (n1':Int) (W':Way):Prop:=
 ∀ U G,G.drop=false→MInvU U n' G→Fresh U L→SimY G B B'→(∃ h,Hdp G B h)→∃ U1 G',MInvU U1 n1' G'∧GrowU E E' U n' G U1 n1' G'∧Only U U1 L∧SimY G' W W'∧∃ h,Hdp G' W h
section
variable {E E':Nat→Way} {n' n1' n2':Int}
theorem SU.self (L:List Nat) (n':Int) (B B':Way):SU E E' L B B n' B' n' B':=fun U G _ hI _ hS hH=>⟨U,G,hI,.refl _ _ _,.refl _ _,hS,hH⟩
theorem SU.seq {L L':List Nat} {B W V B' W' V':Way} (hd:∀ x ∈ L,∀ y ∈ L',x≠y) (h:SU E E' L B W n' B' n1' W') (h':SU E E' L' W V n1' W' n2' V'):SU E E' (L' ++ L) B V n' B' n2' V':=fun U G hdp hI hF hS hH=>by
 obtain ⟨U1,G1,i1,g1,o1,s1,d1⟩:=h U G hdp hI (fun lb hl=>hF lb (List.mem_append.2 (.inr hl))) hS hH
 obtain ⟨U2,G2,i2,g2,o2,s2,d2⟩:=h' U1 G1 (g1.dr.trans hdp) i1 (Fresh.next (fun lb hl=>hF lb (List.mem_append.2 (.inl hl))) o1 hd) s1 d1
 exact ⟨U2,G2,i2,g1.trans g2 i1,o1.trans o2 (fun x hx=>List.mem_append.2 (.inr hx)) (fun x hx=>List.mem_append.2 (.inl hx)),s2,d2⟩
theorem SU.pair {L:List Nat} {lb:Nat} (hl:lb ∉ L) {B W B' W':Way} (h:∀ U G,G.drop=false→MInvU U n' G→Fresh U L→SimY G B B'→(∃ h,Hdp G B h)→∃ U1 G',MInvU U1 n1' G'∧GrowU E E' U n' G U1 n1' G'∧Only U U1 L∧SimY G' W W'):SU E E' (lb :: L) B (.once (kb lb) W) n' B' (n1' + 1) (.once (n1' + 1) W'):=fun U G hdp hI hF hS hH=>by
 obtain ⟨U1,G1,i1,g1,o1,s1⟩:=h U G hdp hI (fun x hx=>hF x (List.mem_cons_of_mem _ hx)) hS hH
 have hfr:=Fresh.next (L':=[lb]) (fun x hx=>hF x (by simp at hx;simp [hx])) o1 (fun x hx y hy e=>by simp at hy;exact hl (by rw [← hy,← e];exact hx))
 have hn:=(hfr lb (by simp)).1
 have g2:=GrowU.pair (E:=E) (E':=E') U1 (kb lb) n1' G1
 exact ⟨_,_,i1.pair hn,g1.trans g2 i1,Only.plus (o1.trans (Only.refl U1 []) (fun x hx=>List.mem_cons_of_mem _ hx) (fun x hx=>by cases hx)) (List.mem_cons_self ..) (.inl rfl),.once (.inr ⟨rfl,rfl⟩) (g2.sim i1 s1),_,.once (.inr ⟨rfl,rfl⟩)⟩
theorem SU.extra {L:List Nat} {lb:Nat} {B W B' W':Way} (h:∀ U G,G.drop=false→MInvU U n' G→Fresh U (lb :: L)→SimY G B B'→(∃ h,Hdp G B h)→∃ U1 G',MInvU U1 n1' G'∧GrowU E E' U n' G U1 n1' G'∧Only U U1 (lb :: L)∧¬ U1 (kb lb)∧SimY G' W W'∧∃ h,Hdp G' W h):SU E E' (lb :: L) B (.once (kb lb) W) n' B' n1' W':=fun U G hdp hI hF hS hH=>by
 obtain ⟨U1,G1,i1,g1,o1,hn,s1,h0,d1⟩:=h U G hdp hI hF hS hH
 have g2:=GrowU.extra (E:=E) (E':=E') hn n1' G1 h0 W
 have d2:Hdp (G1.extraU (kb lb) h0 W) W h0:=d1.up g2.c g2.x
 exact ⟨_,_,i1.extra hn h0 W,g1.trans g2 i1,o1.plus (List.mem_cons_self ..) (.inl rfl),.more (.inr ⟨rfl,rfl⟩) (by show upd G1.Bd (kb lb) W (kb lb)=W;simp [upd]) d2 (g2.sim i1 s1),h0,.more (.inr ⟨rfl,rfl⟩) d2⟩
theorem SU.round {L:List Nat} {lb b':Nat} {B B':Way} {lz:Bool} (hl:lb ∉ L) (h:SU E E' L (Kd lz lb B) (E lb) (n' + 1) (Dcd lz n' b' B') n2' (E' b')) (U:Int→Prop) (G:Mat) (hdp:G.drop=false) (hI:MInvU U n' G) (hF:Fresh U (lb :: L)) (hS:SimY G B B') :
  ∃ U1 G',MInvU U1 n2' G'∧GrowU E E' U n' G U1 n2' G'∧Only U U1 (lb :: L)∧¬ U1 (kb lb)∧SimY G' (E lb) (E' b')∧SimY G' (Kd lz lb B) (Dcd lz n' b' B')∧(∃ h,Hdp G' (E lb) h)∧∃ h,Hdp G' (Kd lz lb B) h:=by
 have hnd:=(hF lb (List.mem_cons_self ..)).2
 obtain ⟨G0,hG0⟩:∃ G0,G0=(G.loops lb b').pairU (kd lb) n':=⟨_,rfl⟩
 have hI0:MInvU (Plus U (kd lb)) (n' + 1) G0:=by rw [hG0];exact (hI.loops lb b').pair hnd
 have hC:G0.C (kd lb) (n' + 1):=by rw [hG0];exact .inr ⟨rfl,rfl⟩
 have hL:G0.L lb b':=by rw [hG0];exact .inr ⟨rfl,rfl⟩
 have hB:SimY G0 B B':=by rw [hG0];exact hS.upU (G1:=(G.loops lb b').pairU (kd lb) n') hI rfl (fun _ _ h=>Or.inl h) (fun _ _ h=>h) (fun _ _=>rfl) (fun _ _ h=>Or.inl h)
 have hD:SimY G0 (Kd lz lb B) (Dcd lz n' b' B'):=by
  refine .once hC (.inOrder (by cases lz <;> rfl) fun i hi hi'=>?_)
  cases lz
  ·match i,hi,hi' with
   | 0,_,_=>exact .again hL
   | 1,_,_=>exact hB
   | i + 2,hi,_=>exact absurd (show i + 2 < 2 from hi) (by omega)
  ·match i,hi,hi' with
   | 0,_,_=>exact hB
   | 1,_,_=>exact .again hL
   | i + 2,hi,_=>exact absurd (show i + 2 < 2 from hi) (by omega)
 have hF0:Fresh (Plus U (kd lb)) L:=fun x hx=>by
  have hne:x≠lb:=fun e=>hl (e ▸ hx)
  have:=hF x (List.mem_cons_of_mem _ hx)
  refine ⟨fun h=>?_,fun h=>?_⟩
  ·rcases h with h | h
   ·exact this.1 h
   ·simp only [kb,kd] at h;omega
  ·rcases h with h | h
   ·exact this.2 h
   ·simp only [kd] at h;omega
 obtain ⟨U1,G1,i1,g1,o1,s1,d1⟩:=h (Plus U (kd lb)) G0 (by rw [hG0];exact hdp) hI0 hF0 hD ⟨_,.once hC⟩
 refine ⟨U1,G1,i1,⟨fun m hm=>g1.l1 m (.inl hm),by have:=g1.l2;omega,by rw [g1.dr,hG0];rfl,by rw [g1.nr,hG0];rfl,by rw [g1.pr,hG0];rfl,fun a a' x=>g1.c _ _ (by rw [hG0];exact .inl x),fun m n0 x=>g1.x _ _ (by rw [hG0];exact x),fun m hm=>(g1.bd m (.inl hm)).trans (by rw [hG0];rfl),fun x x' hx=>g1.l _ _ (by rw [hG0];exact .inl hx),fun x x' hx=>?_⟩,fun m hm=>?_,fun hm=>?_,s1,g1.sim hI0 hD,d1,_,.once (g1.c _ _ hC)⟩
 ·rcases g1.new x x' hx with hx | hx
  ·rw [hG0] at hx
   rcases hx with hx | ⟨rfl,rfl⟩
   ·exact .inl hx
   ·exact .inr s1
  ·exact .inr hx
 ·rcases o1 m hm with (hm | rfl) | ⟨x,hx,e⟩
  ·exact .inl hm
  ·exact .inr ⟨lb,List.mem_cons_self ..,.inr rfl⟩
  ·exact .inr ⟨x,List.mem_cons_of_mem _ hx,e⟩
 ·rcases o1 _ hm with (hm | hm) | ⟨x,hx,e⟩
  ·exact (hF lb (List.mem_cons_self ..)).1 hm
  ·simp only [kb,kd] at hm;omega
  ·have hne:x≠lb:=fun e=>hl (e ▸ hx)
   simp only [kb,kd] at e;omega
end
theorem tnL_one {s:List Lt} {t:Tn} (h:tnL s=[t]):∃ T,s=[T]∧T.tn=t:=by
 match s,h with
 | [],h=>simp [tnL] at h
 | [T],h=>simp [tnL] at h;exact ⟨T,rfl,h⟩
 | _ :: _ :: _,h=>simp [tnL] at h
theorem tnL_snoc {s:List Lt} {ts:List Tn} {t:Tn} (h:tnL s=ts ++ [t]):∃ s1 T,s=s1 ++ [T]∧tnL s1=ts∧T.tn=t:=by
 rw [tnL_map] at h
 obtain ⟨s1,s2,rfl,h1,h2⟩:=List.map_eq_append_iff.1 h
 obtain ⟨T,rfl,h3⟩:=tnL_one (by rw [tnL_map];exact h2)
 exact ⟨s1,T,rfl,by rw [tnL_map];exact h1,h3⟩
theorem full_sim {E E':Nat→Way} {t:Tn} {n' n1':Int} {B' W':Way} (h:Beg E' t n' B' n1' W'):∀ T:Lt,T.tn=t→T.lbs.Nodup→∀ B,T.eo E B→SU E E' T.lbs B (T.fw B) n' B' n1' W':=by
 refine Beg.rec (motive_1:=fun t n' B' n1' W' _=>∀ T:Lt,T.tn=t→T.lbs.Nodup→∀ B,T.eo E B→SU E E' T.lbs B (T.fw B) n' B' n1' W')
  (motive_2:=fun ts n' B' n1' W' _=>∀ Ts:List Lt,tnL Ts=ts→(lbsL Ts).Nodup→∀ B,eoC E Ts B→SU E E' (lbsL Ts) B (fwC Ts B) n' B' n1' W')
  (motive_3:=fun ts n' B' n1' Ws' _=>∀ Ts:List Lt,tnL Ts=ts→(lbsL Ts).Nodup→∀ B,eoA E Ts B→∀ U G,G.drop=false→MInvU U n' G→Fresh U (lbsL Ts)→SimY G B B'→(∃ h,Hdp G B h)→∃ U1 G',MInvU U1 n1' G'∧GrowU E E' U n' G U1 n1' G'∧Only U U1 (lbsL Ts)∧SimY G' (.inOrder (fwA Ts B)) (.inOrder Ws'))
  (motive_4:=fun t c n' B' n1' W' _=>c=0→n1'=n'∧W'=B')
  (motive_5:=fun t lz B' c n' n1' W' _=>(c=0→n1'=n'∧W'=B')∧(c=1→∀ T:Lt,T.tn=t→T.lbs.Nodup→∀ B,T.eo E B→∃ n2 W2,n1'=n2 + 1∧W'=.once (n2 + 1) (.inOrder (if lz=true then [B',W2] else [W2,B']))∧SU E E' T.lbs B (T.fw B) n' B' n2 W2))
  ?_ ?_ ?_ ?_ ?_ ?_ ?_ ?_ ?_ ?_ ?_ ?_ ?_ ?_ ?_ ?_ ?_ h
 ·intro R a s mn mx lz ix nm n' B' T hT hN B hE
  cases T with
  | mk lb k R a s mn mx lz ix nm =>
  simp only [Lt.tn,Tn.mk.injEq] at hT
  obtain ⟨rfl,rfl,rfl,_,rfl,rfl,rfl,rfl,rfl⟩:=hT
  simp only [Lt.lbs,List.nodup_cons] at hN ⊢
  simp [Lt.fw]
  exact SU.pair hN.1 fun U G _ hI _ hS _=>⟨U,G,hI,.refl _ _ _,.refl _ _,hS⟩
 ·intro R a s mn mx lz ix nm n' B' T hT hN B hE
  cases T with
  | mk lb k R a s mn mx lz ix nm =>
  simp only [Lt.tn,Tn.mk.injEq] at hT
  obtain ⟨rfl,rfl,rfl,_,rfl,rfl,rfl,rfl,rfl⟩:=hT
  simp only [Lt.lbs,List.nodup_cons] at hN ⊢
  simp [Lt.fw]
  exact SU.pair hN.1 fun U G _ hI _ hS _=>⟨U,G,hI,.refl _ _ _,.refl _ _,.runeOf hS⟩
 ·intro R a s mn mx lz ix nm n' B' T hT hN B hE
  cases T with
  | mk lb k R a s mn mx lz ix nm =>
  simp only [Lt.tn,Tn.mk.injEq] at hT
  obtain ⟨rfl,rfl,rfl,_,rfl,rfl,rfl,rfl,rfl⟩:=hT
  simp only [Lt.lbs,List.nodup_cons] at hN ⊢
  simp [Lt.fw]
  exact SU.pair hN.1 fun U G _ hI _ hS _=>⟨U,G,hI,.refl _ _ _,.refl _ _,.ifHolds hS⟩
 ·intro R a s mn mx lz ix nm n' n1' B' W' _ ih T hT hN B hE
  cases T with
  | mk lb k R a s mn mx lz ix nm =>
  simp only [Lt.tn,Tn.mk.injEq] at hT
  obtain ⟨rfl,rfl,rfl,hs,rfl,rfl,rfl,rfl,rfl⟩:=hT
  simp only [Lt.lbs,List.nodup_cons] at hN ⊢
  simp only [Lt.eo] at hE
  have hE4:=hE.1 trivial
  simp [Lt.fw]
  refine SU.extra fun U G hd hI hF hS hH=>?_
  obtain ⟨U1,G1,i1,g1,o1,s1,d1⟩:=ih s hs hN.2 B hE4 U G hd hI (fun x hx=>hF x (List.mem_cons_of_mem _ hx)) hS hH
  have hfr:=Fresh.next (L':=[lb]) (fun x hx=>hF x (by simp at hx;simp [hx])) o1 (fun x hx y hy e=>by simp at hy;exact hN.1 (by rw [← hy,← e];exact hx))
  exact ⟨U1,G1,i1,g1,o1.trans (Only.refl U1 []) (fun x hx=>List.mem_cons_of_mem _ hx) (fun x hx=>by cases hx),(hfr lb (by simp)).1,s1,d1⟩
 ·intro R a s mn mx lz ix nm n' n1' B' Ws' _ ih T hT hN B hE
  cases T with
  | mk lb k R a s mn mx lz ix nm =>
  simp only [Lt.tn,Tn.mk.injEq] at hT
  obtain ⟨rfl,rfl,rfl,hs,rfl,rfl,rfl,rfl,rfl⟩:=hT
  simp only [Lt.lbs,List.nodup_cons] at hN ⊢
  simp only [Lt.eo] at hE
  have hE5:=hE.2.1 trivial
  simp [Lt.fw]
  exact SU.pair hN.1 fun U G hd hI hF hS hH=>ih s hs hN.2 B hE5 U G hd hI hF hS hH
 ·intro R a t mn mx lz i nm n' n1' B' W' _ ih T hT hN B hE
  cases T with
  | mk lb k R a s mn mx lz ix nm =>
  simp only [Lt.tn,Tn.mk.injEq] at hT
  obtain ⟨rfl,rfl,rfl,hs,rfl,rfl,rfl,rfl,rfl⟩:=hT
  obtain ⟨T0,rfl,hT0⟩:=tnL_one hs
  simp only [Lt.lbs,lbsL,List.append_nil,List.nodup_cons] at hN ⊢
  simp only [Lt.eo,eoH] at hE
  have hE7:=hE.2.2.1 trivial
  simp only [Int.toNat_natCast] at hE7
  simp [Lt.fw,fwH]
  refine SU.pair hN.1 fun U G hd hI hF hS ⟨h0,hH⟩=>?_
  obtain ⟨U1,G1,i1,g1,o1,s1,_⟩:=ih T0 hT0 hN.2 _ hE7 U G hd hI hF (.noted hd hS) ⟨h0,.noted hH⟩
  exact ⟨U1,G1,i1,g1,o1,.noted (g1.dr.trans hd) s1⟩
 ·intro R a t lz ix nm n' n2' b' B' _ ih T hT hN B hE
  cases T with
  | mk lb k R a s mn mx lz ix nm =>
  simp only [Lt.tn,Tn.mk.injEq] at hT
  obtain ⟨rfl,rfl,rfl,hs,rfl,rfl,rfl,rfl,rfl⟩:=hT
  obtain ⟨T0,rfl,hT0⟩:=tnL_one hs
  simp only [Lt.lbs,lbsL,List.append_nil,List.nodup_cons] at hN ⊢
  simp only [Lt.eo,eoH,fwH] at hE
  rcases hE.2.2.2 trivial with ⟨_,hE1,hE2⟩ | ⟨h1,_⟩
  ·simp [Lt.fw]
   refine SU.extra fun U G hd hI hF hS hH=>?_
   have hr:=ih T0 hT0 hN.2 _ hE2
   rw [← hE1] at hr
   obtain ⟨U1,G1,i1,g1,o1,hn,_,s2,_,d2⟩:=SU.round hN.1 hr U G hd hI hF hS
   exact ⟨U1,G1,i1,g1,o1,hn,s2,d2⟩
  ·omega
 ·intro R a t c lz ix nm n' n2' n3' b' B' W3' _ _ ih ihT T hT hN B hE
  cases T with
  | mk lb k R a s mn mx lz ix nm =>
  simp only [Lt.tn,Tn.mk.injEq] at hT
  obtain ⟨rfl,rfl,rfl,hs,rfl,rfl,rfl,rfl,rfl⟩:=hT
  obtain ⟨T0,rfl,hT0⟩:=tnL_one hs
  simp only [Lt.lbs,lbsL,List.append_nil,List.nodup_cons] at hN ⊢
  simp only [Lt.eo,eoH,fwH] at hE
  rcases hE.2.2.2 trivial with ⟨h1,hE1,hE2⟩ | ⟨h1,_⟩
  ·have hc:c=0:=by omega
   obtain ⟨rfl,rfl⟩:=ihT hc
   subst hc
   simp [Lt.fw,fwH]
   refine SU.extra fun U G hd hI hF hS hH=>?_
   have hr:=ih T0 hT0 hN.2 _ hE2
   rw [← hE1] at hr
   obtain ⟨U1,G1,i1,g1,o1,hn,s1,_,d1,_⟩:=SU.round hN.1 hr U G hd hI hF hS
   rw [← hE1]
   exact ⟨U1,G1,i1,g1,o1,hn,s1,d1⟩
  ·omega
 ·intro R a t c m lz ix nm n' n1' n2' B' W1' W2' hO0 hT0 ihO ihT T hT hN B hE
  cases T with
  | mk lb k R a s mn mx lz ix nm =>
  simp only [Lt.tn,Tn.mk.injEq] at hT
  obtain ⟨rfl,rfl,rfl,hs,rfl,rfl,rfl,rfl,rfl⟩:=hT
  obtain ⟨T0,rfl,hT1⟩:=tnL_one hs
  simp only [Lt.lbs,lbsL,List.append_nil,List.nodup_cons] at hN ⊢
  simp only [Lt.eo,eoH,fwH] at hE
  rcases hE.2.2.2 trivial with ⟨h1,_⟩ | ⟨h1,hE2⟩
  ·omega
  ·have hc:c=0:=by omega
   have hm:m=1:=by omega
   obtain ⟨rfl,rfl⟩:=ihT hc
   obtain ⟨n2,W2,rfl,rfl,hSU⟩:=ihO.2 hm T0 hT1 hN.2 B hE2
   subst hc hm
   simp [Lt.fw,fwH]
   refine SU.pair hN.1 fun U G hd hI hF hS hH=>?_
   obtain ⟨U1,G1,i1,g1,o1,s1,_⟩:=hSU U G hd hI hF hS hH
   exact ⟨U1,G1,i1,g1,o1,sim_two s1 (g1.sim hI hS) lz⟩
 ·intro n' B' Ts hT hN B hE
  match Ts,hT with
  | [],_=>exact .self _ _ _ _
  | _ :: _,h=>simp [tnL] at h
 ·intro t ts n' n1' n2' B' W1' W2' _ _ h h2 Ts hT hN B hE
  match Ts,hT with
  | [],h=>simp [tnL] at h
  | T :: Ts,hT =>
   simp only [tnL,List.cons.injEq] at hT
   simp only [lbsL,List.nodup_append] at hN ⊢
   simp only [eoC] at hE
   simp only [fwC]
   exact SU.seq (fun x hx y hy e=>hN.2.2 y hy x hx e.symm) (h Ts hT.2 hN.2.1 B hE.2) (h2 T hT.1 hN.1 _ hE.1)
 ·intro n' B' Ts hT hN B hE U G hd hI hF hS hH
  match Ts,hT with
  | [],_=>exact ⟨U,G,hI,.refl _ _ _,.refl _ _,.inOrder rfl fun i hi=>by simp [fwA] at hi⟩
  | _ :: _,h=>simp [tnL] at h
 ·intro t ts n' n1' n2' B' W2' Ws' _ _ hl hl2 Ts hT hN B hE U G hd hI hF hS hH
  obtain ⟨Ts1,T,rfl,hT1,hT2⟩:=tnL_snoc hT
  rw [lbsL_app] at hN hF
  simp only [lbsL,List.append_nil,List.nodup_append] at hN hF
  rw [eoA_snoc] at hE
  obtain ⟨U1,G1,i1,g1,o1,s1⟩:=hl Ts1 hT1 hN.1 B hE.1 U G hd hI (fun x hx=>hF x (List.mem_append.2 (.inl hx))) hS hH
  obtain ⟨h0,hH⟩:=hH
  obtain ⟨U2,G2,i2,g2,o2,s2,_⟩:=hl2 T hT2 hN.2.1 B hE.2 U1 G1 (g1.dr.trans hd) i1 (Fresh.next (fun x hx=>hF x (List.mem_append.2 (.inr hx))) o1 (fun x hx y hy=>hN.2.2 x hx y hy)) (g1.sim hI hS) ⟨h0,hH.up g1.c g1.x⟩
  have s3:=g2.sim i1 s1
  refine ⟨U2,G2,i2,g1.trans g2 i1,o1.trans o2 (fun x hx=>by rw [lbsL_app];exact List.mem_append.2 (.inl hx)) (fun x hx=>by rw [lbsL_app];simp only [lbsL,List.append_nil];exact List.mem_append.2 (.inr hx)),?_⟩
  rw [fwA_snoc]
  cases s3 with
  | inOrder el s3 =>
   refine .inOrder (by simp [el]) fun i hi hi'=>?_
   by_cases hi2:i < (fwA Ts1 B).length
   ·rw [List.getElem_append_left hi2,List.getElem_append_left (by omega)]
    exact s3 i hi2 (by omega)
   ·simp only [List.length_append,List.length_cons,List.length_nil] at hi hi'
    obtain rfl:i=(fwA Ts1 B).length:=by omega
    rw [List.getElem_concat_length rfl,List.getElem_concat_length el]
    exact s2
 ·intro t n' W' _
  exact ⟨rfl,rfl⟩
 ·intro t c n' n1' n2' W' W1' W2' _ _ h h2 hc
  omega
 ·intro t lz B' n'
  exact ⟨fun _=>⟨rfl,rfl⟩,fun h=>by omega⟩
 ·intro t lz B' c n' n1' n2' W1' W2' _ _ h h2
  refine ⟨fun hc=>by omega,fun hc T hT hN B hE=>?_⟩
  obtain ⟨rfl,rfl⟩:=h.1 (by omega)
  exact ⟨_,_,rfl,rfl,h2 T hT hN B hE⟩
section
variable {tx:List Int} {E:Nat→Way} {Bd:Int→Way} {A:Nat→Prop}
def Blk (tx:List Int) (E:Nat→Way) (Bd:Int→Way) (D was:List (Int × Int)):Prop:=∀ (n:Int) (q:Nat),(n,(q:Int)) ∈ D→n≠1→(n,(q:Int)) ∉ was→∀ h,Hd tx E (Bd n) q h→h ∈ D
def EndsD (s:Sg):Prop:=∀ q:Nat,(1,(q:Int)) ∈ s.done↔(q:Int) ∈ s.parses.map Prod.fst
theorem Did.ends {W:Way} {p:Nat} {s s':Sg} (h:Did tx E Bd W p s s') (he:EndsD s):EndsD s':=fun q=>by
 obtain ⟨l,e,_,hp,_⟩:=h.par
 rw [e,List.map_append,List.mem_append,hp q,← he q]
 constructor
 ·intro h1
  by_cases c:(1,(q:Int)) ∈ s.done
  ·exact .inl c
  ·exact .inr ⟨h1,c⟩
 ·rintro (h1 | h1)
  ·exact h.more _ h1
  ·exact h1.1
theorem Did.blk {W:Way} {p:Nat} {s s':Sg} (h:Did tx E Bd W p s s') {was:List (Int × Int)} (hb:Blk tx E Bd s.done was):Blk tx E Bd s'.done was:=fun n q hn h1 hw x hx=>by
 by_cases c:(n,(q:Int)) ∈ s.done
 ·exact h.more _ (hb n q c h1 hw x hx)
 ·exact h.new n q hn c h1 x hx
end
end Go.Proofs.YtacaanhnlfpbhaaGreat
