/- HELPERS: texts of ours put together. -/
import Derived.Test.YtacaanhnlfpbhaaGreatK09
namespace Go.Proofs.YtacaanhnlfpbhaaGreat
open Go.RowKit
set_option linter.unusedVariables false
set_option linter.unusedSimpArgs false
theorem Beg.asserts {E:Nat→Way} {R:List (Int × Int)} {a:Int} {s:List Tn} {mn mx:Int} {lz:Bool} {ix:Int} {nm:ByteArray} {n n':Int} {B W:Way} (h:Beg E (.mk 3 R a s mn mx lz ix nm) n B n' W):n'=n + 1∧W=.once (n + 1) (.ifHolds a B):=by
 generalize hT:Tn.mk 3 R a s mn mx lz ix nm=T at h
 cases h with
 | ast=>simp only [Tn.mk.injEq] at hT;obtain ⟨_,rfl,rfl,rfl,rfl,rfl,rfl,rfl,rfl⟩:=hT;exact ⟨rfl,rfl⟩
 | _=>simp only [Tn.mk.injEq] at hT;exact absurd hT.1 (by decide)
theorem Beg.cats {E:Nat→Way} {R:List (Int × Int)} {a:Int} {s:List Tn} {mn mx:Int} {lz:Bool} {ix:Int} {nm:ByteArray} {n n':Int} {B W:Way} (h:Beg E (.mk 4 R a s mn mx lz ix nm) n B n' W):BegC E s n B n' W:=by
 generalize hT:Tn.mk 4 R a s mn mx lz ix nm=T at h
 cases h with
 | cat h=>simp only [Tn.mk.injEq] at hT;obtain ⟨_,rfl,rfl,rfl,rfl,rfl,rfl,rfl,rfl⟩:=hT;exact h
 | _=>simp only [Tn.mk.injEq] at hT;exact absurd hT.1 (by decide)
theorem BegC.none {E:Nat→Way} {n n2:Int} {B W:Way} (h:BegC E [] n B n2 W):n2=n∧W=B:=by cases h;exact ⟨rfl,rfl⟩
theorem BegC.first {E:Nat→Way} {t:Tn} {ts:List Tn} {n n2:Int} {B W:Way} (h:BegC E (t :: ts) n B n2 W):∃ n1 W1,BegC E ts n B n1 W1∧Beg E t n1 W1 n2 W:=by
 cases h with
 | cons h h2=>exact ⟨_,_,h,h2⟩
theorem BegT.none {E:Nat→Way} {t:Tn} {n n2:Int} {B W:Way} (h:BegT E t 0 n B n2 W):n2=n∧W=B:=by cases h;exact ⟨rfl,rfl⟩
theorem BegO.none {E:Nat→Way} {t:Tn} {lz:Bool} {n n2:Int} {B W:Way} (h:BegO E t lz B 0 n n2 W):n2=n∧W=B:=by cases h;exact ⟨rfl,rfl⟩
theorem BegO.next {E:Nat→Way} {t:Tn} {lz:Bool} {c:Nat} {n n3:Int} {B W:Way} (h:BegO E t lz B (c + 1) n n3 W):∃ n1 n2 W1 W2,n3=n2 + 1∧W=.once (n2 + 1) (.inOrder (if lz=true then [B,W2] else [W2,B]))∧BegO E t lz B c n n1 W1∧Beg E t n1 W1 n2 W2:=by
 cases h with
 | succ h h2=>exact ⟨_,_,_,_,rfl,rfl,h,h2⟩
theorem sim_two {G:Mat} {A B A' B':Way} (h1:SimY G A A') (h2:SimY G B B') (lz:Bool):SimY G (.inOrder (if lz=true then [B,A] else [A,B])) (.inOrder (if lz=true then [B',A'] else [A',B'])):=by
 refine .inOrder (by cases lz <;> rfl) fun i hi hi'=>?_
 cases lz
 ·match i,hi,hi' with
  | 0,_,_=>exact h1
  | 1,_,_=>exact h2
  | i + 2,hi,_=>exact absurd (show i + 2 < 2 from hi) (by omega)
 ·match i,hi,hi' with
  | 0,_,_=>exact h2
  | 1,_,_=>exact h1
  | i + 2,hi,_=>exact absurd (show i + 2 < 2 from hi) (by omega)
structure MInvU (U:Int→Prop) (n':Int) (G:Mat):Prop where
 le:∀ a a',G.C a a'→U a∧a'≤n'
 xle:∀ m n0,G.X m n0→U m
 one:∀ a a' m m',G.C a a'→G.C m m'→(a=m↔a'=m')
 noC:∀ m n0 a',G.X m n0→¬ G.C m a'
 oneX:∀ m n0 n1,G.X m n0→G.X m n1→n0=n1
structure GrowU (E E':Nat→Way) (U:Int→Prop) (n':Int) (G:Mat) (U1:Int→Prop) (n1':Int) (G':Mat):Prop where
 l1:∀ m,U m→U1 m
 l2:n'≤n1'
 dr:G'.drop=G.drop
 nr:G'.NR=G.NR
 pr:G'.PR=G.PR
 c:∀ a a',G.C a a'→G'.C a a'
 x:∀ m n0,G.X m n0→G'.X m n0
 bd:∀ m,U m→G'.Bd m=G.Bd m
 l:∀ b b',G.L b b'→G'.L b b'
 new:∀ b b',G'.L b b'→G.L b b'∨SimY G' (E b) (E' b')
section
variable {E E':Nat→Way} {U U1 U2:Int→Prop} {n' n1' n2':Int} {G G1 G2:Mat}
theorem GrowU.refl (U:Int→Prop) (n':Int) (G:Mat):GrowU E E' U n' G U n' G:=⟨fun _ h=>h,Int.le_refl _,rfl,rfl,rfl,fun _ _ h=>h,fun _ _ h=>h,fun _ _=>rfl,fun _ _ h=>h,fun _ _ h=>.inl h⟩
theorem SimY.upU (hI:MInvU U n' G) (hd:G1.drop=G.drop) (hc:∀ a a',G.C a a'→G1.C a a') (hx:∀ m n0,G.X m n0→G1.X m n0) (hb:∀ m,U m→G1.Bd m=G.Bd m) (hl:∀ b b',G.L b b'→G1.L b b') {W W':Way} (h:SimY G W W'):SimY G1 W W':=by
 induction h with
 | through=>exact .through
 | once hC _ ih=>exact .once (hc _ _ hC) ih
 | more hX hb2 hh _ ih=>exact .more (hx _ _ hX) ((hb _ (hI.xle _ _ hX)).trans hb2) (hh.up hc hx) ih
 | noted hk _ ih=>exact .noted (hd.trans hk) ih
 | dropped hk _ ih=>exact .dropped (hd.trans hk) ih
 | runeOf _ ih=>exact .runeOf ih
 | ifHolds _ ih=>exact .ifHolds ih
 | inOrder hl _ ih=>exact .inOrder hl ih
 | again h=>exact .again (hl _ _ h)
theorem GrowU.sim (h:GrowU E E' U n' G U1 n1' G1) (hI:MInvU U n' G) {W W':Way} (hS:SimY G W W'):SimY G1 W W':=hS.upU hI h.dr h.c h.x h.bd h.l
theorem GrowU.trans (h:GrowU E E' U n' G U1 n1' G1) (h':GrowU E E' U1 n1' G1 U2 n2' G2) (hI:MInvU U1 n1' G1):GrowU E E' U n' G U2 n2' G2:=
 ⟨fun m hm=>h'.l1 m (h.l1 m hm),Int.le_trans h.l2 h'.l2,h'.dr.trans h.dr,h'.nr.trans h.nr,h'.pr.trans h.pr,fun a a' x=>h'.c _ _ (h.c _ _ x),fun a a' x=>h'.x _ _ (h.x _ _ x),fun m hm=>(h'.bd m (h.l1 m hm)).trans (h.bd m hm),fun b b' x=>h'.l _ _ (h.l _ _ x),fun b b' x=>by
  rcases h'.new b b' x with x | x
  ·rcases h.new b b' x with x | x
   ·exact .inl x
   ·exact .inr (h'.sim hI x)
  ·exact .inr x⟩
def Mat.pairU (G:Mat) (a n':Int):Mat:={ G with C:=fun x x'=>G.C x x'∨(x=a∧x'=n' + 1) }
def Mat.extraU (G:Mat) (a h0:Int) (d:Way):Mat:={ G with X:=fun m n0=>G.X m n0∨(m=a∧n0=h0),Bd:=upd G.Bd a d }
abbrev Plus (U:Int→Prop) (a:Int):Int→Prop:=fun m=>U m∨m=a
theorem MInvU.pair (h:MInvU U n' G) {a:Int} (ha:¬ U a):MInvU (Plus U a) (n' + 1) (G.pairU a n'):=by
 refine ⟨fun x x' hc=>?_,fun m n0 hx=>.inl (h.xle m n0 hx),fun x x' m m' h1 h2=>?_,fun m n0 x' hx hc=>?_,h.oneX⟩
 ·rcases hc with hc | ⟨rfl,rfl⟩
  ·have:=h.le x x' hc;exact ⟨.inl this.1,by omega⟩
  ·exact ⟨.inr rfl,Int.le_refl _⟩
 ·rcases h1 with h1 | ⟨rfl,rfl⟩ <;> rcases h2 with h2 | ⟨rfl,rfl⟩
  ·exact h.one x x' m m' h1 h2
  ·have:=h.le x x' h1
   exact ⟨fun e=>absurd (e ▸ this.1) ha,fun e=>by omega⟩
  ·have:=h.le m m' h2
   exact ⟨fun e=>absurd (e ▸ this.1) ha,fun e=>by omega⟩
  ·simp
 ·rcases hc with hc | ⟨rfl,_⟩
  ·exact h.noC m n0 x' hx hc
  ·exact ha (h.xle _ _ hx)
theorem MInvU.extra (h:MInvU U n' G) {a:Int} (ha:¬ U a) (h0:Int) (d:Way):MInvU (Plus U a) n' (G.extraU a h0 d):=by
 refine ⟨fun x x' hc=>⟨.inl (h.le x x' hc).1,(h.le x x' hc).2⟩,fun m n0 hx=>?_,h.one,fun m n0 x' hx hc=>?_,fun m n0 n1 h1 h2=>?_⟩
 ·rcases hx with hx | ⟨rfl,_⟩
  ·exact .inl (h.xle m n0 hx)
  ·exact .inr rfl
 ·rcases hx with hx | ⟨rfl,_⟩
  ·exact h.noC m n0 x' hx hc
  ·exact ha (h.le _ _ hc).1
 ·rcases h1 with h1 | ⟨rfl,rfl⟩ <;> rcases h2 with h2 | ⟨e,rfl⟩
  ·exact h.oneX m n0 n1 h1 h2
  ·subst e;exact absurd (h.xle _ _ h1) ha
  ·exact absurd (h.xle _ _ h2) ha
  ·rfl
theorem MInvU.loops (h:MInvU U n' G) (b b':Nat):MInvU U n' (G.loops b b'):=⟨h.le,h.xle,h.one,h.noC,h.oneX⟩
theorem GrowU.pair (U:Int→Prop) (a n':Int) (G:Mat):GrowU E E' U n' G (Plus U a) (n' + 1) (G.pairU a n'):=⟨fun _ h=>.inl h,by omega,rfl,rfl,rfl,fun _ _ h=>.inl h,fun _ _ h=>h,fun _ _=>rfl,fun _ _ h=>h,fun _ _ h=>.inl h⟩
theorem GrowU.extra {U:Int→Prop} {a:Int} (ha:¬ U a) (n':Int) (G:Mat) (h0:Int) (d:Way):GrowU E E' U n' G (Plus U a) n' (G.extraU a h0 d):=
 ⟨fun _ h=>.inl h,by omega,rfl,rfl,rfl,fun _ _ h=>h,fun _ _ h=>.inl h,fun m hm=>by show upd G.Bd a d m=_;simp only [upd];exact if_neg (fun (e:m=a)=>ha (e ▸ hm)),fun _ _ h=>h,fun _ _ h=>.inl h⟩
end
inductive Lt where
 | mk (lb:Nat) (k:Int) (R:List (Int × Int)) (a:Int) (s:List Lt) (mn mx:Int) (lz:Bool) (ix:Int) (nm:ByteArray)
mutual
def Lt.tn:Lt→Tn
 | .mk lb k R a s mn mx lz ix nm=>.mk k R a (tnL s) mn mx lz ix nm
def tnL:List Lt→List Tn
 | []=>[]
 | t :: ts=>t.tn :: tnL ts
end
mutual
def Lt.lbs:Lt→List Nat
 | .mk lb k R a s mn mx lz ix nm=>lb :: lbsL s
def lbsL:List Lt→List Nat
 | []=>[]
 | t :: ts=>t.lbs ++ lbsL ts
end
theorem tnL_map (ts:List Lt):tnL ts=ts.map Lt.tn:=by
 induction ts with
 | nil=>rfl
 | cons t ts ih=>simp [tnL,ih]
theorem lbsL_app (ts us:List Lt):lbsL (ts ++ us)=lbsL ts ++ lbsL us:=by
 induction ts with
 | nil=>rfl
 | cons t ts ih=>simp [lbsL,ih]
abbrev kb (lb:Nat):Int:=2 * (lb:Int) + 2
abbrev kd (lb:Nat):Int:=2 * (lb:Int) + 3
abbrev Kd (lz:Bool) (lb:Nat) (B:Way):Way:=.once (kd lb) (.inOrder (if lz=true then [B,.again lb] else [.again lb,B]))
mutual
def Lt.fw:Lt→Way→Way
 | .mk lb k R a s mn mx lz ix nm,B=>.once (kb lb)
  (if k=2 then .runeOf R B else if k=3 then .ifHolds a B else if k=4 then fwC s B else if k=5 then .inOrder (fwA s B)
   else if k=7 then .noted (2 * ix.toNat) (fwH s (.noted (2 * ix.toNat + 1) B))
   else if k=6 then (if mx < 0 then (if mn=0 then Kd lz lb B else fwH s (Kd lz lb B)) else .inOrder (if lz=true then [B,fwH s B] else [fwH s B,B]))
   else B)
def fwC:List Lt→Way→Way
 | [],B=>B
 | t :: ts,B=>t.fw (fwC ts B)
def fwA:List Lt→Way→List Way
 | [],_=>[]
 | t :: ts,B=>t.fw B :: fwA ts B
def fwH:List Lt→Way→Way
 | [],B=>B
 | t :: _,B=>t.fw B
end
mutual
def Lt.eo (E:Nat→Way):Lt→Way→Prop
 | .mk lb k R a s mn mx lz ix nm,B =>
  (k=4→eoC E s B)∧(k=5→eoA E s B)∧(k=7→eoH E s (.noted (2 * ix.toNat + 1) B)) ∧
  (k=6→(mn=0∧mx=-1∨mn=1∧mx=-1)∧E lb=fwH s (Kd lz lb B)∧eoH E s (Kd lz lb B)∨(mn=0∧mx=1)∧eoH E s B)
def eoC (E:Nat→Way):List Lt→Way→Prop
 | [],_=>True
 | t :: ts,B=>t.eo E (fwC ts B)∧eoC E ts B
def eoA (E:Nat→Way):List Lt→Way→Prop
 | [],_=>True
 | t :: ts,B=>t.eo E B∧eoA E ts B
def eoH (E:Nat→Way):List Lt→Way→Prop
 | [],_=>True
 | t :: _,B=>t.eo E B
end
theorem fwA_snoc (t:Lt) (B:Way):∀ ts:List Lt,fwA (ts ++ [t]) B=fwA ts B ++ [t.fw B]:=by
 intro ts
 induction ts with
 | nil=>rfl
 | cons u ts ih=>simp [fwA,ih]
theorem eoA_snoc (E:Nat→Way) (t:Lt) (B:Way):∀ ts:List Lt,eoA E (ts ++ [t]) B↔eoA E ts B∧t.eo E B:=by
 intro ts
 induction ts with
 | nil=>simp [eoA]
 | cons u ts ih=>simp only [List.cons_append,eoA,ih,and_assoc]
def Fresh (U:Int→Prop) (L:List Nat):Prop:=∀ lb ∈ L,¬ U (kb lb)∧¬ U (kd lb)
def Only (U U1:Int→Prop) (L:List Nat):Prop:=∀ m,U1 m→U m∨∃ lb ∈ L,m=kb lb∨m=kd lb
theorem Fresh.next {U U1:Int→Prop} {L L':List Nat} (h:Fresh U L') (ho:Only U U1 L) (hd:∀ x ∈ L,∀ y ∈ L',x≠y):Fresh U1 L':=fun lb hlb=>by
 refine ⟨fun hu=>?_,fun hu=>?_⟩
 ·rcases ho _ hu with hu | ⟨x,hx,e⟩
  ·exact (h lb hlb).1 hu
  ·have:=hd x hx lb hlb
   simp only [kb,kd] at e
   omega
 ·rcases ho _ hu with hu | ⟨x,hx,e⟩
  ·exact (h lb hlb).2 hu
  ·have:=hd x hx lb hlb
   simp only [kb,kd] at e
   omega
theorem Only.trans {U U1 U2:Int→Prop} {L L' M:List Nat} (h:Only U U1 L) (h':Only U1 U2 L') (h1:∀ x ∈ L,x ∈ M) (h2:∀ x ∈ L',x ∈ M):Only U U2 M:=fun m hm=>by
 rcases h' m hm with hm | ⟨x,hx,e⟩
 ·rcases h m hm with hm | ⟨x,hx,e⟩
  ·exact .inl hm
  ·exact .inr ⟨x,h1 x hx,e⟩
 ·exact .inr ⟨x,h2 x hx,e⟩
theorem Only.refl (U:Int→Prop) (L:List Nat):Only U U L:=fun m h=>.inl h
theorem Only.plus {U U1:Int→Prop} {L:List Nat} (h:Only U U1 L) {lb:Nat} (hl:lb ∈ L) {a:Int} (ha:a=kb lb∨a=kd lb):Only U (Plus U1 a) L:=fun m hm=>by
 rcases hm with hm | rfl
 ·exact h m hm
 ·exact .inr ⟨lb,hl,ha⟩
def SU (E E':Nat→Way) (L:List Nat) (B W:Way) (n':Int) (B':Way) (n1':Int) (W':Way):Prop:=
 ∀ U G,G.drop=false→MInvU U n' G→Fresh U L→SimY G B B'→(∃ h,Hdp G B h)→∃ U1 G',MInvU U1 n1' G'∧GrowU E E' U n' G U1 n1' G'∧Only U U1 L∧SimY G' W W'∧∃ h,Hdp G' W h
section
variable {E E':Nat→Way} {n' n1' n2':Int}
theorem SU.self (L:List Nat) (n':Int) (B B':Way):SU E E' L B B n' B' n' B':=fun U G _ hI _ hS hH=>⟨U,G,hI,.refl _ _ _,.refl _ _,hS,hH⟩
theorem SU.seq {L L':List Nat} {B W V B' W' V':Way} (hd:∀ x ∈ L,∀ y ∈ L',x≠y) (h:SU E E' L B W n' B' n1' W') (h':SU E E' L' W V n1' W' n2' V'):SU E E' (L' ++ L) B V n' B' n2' V':=fun U G hdp hI hF hS hH=>by
 obtain ⟨U1,G1,i1,g1,o1,s1,d1⟩:=h U G hdp hI (fun lb hl=>hF lb (List.mem_append.2 (.inr hl))) hS hH
 obtain ⟨U2,G2,i2,g2,o2,s2,d2⟩:=h' U1 G1 (g1.dr.trans hdp) i1 (Fresh.next (fun lb hl=>hF lb (List.mem_append.2 (.inl hl))) o1 hd) s1 d1
 exact ⟨U2,G2,i2,g1.trans g2 i1,o1.trans o2 (fun x hx=>List.mem_append.2 (.inr hx)) (fun x hx=>List.mem_append.2 (.inl hx)),s2,d2⟩
theorem SU.pair {L:List Nat} {lb:Nat} (hl:lb ∉ L) {B W B' W':Way} (h:∀ U G,G.drop=false→MInvU U n' G→Fresh U L→SimY G B B'→(∃ h,Hdp G B h)→∃ U1 G',MInvU U1 n1' G'∧GrowU E E' U n' G U1 n1' G'∧Only U U1 L∧SimY G' W W'):SU E E' (lb :: L) B (.once (kb lb) W) n' B' (n1' + 1) (.once (n1' + 1) W'):=fun U G hdp hI hF hS hH=>by
 obtain ⟨U1,G1,i1,g1,o1,s1⟩:=h U G hdp hI (fun x hx=>hF x (List.mem_cons_of_mem _ hx)) hS hH
 have hfr:=Fresh.next (L':=[lb]) (fun x hx=>hF x (by simp at hx;simp [hx])) o1 (fun x hx y hy e=>by simp at hy;exact hl (by rw [← hy,← e];exact hx))
 have hn:=(hfr lb (by simp)).1
 have g2:=GrowU.pair (E:=E) (E':=E') U1 (kb lb) n1' G1
 exact ⟨_,_,i1.pair hn,g1.trans g2 i1,Only.plus (o1.trans (Only.refl U1 []) (fun x hx=>List.mem_cons_of_mem _ hx) (fun x hx=>by cases hx)) (List.mem_cons_self ..) (.inl rfl),.once (.inr ⟨rfl,rfl⟩) (g2.sim i1 s1),_,.once (.inr ⟨rfl,rfl⟩)⟩
theorem SU.extra {L:List Nat} {lb:Nat} {B W B' W':Way} (h:∀ U G,G.drop=false→MInvU U n' G→Fresh U (lb :: L)→SimY G B B'→(∃ h,Hdp G B h)→∃ U1 G',MInvU U1 n1' G'∧GrowU E E' U n' G U1 n1' G'∧Only U U1 (lb :: L)∧¬ U1 (kb lb)∧SimY G' W W'∧∃ h,Hdp G' W h):SU E E' (lb :: L) B (.once (kb lb) W) n' B' n1' W':=fun U G hdp hI hF hS hH=>by
 obtain ⟨U1,G1,i1,g1,o1,hn,s1,h0,d1⟩:=h U G hdp hI hF hS hH
 have g2:=GrowU.extra (E:=E) (E':=E') hn n1' G1 h0 W
 have d2:Hdp (G1.extraU (kb lb) h0 W) W h0:=d1.up g2.c g2.x
 exact ⟨_,_,i1.extra hn h0 W,g1.trans g2 i1,o1.plus (List.mem_cons_self ..) (.inl rfl),.more (.inr ⟨rfl,rfl⟩) (by show upd G1.Bd (kb lb) W (kb lb)=W;simp [upd]) d2 (g2.sim i1 s1),h0,.more (.inr ⟨rfl,rfl⟩) d2⟩
theorem SU.round {L:List Nat} {lb b':Nat} {B B':Way} {lz:Bool} (hl:lb ∉ L) (h:SU E E' L (Kd lz lb B) (E lb) (n' + 1) (Dcd lz n' b' B') n2' (E' b')) (U:Int→Prop) (G:Mat) (hdp:G.drop=false) (hI:MInvU U n' G) (hF:Fresh U (lb :: L)) (hS:SimY G B B') :
  ∃ U1 G',MInvU U1 n2' G'∧GrowU E E' U n' G U1 n2' G'∧Only U U1 (lb :: L)∧¬ U1 (kb lb)∧SimY G' (E lb) (E' b')∧SimY G' (Kd lz lb B) (Dcd lz n' b' B')∧(∃ h,Hdp G' (E lb) h)∧∃ h,Hdp G' (Kd lz lb B) h:=by
 have hnd:=(hF lb (List.mem_cons_self ..)).2
 obtain ⟨G0,hG0⟩:∃ G0,G0=(G.loops lb b').pairU (kd lb) n':=⟨_,rfl⟩
 have hI0:MInvU (Plus U (kd lb)) (n' + 1) G0:=by rw [hG0];exact (hI.loops lb b').pair hnd
 have hC:G0.C (kd lb) (n' + 1):=by rw [hG0];exact .inr ⟨rfl,rfl⟩
 have hL:G0.L lb b':=by rw [hG0];exact .inr ⟨rfl,rfl⟩
 have hB:SimY G0 B B':=by rw [hG0];exact hS.upU (G1:=(G.loops lb b').pairU (kd lb) n') hI rfl (fun _ _ h=>Or.inl h) (fun _ _ h=>h) (fun _ _=>rfl) (fun _ _ h=>Or.inl h)
 have hD:SimY G0 (Kd lz lb B) (Dcd lz n' b' B'):=by
  refine .once hC (.inOrder (by cases lz <;> rfl) fun i hi hi'=>?_)
  cases lz
  ·match i,hi,hi' with
   | 0,_,_=>exact .again hL
   | 1,_,_=>exact hB
   | i + 2,hi,_=>exact absurd (show i + 2 < 2 from hi) (by omega)
  ·match i,hi,hi' with
   | 0,_,_=>exact hB
   | 1,_,_=>exact .again hL
   | i + 2,hi,_=>exact absurd (show i + 2 < 2 from hi) (by omega)
 have hF0:Fresh (Plus U (kd lb)) L:=fun x hx=>by
  have hne:x≠lb:=fun e=>hl (e ▸ hx)
  have:=hF x (List.mem_cons_of_mem _ hx)
  refine ⟨fun h=>?_,fun h=>?_⟩
  ·rcases h with h | h
   ·exact this.1 h
   ·simp only [kb,kd] at h;omega
  ·rcases h with h | h
   ·exact this.2 h
   ·simp only [kd] at h;omega
 obtain ⟨U1,G1,i1,g1,o1,s1,d1⟩:=h (Plus U (kd lb)) G0 (by rw [hG0];exact hdp) hI0 hF0 hD ⟨_,.once hC⟩
 refine ⟨U1,G1,i1,⟨fun m hm=>g1.l1 m (.inl hm),by have:=g1.l2;omega,by rw [g1.dr,hG0];rfl,by rw [g1.nr,hG0];rfl,by rw [g1.pr,hG0];rfl,fun a a' x=>g1.c _ _ (by rw [hG0];exact .inl x),fun m n0 x=>g1.x _ _ (by rw [hG0];exact x),fun m hm=>(g1.bd m (.inl hm)).trans (by rw [hG0];rfl),fun x x' hx=>g1.l _ _ (by rw [hG0];exact .inl hx),fun x x' hx=>?_⟩,fun m hm=>?_,fun hm=>?_,s1,g1.sim hI0 hD,d1,_,.once (g1.c _ _ hC)⟩
 ·rcases g1.new x x' hx with hx | hx
  ·rw [hG0] at hx
   rcases hx with hx | ⟨rfl,rfl⟩
   ·exact .inl hx
   ·exact .inr s1
  ·exact .inr hx
 ·rcases o1 m hm with (hm | rfl) | ⟨x,hx,e⟩
  ·exact .inl hm
  ·exact .inr ⟨lb,List.mem_cons_self ..,.inr rfl⟩
  ·exact .inr ⟨x,List.mem_cons_of_mem _ hx,e⟩
 ·rcases o1 _ hm with (hm | hm) | ⟨x,hx,e⟩
  ·exact (hF lb (List.mem_cons_self ..)).1 hm
  ·simp only [kb,kd] at hm;omega
  ·have hne:x≠lb:=fun e=>hl (e ▸ hx)
   simp only [kb,kd] at e;omega
end
theorem tnL_one {s:List Lt} {t:Tn} (h:tnL s=[t]):∃ T,s=[T]∧T.tn=t:=by
 match s,h with
 | [],h=>simp [tnL] at h
 | [T],h=>simp [tnL] at h;exact ⟨T,rfl,h⟩
 | _ :: _ :: _,h=>simp [tnL] at h
theorem tnL_snoc {s:List Lt} {ts:List Tn} {t:Tn} (h:tnL s=ts ++ [t]):∃ s1 T,s=s1 ++ [T]∧tnL s1=ts∧T.tn=t:=by
 rw [tnL_map] at h
 obtain ⟨s1,s2,rfl,h1,h2⟩:=List.map_eq_append_iff.1 h
 obtain ⟨T,rfl,h3⟩:=tnL_one (by rw [tnL_map];exact h2)
 exact ⟨s1,T,rfl,by rw [tnL_map];exact h1,h3⟩
theorem full_sim {E E':Nat→Way} {t:Tn} {n' n1':Int} {B' W':Way} (h:Beg E' t n' B' n1' W'):∀ T:Lt,T.tn=t→T.lbs.Nodup→∀ B,T.eo E B→SU E E' T.lbs B (T.fw B) n' B' n1' W':=by
 refine Beg.rec (motive_1:=fun t n' B' n1' W' _=>∀ T:Lt,T.tn=t→T.lbs.Nodup→∀ B,T.eo E B→SU E E' T.lbs B (T.fw B) n' B' n1' W')
  (motive_2:=fun ts n' B' n1' W' _=>∀ Ts:List Lt,tnL Ts=ts→(lbsL Ts).Nodup→∀ B,eoC E Ts B→SU E E' (lbsL Ts) B (fwC Ts B) n' B' n1' W')
  (motive_3:=fun ts n' B' n1' Ws' _=>∀ Ts:List Lt,tnL Ts=ts→(lbsL Ts).Nodup→∀ B,eoA E Ts B→∀ U G,G.drop=false→MInvU U n' G→Fresh U (lbsL Ts)→SimY G B B'→(∃ h,Hdp G B h)→∃ U1 G',MInvU U1 n1' G'∧GrowU E E' U n' G U1 n1' G'∧Only U U1 (lbsL Ts)∧SimY G' (.inOrder (fwA Ts B)) (.inOrder Ws'))
  (motive_4:=fun t c n' B' n1' W' _=>c=0→n1'=n'∧W'=B')
  (motive_5:=fun t lz B' c n' n1' W' _=>(c=0→n1'=n'∧W'=B')∧(c=1→∀ T:Lt,T.tn=t→T.lbs.Nodup→∀ B,T.eo E B→∃ n2 W2,n1'=n2 + 1∧W'=.once (n2 + 1) (.inOrder (if lz=true then [B',W2] else [W2,B']))∧SU E E' T.lbs B (T.fw B) n' B' n2 W2))
  ?_ ?_ ?_ ?_ ?_ ?_ ?_ ?_ ?_ ?_ ?_ ?_ ?_ ?_ ?_ ?_ ?_ h
 ·intro R a s mn mx lz ix nm n' B' T hT hN B hE
  cases T with
  | mk lb k R a s mn mx lz ix nm =>
  simp only [Lt.tn,Tn.mk.injEq] at hT
  obtain ⟨rfl,rfl,rfl,_,rfl,rfl,rfl,rfl,rfl⟩:=hT
  simp only [Lt.lbs,List.nodup_cons] at hN ⊢
  simp [Lt.fw]
  exact SU.pair hN.1 fun U G _ hI _ hS _=>⟨U,G,hI,.refl _ _ _,.refl _ _,hS⟩
 ·intro R a s mn mx lz ix nm n' B' T hT hN B hE
  cases T with
  | mk lb k R a s mn mx lz ix nm =>
  simp only [Lt.tn,Tn.mk.injEq] at hT
  obtain ⟨rfl,rfl,rfl,_,rfl,rfl,rfl,rfl,rfl⟩:=hT
  simp only [Lt.lbs,List.nodup_cons] at hN ⊢
  simp [Lt.fw]
  exact SU.pair hN.1 fun U G _ hI _ hS _=>⟨U,G,hI,.refl _ _ _,.refl _ _,.runeOf hS⟩
 ·intro R a s mn mx lz ix nm n' B' T hT hN B hE
  cases T with
  | mk lb k R a s mn mx lz ix nm =>
  simp only [Lt.tn,Tn.mk.injEq] at hT
  obtain ⟨rfl,rfl,rfl,_,rfl,rfl,rfl,rfl,rfl⟩:=hT
  simp only [Lt.lbs,List.nodup_cons] at hN ⊢
  simp [Lt.fw]
  exact SU.pair hN.1 fun U G _ hI _ hS _=>⟨U,G,hI,.refl _ _ _,.refl _ _,.ifHolds hS⟩
 ·intro R a s mn mx lz ix nm n' n1' B' W' _ ih T hT hN B hE
  cases T with
  | mk lb k R a s mn mx lz ix nm =>
  simp only [Lt.tn,Tn.mk.injEq] at hT
  obtain ⟨rfl,rfl,rfl,hs,rfl,rfl,rfl,rfl,rfl⟩:=hT
  simp only [Lt.lbs,List.nodup_cons] at hN ⊢
  simp only [Lt.eo] at hE
  have hE4:=hE.1 trivial
  simp [Lt.fw]
  refine SU.extra fun U G hd hI hF hS hH=>?_
  obtain ⟨U1,G1,i1,g1,o1,s1,d1⟩:=ih s hs hN.2 B hE4 U G hd hI (fun x hx=>hF x (List.mem_cons_of_mem _ hx)) hS hH
  have hfr:=Fresh.next (L':=[lb]) (fun x hx=>hF x (by simp at hx;simp [hx])) o1 (fun x hx y hy e=>by simp at hy;exact hN.1 (by rw [← hy,← e];exact hx))
  exact ⟨U1,G1,i1,g1,o1.trans (Only.refl U1 []) (fun x hx=>List.mem_cons_of_mem _ hx) (fun x hx=>by cases hx),(hfr lb (by simp)).1,s1,d1⟩
 ·intro R a s mn mx lz ix nm n' n1' B' Ws' _ ih T hT hN B hE
  cases T with
  | mk lb k R a s mn mx lz ix nm =>
  simp only [Lt.tn,Tn.mk.injEq] at hT
  obtain ⟨rfl,rfl,rfl,hs,rfl,rfl,rfl,rfl,rfl⟩:=hT
  simp only [Lt.lbs,List.nodup_cons] at hN ⊢
  simp only [Lt.eo] at hE
  have hE5:=hE.2.1 trivial
  simp [Lt.fw]
  exact SU.pair hN.1 fun U G hd hI hF hS hH=>ih s hs hN.2 B hE5 U G hd hI hF hS hH
 ·intro R a t mn mx lz i nm n' n1' B' W' _ ih T hT hN B hE
  cases T with
  | mk lb k R a s mn mx lz ix nm =>
  simp only [Lt.tn,Tn.mk.injEq] at hT
  obtain ⟨rfl,rfl,rfl,hs,rfl,rfl,rfl,rfl,rfl⟩:=hT
  obtain ⟨T0,rfl,hT0⟩:=tnL_one hs
  simp only [Lt.lbs,lbsL,List.append_nil,List.nodup_cons] at hN ⊢
  simp only [Lt.eo,eoH] at hE
  have hE7:=hE.2.2.1 trivial
  simp only [Int.toNat_natCast] at hE7
  simp [Lt.fw,fwH]
  refine SU.pair hN.1 fun U G hd hI hF hS ⟨h0,hH⟩=>?_
  obtain ⟨U1,G1,i1,g1,o1,s1,_⟩:=ih T0 hT0 hN.2 _ hE7 U G hd hI hF (.noted hd hS) ⟨h0,.noted hH⟩
  exact ⟨U1,G1,i1,g1,o1,.noted (g1.dr.trans hd) s1⟩
 ·intro R a t lz ix nm n' n2' b' B' _ ih T hT hN B hE
  cases T with
  | mk lb k R a s mn mx lz ix nm =>
  simp only [Lt.tn,Tn.mk.injEq] at hT
  obtain ⟨rfl,rfl,rfl,hs,rfl,rfl,rfl,rfl,rfl⟩:=hT
  obtain ⟨T0,rfl,hT0⟩:=tnL_one hs
  simp only [Lt.lbs,lbsL,List.append_nil,List.nodup_cons] at hN ⊢
  simp only [Lt.eo,eoH,fwH] at hE
  rcases hE.2.2.2 trivial with ⟨_,hE1,hE2⟩ | ⟨h1,_⟩
  ·simp [Lt.fw]
   refine SU.extra fun U G hd hI hF hS hH=>?_
   have hr:=ih T0 hT0 hN.2 _ hE2
   rw [← hE1] at hr
   obtain ⟨U1,G1,i1,g1,o1,hn,_,s2,_,d2⟩:=SU.round hN.1 hr U G hd hI hF hS
   exact ⟨U1,G1,i1,g1,o1,hn,s2,d2⟩
  ·omega
 ·intro R a t c lz ix nm n' n2' n3' b' B' W3' _ _ ih ihT T hT hN B hE
  cases T with
  | mk lb k R a s mn mx lz ix nm =>
  simp only [Lt.tn,Tn.mk.injEq] at hT
  obtain ⟨rfl,rfl,rfl,hs,rfl,rfl,rfl,rfl,rfl⟩:=hT
  obtain ⟨T0,rfl,hT0⟩:=tnL_one hs
  simp only [Lt.lbs,lbsL,List.append_nil,List.nodup_cons] at hN ⊢
  simp only [Lt.eo,eoH,fwH] at hE
  rcases hE.2.2.2 trivial with ⟨h1,hE1,hE2⟩ | ⟨h1,_⟩
  ·have hc:c=0:=by omega
   obtain ⟨rfl,rfl⟩:=ihT hc
   subst hc
   simp [Lt.fw,fwH]
   refine SU.extra fun U G hd hI hF hS hH=>?_
   have hr:=ih T0 hT0 hN.2 _ hE2
   rw [← hE1] at hr
   obtain ⟨U1,G1,i1,g1,o1,hn,s1,_,d1,_⟩:=SU.round hN.1 hr U G hd hI hF hS
   rw [← hE1]
   exact ⟨U1,G1,i1,g1,o1,hn,s1,d1⟩
  ·omega
 ·intro R a t c m lz ix nm n' n1' n2' B' W1' W2' hO0 hT0 ihO ihT T hT hN B hE
  cases T with
  | mk lb k R a s mn mx lz ix nm =>
  simp only [Lt.tn,Tn.mk.injEq] at hT
  obtain ⟨rfl,rfl,rfl,hs,rfl,rfl,rfl,rfl,rfl⟩:=hT
  obtain ⟨T0,rfl,hT1⟩:=tnL_one hs
  simp only [Lt.lbs,lbsL,List.append_nil,List.nodup_cons] at hN ⊢
  simp only [Lt.eo,eoH,fwH] at hE
  rcases hE.2.2.2 trivial with ⟨h1,_⟩ | ⟨h1,hE2⟩
  ·omega
  ·have hc:c=0:=by omega
   have hm:m=1:=by omega
   obtain ⟨rfl,rfl⟩:=ihT hc
   obtain ⟨n2,W2,rfl,rfl,hSU⟩:=ihO.2 hm T0 hT1 hN.2 B hE2
   subst hc hm
   simp [Lt.fw,fwH]
   refine SU.pair hN.1 fun U G hd hI hF hS hH=>?_
   obtain ⟨U1,G1,i1,g1,o1,s1,_⟩:=hSU U G hd hI hF hS hH
   exact ⟨U1,G1,i1,g1,o1,sim_two s1 (g1.sim hI hS) lz⟩
 ·intro n' B' Ts hT hN B hE
  match Ts,hT with
  | [],_=>exact .self _ _ _ _
  | _ :: _,h=>simp [tnL] at h
 ·intro t ts n' n1' n2' B' W1' W2' _ _ h h2 Ts hT hN B hE
  match Ts,hT with
  | [],h=>simp [tnL] at h
  | T :: Ts,hT =>
   simp only [tnL,List.cons.injEq] at hT
   simp only [lbsL,List.nodup_append] at hN ⊢
   simp only [eoC] at hE
   simp only [fwC]
   exact SU.seq (fun x hx y hy e=>hN.2.2 y hy x hx e.symm) (h Ts hT.2 hN.2.1 B hE.2) (h2 T hT.1 hN.1 _ hE.1)
 ·intro n' B' Ts hT hN B hE U G hd hI hF hS hH
  match Ts,hT with
  | [],_=>exact ⟨U,G,hI,.refl _ _ _,.refl _ _,.inOrder rfl fun i hi=>by simp [fwA] at hi⟩
  | _ :: _,h=>simp [tnL] at h
 ·intro t ts n' n1' n2' B' W2' Ws' _ _ hl hl2 Ts hT hN B hE U G hd hI hF hS hH
  obtain ⟨Ts1,T,rfl,hT1,hT2⟩:=tnL_snoc hT
  rw [lbsL_app] at hN hF
  simp only [lbsL,List.append_nil,List.nodup_append] at hN hF
  rw [eoA_snoc] at hE
  obtain ⟨U1,G1,i1,g1,o1,s1⟩:=hl Ts1 hT1 hN.1 B hE.1 U G hd hI (fun x hx=>hF x (List.mem_append.2 (.inl hx))) hS hH
  obtain ⟨h0,hH⟩:=hH
  obtain ⟨U2,G2,i2,g2,o2,s2,_⟩:=hl2 T hT2 hN.2.1 B hE.2 U1 G1 (g1.dr.trans hd) i1 (Fresh.next (fun x hx=>hF x (List.mem_append.2 (.inr hx))) o1 (fun x hx y hy=>hN.2.2 x hx y hy)) (g1.sim hI hS) ⟨h0,hH.up g1.c g1.x⟩
  have s3:=g2.sim i1 s1
  refine ⟨U2,G2,i2,g1.trans g2 i1,o1.trans o2 (fun x hx=>by rw [lbsL_app];exact List.mem_append.2 (.inl hx)) (fun x hx=>by rw [lbsL_app];simp only [lbsL,List.append_nil];exact List.mem_append.2 (.inr hx)),?_⟩
  rw [fwA_snoc]
  cases s3 with
  | inOrder el s3 =>
   refine .inOrder (by simp [el]) fun i hi hi'=>?_
   by_cases hi2:i < (fwA Ts1 B).length
   ·rw [List.getElem_append_left hi2,List.getElem_append_left (by omega)]
    exact s3 i hi2 (by omega)
   ·simp only [List.length_append,List.length_cons,List.length_nil] at hi hi'
    obtain rfl:i=(fwA Ts1 B).length:=by omega
    rw [List.getElem_concat_length rfl,List.getElem_concat_length el]
    exact s2
 ·intro t n' W' _
  exact ⟨rfl,rfl⟩
 ·intro t c n' n1' n2' W' W1' W2' _ _ h h2 hc
  omega
 ·intro t lz B' n'
  exact ⟨fun _=>⟨rfl,rfl⟩,fun h=>by omega⟩
 ·intro t lz B' c n' n1' n2' W1' W2' _ _ h h2
  refine ⟨fun hc=>by omega,fun hc T hT hN B hE=>?_⟩
  obtain ⟨rfl,rfl⟩:=h.1 (by omega)
  exact ⟨_,_,rfl,rfl,h2 T hT hN B hE⟩
mutual
def Lt.le:Lt→Way→List (Nat × Way)
 | .mk lb k R a s mn mx lz ix nm,B=>if k=4 then leC s B else if k=5 then leA s B else if k=7 then leH s (.noted (2 * ix.toNat + 1) B)
  else if k=6 then (if mx < 0 then (lb,fwH s (Kd lz lb B)) :: leH s (Kd lz lb B) else leH s B) else []
def leC:List Lt→Way→List (Nat × Way)
 | [],_=>[]
 | t :: ts,B=>t.le (fwC ts B) ++ leC ts B
def leA:List Lt→Way→List (Nat × Way)
 | [],_=>[]
 | t :: ts,B=>t.le B ++ leA ts B
def leH:List Lt→Way→List (Nat × Way)
 | [],_=>[]
 | t :: _,B=>t.le B
end
mutual
def Lt.sf:Lt→Prop
 | .mk lb k R a s mn mx lz ix nm=>(k=6→(mn=0∧mx=-1∨mn=1∧mx=-1)∨mn=0∧mx=1)∧sfL s
def sfL:List Lt→Prop
 | []=>True
 | t :: ts=>t.sf∧sfL ts
end
mutual
theorem le_sub:∀ (T:Lt) (B:Way),((T.le B).map Prod.fst).Sublist T.lbs
 | .mk lb k R a s mn mx lz ix nm,B=>by
  simp only [Lt.le,Lt.lbs]
  split
  ·exact (leC_sub s B).trans (List.sublist_cons_self ..)
  ·split
   ·exact (leA_sub s B).trans (List.sublist_cons_self ..)
   ·split
    ·exact (leH_sub s _).trans (List.sublist_cons_self ..)
    ·split
     ·split
      ·simp only [List.map_cons]
       exact (leH_sub s _).cons_cons _
      ·exact (leH_sub s _).trans (List.sublist_cons_self ..)
     ·exact List.nil_sublist _
theorem leC_sub:∀ (ts:List Lt) (B:Way),((leC ts B).map Prod.fst).Sublist (lbsL ts)
 | [],B=>by simp [leC]
 | t :: ts,B=>by simp only [leC,lbsL,List.map_append];exact (le_sub t _).append (leC_sub ts B)
theorem leA_sub:∀ (ts:List Lt) (B:Way),((leA ts B).map Prod.fst).Sublist (lbsL ts)
 | [],B=>by simp [leA]
 | t :: ts,B=>by simp only [leA,lbsL,List.map_append];exact (le_sub t _).append (leA_sub ts B)
theorem leH_sub:∀ (ts:List Lt) (B:Way),((leH ts B).map Prod.fst).Sublist (lbsL ts)
 | [],B=>by simp [leH]
 | t :: ts,B=>by simp only [leH,lbsL];exact (le_sub t _).trans (List.sublist_append_left ..)
end
mutual
theorem eo_of (E:Nat→Way):∀ (T:Lt) (B:Way),T.sf→(∀ x ∈ T.le B,E x.1=x.2)→T.eo E B
 | .mk lb k R a s mn mx lz ix nm,B,hs,h=>by
  simp only [Lt.sf] at hs
  simp only [Lt.eo]
  refine ⟨fun h4=>?_,fun h5=>?_,fun h7=>?_,fun h6=>?_⟩
  ·subst h4
   exact eoC_of E s B hs.2 (fun x hx=>h x (by simpa [Lt.le] using hx))
  ·subst h5
   exact eoA_of E s B hs.2 (fun x hx=>h x (by simpa [Lt.le] using hx))
  ·subst h7
   exact eoH_of E s _ hs.2 (fun x hx=>h x (by simpa [Lt.le] using hx))
  ·subst h6
   rcases hs.1 rfl with h1 | h1
   ·left
    have hm:mx < 0:=by omega
    refine ⟨h1,h (lb,fwH s (Kd lz lb B)) (by simp [Lt.le,hm]),eoH_of E s _ hs.2 (fun x hx=>h x (by simp [Lt.le,hm];exact .inr hx))⟩
   ·right
    have hm:¬ mx < 0:=by omega
    exact ⟨h1,eoH_of E s _ hs.2 (fun x hx=>h x (by simpa [Lt.le,hm] using hx))⟩
theorem eoC_of (E:Nat→Way):∀ (ts:List Lt) (B:Way),sfL ts→(∀ x ∈ leC ts B,E x.1=x.2)→eoC E ts B
 | [],B,_,_=>by simp [eoC]
 | t :: ts,B,hs,h=>by
  simp only [sfL] at hs
  simp only [leC,List.mem_append] at h
  simp only [eoC]
  exact ⟨eo_of E t _ hs.1 (fun x hx=>h x (.inl hx)),eoC_of E ts B hs.2 (fun x hx=>h x (.inr hx))⟩
theorem eoA_of (E:Nat→Way):∀ (ts:List Lt) (B:Way),sfL ts→(∀ x ∈ leA ts B,E x.1=x.2)→eoA E ts B
 | [],B,_,_=>by simp [eoA]
 | t :: ts,B,hs,h=>by
  simp only [sfL] at hs
  simp only [leA,List.mem_append] at h
  simp only [eoA]
  exact ⟨eo_of E t _ hs.1 (fun x hx=>h x (.inl hx)),eoA_of E ts B hs.2 (fun x hx=>h x (.inr hx))⟩
theorem eoH_of (E:Nat→Way):∀ (ts:List Lt) (B:Way),sfL ts→(∀ x ∈ leH ts B,E x.1=x.2)→eoH E ts B
 | [],B,_,_=>by simp [eoH]
 | t :: ts,B,hs,h=>by
  simp only [sfL] at hs
  simp only [leH] at h
  simp only [eoH]
  exact eo_of E t _ hs.1 h
end
theorem Kd_tg {top lb:Nat} (h:2 * lb + 3≤top) {lz:Bool} {B:Way} (hB:B.tg top):(Kd lz lb B).tg top:=by
 simp only [Way.tg]
 refine ⟨⟨by simp only [kd];omega,by simp only [kd];omega⟩,.inr ?_⟩
 cases lz <;> simp [tgL,hB,Way.tg]
mutual
theorem fw_tg {top:Nat}:∀ (T:Lt) (B:Way),(∀ lb ∈ T.lbs,2 * lb + 3≤top)→B.tg top→(T.fw B).tg top∧∀ x ∈ T.le B,x.2.tg top∧x.2.ua=[]
 | .mk lb k R a s mn mx lz ix nm,B,hl,hB=>by
  simp only [Lt.lbs,List.mem_cons,forall_eq_or_imp] at hl
  obtain ⟨h0,hls⟩:=hl
  have hk:0≤kb lb∧kb lb≤(top:Int):=by simp only [kb];omega
  simp only [Lt.fw,Lt.le,Way.tg]
  split
  ·rename_i e;subst e
   refine ⟨⟨hk,.inr (by simp only [Way.tg];exact hB)⟩,by simp⟩
  ·split
   ·rename_i e;subst e
    refine ⟨⟨hk,.inr (by simp only [Way.tg];exact hB)⟩,by simp⟩
   ·split
    ·obtain ⟨q1,q2⟩:=fwC_tg s B hls hB
     exact ⟨⟨hk,.inr q1⟩,q2⟩
    ·split
     ·obtain ⟨q1,q2⟩:=fwA_tg s B hls hB
      exact ⟨⟨hk,.inr (by simp only [Way.tg];exact q1)⟩,q2⟩
     ·split
      ·obtain ⟨q1,q2,_⟩:=fwH_tg s (.noted (2 * ix.toNat + 1) B) hls (by simp only [Way.tg];exact hB)
       exact ⟨⟨hk,.inr (by simp only [Way.tg];exact q1)⟩,q2⟩
      ·split
       ·split
        ·obtain ⟨q1,q2,q3⟩:=fwH_tg s (Kd lz lb B) hls (Kd_tg h0 hB)
         refine ⟨⟨hk,.inr ?_⟩,fun x hx=>?_⟩
         ·split
          ·exact Kd_tg h0 hB
          ·exact q1
         ·simp only [List.mem_cons] at hx
          rcases hx with rfl | hx
          ·exact ⟨q1,q3 (by simp [Way.ua])⟩
          ·exact q2 x hx
        ·obtain ⟨q1,q2,_⟩:=fwH_tg s B hls hB
         exact ⟨⟨hk,.inr (by simp only [Way.tg];cases lz <;> simp [tgL,q1,hB])⟩,q2⟩
       ·exact ⟨⟨hk,.inr hB⟩,by simp⟩
theorem fwC_tg {top:Nat}:∀ (ts:List Lt) (B:Way),(∀ lb ∈ lbsL ts,2 * lb + 3≤top)→B.tg top→(fwC ts B).tg top∧∀ x ∈ leC ts B,x.2.tg top∧x.2.ua=[]
 | [],B,_,hB=>by simp [fwC,leC,hB]
 | t :: ts,B,hl,hB=>by
  simp only [lbsL,List.mem_append] at hl
  obtain ⟨q1,q2⟩:=fwC_tg ts B (fun lb h=>hl lb (.inr h)) hB
  obtain ⟨p1,p2⟩:=fw_tg t (fwC ts B) (fun lb h=>hl lb (.inl h)) q1
  simp only [fwC,leC,List.mem_append]
  exact ⟨p1,fun x hx=>hx.elim (p2 x) (q2 x)⟩
theorem fwA_tg {top:Nat}:∀ (ts:List Lt) (B:Way),(∀ lb ∈ lbsL ts,2 * lb + 3≤top)→B.tg top→tgL top (fwA ts B)∧∀ x ∈ leA ts B,x.2.tg top∧x.2.ua=[]
 | [],B,_,hB=>by simp [fwA,leA,tgL]
 | t :: ts,B,hl,hB=>by
  simp only [lbsL,List.mem_append] at hl
  obtain ⟨q1,q2⟩:=fwA_tg ts B (fun lb h=>hl lb (.inr h)) hB
  obtain ⟨p1,p2⟩:=fw_tg t B (fun lb h=>hl lb (.inl h)) hB
  simp only [fwA,leA,List.mem_append,tgL]
  exact ⟨⟨p1,q1⟩,fun x hx=>hx.elim (p2 x) (q2 x)⟩
theorem fwH_tg {top:Nat}:∀ (ts:List Lt) (B:Way),(∀ lb ∈ lbsL ts,2 * lb + 3≤top)→B.tg top→(fwH ts B).tg top∧(∀ x ∈ leH ts B,x.2.tg top∧x.2.ua=[])∧(B.ua=[]→(fwH ts B).ua=[])
 | [],B,_,hB=>by simp [fwH,leH,hB]
 | t :: ts,B,hl,hB=>by
  simp only [lbsL,List.mem_append] at hl
  obtain ⟨p1,p2⟩:=fw_tg t B (fun lb h=>hl lb (.inl h)) hB
  simp only [fwH,leH]
  exact ⟨p1,p2,fun _=>by cases t;simp [Lt.fw,Way.ua]⟩
end
theorem full_ps {E:Nat→Way} {T:Lt} {K:Nat} {tx:List Int} {p:Nat} {l:List (Int × List Int)} {s':Sg} (hN:T.lbs.Nodup) (hE:T.eo E (.once 1 .through)) (h:PS T.tn K tx p l) (hx:Ex tx E (T.fw (.once 1 .through)) p ⟨[],(List.replicate K (-1)).set 0 (p:Int),[]⟩ s'):s'.parses=l:=by
 obtain ⟨E',W',n1',s1',hB',hE',hg',hx',rfl⟩:=h.ex
 obtain ⟨G0,hG0⟩:∃ G0:Mat,G0=⟨fun a a'=>a=1∧a'=1,fun _ _=>False,fun _ _=>False,fun _=>.through,false,Eq,Eq⟩:=⟨_,rfl⟩
 obtain ⟨U1,G,hI,hgr,_,hS,h0,hH⟩:=full_sim hB' T rfl hN _ hE (fun m=>m=1) G0 (by rw [hG0]) (by rw [hG0];exact ⟨fun a a' h=>by simp at h;exact ⟨h.1,by omega⟩,fun _ _ h=>h.elim,fun a a' m m' h1 h2=>by simp at h1 h2;omega,fun _ _ _ h=>h.elim,fun _ _ _ h=>h.elim⟩) (fun lb _=>⟨by simp only [kb];omega,by simp only [kd];omega⟩) (by rw [hG0];exact .once ⟨rfl,rfl⟩ .through) ⟨1,by rw [hG0];exact .once (n':=1) ⟨rfl,rfl⟩⟩
 have hnr:G.NR=Eq:=by rw [hgr.nr,hG0]
 have hpr:G.PR=Eq:=by rw [hgr.pr,hG0]
 have hdr:G.drop=false:=by rw [hgr.dr,hG0]
 have hok:G.Ok E E':=by
  refine ⟨hI.one,hI.noC,hI.oneX,fun b b' hb=>?_,fun c x ν ν' hd hn=>?_,fun c x ν ν' hd _=>(by rw [hdr] at hd;cases hd),fun q ν ν' a b hn h=>?_⟩
  ·rcases hgr.new b b' hb with hb | hb
   ·rw [hG0] at hb;exact hb.elim
   ·exact hb
  ·rw [hnr] at hn ⊢;rw [hn]
  ·rw [hpr] at h ⊢
   rw [hnr] at hn
   rw [hn,h]
 obtain ⟨s2,hx2,hA⟩:=sim_ex hok hx W' ⟨[],(List.replicate K (-1)).set 0 (p:Int),[]⟩ NoP hS ⟨fun a a' q _=>by simp,fun m n0 q _ hm=>by simp at hm,by rw [hnr],by rw [hpr]⟩ (Pend.no _ _)
 have e:=hx'.det hx2
 subst e
 have:=hA.pr
 rw [hpr] at this
 exact this
def ks : List Nat → List Int
  | [] => []
  | lb :: L => kb lb :: kd lb :: ks L
theorem ks_mem {L:List Nat} {m:Int}:m ∈ ks L↔∃ lb ∈ L,m=kb lb∨m=kd lb:=by
 induction L with
 | nil=>simp [ks]
 | cons x L ih =>
  simp only [ks,List.mem_cons,ih]
  constructor
  ·rintro (h | h | ⟨lb,h1,h2⟩)
   ·exact ⟨x,.inl rfl,.inl h⟩
   ·exact ⟨x,.inl rfl,.inr h⟩
   ·exact ⟨lb,.inr h1,h2⟩
  ·rintro ⟨lb,rfl | h1,h2⟩
   ·rcases h2 with h2 | h2
    ·exact .inl h2
    ·exact .inr (.inl h2)
   ·exact .inr (.inr ⟨lb,h1,h2⟩)
abbrev Lt.env (T:Lt):Nat→Way:=envOf (T.le (.once 1 .through))
theorem env_eo {T:Lt} (hN:T.lbs.Nodup) (hs:T.sf):T.eo T.env (.once 1 .through):=eo_of _ T _ hs (fun x hx=>envOf_mem _ ((le_sub T _).nodup hN) x hx)
theorem le_sum_mem {x:Nat}:∀ {L:List Nat},x ∈ L→x≤L.sum:=by
 intro L
 induction L with
 | nil=>intro h;cases h
 | cons y L ih =>
  intro h
  simp only [List.mem_cons] at h
  simp only [List.sum_cons]
  rcases h with rfl | h
  ·omega
  ·have:=ih h;omega
end Go.Proofs.YtacaanhnlfpbhaaGreat
