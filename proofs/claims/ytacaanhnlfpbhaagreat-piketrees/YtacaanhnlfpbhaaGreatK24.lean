/- HELPERS: texts of ours put together. -/
import Derived.Test.YtacaanhnlfpbhaaGreatK23
import Derived.Test.YtacaanhnlfpbhaaGreatK21
namespace Go.Proofs.YtacaanhnlfpbhaaGreat
open Go.RowKit Go.Lk
set_option linter.unusedVariables false
set_option linter.unusedSimpArgs false
inductive Fct where
 | c (a a':Int)
 | l (b b':Nat)
 | x (m n0:Int) (d:Way)
 | xr (j n0:Int)
 | yr (b a:Int)
def Fct.lk:Fct→Option Int
 | .c a _=>some a
 | .x m _ _=>some m
 | _=>none
def Fct.rk:Fct→Option Int
 | .c _ a'=>some a'
 | .xr j _=>some j
 | .yr b _=>some b
 | _=>none
structure OKf (lo hi:Int) (k k':Nat) (fs:List Fct):Prop where
 ln:(fs.filterMap Fct.lk).Nodup
 rn:(fs.filterMap Fct.rk).Nodup
 lr:∀ a ∈ fs.filterMap Fct.lk,lo < a∧a≤hi
 rr:∀ a ∈ fs.filterMap Fct.rk,(k:Int)≤a∧a < (k':Int)
theorem OKf.nil (lo hi:Int) (k k':Nat):OKf lo hi k k' []:=⟨List.nodup_nil,List.nodup_nil,fun a h=>(by cases h),fun a h=>(by cases h)⟩
theorem OKf.app {a b c d lo hi:Int} {k k' m m' K K':Nat} {f1 f2:List Fct} (h1:OKf a b k k' f1) (h2:OKf c d m m' f2) (hl:b≤c∨d≤a) (hr:k'≤m∨m'≤k) (l1:lo≤a) (l2:b≤hi) (l3:lo≤c) (l4:d≤hi) (r1:K≤k) (r2:k'≤K') (r3:K≤m) (r4:m'≤K'):OKf lo hi K K' (f1 ++ f2):=by
 refine ⟨?_,?_,fun x hx=>?_,fun x hx=>?_⟩
 ·rw [List.filterMap_append,List.nodup_append]
  refine ⟨h1.ln,h2.ln,fun x hx y hy e=>?_⟩
  have:=h1.lr x hx;have:=h2.lr y hy;omega
 ·rw [List.filterMap_append,List.nodup_append]
  refine ⟨h1.rn,h2.rn,fun x hx y hy e=>?_⟩
  have:=h1.rr x hx;have:=h2.rr y hy;omega
 ·rw [List.filterMap_append,List.mem_append] at hx
  rcases hx with hx | hx
  ·have:=h1.lr x hx;omega
  ·have:=h2.lr x hx;omega
 ·rw [List.filterMap_append,List.mem_append] at hx
  rcases hx with hx | hx
  ·have:=h1.rr x hx;omega
  ·have:=h2.rr x hx;omega
theorem OKf.c1 (n:Int) (k:Nat):OKf n (n + 1) k (k + 1) [.c (n + 1) k]:=⟨by simp [Fct.lk],by simp [Fct.rk],fun a h=>(by simp [Fct.lk] at h;omega),fun a h=>(by simp [Fct.rk] at h;omega)⟩
theorem OKf.x1 (n:Int) (k:Nat) (h:Int) (d:Way):OKf n (n + 1) k k [.x (n + 1) h d]:=⟨by simp [Fct.lk],List.nodup_nil,fun a h=>(by simp [Fct.lk] at h;omega),fun a h=>absurd h List.not_mem_nil⟩
theorem OKf.xr1 (n:Int) (k:Nat) (h:Int):OKf n n k (k + 1) [.xr k h]:=⟨List.nodup_nil,by simp [Fct.rk],fun a h=>absurd h List.not_mem_nil,fun a h=>(by simp [Fct.rk] at h;omega)⟩
theorem OKf.yr1 (n:Int) (k:Nat) (h:Int):OKf n n k (k + 1) [.yr k h]:=⟨List.nodup_nil,by simp [Fct.rk],fun a h=>absurd h List.not_mem_nil,fun a h=>(by simp [Fct.rk] at h;omega)⟩
theorem OKf.l1 (n:Int) (k:Nat) (b b':Nat):OKf n n k k [.l b b']:=⟨List.nodup_nil,List.nodup_nil,fun a h=>absurd h List.not_mem_nil,fun a h=>absurd h List.not_mem_nil⟩
def Mp.ok1 (G:Mp):Fct→Prop
 | .c a a'=>G.C a a'
 | .l b b'=>G.L b b'
 | .x m n0 d=>G.X m n0∧G.Bd m=d
 | .xr j n0=>G.Xr j n0
 | .yr b a=>G.Yr b a
def SB (G:Mp) (E':Nat→Way) (W:Way) (k:Nat):Prop:=∀ D:List Int,(∀ j ∈ D,j < (k:Int))→Sip G E' D W (E' k)
def Lk (E E':Nat→Way) (n:Int) (B:Way) (n':Int) (W:Way) (k k':Nat):Prop:=n≤n'∧∀ h0,∃ fs h1,OKf n n' k k' fs∧∀ G:Mp,(∀ f ∈ fs,G.ok1 f)→Hp G B h0→SB G E' B k'→Hp G W h1∧SB G E' W k∧∀ b b',Fct.l b b' ∈ fs→Sip G E' [] (E b) (E' b')
def inW (i:Nat) (x:In):Way:=.once i (if x.op=1 then .runeOf x.R (.again x.x.toNat) else if x.op=2 then .inOrder [.again x.x.toNat,.again x.y.toNat] else if x.op=3 then (if x.a≤1 then .again x.x.toNat else .noted x.a.toNat (.again x.x.toNat)) else if x.op=4 then .ifHolds x.a (.again x.x.toNat) else if x.op=5 then .through else if x.op=7 then .again x.x.toNat else .inOrder [])
def prW (I:List In) (i:Nat):Way:=inW i (I.getD i default)
def Ld (I:List In) (k:Nat) (l:List In):Prop:=∀ j,j < l.length→I.getD (k + j) default=l.getD j default
theorem Ld.cons {I:List In} {k:Nat} {x:In} {l:List In} (h:Ld I k (x :: l)):I.getD k default=x∧Ld I (k + 1) l:=by
 refine ⟨by have:=h 0 (by simp);simpa using this,fun j hj=>?_⟩
 have:=h (j + 1) (by simp;omega)
 rw [show k + 1 + j=k + (j + 1) by omega,this]
 simp
theorem Ld.app {I:List In} {k:Nat} {a b:List In} (h:Ld I k (a ++ b)):Ld I k a∧Ld I (k + a.length) b:=by
 refine ⟨fun j hj=>?_,fun j hj=>?_⟩
 ·rw [h j (by simp;omega)]
  simp [List.getD_eq_getElem?_getD,List.getElem?_append_left hj]
 ·have:=h (a.length + j) (by simp;omega)
  rw [show k + a.length + j=k + (a.length + j) by omega,this]
  simp [List.getD_eq_getElem?_getD,List.getElem?_append_right]
section
variable {I:List In} {E:Nat→Way} {G:Mp}
theorem SB.at {W:Way} {k:Nat} {E':Nat→Way} (h:SB G E' W k):Sip G E' [] W (.again k):=.jump (h [] (fun j hj=>by cases hj))
theorem not_in {D:List Int} {k:Nat} (h:∀ j ∈ D,j < (k:Int)):(k:Int) ∉ D:=fun hk=>by have:=h _ hk;omega
theorem low_cons {D:List Int} {k k':Nat} (h:∀ j ∈ D,j < (k:Int)) (hk:k < k'):∀ j ∈ (k:Int) :: D,j < (k':Int):=fun j hj=>by
 rcases List.mem_cons.1 hj with rfl | hj
 ·omega
 ·have:=h j hj;omega
theorem SB.nop {W:Way} {j f:Nat} {h0:Int} (hi:prW I j=.once j (.again f)) (hX:G.Xr j h0) (hh:Hp G W h0) (hf:j < f) (h:SB G (prW I) W f):SB G (prW I) W j:=fun D hD=>by
 rw [hi]
 exact .ahead hX hh (not_in hD) (.jump (h _ (low_cons hD hf)))
theorem Lk.seq {E':Nat→Way} {n n1 n2:Int} {B W V:Way} {k k1 k2:Nat} (h:Lk E E' n B n1 W k1 k2) (h':Lk E E' n1 W n2 V k k1) (hk:k≤k1) (hk2:k1≤k2):Lk E E' n B n2 V k k2:=by
 refine ⟨by have:=h.1;have:=h'.1;omega,fun h0=>?_⟩
 obtain ⟨f1,h1,o1,g1⟩:=h.2 h0
 obtain ⟨f2,h2,o2,g2⟩:=h'.2 h1
 have:=h.1
 have:=h'.1
 refine ⟨f1 ++ f2,h2,o1.app o2 (by omega) (by omega) (by omega) (by omega) (by omega) (by omega) (by omega) (by omega) (by omega) (by omega),fun G hG hh hS=>?_⟩
 obtain ⟨a1,a2,a3⟩:=g1 G (fun f hf=>hG f (List.mem_append.2 (.inl hf))) hh hS
 obtain ⟨b1,b2,b3⟩:=g2 G (fun f hf=>hG f (List.mem_append.2 (.inr hf))) a1 a2
 refine ⟨b1,b2,fun b b' hb=>?_⟩
 rcases List.mem_append.1 hb with hb | hb
 ·exact a3 b b' hb
 ·exact b3 b b' hb
theorem prW_at {k:Nat} {x:In} (h:I.getD k default=x):prW I k=inW k x:=by rw [prW,h]
theorem lk_empty {n:Int} {B:Way} {k:Nat}:Lk E (prW I) n B (n + 1) (.once (n + 1) B) k k:=
 ⟨by omega,fun h0=>⟨[.x (n + 1) h0 B],h0,.x1 n k h0 B,fun G hG hh hS=>by
  have hx:G.X (n + 1) h0∧G.Bd (n + 1)=B:=hG (.x (n + 1) h0 B) (by simp)
  exact ⟨.more hx.1 hh,fun D hD=>.core (.more hx.1 hx.2 hh (hS D hD)),fun b b' hb=>(by simp at hb)⟩⟩⟩
theorem lk_one {n:Int} {B:Way} {d d':Way} {k:Nat} (hi:prW I k=.once k d') (hd:∀ G:Mp,SB G (prW I) B (k + 1)→Sip G (prW I) [] d d'):Lk E (prW I) n B (n + 1) (.once (n + 1) d) k (k + 1):=
 ⟨by omega,fun h0=>⟨[.c (n + 1) k],n + 1,.c1 n k,fun G hG hh hS=>by
  have hx:G.C (n + 1) k:=hG (.c (n + 1) k) (by simp)
  exact ⟨.once hx,fun D hD=>(by rw [hi];exact .core (.once hx (hd G hS))),fun b b' hb=>(by simp at hb)⟩⟩⟩
theorem lk_grp {n n1:Int} {B W:Way} {k k1 i:Nat} (hk:k < k1) (h:Lk E (prW I) n (.noted (2 * i + 1) B) n1 W (k + 1) k1) (ha:prW I k=.once k (.noted (2 * i) (.again (k + 1)))) (hb:prW I k1=.once k1 (.noted (2 * i + 1) (.again (k1 + 1)))):Lk E (prW I) n B (n1 + 1) (.once (n1 + 1) (.noted (2 * i) W)) k (k1 + 1):=by
 have hl:=h.1
 refine ⟨by omega,fun h0=>?_⟩
 obtain ⟨f1,h1,o1,g1⟩:=h.2 h0
 have o2:=((OKf.c1 n1 k).app (lo:=n1) (hi:=n1 + 1) (K:=k) (K':=k1 + 1) (OKf.xr1 n1 k1 h0) (by omega) (by omega) (by omega) (by omega) (by omega) (by omega) (by omega) (by omega) (by omega) (by omega))
 have o3:OKf n (n1 + 1) k (k1 + 1) (f1 ++ ([.c (n1 + 1) k] ++ [.xr k1 h0])):=by
  refine ⟨?_,?_,fun x hx=>?_,fun x hx=>?_⟩
  ·rw [List.filterMap_append,List.nodup_append]
   refine ⟨o1.ln,o2.ln,fun x hx y hy e=>?_⟩
   have:=o1.lr x hx;have:=o2.lr y hy;omega
  ·rw [List.filterMap_append,List.nodup_append]
   refine ⟨o1.rn,o2.rn,fun x hx y hy e=>?_⟩
   have:=o1.rr x hx
   simp [Fct.rk] at hy
   omega
  ·rw [List.filterMap_append,List.mem_append] at hx
   rcases hx with hx | hx
   ·have:=o1.lr x hx;omega
   ·have:=o2.lr x hx;omega
  ·rw [List.filterMap_append,List.mem_append] at hx
   rcases hx with hx | hx
   ·have:=o1.rr x hx;omega
   ·have:=o2.rr x hx;omega
 refine ⟨_,n1 + 1,o3,fun G hG hh hS=>?_⟩
 have hc:G.C (n1 + 1) k:=hG (.c (n1 + 1) k) (by simp)
 have hr:G.Xr k1 h0:=hG (.xr k1 h0) (by simp)
 obtain ⟨a1,a2,a3⟩:=g1 G (fun f hf=>hG f (List.mem_append.2 (.inl hf))) (.noted hh) (fun D hD=>by
  rw [hb]
  exact .ahead hr (.noted hh) (not_in hD) (.core (.noted (.jump (hS _ (low_cons hD (by omega)))))))
 refine ⟨.once hc,fun D hD=>?_,fun b b' hb=>a3 b b' (by simpa using hb)⟩
 rw [ha]
 exact .core (.once hc (.core (.noted a2.at)))
theorem lk_quest {n n2:Int} {B W:Way} {k k2:Nat} {lz:Bool} (hk:k < k2) (h:Lk E (prW I) n B n2 W (k + 1) k2) (ha:prW I k=.once k (.inOrder (if lz=true then [.again k2,.again (k + 1)] else [.again (k + 1),.again k2]))):Lk E (prW I) n B (n2 + 1) (.once (n2 + 1) (.inOrder (if lz=true then [B,W] else [W,B]))) k k2:=by
 have hl:=h.1
 refine ⟨by omega,fun h0=>?_⟩
 obtain ⟨f1,h1,o1,g1⟩:=h.2 h0
 refine ⟨f1 ++ [.c (n2 + 1) k],n2 + 1,o1.app (OKf.c1 n2 k) (by omega) (by omega) (by omega) (by omega) (by omega) (by omega) (by omega) (by omega) (by omega) (by omega),fun G hG hh hS=>?_⟩
 have hc:G.C (n2 + 1) k:=hG (.c (n2 + 1) k) (by simp)
 obtain ⟨a1,a2,a3⟩:=g1 G (fun f hf=>hG f (List.mem_append.2 (.inl hf))) hh hS
 refine ⟨.once hc,fun D hD=>?_,fun b b' hb=>a3 b b' (by simpa using hb)⟩
 rw [ha]
 refine .core (.onceA (M:=[]) hc ?_ (fun m hm=>by cases hm) List.nodup_nil)
 cases lz
 ·exact .two a2.at hS.at
 ·exact .two hS.at a2.at
theorem dcd_sip {n:Int} {B:Way} {b k k1 k2:Nat} {lz:Bool} (hc:G.C (n + 1) k) (hL:G.L b k1) (hS:SB G (prW I) B k2) (ha:prW I k=.once k (.inOrder (if lz=true then [.again k2,.again k1] else [.again k1,.again k2]))) (D:List Int):Sip G (prW I) D (Dcd lz n b B) (prW I k):=by
 rw [ha]
 refine .core (.onceA (M:=[]) hc ?_ (fun m hm=>by cases hm) List.nodup_nil)
 cases lz
 ·exact .two (.core (.again hL)) hS.at
 ·exact .two hS.at (.core (.again hL))
theorem lk_star {n n2:Int} {B:Way} {b k j:Nat} {lz:Bool} (hk:k < j) (h:Lk E (prW I) (n + 1) (Dcd lz n b B) n2 (E b) (k + 1) j) (ha:prW I k=.once k (.inOrder (if lz=true then [.again (j + 1),.again (k + 1)] else [.again (k + 1),.again (j + 1)]))) (hb:prW I j=.once j (.again k)):Lk E (prW I) n B n2 (Dcd lz n b B) k (j + 1):=by
 have hl:=h.1
 refine ⟨by omega,fun h0=>?_⟩
 obtain ⟨f1,h1,o1,g1⟩:=h.2 (n + 1)
 have o2:=(OKf.l1 n k b (k + 1)).app (lo:=n) (hi:=n + 1) (K:=k) (K':=k + 1) (OKf.c1 n k) (by omega) (by omega) (by omega) (by omega) (by omega) (by omega) (by omega) (by omega) (by omega) (by omega)
 have o3:=o2.app (lo:=n) (hi:=n2) (K:=k) (K':=j) o1 (by omega) (by omega) (by omega) (by omega) (by omega) (by omega) (by omega) (by omega) (by omega) (by omega)
 have o4:=o3.app (lo:=n) (hi:=n2) (K:=k) (K':=j + 1) (OKf.xr1 n2 j (n + 1)) (by omega) (by omega) (by omega) (by omega) (by omega) (by omega) (by omega) (by omega) (by omega) (by omega)
 refine ⟨_,n + 1,o4,fun G hG hh hS=>?_⟩
 have hc:G.C (n + 1) k:=hG (.c (n + 1) k) (by simp)
 have hL:G.L b (k + 1):=hG (.l b (k + 1)) (by simp)
 have hr:G.Xr j (n + 1):=hG (.xr j (n + 1)) (by simp)
 have hD:=dcd_sip (D:=[]) hc hL hS ha
 obtain ⟨a1,a2,a3⟩:=g1 G (fun f hf=>hG f (by simp [hf])) (.once hc) (fun D hD=>by
  rw [hb]
  exact .ahead hr (.once hc) (not_in hD) (.jump (dcd_sip hc hL hS ha _)))
 refine ⟨.once hc,fun D _=>dcd_sip hc hL hS ha D,fun x x' hx=>?_⟩
 simp at hx
 rcases hx with ⟨rfl,rfl⟩ | hx
 ·exact a2 [] (fun j hj=>by cases hj)
 ·exact a3 x x' hx
theorem lk_plus {n n2:Int} {B:Way} {b k q:Nat} {lz:Bool} (hk:k≤q) (h:Lk E (prW I) (n + 1) (Dcd lz n b B) n2 (E b) k q) (ha:prW I q=.once q (.inOrder (if lz=true then [.again (q + 1),.again k] else [.again k,.again (q + 1)]))):Lk E (prW I) n B n2 (E b) k (q + 1):=by
 have hl:=h.1
 refine ⟨by omega,fun h0=>?_⟩
 obtain ⟨f1,h1,o1,g1⟩:=h.2 (n + 1)
 have o2:=(OKf.l1 n q b k).app (lo:=n) (hi:=n + 1) (K:=q) (K':=q + 1) (OKf.c1 n q) (by omega) (by omega) (by omega) (by omega) (by omega) (by omega) (by omega) (by omega) (by omega) (by omega)
 have o3:=o2.app (lo:=n) (hi:=n2) (K:=k) (K':=q + 1) o1 (by omega) (by omega) (by omega) (by omega) (by omega) (by omega) (by omega) (by omega) (by omega) (by omega)
 refine ⟨_,h1,o3,fun G hG hh hS=>?_⟩
 have hc:G.C (n + 1) q:=hG (.c (n + 1) q) (by simp)
 have hL:G.L b k:=hG (.l b k) (by simp)
 obtain ⟨a1,a2,a3⟩:=g1 G (fun f hf=>hG f (by simp [hf])) (.once hc) (fun D _=>dcd_sip hc hL hS ha D)
 refine ⟨a1,a2,fun x x' hx=>?_⟩
 simp at hx
 rcases hx with ⟨rfl,rfl⟩ | hx
 ·exact a2 [] (fun j hj=>by cases hj)
 ·exact a3 x x' hx
end
theorem grp_ix {ix:Int} {nm:ByteArray} (h:nodeB 7 [] 0 1 0 0 false ix nm=true):1≤ix:=by
 have:=fine_kind0 h
 omega
section
variable {I:List In} {E:Nat→Way} {G:Mp}
theorem Beg.all_empty {R:List (Int × Int)} {a mn mx ix:Int} {lz:Bool} {nm:ByteArray} {n n':Int} {B W:Way} {k:Nat} (h:Beg E (.mk 1 R a [] mn mx lz ix nm) n B n' W):Lk E (prW I) n B n' W k k:=by
 obtain ⟨rfl,rfl⟩:=h.empties
 exact lk_empty
theorem lk_class {R:List (Int × Int)} {a mn mx ix:Int} {lz:Bool} {nm:ByteArray} {n n':Int} {B W:Way} {k:Nat} (hl:Ld I k ((Tn.mk 2 R a [] mn mx lz ix nm).lay k)) (h:Beg E (.mk 2 R a [] mn mx lz ix nm) n B n' W):Lk E (prW I) n B n' W k (k + 1):=by
 obtain ⟨rfl,rfl⟩:=h.classes
 simp only [Tn.lay,if_true] at hl
 by_cases hR:R.length=0
 ·rw [if_pos hR] at hl
  have hi:=prW_at hl.cons.1
  simp [inW] at hi
  exact lk_one hi fun G hS=>.core (.none (List.length_eq_zero_iff.1 hR))
 ·rw [if_neg hR] at hl
  have hi:=prW_at hl.cons.1
  simp [inW] at hi
  refine lk_one hi fun G hS=>.core (.runeOf ?_)
  exact hS.at
theorem lk_assert {R:List (Int × Int)} {a mn mx ix:Int} {lz:Bool} {nm:ByteArray} {n n':Int} {B W:Way} {k:Nat} (hl:Ld I k ((Tn.mk 3 R a [] mn mx lz ix nm).lay k)) (h:Beg E (.mk 3 R a [] mn mx lz ix nm) n B n' W):Lk E (prW I) n B n' W k (k + 1):=by
 obtain ⟨rfl,rfl⟩:=h.asserts
 simp [Tn.lay] at hl
 have hi:=prW_at hl.cons.1
 simp [inW] at hi
 refine lk_one hi fun G hS=>.core (.ifHolds ?_)
 exact hS.at
theorem lk_cat:∀ (s:List Tn),(∀ u ∈ s,∀ {n n':Int} {B W:Way} {k:Nat},Ld I k (u.lay k)→Beg E u n B n' W→Lk E (prW I) n B n' W k (k + u.len))→∀ {n n':Int} {B W:Way} {k:Nat},Ld I k (layL s k)→BegC E s n B n' W→Lk E (prW I) n B n' W k (k + lenL s)
 | [],_,n,n',B,W,k,_,h=>by
  obtain ⟨rfl,rfl⟩:=h.none
  exact ⟨by omega,fun h0=>⟨[],h0,.nil _ _ _ _,fun G hG hh hS=>⟨hh,hS,fun b b' hb=>by cases hb⟩⟩⟩
 | t :: ts,ih,n,n',B,W,k,hl,h=>by
  obtain ⟨n1,W1,h1,h2⟩:=h.first
  simp only [layL] at hl
  obtain ⟨l1,l2⟩:=hl.app
  rw [lay_len] at l2
  have a1:=ih t (by simp) l1 h2
  have a2:=lk_cat ts (fun u hu=>ih u (by simp [hu])) l2 h1
  have:=a2.seq a1 (by omega) (by omega)
  simp only [lenL]
  rw [← Nat.add_assoc]
  exact this
theorem lk_jump {n n1:Int} {B W:Way} {k j f:Nat} (h:Lk E (prW I) n B n1 W k j) (hi:prW I j=.once j (.again f)) (hk:k≤j) (hf:j < f) (h0:Int):∃ fs h1,OKf n n1 k (j + 1) fs∧∀ G:Mp,(∀ f ∈ fs,G.ok1 f)→Hp G B h0→SB G (prW I) B f→Hp G W h1∧SB G (prW I) W k∧∀ b b',Fct.l b b' ∈ fs→Sip G (prW I) [] (E b) (prW I b'):=by
 have hl:=h.1
 obtain ⟨f1,h1,o1,g1⟩:=h.2 h0
 refine ⟨f1 ++ [.xr j h0],h1,o1.app (OKf.xr1 n1 j h0) (by omega) (by omega) (by omega) (by omega) (by omega) (by omega) (by omega) (by omega) (by omega) (by omega),fun G hG hh hS=>?_⟩
 have hr:G.Xr j h0:=hG (.xr j h0) (by simp)
 obtain ⟨a1,a2,a3⟩:=g1 G (fun f hf=>hG f (by simp [hf])) hh (hS.nop hi hr hh hf)
 exact ⟨a1,a2,fun b b' hb=>a3 b b' (by simpa using hb)⟩
theorem begA_two {t:Tn} {ts:List Tn} {n n2:Int} {B:Way} {Ws:List Way} (h:BegA E (t :: ts) n B n2 Ws):∃ n1 W Ws2,Ws=W :: Ws2∧Beg E t n B n1 W∧BegA E ts n1 B n2 Ws2:=by
 obtain ⟨n1,Ws1,Ws2,rfl,h1,h2⟩:=begA_app' (xs:=[t]) h
 obtain ⟨W,rfl,h3⟩:=begA_one h1
 exact ⟨n1,W,Ws2,rfl,h3,h2⟩
theorem lk_alts:∀ (s:List Tn),(∀ u ∈ s,∀ {n n':Int} {B W:Way} {k:Nat},Ld I k (u.lay k)→Beg E u n B n' W→Lk E (prW I) n B n' W k (k + u.len))→∀ {n n1:Int} {B:Way} {Ws:List Way} {k f:Nat},2≤s.length→f=k + (lenL s + 2 * (s.length - 1))→Ld I k (layA s k (f:Int))→BegA E s n B n1 Ws →
  n≤n1∧∃ d2,prW I k=.once k d2∧∀ (h0 a0:Int),∃ fs M,OKf n n1 (k + 1) f fs∧(∀ m ∈ M,(k:Int) < m∧Fct.yr m a0 ∈ fs)∧M.Nodup∧∀ G:Mp,(∀ f ∈ fs,G.ok1 f)→Hp G B h0→SB G (prW I) B f→Spa G (prW I) M Ws d2∧∀ b b',Fct.l b b' ∈ fs→Sip G (prW I) [] (E b) (prW I b')
 | [],_,_,_,_,_,_,_,h2,_,_,_=>by simp at h2
 | [t],_,_,_,_,_,_,_,h2,_,_,_=>by simp at h2
 | [t,u],ih,n,n1,B,Ws,k,f,_,hf,hl,h=>by
  obtain ⟨n2,W1,Ws2,rfl,h1,h3⟩:=begA_two h
  obtain ⟨W2,rfl,h4⟩:=begA_one h3
  simp only [layA] at hl
  simp only [lenL,List.length_cons,List.length_nil] at hf
  obtain ⟨l1,l2⟩:=hl.cons
  obtain ⟨l3,l4⟩:=l2.app
  rw [lay_len] at l4
  obtain ⟨l5,l6⟩:=l4.cons
  have i1:prW I k=.once k (.inOrder [.again (k + 1),.again (k + t.len + 2)]):=(prW_at l1).trans (by simp [inW];omega)
  have i2:=prW_at l5
  simp [inW] at i2
  have a1:=ih t (by simp) l3 h1
  have a2:=ih u (by simp) (k:=k + t.len + 2) (by rw [show k + 1 + t.len + 1=k + t.len + 2 by omega] at l6;exact l6) h4
  refine ⟨by have:=a1.1;have:=a2.1;omega,_,i1,fun h0 a0=>?_⟩
  obtain ⟨f1,g1,o1,q1⟩:=lk_jump a1 i2 (by omega) (by omega) h0
  obtain ⟨f2,g2,o2,q2⟩:=a2.2 h0
  have e1:=a1.1
  have e2:=a2.1
  refine ⟨f1 ++ f2,[],o1.app o2 (by omega) (by omega) (by omega) (by omega) (by omega) (by omega) (by omega) (by omega) (by omega) (by omega),fun m hm=>(by cases hm),List.nodup_nil,fun G hG hh hS=>?_⟩
  obtain ⟨b1,b2,b3⟩:=q1 G (fun f hf=>hG f (by simp [hf])) hh hS
  obtain ⟨c1,c2,c3⟩:=q2 G (fun f hf=>hG f (by simp [hf])) hh (by rw [show k + t.len + 2 + u.len=f by omega];exact hS)
  refine ⟨.two b2.at c2.at,fun b b' hb=>?_⟩
  rcases List.mem_append.1 hb with hb | hb
  ·exact b3 b b' hb
  ·exact c3 b b' hb
 | t :: u :: v :: ts,ih,n,n1,B,Ws,k,f,_,hf,hl,h=>by
  obtain ⟨n2,W1,Ws2,rfl,h1,h3⟩:=begA_two h
  rw [show layA (t :: u :: v :: ts) k (f:Int)=⟨2,((k + 1:Nat):Int),((k + t.len + 2:Nat):Int),0,[]⟩ :: (t.lay (k + 1) ++ ⟨7,f,0,0,[]⟩ :: layA (u :: v :: ts) (k + t.len + 2) f) from by simp only [layA]] at hl
  obtain ⟨l1,l2⟩:=hl.cons
  obtain ⟨l3,l4⟩:=l2.app
  rw [lay_len] at l4
  obtain ⟨l5,l6⟩:=l4.cons
  have i1:prW I k=.once k (.inOrder [.again (k + 1),.again (k + t.len + 2)]):=(prW_at l1).trans (by simp [inW];omega)
  have i2:=prW_at l5
  simp [inW] at i2
  have a1:=ih t (by simp) l3 h1
  have hf2:f=k + t.len + 2 + (lenL (u :: v :: ts) + 2 * ((u :: v :: ts).length - 1)):=by
   rw [hf];simp only [lenL,List.length_cons];omega
  obtain ⟨e2,d2,hd2,a2⟩:=lk_alts (u :: v :: ts) (fun x hx=>ih x (List.mem_cons_of_mem _ hx)) (n:=n2) (n1:=n1) (B:=B) (Ws:=Ws2) (k:=k + t.len + 2) (f:=f) (by simp) hf2 (by rw [show k + 1 + t.len + 1=k + t.len + 2 by omega] at l6;exact l6) h3
  have e1:=a1.1
  have hkf:k + t.len + 2≤f:=by omega
  have hkf2:k + t.len + 3≤f:=by
   rw [hf2];simp only [List.length_cons];omega
  refine ⟨by omega,_,i1,fun h0 a0=>?_⟩
  obtain ⟨f1,g1,o1,q1⟩:=lk_jump a1 i2 (by omega) (by omega) h0
  obtain ⟨f2,M,o2,y2,m2,q2⟩:=a2 h0 a0
  have o3:=(OKf.yr1 n2 (k + t.len + 2) a0).app (lo:=n2) (hi:=n1) (K:=k + t.len + 2) (K':=f) o2 (by omega) (by omega) (by omega) (by omega) (by omega) (by omega) (by omega) (by omega) (by omega) (by omega)
  refine ⟨f1 ++ ([.yr ((k + t.len + 2:Nat):Int) a0] ++ f2),((k + t.len + 2:Nat):Int) :: M,o1.app o3 (by omega) (by omega) (by omega) (by omega) (by omega) (by omega) (by omega) (by omega) (by omega) (by omega),fun m hm=>?_,List.nodup_cons.2 ⟨fun hm=>by have:=(y2 _ hm).1;omega,m2⟩,fun G hG hh hS=>?_⟩
  ·rcases List.mem_cons.1 hm with rfl | hm
   ·exact ⟨by omega,by simp⟩
   ·exact ⟨by have:=(y2 m hm).1;omega,by simp [(y2 m hm).2]⟩
  ·obtain ⟨b1,b2,b3⟩:=q1 G (fun f hf=>hG f (by simp [hf])) hh hS
   obtain ⟨c2,c3⟩:=q2 G (fun f hf=>hG f (by simp [hf])) hh hS
   refine ⟨.more b2.at hd2 c2,fun b b' hb=>?_⟩
   simp at hb
   rcases hb with hb | hb
   ·exact b3 b b' hb
   ·exact c3 b b' hb
theorem lk_alt {s:List Tn} (ih:∀ u ∈ s,∀ {n n':Int} {B W:Way} {k:Nat},Ld I k (u.lay k)→Beg E u n B n' W→Lk E (prW I) n B n' W k (k + u.len)) {n n1:Int} {B:Way} {Ws:List Way} {k f:Nat} (h2:2≤s.length) (hf:f=k + (lenL s + 2 * (s.length - 1))) (hl:Ld I k (layA s k (f:Int))) (h:BegA E s n B n1 Ws):Lk E (prW I) n B (n1 + 1) (.once (n1 + 1) (.inOrder Ws)) k f:=by
 obtain ⟨e1,d2,hd,a⟩:=lk_alts s ih h2 hf hl h
 refine ⟨by omega,fun h0=>?_⟩
 obtain ⟨fs,M,o,y,m,q⟩:=a h0 (k:Int)
 refine ⟨fs ++ [.c (n1 + 1) k],n1 + 1,o.app (OKf.c1 n1 k) (by omega) (by omega) (by omega) (by omega) (by omega) (by omega) (by omega) (by omega) (by omega) (by omega),fun G hG hh hS=>?_⟩
 have hc:G.C (n1 + 1) k:=hG (.c (n1 + 1) k) (by simp)
 obtain ⟨c2,c3⟩:=q G (fun f hf=>hG f (by simp [hf])) hh hS
 refine ⟨.once hc,fun D hD=>?_,fun b b' hb=>c3 b b' (by simpa using hb)⟩
 rw [hd]
 exact .core (.onceA hc c2 (fun x hx=>hG (.yr x k) (by simp [(y x hx).2])) m)
theorem fork_way {k r p:Nat} {lz:Bool} (h:I.getD k default=forkI r p lz):prW I k=.once k (.inOrder (if lz=true then [.again p,.again r] else [.again r,.again p])):=by
 have hi:=prW_at h
 cases lz <;> simpa [forkI,inW] using hi
theorem laid {t:Tn} (h:Nf t):∀ {n n':Int} {B W:Way} {k:Nat},Ld I k (t.lay k)→Beg E t n B n' W→Lk E (prW I) n B n' W k (k + t.len):=by
 induction h with
 | @leaf k R a mn mx lz ix nm hk hn =>
  intro n n' B W k hl hb
  rcases hk with rfl | rfl | rfl
  ·have e:(Tn.mk 1 R a [] mn mx lz ix nm).len=0:=by simp [Tn.len]
   rw [e]
   exact hb.all_empty
  ·have e:(Tn.mk 2 R a [] mn mx lz ix nm).len=1:=by simp [Tn.len]
   rw [e]
   exact lk_class hl hb
  ·have e:(Tn.mk 3 R a [] mn mx lz ix nm).len=1:=by simp [Tn.len]
   rw [e]
   exact lk_assert hl hb
 | @cat s h2 h hs ih =>
  intro n n' B W k hl hb
  have e:(zN 4 s).len=lenL s:=by simp [Tn.len]
  have e2:(zN 4 s).lay k=layL s k:=by simp [Tn.lay]
  rw [e]
  rw [e2] at hl
  exact lk_cat s (fun u hu {_ _ _ _ _}=>ih u hu) hl hb.cats
 | @alt s h2 h hs ih =>
  intro n n' B W k hl hb
  have e:(zN 5 s).len=lenL s + 2 * (s.length - 1):=by simp [Tn.len]
  have e2:(zN 5 s).lay k=layA s k ((k + (lenL s + 2 * (s.length - 1)):Nat):Int):=by simp [Tn.lay]
  rw [e]
  rw [e2] at hl
  obtain ⟨n1,Ws,rfl,rfl,h3⟩:=hb.alts
  exact lk_alt (fun u hu {_ _ _ _ _}=>ih u hu) h2 rfl hl h3
 | @loop mn mx lz y hm hy ih =>
  intro n n' B W k hl hb
  obtain ⟨t,ht,hc⟩:=hb.rep
  simp only [List.cons.injEq,and_true] at ht
  subst ht
  rcases hm with ⟨rfl,rfl⟩ | ⟨rfl,rfl⟩ | ⟨rfl,rfl⟩
  ·rcases hc with ⟨b,_,h,_⟩ | ⟨b,c,n2,_,h,_⟩ | ⟨c,m,n1,W1,e1,e2,hO,hT⟩
   ·omega
   ·omega
   ·obtain rfl:c=0:=by omega
    obtain rfl:m=1:=by omega
    obtain ⟨rfl,rfl⟩:=hT.none
    obtain ⟨n2,n3,W2,W3,rfl,rfl,hO2,h3⟩:=hO.next
    obtain ⟨rfl,rfl⟩:=hO2.none
    have e:(loopT 0 1 lz y).len=y.len + 1:=by simp [Tn.len,lenL]
    have el:(loopT 0 1 lz y).lay k=forkI (k + 1) (k + 1 + y.len) lz :: y.lay (k + 1):=by simp [Tn.lay,layL,lenL]
    rw [el] at hl
    obtain ⟨l1,l2⟩:=hl.cons
    rw [e,show k + (y.len + 1)=k + 1 + y.len by omega]
    exact lk_quest (by omega) (ih l2 h3) (fork_way l1)
  ·rcases hc with ⟨b,_,_,h3,rfl⟩ | ⟨b,c,n2,h,_⟩ | ⟨c,m,n1,W1,e1,e2,hO,hT⟩
   ·have e:(loopT 0 (-1) lz y).len=y.len + 2:=by simp [Tn.len,lenL]
    have el:(loopT 0 (-1) lz y).lay k=forkI (k + 1) (k + 1 + y.len + 1) lz :: (y.lay (k + 1) ++ [⟨7,(k:Int),0,0,[]⟩]):=by simp [Tn.lay,layL,lenL]
    rw [el] at hl
    obtain ⟨l1,l2⟩:=hl.cons
    obtain ⟨l3,l4⟩:=l2.app
    rw [lay_len] at l4
    have i2:=prW_at l4.cons.1
    simp [inW] at i2
    rw [e,show k + (y.len + 2)=k + 1 + y.len + 1 by omega]
    exact lk_star (by omega) (ih l3 h3) (fork_way l1) i2
   ·omega
   ·omega
  ·rcases hc with ⟨b,h,_⟩ | ⟨b,c,n2,e1,_,h3,hT⟩ | ⟨c,m,n1,W1,e1,e2,hO,hT⟩
   ·omega
   ·obtain rfl:c=0:=by omega
    obtain ⟨rfl,rfl⟩:=hT.none
    have e:(loopT 1 (-1) lz y).len=y.len + 1:=by simp [Tn.len,lenL]
    have el:(loopT 1 (-1) lz y).lay k=y.lay k ++ [forkI k (k + y.len + 1) lz]:=by simp [Tn.lay,layL,lenL]
    rw [el] at hl
    obtain ⟨l1,l2⟩:=hl.app
    rw [lay_len] at l2
    rw [e,show k + (y.len + 1)=k + y.len + 1 by omega]
    exact lk_plus (by omega) (ih l1 h3) (fork_way l2.cons.1)
   ·omega
 | @grp ix nm y hn hy ih =>
  intro n n' B W k hl hb
  have h1:=grp_ix hn
  obtain ⟨t,i,n1,W1,ht,rfl,rfl,rfl,h3⟩:=hb.group
  simp only [List.cons.injEq,and_true] at ht
  subst ht
  have e:(Tn.mk 7 [] 0 [y] 0 0 false (i:Int) nm).len=y.len + 2:=by simp [Tn.len,lenL]
  have el:(Tn.mk 7 [] 0 [y] 0 0 false (i:Int) nm).lay k=⟨3,((k + 1:Nat):Int),0,2 * (i:Int),[]⟩ :: (y.lay (k + 1) ++ [⟨3,((k + 1 + y.len + 1:Nat):Int),0,2 * (i:Int) + 1,[]⟩]):=by simp [Tn.lay,layL,lenL]
  rw [el] at hl
  obtain ⟨l1,l2⟩:=hl.cons
  obtain ⟨l3,l4⟩:=l2.app
  rw [lay_len] at l4
  have i1:=prW_at l1
  have i2:=prW_at l4.cons.1
  simp only [inW,if_true,show ¬ (3:Int)=1 by omega,show ¬ (3:Int)=2 by omega,if_false,if_neg (show ¬ 2 * (i:Int)≤1 by omega),if_neg (show ¬ 2 * (i:Int) + 1≤1 by omega),Int.toNat_natCast,show (2 * (i:Int)).toNat=2 * i by omega,show (2 * (i:Int) + 1).toNat=2 * i + 1 by omega] at i1 i2
  rw [e,show k + (y.len + 2)=k + 1 + y.len + 1 by omega]
  exact lk_grp (by omega) (ih l3 h3) i1 i2
end
theorem fm_one {φ:Fct→Option Int}:∀ {fs:List Fct},(fs.filterMap φ).Nodup→∀ {f g:Fct} {a:Int},f ∈ fs→g ∈ fs→φ f=some a→φ g=some a→f=g
 | [],_,f,g,a,hf,_,_,_=>by cases hf
 | x :: fs,hn,f,g,a,hf,hg,ef,eg=>by
  have tl:(fs.filterMap φ).Nodup:=by
   cases e:φ x with
   | none=>simpa [List.filterMap_cons,e] using hn
   | some y=>simp only [List.filterMap_cons,e,List.nodup_cons] at hn;exact hn.2
  have hd:∀ y,φ x=some y→∀ z ∈ fs,φ z≠some y:=fun y e z hz ez=>by
   simp only [List.filterMap_cons,e,List.nodup_cons] at hn
   exact hn.1 (List.mem_filterMap.2 ⟨z,hz,ez⟩)
  rcases List.mem_cons.1 hf with h1 | h1
  ·rcases List.mem_cons.1 hg with h2 | h2
   ·rw [h1,h2]
   ·exact absurd eg (hd a (by rw [← h1];exact ef) g h2)
  ·rcases List.mem_cons.1 hg with h2 | h2
   ·exact absurd ef (hd a (by rw [← h2];exact eg) f h1)
   ·exact fm_one tl h1 h2 ef eg
open Classical in
noncomputable def mpOf (fs:List Fct):Mp where
 C a a':=.c a a' ∈ fs
 L b b':=.l b b' ∈ fs
 X m n0:=∃ d,.x m n0 d ∈ fs
 Bd m:=if h:∃ d n0,Fct.x m n0 d ∈ fs then h.choose else .through
 Xr j n0:=.xr j n0 ∈ fs
 Yr b a:=.yr b a ∈ fs
theorem mpOf_ok1 {lo hi:Int} {k k':Nat} {fs:List Fct} (o:OKf lo hi k k' fs):∀ f ∈ fs,(mpOf fs).ok1 f:=fun f hf=>by
 cases f with
 | c a a'=>exact hf
 | l b b'=>exact hf
 | x m n0 d =>
  have h:∃ d n0,Fct.x m n0 d ∈ fs:=⟨d,n0,hf⟩
  refine ⟨⟨d,hf⟩,?_⟩
  have e:(mpOf fs).Bd m=h.choose:=dif_pos h
  rw [e]
  obtain ⟨n1,hc⟩:=h.choose_spec
  have:=fm_one o.ln hf hc (a:=m) rfl rfl
  simp only [Fct.x.injEq] at this
  exact this.2.2.symm
 | xr j n0=>exact hf
 | yr b a=>exact hf
theorem mpOf_ok {lo hi:Int} {k k':Nat} {fs:List Fct} {E E':Nat→Way} (o:OKf lo hi k k' fs) (hl:∀ b b',Fct.l b b' ∈ fs→Sip (mpOf fs) E' [] (E b) (E' b')):(mpOf fs).Ok E E' where
 one n n' m m' h1 h2:=by
  constructor
  ·rintro rfl
   have:=fm_one o.ln h1 h2 (a:=n) rfl rfl
   simp only [Fct.c.injEq] at this
   exact this.2
  ·rintro rfl
   have:=fm_one o.rn h1 h2 (a:=n') rfl rfl
   simp only [Fct.c.injEq] at this
   exact this.1
 noC m n0 n' h1 h2:=by
  obtain ⟨d,h1⟩:=h1
  have:=fm_one o.ln h1 h2 (a:=m) rfl rfl
  cases this
 oneX m n0 n1 h1 h2:=by
  obtain ⟨d,h1⟩:=h1
  obtain ⟨d2,h2⟩:=h2
  have:=fm_one o.ln h1 h2 (a:=m) rfl rfl
  simp only [Fct.x.injEq] at this
  exact this.2.1
 noCr j n0 n h1 h2:=by
  have:=fm_one o.rn h1 h2 (a:=j) rfl rfl
  cases this
 oneXr j n0 n1 h1 h2:=by
  have:=fm_one o.rn h1 h2 (a:=j) rfl rfl
  simp only [Fct.xr.injEq] at this
  exact this.2
 yC b a n h1 h2:=by
  have:=fm_one o.rn h1 h2 (a:=b) rfl rfl
  cases this
 yX b a n0 h1 h2:=by
  have:=fm_one o.rn h1 h2 (a:=b) rfl rfl
  cases this
 oneY b a a1 h1 h2:=by
  have:=fm_one o.rn h1 h2 (a:=b) rfl rfl
  simp only [Fct.yr.injEq] at this
  exact this.2
 loop b b' h:=hl b b' h
theorem prog_ways {I:List In} {E:Nat→Way} {u:Tn} {tx:List Int} {n1:Int} {W:Way} {p:Nat} {c:List Int} {s1:Sg} (hN:Nf u) (h0:I.getD 0 default=⟨3,1,0,0,[]⟩) (hL:Ld I 1 (u.lay 1)) (he:I.getD (u.len + 1) default=⟨3,((u.len + 2:Nat):Int),0,1,[]⟩) (hm:I.getD (u.len + 2) default=⟨5,0,0,0,[]⟩)
  (hb:Beg E u 1 (.once 1 .through) n1 W) (hx:Ex tx E W p ⟨[],c,[]⟩ s1):∃ s1',Ex tx (prW I) (prW I 0) p ⟨[],c,[]⟩ s1'∧s1'.parses=s1.parses:=by
 have hk:=laid hN hL hb
 have hl:=hk.1
 obtain ⟨f1,h1,o1,g1⟩:=hk.2 1
 have w0:prW I 0=.once ((0:Nat):Int) (.again 1):=by rw [prW_at h0];simp [inW]
 have w1:prW I (1 + u.len)=.once ((1 + u.len:Nat):Int) (.again (u.len + 2)):=by
  rw [show 1 + u.len=u.len + 1 by omega,prW_at he]
  simp only [inW,if_true,show ¬ (3:Int)=1 by omega,show ¬ (3:Int)=2 by omega,if_false,Int.le_refl,Int.toNat_natCast]
 have w2:prW I (u.len + 2)=.once ((u.len + 2:Nat):Int) .through:=by rw [prW_at hm];simp [inW]
 have oa:=(OKf.xr1 0 0 h1).app (lo:=0) (hi:=1) (K:=0) (K':=u.len + 3) (OKf.c1 0 (u.len + 2)) (by omega) (by omega) (by omega) (by omega) (by omega) (by omega) (by omega) (by omega) (by omega) (by omega)
 have ob:OKf 1 n1 1 (u.len + 2) (f1 ++ [.xr ((1 + u.len:Nat):Int) 1]):=o1.app (OKf.xr1 n1 (1 + u.len) 1) (by omega) (by omega) (by omega) (by omega) (by omega) (by omega) (by omega) (by omega) (by omega) (by omega)
 have oc:OKf 0 n1 0 (u.len + 3) (([.xr ((0:Nat):Int) h1] ++ [.c (0 + 1) ((u.len + 2:Nat):Int)]) ++ (f1 ++ [.xr ((1 + u.len:Nat):Int) 1])):=by
  refine ⟨?_,?_,fun x hx=>?_,fun x hx=>?_⟩
  ·rw [List.filterMap_append,List.nodup_append]
   refine ⟨oa.ln,ob.ln,fun x hx y hy e=>?_⟩
   have:=oa.lr x hx;have:=ob.lr y hy;omega
  ·rw [List.filterMap_append,List.nodup_append]
   refine ⟨oa.rn,ob.rn,fun x hx y hy e=>?_⟩
   have:=ob.rr y hy
   simp [Fct.rk] at hx
   omega
  ·rw [List.filterMap_append,List.mem_append] at hx
   rcases hx with hx | hx
   ·have:=oa.lr x hx;omega
   ·have:=ob.lr x hx;omega
  ·rw [List.filterMap_append,List.mem_append] at hx
   rcases hx with hx | hx
   ·have:=oa.rr x hx;omega
   ·have:=ob.rr x hx;omega
 generalize hfs:([.xr ((0:Nat):Int) h1] ++ [.c (0 + 1) ((u.len + 2:Nat):Int)]) ++ (f1 ++ [.xr ((1 + u.len:Nat):Int) 1])=fs at oc
 have hall:=mpOf_ok1 oc
 have m1:∀ f ∈ f1,f ∈ fs:=fun f hf=>by rw [← hfs];simp [hf]
 have hC:(mpOf fs).C 1 ((u.len + 2:Nat):Int):=by show Fct.c 1 _ ∈ fs;rw [← hfs];simp
 have hXe:(mpOf fs).Xr ((1 + u.len:Nat):Int) 1:=by show Fct.xr _ 1 ∈ fs;rw [← hfs];simp
 have hX0:(mpOf fs).Xr ((0:Nat):Int) h1:=by show Fct.xr _ h1 ∈ fs;rw [← hfs];simp
 obtain ⟨a1,a2,a3⟩:=g1 (mpOf fs) (fun f hf=>hall f (m1 f hf)) (.once hC) (fun D hD=>by
  rw [w1]
  refine .ahead hXe (.once hC) (not_in hD) (.jump ?_)
  rw [w2]
  exact .core (.once hC (.core .through)))
 have hok:(mpOf fs).Ok E (prW I):=mpOf_ok oc (fun b b' hb=>by
  rw [← hfs] at hb
  simp at hb
  exact a3 b b' hb)
 have hS:Sip (mpOf fs) (prW I) [] W (prW I 0):=by
  rw [w0]
  exact .ahead hX0 a1 (by simp) (.jump (a2 _ (fun j hj=>by simp at hj;omega)))
 have h3:=sp_ex (E':=prW I) hok hx
 obtain ⟨s1',x1,al,_⟩:=sp_ahead hok h3 hS ⟨[],c,[]⟩ NoP ⟨fun n n' q _=>by simp,fun m n0 q _ h=>(by cases h),fun j n0 q _ h=>(by cases h),fun b a q _ h=>(by cases h),rfl,rfl⟩ (Pep.no _ _) (fun j hj=>by cases hj)
 exact ⟨s1',x1,al.pr.symm⟩
end Go.Proofs.YtacaanhnlfpbhaaGreat
