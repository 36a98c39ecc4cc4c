/- HELPERS: texts of ours put together. -/
import Derived.Test.YtacaanhnlfpbhaaGreatK05
import Derived.Test.YtacaanhnlfpbhaaGreatK03
import Derived.Test.YtacaanhnlfpbhaaGreatK04
import Derived.Test.YtacaanhnlfpbhaaGreatK32
namespace Go.Proofs.YtacaanhnlfpbhaaGreat
open Go.RowKit
set_option linter.unusedVariables false
set_option linter.unusedSimpArgs false
abbrev BNo (w:World) (b:Nat) (N:Nv):Prop:=w.heap[b]? = some (.cells #[.int .i64 N.k,.slice N.r1 N.r2 N.r3,.int .i64 N.a2,.slice N.s1 N.s2 N.s3,.int .i64 N.a4,.int .i64 N.a5,.bool N.a6,.int .i64 N.a7,.string N.a8] 25 (0,0))
theorem fine_kind0 {k:Int} {R:List (Int × Int)} {a:Int} {n:Nat} {mn mx:Int} {lz:Bool} {ix:Int} {nm:ByteArray} (h:nodeB k R a n mn mx lz ix nm = true) :
  ((k = 1 ∨ k = 2 ∨ k = 3) ∧ n = 0 ∧ R.length ≤ 5000) ∨ ((k = 4 ∨ k = 5) ∧ 2 ≤ n) ∨ (k = 6 ∧ n = 1 ∧ 0 ≤ mn ∧ mn ≤ 1000 ∧ (mx = -1 ∨ mn ≤ mx ∧ mx ≤ 1000)) ∨ (k = 7 ∧ n = 1 ∧ 1 ≤ ix ∧ ix ≤ 500):=by
 have hk:k = 1 ∨ k = 2 ∨ k = 3 ∨ k = 4 ∨ k = 5 ∨ k = 6 ∨ k = 7:=(fine_node h).kind
 rcases hk with rfl | rfl | rfl | rfl | rfl | rfl | rfl
 ·simp [nodeB,bareB] at h;left;refine ⟨by omega,by omega,?_⟩;have:=h.1;simp [h]
 ·simp [nodeB,bareB] at h;left;exact ⟨by omega,by omega,rightB_len h.1⟩
 ·simp [nodeB,bareB] at h;left;refine ⟨by omega,by omega,?_⟩;simp [h]
 ·simp [nodeB,bareB] at h;right;left;exact ⟨by omega,by omega⟩
 ·simp [nodeB,bareB] at h;right;left;exact ⟨by omega,by omega⟩
 ·simp [nodeB,bareB] at h;right;right;left;exact ⟨rfl,by omega,by omega,by omega,by omega⟩
 ·simp [nodeB,bareB] at h;right;right;right;exact ⟨rfl,by omega,by omega,by omega⟩
mutual
def Tn.len:Tn → Nat
 | .mk k _ _ s mn mx _ _ _ => if k = 2 ∨ k = 3 then 1 else if k = 7 then lenL s + 2 else if k = 4 then lenL s else if k = 5 then lenL s + 2 * (s.length - 1) else if k = 6 then (if mn = 1 ∨ mx = 1 then lenL s + 1 else lenL s + 2) else 0
def lenL:List Tn → Nat
 | [] => 0
 | t :: ts => t.len + lenL ts
end
def forkI (round past:Nat) (lz:Bool):In:=if lz then ⟨2,(past:Int),(round:Int),0,[]⟩ else ⟨2,(round:Int),(past:Int),0,[]⟩
mutual
def Tn.lay:Tn → Nat → List In
 | .mk k R a s mn mx lz ix nm,n =>
  if k = 2 then (if R.length = 0 then [⟨6,0,0,0,[]⟩] else [⟨1,((n + 1:Nat):Int),0,0,R⟩])
  else if k = 3 then [⟨4,((n + 1:Nat):Int),0,a,[]⟩]
  else if k = 7 then ⟨3,((n + 1:Nat):Int),0,2 * ix,[]⟩ :: (layL s (n + 1) ++ [⟨3,((n + 1 + lenL s + 1:Nat):Int),0,2 * ix + 1,[]⟩])
  else if k = 4 then layL s n
  else if k = 5 then layA s n ((n + (lenL s + 2 * (s.length - 1)):Nat):Int)
  else if k = 6 then
   if mn = 1 then layL s n ++ [forkI n (n + lenL s + 1) lz]
   else if mx = 1 then forkI (n + 1) (n + 1 + lenL s) lz :: layL s (n + 1)
   else forkI (n + 1) (n + 1 + lenL s + 1) lz :: (layL s (n + 1) ++ [⟨7,(n:Int),0,0,[]⟩])
  else []
def layL:List Tn → Nat → List In
 | [],_ => []
 | t :: ts,n => t.lay n ++ layL ts (n + t.len)
def layA:List Tn → Nat → Int → List In
 | [],_,_ => []
 | [t],n,_ => t.lay n
 | t :: u :: ts,n,f => ⟨2,((n + 1:Nat):Int),((n + t.len + 2:Nat):Int),0,[]⟩ :: (t.lay (n + 1) ++ ⟨7,f,0,0,[]⟩ :: layA (u :: ts) (n + t.len + 2) f)
end
mutual
theorem lay_len:∀ (t:Tn) (n:Nat),(t.lay n).length = t.len
 | .mk k R a s mn mx lz ix nm,n => by
  have h1:=layL_len s
  have h2:=layA_len s
  by_cases k2:k = 2
  ·subst k2;simp [Tn.lay,Tn.len];split <;> rfl
  by_cases k3:k = 3
  ·subst k3;simp [Tn.lay,Tn.len]
  by_cases k7:k = 7
  ·subst k7;simp [Tn.lay,Tn.len,h1]
  by_cases k4:k = 4
  ·subst k4;simp [Tn.lay,Tn.len,h1]
  by_cases k5:k = 5
  ·subst k5;simp [Tn.lay,Tn.len,h2]
  by_cases k6:k = 6
  ·subst k6
   by_cases m1:mn = 1
   ·simp [Tn.lay,Tn.len,h1,m1]
   by_cases x1:mx = 1
   ·simp [Tn.lay,Tn.len,h1,m1,x1]
   simp [Tn.lay,Tn.len,h1,m1,x1]
  simp [Tn.lay,Tn.len,k2,k3,k4,k5,k6,k7]
theorem layL_len:∀ (ts:List Tn) (n:Nat),(layL ts n).length = lenL ts
 | [],_ => rfl
 | t :: ts,n => by simp only [layL,lenL,List.length_append,lay_len t n,layL_len ts (n + t.len)]
theorem layA_len:∀ (ts:List Tn) (n:Nat) (f:Int),(layA ts n f).length = lenL ts + 2 * (ts.length - 1)
 | [],_,_ => rfl
 | [t],n,_ => by simp only [layA,lenL,lay_len t n,List.length_cons,List.length_nil];omega
 | t :: u :: ts,n,f => by
  have h:=layA_len (u :: ts) (n + t.len + 2) f
  simp only [layA,lenL,List.length_cons,List.length_append,lay_len t (n + 1),h]
  omega
end
theorem lenL_append (a b:List Tn):lenL (a ++ b) = lenL a + lenL b:=by
 induction a with
 | nil => simp [lenL]
 | cons t a ih => simp only [List.cons_append,lenL,ih];omega
theorem layL_append (a b:List Tn) (n:Nat):layL (a ++ b) n = layL a n ++ layL b (n + lenL a):=by
 induction a generalizing n with
 | nil => simp [layL,lenL]
 | cons t a ih => simp only [List.cons_append,layL,lenL,ih,List.append_assoc,Nat.add_assoc]
theorem lenL_rep (m:Nat) (l:List Tn):lenL (List.replicate m l).flatten = m * lenL l:=by
 induction m with
 | zero => simp [lenL]
 | succ m ih => rw [List.replicate_succ,List.flatten_cons,lenL_append,ih,Nat.add_mul];omega
mutual
def Tn.ln:Tn → Nat
 | .mk k _ _ s mn mx _ _ _ => if k = 2 ∨ k = 3 then 1 else if k = 7 then lnL s 0 + 2 else if k = 5 then lnL s 0 + 2 * (s.length - 1) else if k = 6 then (if mx ≠ -1 then mn.toNat * lnL s 0 + (mx - mn).toNat * (1 + lnL s 0) else if mn = 0 then lnL s 0 + 2 else mn.toNat * lnL s 0 + 1) else lnL s 0
def lnL:List Tn → Nat → Nat
 | [],a => a
 | t :: ts,a => lnL ts (min (a + t.ln) 20001)
end
mutual
def Tn.top:Tn → Int
 | .mk _ _ _ s _ _ _ ix _ => topL s ix
def topL:List Tn → Int → Int
 | [],a => a
 | t :: ts,a => topL ts (max a t.top)
end
theorem topL_ge:∀ (ts:List Tn) (a:Int),a ≤ topL ts a
 | [],a => Int.le_refl _
 | t :: ts,a => by have:=topL_ge ts (max a t.top);simp only [topL];omega
theorem fine_ix {k:Int} {R:List (Int × Int)} {a:Int} {n:Nat} {mn mx:Int} {lz:Bool} {ix:Int} {nm:ByteArray} (h:nodeB k R a n mn mx lz ix nm = true):0 ≤ ix ∧ ix ≤ 500:=by
 have hk:=fine_kind0 h
 have hk':k = 1 ∨ k = 2 ∨ k = 3 ∨ k = 4 ∨ k = 5 ∨ k = 6 ∨ k = 7:=by omega
 rcases hk' with rfl | rfl | rfl | rfl | rfl | rfl | rfl <;> simp [nodeB,bareB] at h <;> omega
mutual
theorem top_fine:∀ t:Tn,t.fine = true → 0 ≤ t.top ∧ t.top ≤ 500
 | .mk k R a s mn mx lz ix nm,h => by
  simp only [Tn.fine,Bool.and_eq_true] at h
  have h1:=fine_ix h.1
  simp only [Tn.top]
  exact topL_fine s h.2 ix h1
theorem topL_fine:∀ ts:List Tn,fineL ts = true → ∀ a:Int,0 ≤ a ∧ a ≤ 500 → 0 ≤ topL ts a ∧ topL ts a ≤ 500
 | [],_ => fun a h => h
 | t :: ts,h => fun a ha => by
  simp only [fineL,Bool.and_eq_true] at h
  have h1:=top_fine t h.1
  simp only [topL]
  exact topL_fine ts h.2 _ (by omega)
end
end Go.Proofs.YtacaanhnlfpbhaaGreat
namespace Go.Proofs.YtacaanhnlfpbhaaGreat
open Go.RowKit Go.Lk
set_option linter.unusedVariables false
set_option linter.unusedSimpArgs false
inductive Fct where
 | c (a a':Int)
 | l (b b':Nat)
 | x (m n0:Int) (d:Way)
 | xr (j n0:Int)
 | yr (b a:Int)
def Fct.lk:Fct → Option Int
 | .c a _ => some a
 | .x m _ _ => some m
 | _ => none
def Fct.rk:Fct → Option Int
 | .c _ a' => some a'
 | .xr j _ => some j
 | .yr b _ => some b
 | _ => none
structure OKf (lo hi:Int) (k k':Nat) (fs:List Fct):Prop where
 ln:(fs.filterMap Fct.lk).Nodup
 rn:(fs.filterMap Fct.rk).Nodup
 lr:∀ a ∈ fs.filterMap Fct.lk,lo < a ∧ a ≤ hi
 rr:∀ a ∈ fs.filterMap Fct.rk,(k:Int) ≤ a ∧ a < (k':Int)
theorem OKf.nil (lo hi:Int) (k k':Nat):OKf lo hi k k' []:=⟨List.nodup_nil,List.nodup_nil,fun a h => (by cases h),fun a h => (by cases h)⟩
theorem OKf.app {a b c d lo hi:Int} {k k' m m' K K':Nat} {f1 f2:List Fct} (h1:OKf a b k k' f1) (h2:OKf c d m m' f2) (hl:b ≤ c ∨ d ≤ a) (hr:k' ≤ m ∨ m' ≤ k) (l1:lo ≤ a) (l2:b ≤ hi) (l3:lo ≤ c) (l4:d ≤ hi) (r1:K ≤ k) (r2:k' ≤ K') (r3:K ≤ m) (r4:m' ≤ K'):OKf lo hi K K' (f1 ++ f2):=by
 refine ⟨?_,?_,fun x hx => ?_,fun x hx => ?_⟩
 ·rw [List.filterMap_append,List.nodup_append]
  refine ⟨h1.ln,h2.ln,fun x hx y hy e => ?_⟩
  have:=h1.lr x hx;have:=h2.lr y hy;omega
 ·rw [List.filterMap_append,List.nodup_append]
  refine ⟨h1.rn,h2.rn,fun x hx y hy e => ?_⟩
  have:=h1.rr x hx;have:=h2.rr y hy;omega
 ·rw [List.filterMap_append,List.mem_append] at hx
  rcases hx with hx | hx
  ·have:=h1.lr x hx;omega
  ·have:=h2.lr x hx;omega
 ·rw [List.filterMap_append,List.mem_append] at hx
  rcases hx with hx | hx
  ·have:=h1.rr x hx;omega
  ·have:=h2.rr x hx;omega
theorem OKf.c1 (n:Int) (k:Nat):OKf n (n + 1) k (k + 1) [.c (n + 1) k]:=⟨by simp [Fct.lk],by simp [Fct.rk],fun a h => (by simp [Fct.lk] at h;omega),fun a h => (by simp [Fct.rk] at h;omega)⟩
theorem OKf.x1 (n:Int) (k:Nat) (h:Int) (d:Way):OKf n (n + 1) k k [.x (n + 1) h d]:=⟨by simp [Fct.lk],List.nodup_nil,fun a h => (by simp [Fct.lk] at h;omega),fun a h => absurd h List.not_mem_nil⟩
theorem OKf.xr1 (n:Int) (k:Nat) (h:Int):OKf n n k (k + 1) [.xr k h]:=⟨List.nodup_nil,by simp [Fct.rk],fun a h => absurd h List.not_mem_nil,fun a h => (by simp [Fct.rk] at h;omega)⟩
theorem OKf.yr1 (n:Int) (k:Nat) (h:Int):OKf n n k (k + 1) [.yr k h]:=⟨List.nodup_nil,by simp [Fct.rk],fun a h => absurd h List.not_mem_nil,fun a h => (by simp [Fct.rk] at h;omega)⟩
theorem OKf.l1 (n:Int) (k:Nat) (b b':Nat):OKf n n k k [.l b b']:=⟨List.nodup_nil,List.nodup_nil,fun a h => absurd h List.not_mem_nil,fun a h => absurd h List.not_mem_nil⟩
def Mp.ok1 (G:Mp):Fct → Prop
 | .c a a' => G.C a a'
 | .l b b' => G.L b b'
 | .x m n0 d => G.X m n0 ∧ G.Bd m = d
 | .xr j n0 => G.Xr j n0
 | .yr b a => G.Yr b a
def SB (G:Mp) (E':Nat → Way) (W:Way) (k:Nat):Prop:=∀ D:List Int,(∀ j ∈ D,j < (k:Int)) → Sip G E' D W (E' k)
def Lk (E E':Nat → Way) (n:Int) (B:Way) (n':Int) (W:Way) (k k':Nat):Prop:=n ≤ n' ∧ ∀ h0,∃ fs h1,OKf n n' k k' fs ∧ ∀ G:Mp,(∀ f ∈ fs,G.ok1 f) → Hp G B h0 → SB G E' B k' → Hp G W h1 ∧ SB G E' W k ∧ ∀ b b',Fct.l b b' ∈ fs → Sip G E' [] (E b) (E' b')
def inW (i:Nat) (x:In):Way:=.once i (if x.op = 1 then .runeOf x.R (.again x.x.toNat) else if x.op = 2 then .inOrder [.again x.x.toNat,.again x.y.toNat] else if x.op = 3 then (if x.a ≤ 1 then .again x.x.toNat else .noted x.a.toNat (.again x.x.toNat)) else if x.op = 4 then .ifHolds x.a (.again x.x.toNat) else if x.op = 5 then .through else if x.op = 7 then .again x.x.toNat else .inOrder [])
def prW (I:List In) (i:Nat):Way:=inW i (I.getD i default)
def Ld (I:List In) (k:Nat) (l:List In):Prop:=∀ j,j < l.length → I.getD (k + j) default = l.getD j default
theorem Ld.cons {I:List In} {k:Nat} {x:In} {l:List In} (h:Ld I k (x :: l)):I.getD k default = x ∧ Ld I (k + 1) l:=by
 refine ⟨by have:=h 0 (by simp);simpa using this,fun j hj => ?_⟩
 have:=h (j + 1) (by simp;omega)
 rw [show k + 1 + j = k + (j + 1) by omega,this]
 simp
theorem Ld.app {I:List In} {k:Nat} {a b:List In} (h:Ld I k (a ++ b)):Ld I k a ∧ Ld I (k + a.length) b:=by
 refine ⟨fun j hj => ?_,fun j hj => ?_⟩
 ·rw [h j (by simp;omega)]
  simp [List.getD_eq_getElem?_getD,List.getElem?_append_left hj]
 ·have:=h (a.length + j) (by simp;omega)
  rw [show k + a.length + j = k + (a.length + j) by omega,this]
  simp [List.getD_eq_getElem?_getD,List.getElem?_append_right]
section
variable {I:List In} {E:Nat → Way} {G:Mp}
theorem SB.at {W:Way} {k:Nat} {E':Nat → Way} (h:SB G E' W k):Sip G E' [] W (.again k):=.jump (h [] (fun j hj => by cases hj))
theorem not_in {D:List Int} {k:Nat} (h:∀ j ∈ D,j < (k:Int)):(k:Int) ∉ D:=fun hk => by have:=h _ hk;omega
theorem low_cons {D:List Int} {k k':Nat} (h:∀ j ∈ D,j < (k:Int)) (hk:k < k'):∀ j ∈ (k:Int) :: D,j < (k':Int):=fun j hj => by
 rcases List.mem_cons.1 hj with rfl | hj
 ·omega
 ·have:=h j hj;omega
theorem SB.nop {W:Way} {j f:Nat} {h0:Int} (hi:prW I j = .once j (.again f)) (hX:G.Xr j h0) (hh:Hp G W h0) (hf:j < f) (h:SB G (prW I) W f):SB G (prW I) W j:=fun D hD => by
 rw [hi]
 exact .ahead hX hh (not_in hD) (.jump (h _ (low_cons hD hf)))
theorem Lk.seq {E':Nat → Way} {n n1 n2:Int} {B W V:Way} {k k1 k2:Nat} (h:Lk E E' n B n1 W k1 k2) (h':Lk E E' n1 W n2 V k k1) (hk:k ≤ k1) (hk2:k1 ≤ k2):Lk E E' n B n2 V k k2:=by
 refine ⟨by have:=h.1;have:=h'.1;omega,fun h0 => ?_⟩
 obtain ⟨f1,h1,o1,g1⟩:=h.2 h0
 obtain ⟨f2,h2,o2,g2⟩:=h'.2 h1
 have:=h.1
 have:=h'.1
 refine ⟨f1 ++ f2,h2,o1.app o2 (by omega) (by omega) (by omega) (by omega) (by omega) (by omega) (by omega) (by omega) (by omega) (by omega),fun G hG hh hS => ?_⟩
 obtain ⟨a1,a2,a3⟩:=g1 G (fun f hf => hG f (List.mem_append.2 (.inl hf))) hh hS
 obtain ⟨b1,b2,b3⟩:=g2 G (fun f hf => hG f (List.mem_append.2 (.inr hf))) a1 a2
 refine ⟨b1,b2,fun b b' hb => ?_⟩
 rcases List.mem_append.1 hb with hb | hb
 ·exact a3 b b' hb
 ·exact b3 b b' hb
theorem prW_at {k:Nat} {x:In} (h:I.getD k default = x):prW I k = inW k x:=by rw [prW,h]
theorem lk_empty {n:Int} {B:Way} {k:Nat}:Lk E (prW I) n B (n + 1) (.once (n + 1) B) k k:=
 ⟨by omega,fun h0 => ⟨[.x (n + 1) h0 B],h0,.x1 n k h0 B,fun G hG hh hS => by
  have hx:G.X (n + 1) h0 ∧ G.Bd (n + 1) = B:=hG (.x (n + 1) h0 B) (by simp)
  exact ⟨.more hx.1 hh,fun D hD => .core (.more hx.1 hx.2 hh (hS D hD)),fun b b' hb => (by simp at hb)⟩⟩⟩
theorem lk_one {n:Int} {B:Way} {d d':Way} {k:Nat} (hi:prW I k = .once k d') (hd:∀ G:Mp,SB G (prW I) B (k + 1) → Sip G (prW I) [] d d'):Lk E (prW I) n B (n + 1) (.once (n + 1) d) k (k + 1):=
 ⟨by omega,fun h0 => ⟨[.c (n + 1) k],n + 1,.c1 n k,fun G hG hh hS => by
  have hx:G.C (n + 1) k:=hG (.c (n + 1) k) (by simp)
  exact ⟨.once hx,fun D hD => (by rw [hi];exact .core (.once hx (hd G hS))),fun b b' hb => (by simp at hb)⟩⟩⟩
theorem lk_grp {n n1:Int} {B W:Way} {k k1 i:Nat} (hk:k < k1) (h:Lk E (prW I) n (.noted (2 * i + 1) B) n1 W (k + 1) k1) (ha:prW I k = .once k (.noted (2 * i) (.again (k + 1)))) (hb:prW I k1 = .once k1 (.noted (2 * i + 1) (.again (k1 + 1)))):Lk E (prW I) n B (n1 + 1) (.once (n1 + 1) (.noted (2 * i) W)) k (k1 + 1):=by
 have hl:=h.1
 refine ⟨by omega,fun h0 => ?_⟩
 obtain ⟨f1,h1,o1,g1⟩:=h.2 h0
 have o2:=((OKf.c1 n1 k).app (lo:=n1) (hi:=n1 + 1) (K:=k) (K':=k1 + 1) (OKf.xr1 n1 k1 h0) (by omega) (by omega) (by omega) (by omega) (by omega) (by omega) (by omega) (by omega) (by omega) (by omega))
 have o3:OKf n (n1 + 1) k (k1 + 1) (f1 ++ ([.c (n1 + 1) k] ++ [.xr k1 h0])):=by
  refine ⟨?_,?_,fun x hx => ?_,fun x hx => ?_⟩
  ·rw [List.filterMap_append,List.nodup_append]
   refine ⟨o1.ln,o2.ln,fun x hx y hy e => ?_⟩
   have:=o1.lr x hx;have:=o2.lr y hy;omega
  ·rw [List.filterMap_append,List.nodup_append]
   refine ⟨o1.rn,o2.rn,fun x hx y hy e => ?_⟩
   have:=o1.rr x hx
   simp [Fct.rk] at hy
   omega
  ·rw [List.filterMap_append,List.mem_append] at hx
   rcases hx with hx | hx
   ·have:=o1.lr x hx;omega
   ·have:=o2.lr x hx;omega
  ·rw [List.filterMap_append,List.mem_append] at hx
   rcases hx with hx | hx
   ·have:=o1.rr x hx;omega
   ·have:=o2.rr x hx;omega
 refine ⟨_,n1 + 1,o3,fun G hG hh hS => ?_⟩
 have hc:G.C (n1 + 1) k:=hG (.c (n1 + 1) k) (by simp)
 have hr:G.Xr k1 h0:=hG (.xr k1 h0) (by simp)
 obtain ⟨a1,a2,a3⟩:=g1 G (fun f hf => hG f (List.mem_append.2 (.inl hf))) (.noted hh) (fun D hD => by
  rw [hb]
  exact .ahead hr (.noted hh) (not_in hD) (.core (.noted (.jump (hS _ (low_cons hD (by omega)))))))
 refine ⟨.once hc,fun D hD => ?_,fun b b' hb => a3 b b' (by simpa using hb)⟩
 rw [ha]
 exact .core (.once hc (.core (.noted a2.at)))
theorem lk_quest {n n2:Int} {B W:Way} {k k2:Nat} {lz:Bool} (hk:k < k2) (h:Lk E (prW I) n B n2 W (k + 1) k2) (ha:prW I k = .once k (.inOrder (if lz = true then [.again k2,.again (k + 1)] else [.again (k + 1),.again k2]))):Lk E (prW I) n B (n2 + 1) (.once (n2 + 1) (.inOrder (if lz = true then [B,W] else [W,B]))) k k2:=by
 have hl:=h.1
 refine ⟨by omega,fun h0 => ?_⟩
 obtain ⟨f1,h1,o1,g1⟩:=h.2 h0
 refine ⟨f1 ++ [.c (n2 + 1) k],n2 + 1,o1.app (OKf.c1 n2 k) (by omega) (by omega) (by omega) (by omega) (by omega) (by omega) (by omega) (by omega) (by omega) (by omega),fun G hG hh hS => ?_⟩
 have hc:G.C (n2 + 1) k:=hG (.c (n2 + 1) k) (by simp)
 obtain ⟨a1,a2,a3⟩:=g1 G (fun f hf => hG f (List.mem_append.2 (.inl hf))) hh hS
 refine ⟨.once hc,fun D hD => ?_,fun b b' hb => a3 b b' (by simpa using hb)⟩
 rw [ha]
 refine .core (.onceA (M:=[]) hc ?_ (fun m hm => by cases hm) List.nodup_nil)
 cases lz
 ·exact .two a2.at hS.at
 ·exact .two hS.at a2.at
theorem dcd_sip {n:Int} {B:Way} {b k k1 k2:Nat} {lz:Bool} (hc:G.C (n + 1) k) (hL:G.L b k1) (hS:SB G (prW I) B k2) (ha:prW I k = .once k (.inOrder (if lz = true then [.again k2,.again k1] else [.again k1,.again k2]))) (D:List Int):Sip G (prW I) D (Dcd lz n b B) (prW I k):=by
 rw [ha]
 refine .core (.onceA (M:=[]) hc ?_ (fun m hm => by cases hm) List.nodup_nil)
 cases lz
 ·exact .two (.core (.again hL)) hS.at
 ·exact .two hS.at (.core (.again hL))
theorem lk_star {n n2:Int} {B:Way} {b k j:Nat} {lz:Bool} (hk:k < j) (h:Lk E (prW I) (n + 1) (Dcd lz n b B) n2 (E b) (k + 1) j) (ha:prW I k = .once k (.inOrder (if lz = true then [.again (j + 1),.again (k + 1)] else [.again (k + 1),.again (j + 1)]))) (hb:prW I j = .once j (.again k)):Lk E (prW I) n B n2 (Dcd lz n b B) k (j + 1):=by
 have hl:=h.1
 refine ⟨by omega,fun h0 => ?_⟩
 obtain ⟨f1,h1,o1,g1⟩:=h.2 (n + 1)
 have o2:=(OKf.l1 n k b (k + 1)).app (lo:=n) (hi:=n + 1) (K:=k) (K':=k + 1) (OKf.c1 n k) (by omega) (by omega) (by omega) (by omega) (by omega) (by omega) (by omega) (by omega) (by omega) (by omega)
 have o3:=o2.app (lo:=n) (hi:=n2) (K:=k) (K':=j) o1 (by omega) (by omega) (by omega) (by omega) (by omega) (by omega) (by omega) (by omega) (by omega) (by omega)
 have o4:=o3.app (lo:=n) (hi:=n2) (K:=k) (K':=j + 1) (OKf.xr1 n2 j (n + 1)) (by omega) (by omega) (by omega) (by omega) (by omega) (by omega) (by omega) (by omega) (by omega) (by omega)
 refine ⟨_,n + 1,o4,fun G hG hh hS => ?_⟩
 have hc:G.C (n + 1) k:=hG (.c (n + 1) k) (by simp)
 have hL:G.L b (k + 1):=hG (.l b (k + 1)) (by simp)
 have hr:G.Xr j (n + 1):=hG (.xr j (n + 1)) (by simp)
 have hD:=dcd_sip (D:=[]) hc hL hS ha
 obtain ⟨a1,a2,a3⟩:=g1 G (fun f hf => hG f (by simp [hf])) (.once hc) (fun D hD => by
  rw [hb]
  exact .ahead hr (.once hc) (not_in hD) (.jump (dcd_sip hc hL hS ha _)))
 refine ⟨.once hc,fun D _ => dcd_sip hc hL hS ha D,fun x x' hx => ?_⟩
 simp at hx
 rcases hx with ⟨rfl,rfl⟩ | hx
 ·exact a2 [] (fun j hj => by cases hj)
 ·exact a3 x x' hx
theorem lk_plus {n n2:Int} {B:Way} {b k q:Nat} {lz:Bool} (hk:k ≤ q) (h:Lk E (prW I) (n + 1) (Dcd lz n b B) n2 (E b) k q) (ha:prW I q = .once q (.inOrder (if lz = true then [.again (q + 1),.again k] else [.again k,.again (q + 1)]))):Lk E (prW I) n B n2 (E b) k (q + 1):=by
 have hl:=h.1
 refine ⟨by omega,fun h0 => ?_⟩
 obtain ⟨f1,h1,o1,g1⟩:=h.2 (n + 1)
 have o2:=(OKf.l1 n q b k).app (lo:=n) (hi:=n + 1) (K:=q) (K':=q + 1) (OKf.c1 n q) (by omega) (by omega) (by omega) (by omega) (by omega) (by omega) (by omega) (by omega) (by omega) (by omega)
 have o3:=o2.app (lo:=n) (hi:=n2) (K:=k) (K':=q + 1) o1 (by omega) (by omega) (by omega) (by omega) (by omega) (by omega) (by omega) (by omega) (by omega) (by omega)
 refine ⟨_,h1,o3,fun G hG hh hS => ?_⟩
 have hc:G.C (n + 1) q:=hG (.c (n + 1) q) (by simp)
 have hL:G.L b k:=hG (.l b k) (by simp)
 obtain ⟨a1,a2,a3⟩:=g1 G (fun f hf => hG f (by simp [hf])) (.once hc) (fun D _ => dcd_sip hc hL hS ha D)
 refine ⟨a1,a2,fun x x' hx => ?_⟩
 simp at hx
 rcases hx with ⟨rfl,rfl⟩ | hx
 ·exact a2 [] (fun j hj => by cases hj)
 ·exact a3 x x' hx
end
end Go.Proofs.YtacaanhnlfpbhaaGreat
