/- HELPERS: texts of ours put together. -/
import Derived.Test.YtacaanhnlfpbhaaGreatK23
import Derived.Test.YtacaanhnlfpbhaaGreatK05
import Derived.Test.YtacaanhnlfpbhaaGreatK16
import Derived.Test.YtacaanhnlfpbhaaGreatK03
import Derived.WalkKit
import Derived.Laws.BitsLemmas
namespace Go.Proofs.YtacaanhnlfpbhaaGreat
open Go.RowKit
set_option linter.unusedVariables false
set_option linter.unusedSimpArgs false
mutual
def Way.ags:Way → List Nat
 | .through => []
 | .once _ d => d.ags
 | .noted _ d => d.ags
 | .runeOf _ d => d.ags
 | .ifHolds _ d => d.ags
 | .inOrder l => agsL l
 | .again b => [b]
def agsL:List Way → List Nat
 | [] => []
 | d :: l => d.ags ++ agsL l
end
theorem agsL_snoc (l:List Way) (d:Way):agsL (l ++ [d]) = agsL l ++ d.ags:=by
 induction l with
 | nil => simp [agsL]
 | cons e l ih => simp [agsL,ih]
mutual
inductive Beg (E:Nat → Way):Tn → Int → Way → Int → Way → Prop
 | empty {R:List (Int × Int)} {a:Int} {s:List Tn} {mn mx:Int} {lz:Bool} {ix:Int} {nm:ByteArray} {n:Int} {B:Way}:Beg E (.mk 1 R a s mn mx lz ix nm) n B (n + 1) (.once (n + 1) B)
 | cls {R:List (Int × Int)} {a:Int} {s:List Tn} {mn mx:Int} {lz:Bool} {ix:Int} {nm:ByteArray} {n:Int} {B:Way}:Beg E (.mk 2 R a s mn mx lz ix nm) n B (n + 1) (.once (n + 1) (.runeOf R B))
 | ast {R:List (Int × Int)} {a:Int} {s:List Tn} {mn mx:Int} {lz:Bool} {ix:Int} {nm:ByteArray} {n:Int} {B:Way}:Beg E (.mk 3 R a s mn mx lz ix nm) n B (n + 1) (.once (n + 1) (.ifHolds a B))
 | cat {R:List (Int × Int)} {a:Int} {s:List Tn} {mn mx:Int} {lz:Bool} {ix:Int} {nm:ByteArray} {n n':Int} {B W:Way} (h:BegC E s n B n' W):Beg E (.mk 4 R a s mn mx lz ix nm) n B n' W
 | alt {R:List (Int × Int)} {a:Int} {s:List Tn} {mn mx:Int} {lz:Bool} {ix:Int} {nm:ByteArray} {n n':Int} {B:Way} {Ws:List Way} (h:BegA E s n B n' Ws):Beg E (.mk 5 R a s mn mx lz ix nm) n B (n' + 1) (.once (n' + 1) (.inOrder Ws))
 | grp {R:List (Int × Int)} {a:Int} {t:Tn} {mn mx:Int} {lz:Bool} {i:Nat} {nm:ByteArray} {n n':Int} {B W:Way} (h:Beg E t n (.noted (2 * i + 1) B) n' W):Beg E (.mk 7 R a [t] mn mx lz (i:Int) nm) n B (n' + 1) (.once (n' + 1) (.noted (2 * i) W))
 | any0 {R:List (Int × Int)} {a:Int} {t:Tn} {lz:Bool} {ix:Int} {nm:ByteArray} {n n2:Int} {b:Nat} {B:Way} (h:Beg E t (n + 1) (Dcd lz n b B) n2 (E b)):Beg E (.mk 6 R a [t] 0 (-1) lz ix nm) n B n2 (Dcd lz n b B)
 | any {R:List (Int × Int)} {a:Int} {t:Tn} {c:Nat} {lz:Bool} {ix:Int} {nm:ByteArray} {n n2 n3:Int} {b:Nat} {B W3:Way} (h:Beg E t (n + 1) (Dcd lz n b B) n2 (E b)) (hT:BegT E t c n2 (E b) n3 W3):Beg E (.mk 6 R a [t] ((c:Int) + 1) (-1) lz ix nm) n B n3 W3
 | bnd {R:List (Int × Int)} {a:Int} {t:Tn} {c m:Nat} {lz:Bool} {ix:Int} {nm:ByteArray} {n n1 n2:Int} {B W1 W2:Way} (hO:BegO E t lz B m n n1 W1) (hT:BegT E t c n1 W1 n2 W2):Beg E (.mk 6 R a [t] (c:Int) ((c:Int) + (m:Int)) lz ix nm) n B n2 W2
inductive BegC (E:Nat → Way):List Tn → Int → Way → Int → Way → Prop
 | nil {n:Int} {B:Way}:BegC E [] n B n B
 | cons {t:Tn} {ts:List Tn} {n n1 n2:Int} {B W1 W2:Way} (h:BegC E ts n B n1 W1) (h2:Beg E t n1 W1 n2 W2):BegC E (t :: ts) n B n2 W2
inductive BegA (E:Nat → Way):List Tn → Int → Way → Int → List Way → Prop
 | nil {n:Int} {B:Way}:BegA E [] n B n []
 | snoc {t:Tn} {ts:List Tn} {n n1 n2:Int} {B W2:Way} {Ws:List Way} (h:BegA E ts n B n1 Ws) (h2:Beg E t n1 B n2 W2):BegA E (ts ++ [t]) n B n2 (Ws ++ [W2])
inductive BegT (E:Nat → Way):Tn → Nat → Int → Way → Int → Way → Prop
 | zero {t:Tn} {n:Int} {W:Way}:BegT E t 0 n W n W
 | succ {t:Tn} {c:Nat} {n n1 n2:Int} {W W1 W2:Way} (h:BegT E t c n W n1 W1) (h2:Beg E t n1 W1 n2 W2):BegT E t (c + 1) n W n2 W2
inductive BegO (E:Nat → Way):Tn → Bool → Way → Nat → Int → Int → Way → Prop
 | zero {t:Tn} {lz:Bool} {B:Way} {n:Int}:BegO E t lz B 0 n n B
 | succ {t:Tn} {lz:Bool} {B:Way} {c:Nat} {n n1 n2:Int} {W1 W2:Way} (h:BegO E t lz B c n n1 W1) (h2:Beg E t n1 W1 n2 W2):BegO E t lz B (c + 1) n (n2 + 1) (.once (n2 + 1) (.inOrder (if lz = true then [B,W2] else [W2,B])))
end
structure BgR (g K lo:Nat) (AG:List Nat) (R:(Nat → Way) → Prop) (AW:List Nat) (LE:List (Nat × Way)) (FE:List Nat) (w:World):Prop where
 env:∀ p ∈ LE,p.1 ∈ FE ∧ ∃ v F,Bx w p.1 133 v ∧ Rep g K AL w v p.2 F ∧ ∀ k ∈ F,k ∈ FE
 low:∀ k ∈ FE,k < w.heap.size
 isc:∀ k ∈ FE,IsC w k
 fresh:∀ p ∈ LE,lo ≤ p.1
 nd:(LE.map Prod.fst).Nodup
 rel:∀ E:Nat → Way,(∀ p ∈ LE,E p.1 = p.2) → R E
 agw:∀ b ∈ AW,b ∈ AG ∨ b ∈ LE.map Prod.fst
 agl:∀ p ∈ LE,∀ b ∈ p.2.ags,b ∈ AG ∨ b ∈ LE.map Prod.fst
 wf:∀ p ∈ LE,Gw p.2 ∧ p.2.ua = []
theorem BgR.stab {g K lo:Nat} {AG:List Nat} {R:(Nat → Way) → Prop} {AW:List Nat} {LE:List (Nat × Way)} {FE:List Nat} {w w':World} (h:BgR g K lo AG R AW LE FE w) (hs:w.heap.size ≤ w'.heap.size) (hk:∀ k ∈ FE,w'.heap[k]? = w.heap[k]?):BgR g K lo AG R AW LE FE w':=by
 refine ⟨fun p hp => ?_,fun k hkk => Nat.lt_of_lt_of_le (h.low k hkk) hs,fun k hkk => ?_,h.fresh,h.nd,h.rel,h.agw,h.agl,h.wf⟩
 ·obtain ⟨h1,v,F,h2,h3,h4⟩:=h.env p hp
  exact ⟨h1,v,F,(hk _ h1).trans h2,h3.kept fun k hkk => hk k (h4 k hkk),h4⟩
 ·obtain ⟨c,t,x,e⟩:=h.isc k hkk
  exact ⟨c,t,x,(hk k hkk).trans e⟩
theorem BgR.seq {g K lo lo':Nat} {AG A1 A2:List Nat} {R1 R2 R:(Nat → Way) → Prop} {LE1 LE2:List (Nat × Way)} {FE1 FE2:List Nat} {w:World} (h1:BgR g K lo AG R1 A1 LE1 FE1 w) (h2:BgR g K lo' A1 R2 A2 LE2 FE2 w) (hlo:lo ≤ lo') (hb:∀ p ∈ LE1,p.1 < lo')
  (hR:∀ E,R1 E → R2 E → R E):BgR g K lo AG R A2 (LE1 ++ LE2) (FE1 ++ FE2) w:=by
 refine ⟨fun p hp => ?_,fun k hk => ?_,fun k hk => ?_,fun p hp => ?_,?_,fun E hE => hR E (h1.rel E fun p hp => hE p (by simp [hp])) (h2.rel E fun p hp => hE p (by simp [hp])),fun b hb2 => ?_,fun p hp b hb2 => ?_,fun p hp => by rcases List.mem_append.1 hp with hp | hp;exact h1.wf p hp;exact h2.wf p hp⟩
 ·rcases List.mem_append.1 hp with hp | hp
  ·obtain ⟨a1,v,F,a2,a3,a4⟩:=h1.env p hp
   exact ⟨by simp [a1],v,F,a2,a3,fun k hk => by simp [a4 k hk]⟩
  ·obtain ⟨a1,v,F,a2,a3,a4⟩:=h2.env p hp
   exact ⟨by simp [a1],v,F,a2,a3,fun k hk => by simp [a4 k hk]⟩
 ·rcases List.mem_append.1 hk with hk | hk
  ·exact h1.low k hk
  ·exact h2.low k hk
 ·rcases List.mem_append.1 hk with hk | hk
  ·exact h1.isc k hk
  ·exact h2.isc k hk
 ·rcases List.mem_append.1 hp with hp | hp
  ·exact h1.fresh p hp
  ·exact Nat.le_trans hlo (h2.fresh p hp)
 ·rw [List.map_append,List.nodup_append]
  refine ⟨h1.nd,h2.nd,fun a ha b hb2 e => ?_⟩
  simp only [List.mem_map] at ha hb2
  obtain ⟨p,hp,rfl⟩:=ha
  obtain ⟨q,hq,rfl⟩:=hb2
  have:=hb p hp
  have:=h2.fresh q hq
  omega
 ·rw [List.map_append]
  rcases h2.agw b hb2 with h | h
  ·rcases h1.agw b h with h | h
   ·exact .inl h
   ·right;simp only [List.mem_append];exact .inl h
  ·right;simp only [List.mem_append];exact .inr h
 ·rw [List.map_append]
  rcases List.mem_append.1 hp with hp | hp
  ·rcases h1.agl p hp b hb2 with h | h
   ·exact .inl h
   ·right;simp only [List.mem_append];exact .inl h
  ·rcases h2.agl p hp b hb2 with h | h
   ·rcases h1.agw b h with h | h
    ·exact .inl h
    ·right;simp only [List.mem_append];exact .inl h
   ·right;simp only [List.mem_append];exact .inr h
theorem BgR.ofLow {g K lo:Nat} {AG:List Nat} {R:(Nat → Way) → Prop} {AW:List Nat} {LE:List (Nat × Way)} {FE:List Nat} {w:World} (h:BgR g K lo AG R AW LE FE w):∀ p ∈ LE,p.1 < w.heap.size:=fun p hp => h.low _ (h.env p hp).1
theorem BgR.nil (g K lo:Nat) (AG AW:List Nat) (R:(Nat → Way) → Prop) (w:World) (hR:∀ E,R E) (hA:∀ b ∈ AW,b ∈ AG):BgR g K lo AG R AW [] [] w:=
 ⟨fun p hp => (by cases hp),fun k hk => (by cases hk),fun k hk => (by cases hk),fun p hp => (by cases hp),by simp,fun E _ => hR E,fun b hb => .inl (hA b hb),fun p hp => (by cases hp),fun p hp => (by cases hp)⟩
theorem BgR.imp {g K lo:Nat} {AG:List Nat} {R R':(Nat → Way) → Prop} {AW AW':List Nat} {LE:List (Nat × Way)} {FE:List Nat} {w:World} (h:BgR g K lo AG R AW LE FE w) (hR:∀ E,R E → R' E) (hA:∀ b ∈ AW',b ∈ AG ∨ b ∈ AW):BgR g K lo AG R' AW' LE FE w:=
 ⟨h.env,h.low,h.isc,h.fresh,h.nd,fun E hE => hR E (h.rel E hE),fun b hb => by rcases hA b hb with h1 | h1;exact .inl h1;exact h.agw b h1,h.agl,h.wf⟩
def JB (g K lo:Nat) (AG ub:List Nat) (bd:Int → Prop) (R:Int → Way → (Nat → Way) → Prop):Jd where
 p n W FE w:=bd n ∧ (Gw W ∧ ∀ b ∈ W.ua,b ∈ ub) ∧ ∃ LE,BgR g K lo AG (R n W) W.ags LE FE w
 stab:=fun ⟨h,hg,LE,h2⟩ hs hk => ⟨h,hg,LE,h2.stab hs hk⟩
 low:=fun ⟨h,hg,LE,h2⟩ => h2.low
def JBl (g K lo:Nat) (AG:List Nat) (bd:Int → Prop) (R:Int → List Way → (Nat → Way) → Prop):Jl where
 p n l FE w:=bd n ∧ GwL l ∧ ∃ LE,BgR g K lo AG (R n l) (agsL l) LE FE w
 stab:=fun ⟨h,hg,LE,h2⟩ hs hk => ⟨h,hg,LE,h2.stab hs hk⟩
 low:=fun ⟨h,hg,LE,h2⟩ => h2.low
theorem quad {a b:Nat} {n n':Int} (ha:1 ≤ a) (hab:a ≤ b) (h:n' + a ≤ n + b):n' + 3 * ((a * a:Nat):Int) ≤ n + 3 * ((b * b:Nat):Int):=by
 obtain ⟨d,rfl⟩:∃ d,b = a + d:=⟨b - a,by omega⟩
 have e:(a + d) * (a + d) = a * a + a * d + (d * a + d * d):=by rw [Nat.add_mul,Nat.mul_add,Nat.mul_add]
 have h1:d ≤ a * d:=Nat.le_mul_of_pos_left _ ha
 have h2:a * a ≤ a * a + a * d + (d * a + d * d):=by omega
 rw [e]
 generalize a * a = x at *
 generalize a * d = y at *
 generalize d * a + d * d = u at *
 push_cast
 omega
set_option maxRecDepth 100000 in
set_option maxHeartbeats 8000000 in
theorem greatest15 {w0:World} {B:Nat} {N:Nv} {t:Tn} (h:TI w0 B N t):∀ (w:World),B ≤ w.heap.size → (∀ b,b < B → w.heap[b]? = w0.heap[b]?) →
  Calls Tryz.prog 40 #[N.v] w fun e w' => e = .returned (.int .i64 t.gi) ∧ Below w.heap.size w w':=by
 induction h with
 | @mk N R ts ND ok hr hR hRk hs hS hk ih =>
 intro w hB hw
 have hmax:=ok.s
 obtain ⟨k,r1,r2,r3,a2,s1,s2,s3,a4,a5,a6,a7,a8⟩:=N
 simp only at hs hS hmax
 simp only [Tn.gi]
 obtain ⟨r,hrr⟩:∃ r,r = giL ts a7:=⟨_,rfl⟩
 rw [← hrr]
 have HR:=hid' hrr
 have HW:=hid' hw
 have HS:=hid' hS
 have IH:=hid' ih
 have hm2:s2 ≤ 9223372036854775807:=by have:maxLen = 9223372036854775807:=rfl;omega
 have HL:=hid' hs
 clear ok hr hR hRk hk hS hw hrr ih hmax hs
 go_enter Tryz.func40,Tryz.ntmps40
 go_wp2_with fail
 go_loopw [3,4] (fun u y wq => ∃ i:Nat,y = .int .i64 (i:Int) ∧ i ≤ s2 ∧ (∃ q,u = .int .i64 q ∧ Hid (giL (ts.drop i) q = r)) ∧ Hid (Below w.heap.size w wq) ∧ Hid (wq.heap[w.heap.size]? = some (.cells #[.int .i64 k,.slice r1 r2 r3,.int .i64 a2,.slice s1 s2 s3,.int .i64 a4,.int .i64 a5,.bool a6,.int .i64 a7,.string a8] 25 (0,0)))) (fun _ y _ => s2 - (intOf y).toNat)
 case atStart => exact ⟨0,rfl,by omega,⟨a7,rfl,HR.out.symm⟩,Joins.below_alloc1 w _,heap_alloc_new w _⟩
 case round =>
  obtain ⟨i,rfl,hi,⟨q,rfl,HQ⟩,BK,BX⟩:=hrel
  obtain ⟨o0,o1,o2,o3,o4,o5,o6,o7,o8⟩:=nine' BX.out
  by_cases hil:i < s2
  ·have b1:decide ((i:Int) < (s2:Int)) = true:=by simp;omega
   have b2:(i:Int) < (s2:Int):=by omega
   have hlt:i < ts.length:=by rw [← HL.out];exact hil
   obtain ⟨b,o,hs1,hb,hc⟩:=HS.out (by omega)
   subst hs1
   have hwk:∀ b,b < B → wr.heap[b]? = w0.heap[b]?:=fun b hb => (BK.out.block b (by omega)).trans (HW.out b hb)
   obtain ⟨n0,n1,n2,n3,n4,n5,n6,n7,n8⟩:=(hc i hlt).kept (hwk b hb)
   have HC:=IH.out i hlt wr (by have:=BK.out.size;omega) hwk
   rw [giL_drop ts i hlt q] at HQ
   obtain ⟨g,hg⟩:∃ g,g = ts[i].gi:=⟨_,rfl⟩
   rw [← hg] at HC HQ
   obtain ⟨M,hM⟩:∃ M,M = ND i:=⟨_,rfl⟩
   rw [← hM] at HC n0 n1 n2 n3 n4 n5 n6 n7 n8
   have ad1:IntKind.i64.wrap ((i:Int) + 1) = (i:Int) + 1:=by simp [IntKind.wrap,IntKind.bits,IntKind.signed];omega
   clear hM hg hwk hc hlt
   go_wp2_with (first | (go_at_call 40;(with_reducible refine HC.mono ?_);rintro e w2 ⟨rfl,hb2⟩;have HB2:=hid' hb2;clear hb2 HC))
   refine ⟨⟨i + 1,by push_cast;rfl,by omega,⟨_,rfl,HQ.out⟩,?_,?_⟩,?_⟩
   ·exact BK.out.trans (Joins.below_le HB2.out BK.out.size)
   ·exact (HB2.out.block _ (by have:=(Array.getElem?_eq_some_iff.1 BX.out).1;omega)).trans BX.out
   ·simp [intOf]
    omega
  ·have b1:decide ((i:Int) < (s2:Int)) = false:=by simp;omega
   obtain rfl:i = s2:=by omega
   have e:=HQ.out
   rw [HL.out,List.drop_length] at e
   simp only [giL] at e
   go_wp2
   go_ret
   exact ⟨by first | rfl | exact ret_int e,BK.out⟩
set_option maxRecDepth 100000 in
set_option maxHeartbeats 8000000 in
theorem greatestg52 {w0:World} {B:Nat} {N:Nv} {t:Tn} (h:TI w0 B N t):∀ (w:World),B ≤ w.heap.size → (∀ b,b < B → w.heap[b]? = w0.heap[b]?) →
  Calls Tryz.prog 76 #[N.v] w fun e w' => e = .returned (.int .i64 t.gi) ∧ Below w.heap.size w w':=by
 induction h with
 | @mk N R ts ND ok hr hR hRk hs hS hk ih =>
 intro w hB hw
 have hmax:=ok.s
 obtain ⟨k,r1,r2,r3,a2,s1,s2,s3,a4,a5,a6,a7,a8⟩:=N
 simp only at hs hS hmax
 simp only [Tn.gi]
 obtain ⟨r,hrr⟩:∃ r,r = giL ts a7:=⟨_,rfl⟩
 rw [← hrr]
 have HR:=hid' hrr
 have HW:=hid' hw
 have HS:=hid' hS
 have IH:=hid' ih
 have hm2:s2 ≤ 9223372036854775807:=by have:maxLen = 9223372036854775807:=rfl;omega
 have HL:=hid' hs
 clear ok hr hR hRk hk hS hw hrr ih hmax hs
 go_enter Tryz.func76,Tryz.ntmps76
 go_wp2_with fail
 go_loopw [3,11] (fun u y wq => ∃ i:Nat,y = .int .i64 (i:Int) ∧ i ≤ s2 ∧ (∃ q,u = .int .i64 q ∧ Hid (giL (ts.drop i) q = r)) ∧ Hid (Below w.heap.size w wq) ∧ Hid (wq.heap[w.heap.size]? = some (.cells #[.int .i64 k,.slice r1 r2 r3,.int .i64 a2,.slice s1 s2 s3,.int .i64 a4,.int .i64 a5,.bool a6,.int .i64 a7,.string a8] 25 (0,0)))) (fun _ y _ => s2 - (intOf y).toNat)
 case atStart => exact ⟨0,rfl,by omega,⟨a7,rfl,HR.out.symm⟩,Joins.below_alloc1 w _,heap_alloc_new w _⟩
 case round =>
  obtain ⟨i,rfl,hi,⟨q,rfl,HQ⟩,BK,BX⟩:=hrel
  obtain ⟨o0,o1,o2,o3,o4,o5,o6,o7,o8⟩:=nine' BX.out
  by_cases hil:i < s2
  ·have b1:decide ((i:Int) < (s2:Int)) = true:=by simp;omega
   have b2:(i:Int) < (s2:Int):=by omega
   have hlt:i < ts.length:=by rw [← HL.out];exact hil
   obtain ⟨b,o,hs1,hb,hc⟩:=HS.out (by omega)
   subst hs1
   have hwk:∀ b,b < B → wr.heap[b]? = w0.heap[b]?:=fun b hb => (BK.out.block b (by omega)).trans (HW.out b hb)
   obtain ⟨n0,n1,n2,n3,n4,n5,n6,n7,n8⟩:=(hc i hlt).kept (hwk b hb)
   have HC:=IH.out i hlt (wr.alloc (.cells #[.int .i64 (ND i).k,.slice (ND i).r1 (ND i).r2 (ND i).r3,.int .i64 (ND i).a2,.slice (ND i).s1 (ND i).s2 (ND i).s3,.int .i64 (ND i).a4,.int .i64 (ND i).a5,.bool (ND i).a6,.int .i64 (ND i).a7,.string (ND i).a8] 25)) (by have:=BK.out.size;simp;omega) (fun b hb => (heap_alloc_old _ _ (by have:=BK.out.size;omega)).trans (hwk b hb))
   rw [giL_drop ts i hlt q] at HQ
   obtain ⟨g,hg⟩:∃ g,g = ts[i].gi:=⟨_,rfl⟩
   rw [← hg] at HC HQ
   obtain ⟨M,hM⟩:∃ M,M = ND i:=⟨_,rfl⟩
   rw [← hM] at HC n0 n1 n2 n3 n4 n5 n6 n7 n8
   have ad1:IntKind.i64.wrap ((i:Int) + 1) = (i:Int) + 1:=by simp [IntKind.wrap,IntKind.bits,IntKind.signed];omega
   clear hM hg hwk hc hlt
   go_wp2_with (first | (go_at_call 76;(with_reducible refine HC.mono ?_);rintro e w2 ⟨rfl,hb2⟩;have HB2:=hid' hb2;clear hb2 HC))
   refine ⟨⟨i + 1,by push_cast;rfl,by omega,⟨_,rfl,HQ.out⟩,?_,?_⟩,?_⟩
   ·exact BK.out.trans (Joins.below_le ((Joins.below_alloc1 wr _).trans (Joins.below_le HB2.out (by simp))) BK.out.size)
   ·exact (HB2.out.block _ (by have:=(Array.getElem?_eq_some_iff.1 BX.out).1;simp;omega)).trans ((heap_alloc_old wr _ (Array.getElem?_eq_some_iff.1 BX.out).1).trans BX.out)
   ·simp [intOf]
    omega
  ·have b1:decide ((i:Int) < (s2:Int)) = false:=by simp;omega
   obtain rfl:i = s2:=by omega
   have e:=HQ.out
   rw [HL.out,List.drop_length] at e
   simp only [giL] at e
   go_wp2
   go_ret
   exact ⟨by first | rfl | exact ret_int e,BK.out⟩
set_option maxRecDepth 100000 in
set_option maxHeartbeats 8000000 in
theorem refsize28 {w0:World} {B:Nat} {N:Nv} {t:Tn} (h:TI w0 B N t):t.fine = true → ∀ (w:World),B ≤ w.heap.size → (∀ b,b < B → w.heap[b]? = w0.heap[b]?) →
  Calls Tryz.prog 33 #[N.v] w fun e w' => e = .returned (.int .i64 (min 1073741824 t.sz:Nat)) ∧ Below w.heap.size w w':=by
 induction h with
 | @mk N R ts ND ok hr hR hRk hs hS hk ih =>
 intro hf w hB hw
 have hmax:=ok.s
 obtain ⟨k,r1,r2,r3,a2,s1,s2,s3,a4,a5,a6,a7,a8⟩:=N
 simp only at hs hS hmax
 simp only [Tn.fine,Bool.and_eq_true] at hf
 have FN:=fine_nodeZ hf.1
 have HFG:=hid' (fineL_get hf.2)
 simp only [Tn.sz]
 obtain ⟨r,hrr⟩:∃ r:Nat,r = min 1073741824 (if k = 6 then repN a4 a5 (szL ts) else 1 + szL ts):=⟨_,rfl⟩
 rw [← hrr]
 have HR:=hid' hrr
 have HW:=hid' hw
 have HS:=hid' hS
 have IH:=hid' ih
 have HFN:=hid' FN
 have hm2:s2 ≤ 9223372036854775807:=by have:maxLen = 9223372036854775807:=rfl;omega
 have HL:=hid' hs
 clear ok hr hR hRk hk hS hw hrr ih hmax hs hf FN
 go_enter Tryz.func33,Tryz.ntmps33
 go_wp2_with fail
 go_loopw [3,4] (fun u y wq => ∃ (i q:Nat),y = .int .i64 (i:Int) ∧ i ≤ s2 ∧ u = .int .i64 (q:Int) ∧ q ≤ 1073741824 ∧ Hid (q = min 1073741824 (szL (ts.take i))) ∧ Hid (Below w.heap.size w wq) ∧ Hid (wq.heap[w.heap.size]? = some (.cells #[.int .i64 k,.slice r1 r2 r3,.int .i64 a2,.slice s1 s2 s3,.int .i64 a4,.int .i64 a5,.bool a6,.int .i64 a7,.string a8] 25 (0,0)))) (fun _ y _ => s2 - (intOf y).toNat)
 case atStart => exact ⟨0,0,rfl,by omega,rfl,by omega,by show (0:Nat) = _;simp [szL],Joins.below_alloc1 w _,heap_alloc_new w _⟩
 case round =>
  obtain ⟨i,q,rfl,hi,rfl,hq,HQ,BK,BX⟩:=hrel
  obtain ⟨o0,o1,o2,o3,o4,o5,o6,o7,o8⟩:=nine' BX.out
  by_cases hil:i < s2
  ·have b1:decide ((i:Int) < (s2:Int)) = true:=by simp;omega
   have b2:(i:Int) < (s2:Int):=by omega
   have hlt:i < ts.length:=by rw [← HL.out];exact hil
   obtain ⟨b,o,hs1,hb,hc⟩:=HS.out (by omega)
   subst hs1
   have hwk:∀ b,b < B → wr.heap[b]? = w0.heap[b]?:=fun b hb => (BK.out.block b (by omega)).trans (HW.out b hb)
   obtain ⟨n0,n1,n2,n3,n4,n5,n6,n7,n8⟩:=(hc i hlt).kept (hwk b hb)
   have HC:=IH.out i hlt (HFG.out i hlt) wr (by have:=BK.out.size;omega) hwk
   have hst:=szL_take ts i hlt
   obtain ⟨g,hg⟩:∃ g,g = min 1073741824 ts[i].sz:=⟨_,rfl⟩
   rw [← hg] at HC
   have hgb:g ≤ 1073741824:=by omega
   have HQ':Hid (min 1073741824 (q + g) = min 1073741824 (szL (ts.take (i + 1)))):=by
    have h1:=HQ.out
    show _ = _
    omega
   obtain ⟨M,hM⟩:∃ M,M = ND i:=⟨_,rfl⟩
   rw [← hM] at HC n0 n1 n2 n3 n4 n5 n6 n7 n8
   have ad1:IntKind.i64.wrap ((i:Int) + 1) = (i:Int) + 1:=by simp [IntKind.wrap,IntKind.bits,IntKind.signed];omega
   have ad2:IntKind.i64.wrap ((q:Int) + (g:Int)) = (q:Int) + (g:Int):=by simp [IntKind.wrap,IntKind.bits,IntKind.signed];omega
   clear hM hg hwk hc hlt hst HQ
   go_wp2_with (first | (go_at_call 33;(with_reducible refine HC.mono ?_);rintro e w2 ⟨rfl,hb2⟩;have HB2:=hid' hb2;clear hb2 HC))
   refine ⟨⟨i + 1,min 1073741824 (q + g),by push_cast;rfl,by omega,by congr 1;omega,by omega,HQ'.out,?_,?_⟩,?_⟩
   ·exact BK.out.trans (Joins.below_le HB2.out BK.out.size)
   ·exact (HB2.out.block _ (Array.getElem?_eq_some_iff.1 BX.out).1).trans BX.out
   ·simp [intOf]
    omega
  ·have b1:decide ((i:Int) < (s2:Int)) = false:=by simp;omega
   obtain rfl:i = s2:=by omega
   have e:=HQ.out
   rw [HL.out,List.take_length] at e
   have hr':=HR.out
   by_cases k6:k = 6
   ·subst k6
    simp only [if_true] at hr'
    obtain ⟨_,m0,m1,mx⟩:=HFN.out.rep rfl
    rw [← repN_cap,← e] at hr'
    have HR':=hid' hr'
    clear e hr' HR HQ HFN
    rcases mx with rfl | ⟨mx0,mx1⟩
    ·by_cases hz:a4 = 0
     ·subst hz
      have ad2:IntKind.i64.wrap (1 + (q:Int)) = 1 + (q:Int):=by simp [IntKind.wrap,IntKind.bits,IntKind.signed];omega
      go_wp2
      go_ret
      exact ⟨ret_int (by have:=HR'.out;simp [repN] at this;omega),BK.out⟩
     ·have hz':(a4 == 0) = false:=by simpa using hz
      have hp:0 ≤ a4 * (q:Int) ∧ a4 * (q:Int) ≤ 1000 * 1073741824:=⟨Int.mul_nonneg m0 (by omega),Int.mul_le_mul m1 (by omega) (by omega) (by omega)⟩
      have ad1:IntKind.i64.wrap (a4 * (q:Int)) = a4 * (q:Int):=by simp [IntKind.wrap,IntKind.bits,IntKind.signed];omega
      have ad2:IntKind.i64.wrap (a4 * (q:Int) + 1) = a4 * (q:Int) + 1:=by simp [IntKind.wrap,IntKind.bits,IntKind.signed];omega
      have hre:((repN a4 (-1) q:Nat):Int) = a4 * q + 1:=by
       simp only [repN,if_true]
       rw [Nat.max_eq_left (by omega)]
       push_cast
       rw [Int.toNat_of_nonneg m0]
      go_wp2
      go_ret
      exact ⟨ret_int (by have:=HR'.out;omega),BK.out⟩
    ·have mxn:a5 ≠ -1:=by omega
     have c0:decide (a5 < 0) = false:=by simp;omega
     have hp:0 ≤ a4 * (q:Int) ∧ a4 * (q:Int) ≤ 1000 * 1073741824:=⟨Int.mul_nonneg m0 (by omega),Int.mul_le_mul m1 (by omega) (by omega) (by omega)⟩
     have hp2:0 ≤ (a5 - a4) * (1 + (q:Int)) ∧ (a5 - a4) * (1 + (q:Int)) ≤ 1000 * 1073741825:=⟨Int.mul_nonneg (by omega) (by omega),Int.mul_le_mul (by omega) (by omega) (by omega) (by omega)⟩
     have hre:((repN a4 a5 q:Nat):Int) = max 1 (a4 * q + (a5 - a4) * (1 + q)):=by
      have e:((a4.toNat * q + (a5 - a4).toNat * (1 + q):Nat):Int) = a4 * q + (a5 - a4) * (1 + q):=by
       push_cast
       rw [Int.toNat_of_nonneg m0,Int.toNat_of_nonneg (by omega)]
      simp only [repN,if_neg mxn]
      generalize a4.toNat * q + (a5 - a4).toNat * (1 + q) = X at e
      omega
     have ad1:IntKind.i64.wrap (a4 * (q:Int)) = a4 * (q:Int):=by simp [IntKind.wrap,IntKind.bits,IntKind.signed];omega
     have ad2:IntKind.i64.wrap (a5 - a4) = a5 - a4:=by simp [IntKind.wrap,IntKind.bits,IntKind.signed];omega
     have ad3:IntKind.i64.wrap (1 + (q:Int)) = 1 + (q:Int):=by simp [IntKind.wrap,IntKind.bits,IntKind.signed];omega
     have ad4:IntKind.i64.wrap ((a5 - a4) * (1 + (q:Int))) = (a5 - a4) * (1 + (q:Int)):=by simp [IntKind.wrap,IntKind.bits,IntKind.signed];omega
     have ad5:IntKind.i64.wrap (a4 * (q:Int) + (a5 - a4) * (1 + (q:Int))) = a4 * (q:Int) + (a5 - a4) * (1 + (q:Int)):=by simp [IntKind.wrap,IntKind.bits,IntKind.signed];omega
     go_wp2
     go_ret
     exact ⟨ret_int (by have:=HR'.out;omega),BK.out⟩
   ·have k6':(k == 6) = false:=by simpa using k6
    simp only [k6,if_false] at hr'
    have HR':=hid' hr'
    have HE:=hid' e
    by_cases kl:k = 4 ∨ k = 5 ∨ k = 7
    ·have ad2:IntKind.i64.wrap (1 + (q:Int)) = 1 + (q:Int):=by simp [IntKind.wrap,IntKind.bits,IntKind.signed];omega
     clear e hr' HR HQ HFN k6
     rcases kl with rfl | rfl | rfl
     ·go_wp2
      go_ret
      exact ⟨ret_int (by have:=HR'.out;have:=HE.out;omega),BK.out⟩
     ·go_wp2
      go_ret
      exact ⟨ret_int (by have:=HR'.out;have:=HE.out;omega),BK.out⟩
     ·go_wp2
      go_ret
      exact ⟨ret_int (by have:=HR'.out;have:=HE.out;omega),BK.out⟩
    ·have h0:=HFN.out.leaf (by have:=HFN.out.kind;omega)
     have k4:(k == 4) = false:=by simp;omega
     have k5:(k == 5) = false:=by simp;omega
     have k7:(k == 7) = false:=by simp;omega
     have ht:ts = []:=List.length_eq_zero_iff.1 h0
     subst ht
     simp only [szL] at hr'
     subst hr'
     clear e HR HQ HFN k6 HR' HE kl h0
     go_wp2
     go_ret
     exact ⟨rfl,BK.out⟩
set_option maxRecDepth 100000 in
set_option maxHeartbeats 4000000 in
theorem sizeRep49g (N:Nv) (q:Nat) (w:World) (m0:0 ≤ N.a4) (m1:N.a4 ≤ 1000) (mx:N.a5 = -1 ∨ N.a4 ≤ N.a5 ∧ N.a5 ≤ 1000) (hq:q ≤ 1000000000) :
  Calls Tryz.prog 73 #[N.v,.int .i64 (q:Int)] w fun e w' => e = .returned (.int .i64 (repN N.a4 N.a5 q:Nat)) ∧ Below w.heap.size w w':=by
 obtain ⟨k,r1,r2,r3,a2,s1,s2,s3,a4,a5,a6,a7,a8⟩:=N
 simp only at m0 m1 mx
 dsimp only
 rcases mx with rfl | ⟨mx0,mx1⟩
 ·have hp:0 ≤ max a4 1 * (q:Int) ∧ max a4 1 * (q:Int) ≤ 1000 * 1000000000:=⟨Int.mul_nonneg (by omega) (by omega),Int.mul_le_mul (by omega) (by omega) (by omega) (by omega)⟩
  have ad1:IntKind.i64.wrap (max a4 1 * (q:Int)) = max a4 1 * (q:Int):=by simp [IntKind.wrap,IntKind.bits,IntKind.signed];omega
  have ad2:IntKind.i64.wrap (max a4 1 * (q:Int) + 1) = max a4 1 * (q:Int) + 1:=by simp [IntKind.wrap,IntKind.bits,IntKind.signed];omega
  have hre:((repN a4 (-1) q:Nat):Int) = max a4 1 * q + 1:=by
   simp only [repN,if_true]
   have e:((max a4.toNat 1:Nat):Int) = max a4 1:=by omega
   push_cast
   rw [← e]
  obtain ⟨r,hr⟩:∃ r,r = repN a4 (-1) q:=⟨_,rfl⟩
  rw [← hr] at hre ⊢
  have HRE:=hid' hre
  clear hre hr
  go_enter Tryz.func73,Tryz.ntmps73
  go_wp2
  go_ret
  exact ⟨ret_int HRE.out.symm,Joins.below_alloc1 w _⟩
 ·have mxn:a5 ≠ -1:=by omega
  have c0:(a5 == -1) = false:=by simpa using mxn
  have hp:0 ≤ a4 * (q:Int) ∧ a4 * (q:Int) ≤ 1000 * 1000000000:=⟨Int.mul_nonneg m0 (by omega),Int.mul_le_mul m1 (by omega) (by omega) (by omega)⟩
  have hp2:0 ≤ (a5 - a4) * (1 + (q:Int)) ∧ (a5 - a4) * (1 + (q:Int)) ≤ 1000 * 1000000001:=⟨Int.mul_nonneg (by omega) (by omega),Int.mul_le_mul (by omega) (by omega) (by omega) (by omega)⟩
  have hre:((repN a4 a5 q:Nat):Int) = max (a4 * q + (a5 - a4) * (1 + q)) 1:=by
   have e:((a4.toNat * q + (a5 - a4).toNat * (1 + q):Nat):Int) = a4 * q + (a5 - a4) * (1 + q):=by
    push_cast
    rw [Int.toNat_of_nonneg m0,Int.toNat_of_nonneg (by omega)]
   simp only [repN,if_neg mxn]
   generalize a4.toNat * q + (a5 - a4).toNat * (1 + q) = X at e
   omega
  have ad1:IntKind.i64.wrap (a4 * (q:Int)) = a4 * (q:Int):=by simp [IntKind.wrap,IntKind.bits,IntKind.signed];omega
  have ad2:IntKind.i64.wrap (a5 - a4) = a5 - a4:=by simp [IntKind.wrap,IntKind.bits,IntKind.signed];omega
  have ad3:IntKind.i64.wrap (1 + (q:Int)) = 1 + (q:Int):=by simp [IntKind.wrap,IntKind.bits,IntKind.signed];omega
  have ad4:IntKind.i64.wrap ((a5 - a4) * (1 + (q:Int))) = (a5 - a4) * (1 + (q:Int)):=by simp [IntKind.wrap,IntKind.bits,IntKind.signed];omega
  have ad5:IntKind.i64.wrap (a4 * (q:Int) + (a5 - a4) * (1 + (q:Int))) = a4 * (q:Int) + (a5 - a4) * (1 + (q:Int)):=by simp [IntKind.wrap,IntKind.bits,IntKind.signed];omega
  obtain ⟨r,hr⟩:∃ r,r = repN a4 a5 q:=⟨_,rfl⟩
  rw [← hr] at hre ⊢
  have HRE:=hid' hre
  clear hre hr
  go_enter Tryz.func73,Tryz.ntmps73
  go_wp2
  go_ret
  exact ⟨ret_int HRE.out.symm,Joins.below_alloc1 w _⟩
set_option maxRecDepth 100000 in
set_option maxHeartbeats 8000000 in
theorem size30g {w0:World} {B:Nat} {N:Nv} {t:Tn} (h:TI w0 B N t):t.fine = true → t.nodes ≤ 200000 → ∀ (w:World),B ≤ w.heap.size → (∀ b,b < B → w.heap[b]? = w0.heap[b]?) →
  Calls Tryz.prog 43 #[N.v] w fun e w' => e = .returned (.int .i64 (min 2001 t.sz:Nat)) ∧ Below w.heap.size w w':=by
 induction h with
 | @mk N R ts ND ok hr hR hRk hs hS hk ih =>
 intro hf hno w hB hw
 obtain ⟨N',hN'⟩:∃ N',N' = N:=⟨_,rfl⟩
 obtain ⟨k,r1,r2,r3,a2,s1,s2,s3,a4,a5,a6,a7,a8⟩:=N
 simp only at hs hS
 simp only [Tn.fine,Bool.and_eq_true] at hf
 simp only [Tn.nodes] at hno
 have FN:=fine_nodeZ hf.1
 have HFG:=hid' (fineL_get hf.2)
 have hts:ts.length ≤ 200000:=by have:=nodes_ge ts;omega
 have HNO:=hid' hno
 simp only [Tn.sz]
 obtain ⟨r,hrr⟩:∃ r:Nat,r = min 2001 (if k = 6 then repN a4 a5 (szL ts) else 1 + szL ts):=⟨_,rfl⟩
 rw [← hrr]
 have HR:=hid' hrr
 have HW:=hid' hw
 have HS:=hid' hS
 have IH:=hid' ih
 have HFN:=hid' FN
 have hm2:s2 ≤ 200000:=by omega
 have HL:=hid' hs
 clear ok hr hR hRk hk hS hw hrr ih hs hf FN hts hno
 go_enter Tryz.func43,Tryz.ntmps43
 go_wp2_with fail
 go_loopw [3,10] (fun u y wq => ∃ (i q:Nat),y = .int .i64 (i:Int) ∧ i ≤ s2 ∧ u = .int .i64 (q:Int) ∧ q ≤ i * 2001 ∧ Hid (min 2001 q = min 2001 (szL (ts.take i)) ∧ (i ≤ 1 → q ≤ 2001)) ∧ Hid (Below w.heap.size w wq) ∧ Hid (wq.heap[w.heap.size]? = some (.cells #[.int .i64 k,.slice r1 r2 r3,.int .i64 a2,.slice s1 s2 s3,.int .i64 a4,.int .i64 a5,.bool a6,.int .i64 a7,.string a8] 25 (0,0)))) (fun _ y _ => s2 - (intOf y).toNat)
 case atStart => exact ⟨0,0,rfl,by omega,rfl,by omega,⟨by simp [szL],by omega⟩,Joins.below_alloc1 w _,heap_alloc_new w _⟩
 case round =>
  obtain ⟨i,q,rfl,hi,rfl,hq,HQ,BK,BX⟩:=hrel
  obtain ⟨o0,o1,o2,o3,o4,o5,o6,o7,o8⟩:=nine' BX.out
  by_cases hil:i < s2
  ·have b1:decide ((i:Int) < (s2:Int)) = true:=by simp;omega
   have b2:(i:Int) < (s2:Int):=by omega
   have hlt:i < ts.length:=by rw [← HL.out];exact hil
   obtain ⟨b,o,hs1,hb,hc⟩:=HS.out (by omega)
   subst hs1
   have hwk:∀ b,b < B → wr.heap[b]? = w0.heap[b]?:=fun b hb => (BK.out.block b (by omega)).trans (HW.out b hb)
   obtain ⟨n0,n1,n2,n3,n4,n5,n6,n7,n8⟩:=(hc i hlt).kept (hwk b hb)
   have HC:=IH.out i hlt (HFG.out i hlt) (by have:=nodes_get ts i hlt;have:=HNO.out;omega) (wr.alloc (.cells #[.int .i64 (ND i).k,.slice (ND i).r1 (ND i).r2 (ND i).r3,.int .i64 (ND i).a2,.slice (ND i).s1 (ND i).s2 (ND i).s3,.int .i64 (ND i).a4,.int .i64 (ND i).a5,.bool (ND i).a6,.int .i64 (ND i).a7,.string (ND i).a8] 25)) (by have:=BK.out.size;simp;omega) (fun b hb => (heap_alloc_old _ _ (by have:=BK.out.size;omega)).trans (hwk b hb))
   have hst:=szL_take ts i hlt
   obtain ⟨g,hg⟩:∃ g,g = min 2001 ts[i].sz:=⟨_,rfl⟩
   rw [← hg] at HC
   have hgb:g ≤ 2001:=by omega
   have HQ':Hid (min 2001 (q + g) = min 2001 (szL (ts.take (i + 1))) ∧ (i + 1 ≤ 1 → q + g ≤ 2001)):=by
    have h1:=HQ.out.1
    exact ⟨by omega,fun h => by omega⟩
   obtain ⟨M,hM⟩:∃ M,M = ND i:=⟨_,rfl⟩
   rw [← hM] at HC n0 n1 n2 n3 n4 n5 n6 n7 n8
   have ad1:IntKind.i64.wrap ((i:Int) + 1) = (i:Int) + 1:=by simp [IntKind.wrap,IntKind.bits,IntKind.signed];omega
   have ad2:IntKind.i64.wrap ((q:Int) + (g:Int)) = (q:Int) + (g:Int):=by simp [IntKind.wrap,IntKind.bits,IntKind.signed];omega
   clear hM hg hwk hc hlt hst HQ
   go_wp2_with (first | (go_at_call 43;(with_reducible refine HC.mono ?_);rintro e w2 ⟨rfl,hb2⟩;have HB2:=hid' hb2;clear hb2 HC))
   refine ⟨⟨i + 1,q + g,by push_cast;rfl,by omega,by push_cast;rfl,by omega,HQ'.out,?_,?_⟩,?_⟩
   ·exact BK.out.trans (Joins.below_le ((Joins.below_alloc1 wr _).trans (Joins.below_le HB2.out (by simp))) BK.out.size)
   ·exact (HB2.out.block _ (by have:=(Array.getElem?_eq_some_iff.1 BX.out).1;simp;omega)).trans ((heap_alloc_old wr _ (Array.getElem?_eq_some_iff.1 BX.out).1).trans BX.out)
   ·simp [intOf]
    omega
  ·have b1:decide ((i:Int) < (s2:Int)) = false:=by simp;omega
   obtain rfl:i = s2:=by omega
   have e:=HQ.out.1
   rw [HL.out,List.take_length] at e
   have hr':=HR.out
   have ad2:IntKind.i64.wrap (1 + (q:Int)) = 1 + (q:Int):=by simp [IntKind.wrap,IntKind.bits,IntKind.signed];omega
   by_cases k6:k = 6
   ·subst k6
    simp only [if_true] at hr'
    obtain ⟨h1,m0,m1,mx⟩:=HFN.out.rep rfl
    have hq1:=HQ.out.2 (by rw [HL.out,h1];omega)
    rw [← repN_cap,← e,repN_cap] at hr'
    have HC:=sizeRep49g N' q wr (by rw [hN'];exact m0) (by rw [hN'];exact m1) (by rw [hN'];exact mx) (by omega)
    have hrb:repN a4 a5 q ≤ 8000000:=by
     unfold repN
     split
     ·have:max a4.toNat 1 * q ≤ 1000 * 2001:=Nat.mul_le_mul (by omega) hq1
      omega
     ·have:a4.toNat * q ≤ 1000 * 2001:=Nat.mul_le_mul (by omega) hq1
      have:(a5 - a4).toNat * (1 + q) ≤ 1000 * 2002:=Nat.mul_le_mul (by omega) (by omega)
      omega
    rw [hN'] at HC
    dsimp only at HC
    generalize repN a4 a5 q = x at HC hr' hrb
    have HR':=hid' hr'
    clear e hr' HR HQ HFN mx hN'
    go_wp2_with (first | (go_at_call 73;(with_reducible refine HC.mono ?_);rintro e w2 ⟨rfl,hb2⟩;have HB2:=hid' hb2;clear hb2 HC))
    go_ret
    exact ⟨ret_int (by have:=HR'.out;omega),BK.out.trans (Joins.below_le HB2.out BK.out.size)⟩
   ·have k6':(k == 6) = false:=by simpa using k6
    simp only [k6,if_false] at hr'
    have HR':=hid' hr'
    have HE:=hid' e
    clear e hr' HR HQ HFN k6
    go_wp2
    go_ret
    exact ⟨ret_int (by have:=HR'.out;have:=HE.out;omega),BK.out⟩
end Go.Proofs.YtacaanhnlfpbhaaGreat
