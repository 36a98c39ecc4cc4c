/- HELPERS: texts of ours put together. -/
import Derived.Test.YtacaanhnlfpbhaaGreatK45
import Derived.Test.YtacaanhnlfpbhaaGreatK46
import Derived.Test.YtacaanhnlfpbhaaGreatK47
import Derived.Test.YtacaanhnlfpbhaaGreatK28
import Derived.Test.YtacaanhnlfpbhaaGreatK40
import Derived.Test.YtacaanhnlfpbhaaGreatK44
import Derived.Laws.Rows
namespace Go.Proofs.YtacaanhnlfpbhaaGreat
open Go.RowKit Go.Lk
set_option linter.unusedVariables false
set_option linter.unusedSimpArgs false
def whF:Fd → Int
 | none => 0
 | some y => y.1
def capsF:Fd → List Int
 | none => []
 | some y => y.2
def FS (r:Fd) (st:Nat) (w:World) (e:Ending) (w':World):Prop:=
 ∃ a1 n1 c1,e = .returned (.tuple #[.agg #[.bool r.isSome,.slice a1 n1 c1,.int .i64 (whF r),.int .i64 (st:Int)],.int .i64 0]) ∧ IR w' (.slice a1 n1 c1) (capsF r) ∧ Below w.heap.size w w'
theorem FR.fs {K:Nat} {r:Fd} {st:Nat} {w w':World} {e:Ending} (h:FR K (r,st) w e w'):FS r st w e w':=by
 obtain ⟨h1,h2⟩:=h
 cases r with
 | none => exact ⟨_,_,_,h2,IR.nil _,h1⟩
 | some y =>
  obtain ⟨g,h2,h3⟩:=h2
  exact ⟨_,_,_,h2,IR.row h3,h1⟩
theorem run8S {w:World} {ad tad:Option Addr} {n c tn tc:Nat} {s k a:Int} {anch:Bool} {l:List In} {tx:List Int} {r:Fd} {m':List Pt} (hP:PI w w.heap.size ad n l) (hT:TextAt w.heap.size w tad tn tx) (he:errB l s k tx.length a = 0) (hd:BitA l tx s k a anch r m') :
  Calls Tryz.prog 37 #[pv ad n c s k,.slice tad tn tc,.int .i64 a,.bool anch] w (FS r m'.length w):=
 (run9 hP hT (fun _ => hd)).mono fun e w' h => by
  rcases h with ⟨_,h⟩ | ⟨h,_⟩
  ·exact h.fs
  ·exact absurd he h
theorem run8E {w:World} {ad tad:Option Addr} {n c tn tc:Nat} {s k a:Int} {anch:Bool} {l:List In} {tx:List Int} (hP:PI w w.heap.size ad n l) (hT:TextAt w.heap.size w tad tn tx) (he:errB l s k tx.length a ≠ 0) :
  Calls Tryz.prog 37 #[pv ad n c s k,.slice tad tn tc,.int .i64 a,.bool anch] w (FE (errB l s k tx.length a) w):=by
 by_cases h0:errR l s k tx.length a = 0
 ·obtain ⟨r,m',hd,_⟩:=bit_ex (tx:=tx) anch h0
  refine (run9 hP hT (fun _ => hd)).mono fun e w' h => ?_
  rcases h with ⟨h,_⟩ | ⟨_,h⟩
  ·exact absurd h he
  ·exact h
 ·refine (run9 (r:=none) (m':=[]) hP hT (fun h => absurd h h0)).mono fun e w' h => ?_
  rcases h with ⟨h,_⟩ | ⟨_,h⟩
  ·exact absurd h he
  ·exact h
theorem errB_R {l:List In} {s k:Int} {n:Nat} {a:Int} (h:errB l s k n a = 0):errR l s k n a = 0:=by
 unfold errB at h
 split at h
 ·rename_i h1;exact absurd h h1
 ·rename_i h1;simpa using h1
theorem errB_on {l:List In} {s k:Int} {n:Nat} {a q:Int} (h:errB l s k n a = 0) (h1:a ≤ q) (h2:q ≤ n):errB l s k n q = 0:=by
 have hR:=errB_R h
 obtain ⟨g1,g2,g3,g4⟩:=errR_ok hR
 have hq:errR l s k n q = 0:=by unfold errR;rw [if_neg (by omega),if_neg (by rw [g2];decide),if_neg (by omega)]
 unfold errB at h ⊢
 rw [if_neg (by simp [hR])] at h
 rw [if_neg (by simp [hq])]
 split at h
 ·cases h
 ·rename_i hb
  rw [if_neg]
  intro hc
  have:l.length * (n - q.toNat + 1) ≤ l.length * (n - a.toNat + 1):=Nat.mul_le_mul_left _ (by omega)
  omega
theorem bit_steps {l:List In} {tx:List Int} {s k a:Int} {r r1:Fd} {m' m1:List Pt} (he:errR l s k tx.length a = 0) (hf:BitA l tx s k a false r m') (hg:BitA l tx s k a true r1 m1) :
  1 ≤ m'.length ∧ 1 ≤ m1.length ∧ m1.length ≤ m'.length ∧ m'.length ≤ l.length * (tx.length - a.toNat + 1) ∧ (r1.isSome = true → r.isSome = true):=by
 obtain ⟨h1,h2,h3,h4⟩:=errR_ok he
 have hmo:=may_ok h2
 obtain ⟨S,rfl⟩:=Int.eq_ofNat_of_zero_le hmo.2.1
 obtain ⟨K,rfl⟩:=Int.eq_ofNat_of_zero_le (show 0 ≤ k by omega)
 have hP:=pr_ok (tx:=tx) h2
 have hl:∀ i x,(prOf l tx S K).A tx.length i ≠ .rune x:=fun i x => act_end l tx i x
 have hT:∀ t ∈ bgs (prOf l tx S K) a.toNat false none (tx.length + 1 - a.toNat) a.toNat,t.1 < (prOf l tx S K).n ∧ a.toNat ≤ t.2.1 ∧ t.2.1 ≤ tx.length ∧ t.2.2.length = (prOf l tx S K).K:=fun t ht => by
  obtain ⟨g1,g2,g3,g4⟩:=bgs_from _ _ _ _ _ _ t ht
  exact ⟨by rw [g1];exact hP.S,g2,by omega,by rw [g4];simp⟩
 have hsm:=(da_ok hP hl hf hT (OkP.nil _ _ _)).1.small
 unfold BitA at hf hg
 rw [show tx.length + 1 - a.toNat = (tx.length - a.toNat) + 1 by omega] at hf hg
 obtain ⟨e1,e2,e3⟩:=steps_plain (P:=prOf l tx S K) hf hg
 exact ⟨by omega,e1,e2,hsm,e3⟩
theorem bit_first {l:List In} {tx:List Int} {s k a:Int} {r:Fd} {m':List Pt} (he:errR l s k tx.length a = 0) (hf:BitA l tx s k a false r m') :
  (r = none ∧ ∀ (i:Nat) r1 m1,a.toNat ≤ i → i ≤ tx.length → BitA l tx s k i true r1 m1 → r1 = none) ∨
  ∃ z j,r = some z ∧ a.toNat ≤ j ∧ j ≤ tx.length ∧ (∀ (i:Nat) r1 m1,a.toNat ≤ i → i < j → BitA l tx s k i true r1 m1 → r1 = none) ∧ (∀ r1 m1,BitA l tx s k (j:Int) true r1 m1 → r1 = some z) ∧ ∃ m2,Df (act l tx) [] s.toNat j (List.replicate k.toNat (-1)) m2 (some z):=by
 obtain ⟨h1,h2,h3,h4⟩:=errR_ok he
 have hmo:=may_ok h2
 obtain ⟨S,rfl⟩:=Int.eq_ofNat_of_zero_le hmo.2.1
 obtain ⟨K,rfl⟩:=Int.eq_ofNat_of_zero_le (show 0 ≤ k by omega)
 have hP:=pr_ok (tx:=tx) h2
 have hl:∀ i x,(prOf l tx S K).A tx.length i ≠ .rune x:=fun i x => act_end l tx i x
 have hone:∀ (i:Nat) r1 m1,i ≤ tx.length → BitA l tx (S:Int) (K:Int) (i:Int) true r1 m1 → Df (act l tx) [] S i (List.replicate K (-1)) m1 r1:=fun i r1 m1 hi h => by
  unfold BitA at h
  rw [show tx.length + 1 - ((i:Int)).toNat = (tx.length - i) + 1 by omega,Int.toNat_natCast,bgs_oneG] at h
  exact da_single h
 rcases first_plain hP hl (by omega) hf with ⟨e,h⟩ | ⟨z,j,m2,e1,e2,e3,e4,e5⟩
 ·refine .inl ⟨e,fun i r1 m1 g1 g2 g3 => ?_⟩
  obtain ⟨m2,hd⟩:=h i g1 g2
  exact (df_det (hone i r1 m1 g2 g3) hd).2
 ·refine .inr ⟨z,j,e1,e2,e3,fun i r1 m1 g1 g2 g3 => ?_,fun r1 m1 g => ?_,m2,e5⟩
  ·obtain ⟨m3,hd⟩:=e4 i g1 g2
   exact (df_det (hone i r1 m1 (by omega) g3) hd).2
  ·exact (df_det (hone j r1 m1 e3 g) e5).2
theorem bit_caps {l:List In} {tx:List Int} {s k a:Int} {anch:Bool} {r:Fd} {m':List Pt} (he:errR l s k tx.length a = 0) (hf:BitA l tx s k a anch r m'):∀ y,r = some y → y.2.length = k.toNat:=by
 obtain ⟨h1,h2,h3,h4⟩:=errR_ok he
 have hmo:=may_ok h2
 obtain ⟨S,rfl⟩:=Int.eq_ofNat_of_zero_le hmo.2.1
 obtain ⟨K,rfl⟩:=Int.eq_ofNat_of_zero_le (show 0 ≤ k by omega)
 have hP:=pr_ok (tx:=tx) h2
 have hl:∀ i x,(prOf l tx S K).A tx.length i ≠ .rune x:=fun i x => act_end l tx i x
 have hT:∀ t ∈ bgs (prOf l tx S K) a.toNat anch none (tx.length + 1 - a.toNat) a.toNat,t.1 < (prOf l tx S K).n ∧ a.toNat ≤ t.2.1 ∧ t.2.1 ≤ tx.length ∧ t.2.2.length = (prOf l tx S K).K:=fun t ht => by
  obtain ⟨g1,g2,g3,g4⟩:=bgs_from _ _ _ _ _ _ t ht
  exact ⟨by rw [g1];exact hP.S,g2,by omega,by rw [g4];simp⟩
 exact (da_ok hP hl hf hT (OkP.nil _ _ _)).2.2.2
end Go.Proofs.YtacaanhnlfpbhaaGreat
namespace Go.Proofs.YtacaanhnlfpbhaaGreat
open Go.RowKit
set_option linter.unusedVariables false
set_option linter.unusedSimpArgs false
theorem Fr.bel {base:Nat} {A:Nat → Prop} {w w':World} (h:Fr base w w') (hA:∀ b,A b → b < base):∀ b,A b → w'.heap[b]? = w.heap[b]?:=fun b hb => h.low b (hA b hb)
structure IMp (w:World) (A:Nat → Prop) (N:Iv) (I:In):Prop where
 op:N.op = I.op
 x:N.x = I.x
 y:N.y = I.y
 a:N.a = I.a
 len:N.r2 = I.R.length
 sm:N.r2 * 16 ≤ 140737488351232
 rp:RP w A N.r1 I.R
theorem IMp.kept {w w':World} {A:Nat → Prop} {N:Iv} {I:In} (h:IMp w A N I) (hk:∀ b,A b → w'.heap[b]? = w.heap[b]?):IMp w' A N I:=⟨h.op,h.x,h.y,h.a,h.len,h.sm,h.rp.kept hk (fun _ h => h)⟩
def MKL (w:World) (m base:Nat) (A:Nat → Prop) (l:List In):Prop:=∃ is:List Iv,MK w m base l.length (is.flatMap Iv.cs) ∧ is.length = l.length ∧ ∀ k (h:k < is.length) (h':k < l.length),IMp w A is[k] l[k]
theorem MKL.below {w w':World} {m base:Nat} {A:Nat → Prop} {l:List In} (h:MKL w m base A l) (hb:Below w.heap.size w w') (hA:∀ b,A b → b < base) (hs:base ≤ w.heap.size):MKL w' m base A l:=by
 obtain ⟨is,h1,h2,h3⟩:=h
 exact ⟨is,h1.below hb,h2,fun k hk hk' => (h3 k hk hk').kept fun b hb' => hb.block b (by have:=hA b hb';omega)⟩
theorem MKL.cell {w:World} {m base:Nat} {A:Nat → Prop} {l:List In} (h:MKL w m base A l):∃ z1 c,w.cell? ⟨m,0,none⟩ = some (.slice z1 l.length c):=by
 obtain ⟨is,⟨z1,c,h1,_⟩,_⟩:=h
 exact ⟨z1,c,Joins.cell_of_block h1 0⟩
theorem MKL.lt {w:World} {m base:Nat} {A:Nat → Prop} {l:List In} (h:MKL w m base A l):m < w.heap.size:=by
 obtain ⟨is,⟨z1,c,h1,_⟩,_⟩:=h
 exact (Array.getElem?_eq_some_iff.1 h1).1
theorem next65l {w:World} {m base:Nat} {A:Nat → Prop} {l:List In} (h:MKL w m base A l):Calls Tryz.prog 137 #[pt m] w fun e w' => e = .returned (.int .i64 (l.length:Int)) ∧ w' = w:=by
 obtain ⟨z1,c,hc⟩:=h.cell
 exact next65c m 0 z1 l.length c w hc
theorem im_bare (w:World) (A:Nat → Prop) (op x y a:Int):IMp w A ⟨op,x,y,a,none,0,0⟩ ⟨op,x,y,a,[]⟩:=⟨rfl,rfl,rfl,rfl,rfl,by simp,fun h => absurd rfl h⟩
theorem MKL.snoc {w w':World} {m base:Nat} {A:Nat → Prop} {l:List In} {is:List Iv} {N:Iv} {I:In} (h2:is.length = l.length) (h3:∀ k (h:k < is.length) (h':k < l.length),IMp w A is[k] l[k]) (hI:IMp w A N I) (hM:MK w' m base (l.length + 1) (is.flatMap Iv.cs ++ Iv.cs N)) (hb:∀ b,A b → w'.heap[b]? = w.heap[b]?):MKL w' m base A (l ++ [I]):=by
 refine ⟨is ++ [N],?_,by simp [h2],fun k hk hk' => ?_⟩
 ·rw [List.length_append,List.flatMap_append];simpa using hM
 ·by_cases hl:k < l.length
  ·rw [List.getElem_append_left (by omega),List.getElem_append_left hl]
   exact (h3 k (by omega) hl).kept hb
  ·simp only [List.length_append,List.length_cons,List.length_nil] at hk hk'
   have e:k = l.length:=by omega
   subst e
   rw [List.getElem_append_right (by omega),List.getElem_append_right (Nat.le_refl _)]
   simp only [h2,Nat.sub_self,List.getElem_cons_zero]
   exact hI.kept hb
theorem addL {w:World} {m base:Nat} {A:Nat → Prop} {l:List In} (N:Iv) (I:In) (h:MKL w m base A l) (hI:IMp w A N I) (hm:base ≤ m) (hA:∀ b,A b → b < base) (hn:l.length ≤ 20000) (hb:base ≤ w.heap.size) :
  Calls Tryz.prog 95 #[pt m,N.v] w fun e w' => e = .returned (.tuple #[]) ∧ MKL w' m base A (l ++ [I]) ∧ Fr base w w':=by
 obtain ⟨is,h1,h2,h3⟩:=h
 refine (add42' N h1 hm hn hb).mono ?_
 rintro e w' ⟨rfl,hM,hf⟩
 exact ⟨rfl,MKL.snoc h2 h3 hI hM (hf.bel hA),hf⟩
theorem stepL {w:World} {m base:Nat} {A:Nat → Prop} {l:List In} (op yy aa:Int) (r1:Option Addr) (r2 r3:Nat) (R:List (Int × Int)) (h:MKL w m base A l) (hI:IMp w A ⟨op,(l.length:Int) + 1,yy,aa,r1,r2,r3⟩ ⟨op,(l.length:Int) + 1,yy,aa,R⟩) (hm:base ≤ m) (hA:∀ b,A b → b < base) (hn:l.length ≤ 20000) (hb:base ≤ w.heap.size) :
  Calls Tryz.prog 93 #[pt m,(⟨op,0,yy,aa,r1,r2,r3⟩:Iv).v] w fun e w' => e = .returned (.tuple #[]) ∧ MKL w' m base A (l ++ [⟨op,(l.length:Int) + 1,yy,aa,R⟩]) ∧ Fr base w w':=by
 obtain ⟨is,h1,h2,h3⟩:=h
 refine (step48 op yy aa r1 r2 r3 h1 hm hn hb).mono ?_
 rintro e w' ⟨rfl,hM,hf⟩
 exact ⟨rfl,MKL.snoc h2 h3 hI hM (hf.bel hA),hf⟩
abbrev LP (F base:Nat) (A:Nat → Prop) (N:Nv) (t:Tn):Prop:=∀ (w:World) (m:Nat) (l:List In),MKL w m base A l → base ≤ m → base ≤ w.heap.size → TP w A N t → l.length + t.len ≤ 20000 →
 Calls Tryz.prog F #[pt m,N.v] w fun e w' => e = .returned (.tuple #[]) ∧ MKL w' m base A (l ++ t.lay l.length) ∧ Fr base w w'
theorem drew_below (w:World):Below w.heap.size w w.drew:=⟨rfl,rfl,rfl,Nat.le_refl _,fun _ _ => rfl⟩
set_option maxRecDepth 100000 in
set_option maxHeartbeats 8000000 in
theorem empty100 {base:Nat} {A:Nat → Prop} {k a2 a4 a5 a7:Int} {a6:Bool} {a8:ByteArray} {r1 s1:Option Addr} {r2 r3 s2 s3:Nat} {R:List (Int × Int)} {ts:List Tn} (hA:∀ b,A b → b < base) (k1:k ≠ 2) (k2:k ≠ 3) (k3:k ≠ 4) (k4:k ≠ 5) (k5:k ≠ 6) (k6:k ≠ 7):LP 210 base A ⟨k,r1,r2,r3,a2,s1,s2,s3,a4,a5,a6,a7,a8⟩ (.mk k R a2 ts a4 a5 a6 a7 a8):=by
 intro w m l hM hm hb hT hlen
 obtain ⟨U,hU⟩:∃ U,U = w.alloc (.cells #[.int .i64 k,.slice r1 r2 r3,.int .i64 a2,.slice s1 s2 s3,.int .i64 a4,.int .i64 a5,.bool a6,.int .i64 a7,.string a8] 25):=⟨_,rfl⟩
 have hbU:Below w.heap.size w U:=by rw [hU];exact Joins.below_alloc1 w _
 have hQ:BNo U w.heap.size ⟨k,r1,r2,r3,a2,s1,s2,s3,a4,a5,a6,a7,a8⟩:=by rw [hU];exact heap_alloc_new w _
 have hMU:=hM.below hbU hA (by omega)
 have hbU2:base ≤ U.heap.size:=Nat.le_trans hb hbU.size
 have hTU:TP U A ⟨k,r1,r2,r3,a2,s1,s2,s3,a4,a5,a6,a7,a8⟩ (.mk k R a2 ts a4 a5 a6 a7 a8):=hT.kept (fun b hb' => hbU.block b (by have:=hA b hb';omega)) (fun _ h => h)
 have HF:=hid (Fr.of_below hbU hb)
 have HQ:=hid hQ
 have hpU:w.heap.size < U.heap.size:=(Array.getElem?_eq_some_iff.1 hQ).1
 obtain ⟨c0,c1,c2,c3,c4,c5,c6,c7,c8⟩:=nine' hQ
 obtain ⟨p,hp⟩:∃ p,p = w.heap.size:=⟨_,rfl⟩
 have HMU:=hid hMU
 have HTU:=hid hTU
 rw [← hp] at c0 c1 c2 c3 c4 c5 c6 c7 c8 hpU HQ
 have e:(Tn.mk k R a2 ts a4 a5 a6 a7 a8).lay l.length = []:=by simp [Tn.lay,k1,k2,k3,k4,k5,k6]
 rw [e,List.append_nil]
 clear hM hMU hbU hQ hT hTU
 go_enter Tryz.func210,Tryz.ntmps210
 go_wp2_with fail
 rw [← hU]
 clear hU hp
 go_end0
 exact ⟨rfl,HMU.out,HF.out⟩
set_option maxRecDepth 100000 in
set_option maxHeartbeats 8000000 in
theorem class94g {base:Nat} {A:Nat → Prop} {a2 a4 a5 a7:Int} {a6:Bool} {a8:ByteArray} {r1 s1:Option Addr} {r2 r3 s2 s3:Nat} {R:List (Int × Int)} {ts:List Tn} (hA:∀ b,A b → b < base) (h5:R.length ≤ 5000):LP 204 base A ⟨2,r1,r2,r3,a2,s1,s2,s3,a4,a5,a6,a7,a8⟩ (.mk 2 R a2 ts a4 a5 a6 a7 a8):=by
 intro w m l hM hm hb hT hlen
 obtain ⟨U,hU⟩:∃ U,U = w.alloc (.cells #[.int .i64 2,.slice r1 r2 r3,.int .i64 a2,.slice s1 s2 s3,.int .i64 a4,.int .i64 a5,.bool a6,.int .i64 a7,.string a8] 25):=⟨_,rfl⟩
 have hbU:Below w.heap.size w U:=by rw [hU];exact Joins.below_alloc1 w _
 have hQ:BNo U w.heap.size ⟨2,r1,r2,r3,a2,s1,s2,s3,a4,a5,a6,a7,a8⟩:=by rw [hU];exact heap_alloc_new w _
 have hMU:=hM.below hbU hA (by omega)
 have hbU2:base ≤ U.heap.size:=Nat.le_trans hb hbU.size
 have hTU:TP U A ⟨2,r1,r2,r3,a2,s1,s2,s3,a4,a5,a6,a7,a8⟩ (.mk 2 R a2 ts a4 a5 a6 a7 a8):=hT.kept (fun b hb' => hbU.block b (by have:=hA b hb';omega)) (fun _ h => h)
 have HF:=hid (Fr.of_below hbU hb)
 have HQ:=hid hQ
 have hpU:w.heap.size < U.heap.size:=(Array.getElem?_eq_some_iff.1 hQ).1
 obtain ⟨c0,c1,c2,c3,c4,c5,c6,c7,c8⟩:=nine' hQ
 obtain ⟨p,hp⟩:∃ p,p = w.heap.size:=⟨_,rfl⟩
 have HMU:=hid hMU
 have HTU:=hid hTU
 rw [← hp] at c0 c1 c2 c3 c4 c5 c6 c7 c8 hpU HQ
 have hlen1:(Tn.mk 2 R a2 ts a4 a5 a6 a7 a8).len = 1:=by simp [Tn.len]
 rw [hlen1] at hlen
 have hr:r2 = R.length:=by cases hTU with | mk ok hr hR hRk hs hS hk => exact hr
 have hR:RP U A r1 R:=by cases hTU with | mk ok hr hR hRk hs hS hk => exact hR
 by_cases hR0:R.length = 0
 ·have e:(Tn.mk 2 R a2 ts a4 a5 a6 a7 a8).lay l.length = [⟨6,0,0,0,[]⟩]:=by simp [Tn.lay,hR0]
  rw [e]
  have hr0:r2 = 0:=by omega
  subst hr0
  have HC:=addL ⟨6,0,0,0,none,0,0⟩ ⟨6,0,0,0,[]⟩ HMU.out (im_bare _ _ _ _ _ _) hm hA (by omega) hbU2
  clear hR hr
  clear hM hMU hbU hQ hT hTU
  go_enter Tryz.func204,Tryz.ntmps204
  go_upto_region 1 with fail
  rw [← hU,← hp]
  clear hU hp
  go_wp2_with (first | (go_at_call 95;(with_reducible refine HC.mono ?_);rintro e w3 ⟨rfl,hM,hf⟩;have HM:=hid hM;have HF3:=hid hf;clear hM hf HC))
  all_goals first | go_end0 | (refine bodyPost_ret (results_none rfl _ _ _) rfl ?_)
  all_goals exact ⟨rfl,HM.out,HF.out.trans HF3.out⟩
 ·have e:(Tn.mk 2 R a2 ts a4 a5 a6 a7 a8).lay l.length = [⟨1,(l.length:Int) + 1,0,0,R⟩]:=by simp [Tn.lay,hR0]
  rw [e]
  have g0:((r2:Int) == 0) = false:=by simp;omega
  have HSS:Hid (∀ W,Below U.heap.size U W → Calls Tryz.prog 93 #[pt m,(⟨1,0,0,0,r1,r2,r3⟩:Iv).v] W fun e w' => e = .returned (.tuple #[]) ∧ MKL w' m base A (l ++ [⟨1,(l.length:Int) + 1,0,0,R⟩]) ∧ Fr base W w'):=fun W hW =>
   stepL 1 0 0 r1 r2 r3 R (HMU.out.below hW hA (by omega)) ⟨rfl,rfl,rfl,rfl,hr,by show r2 * 16 ≤ _;omega,hR.kept (fun b hb' => hW.block b (by have:=hA b hb';omega)) (fun _ h => h)⟩ hm hA (by omega) (Nat.le_trans hbU2 hW.size)
  clear hR hr
  clear hM hMU hbU hQ hT hTU
  go_enter Tryz.func204,Tryz.ntmps204
  go_upto_region 1 with fail
  rw [← hU,← hp]
  clear hU hp
  go_upto_region 3 with fail
  go_region_with (first | (go_at_call 93;(with_reducible refine (HSS.out _ ?_).mono ?_);(exact drew_below _);rintro e w3 ⟨rfl,hM,hf⟩;have HM:=hid hM;have HF3:=hid hf;clear hM hf))
  all_goals go_wp2_with fail
  all_goals go_end0
  all_goals exact ⟨rfl,HM.out,HF.out.trans ((Fr.of_below (drew_below U) hbU2).trans HF3.out)⟩
set_option maxRecDepth 100000 in
set_option maxHeartbeats 8000000 in
theorem assert95 {base:Nat} {A:Nat → Prop} {a2 a4 a5 a7:Int} {a6:Bool} {a8:ByteArray} {r1 s1:Option Addr} {r2 r3 s2 s3:Nat} {R:List (Int × Int)} {ts:List Tn} (hA:∀ b,A b → b < base) :LP 205 base A ⟨3,r1,r2,r3,a2,s1,s2,s3,a4,a5,a6,a7,a8⟩ (.mk 3 R a2 ts a4 a5 a6 a7 a8):=by
 intro w m l hM hm hb hT hlen
 obtain ⟨U,hU⟩:∃ U,U = w.alloc (.cells #[.int .i64 3,.slice r1 r2 r3,.int .i64 a2,.slice s1 s2 s3,.int .i64 a4,.int .i64 a5,.bool a6,.int .i64 a7,.string a8] 25):=⟨_,rfl⟩
 have hbU:Below w.heap.size w U:=by rw [hU];exact Joins.below_alloc1 w _
 have hQ:BNo U w.heap.size ⟨3,r1,r2,r3,a2,s1,s2,s3,a4,a5,a6,a7,a8⟩:=by rw [hU];exact heap_alloc_new w _
 have hMU:=hM.below hbU hA (by omega)
 have hbU2:base ≤ U.heap.size:=Nat.le_trans hb hbU.size
 have hTU:TP U A ⟨3,r1,r2,r3,a2,s1,s2,s3,a4,a5,a6,a7,a8⟩ (.mk 3 R a2 ts a4 a5 a6 a7 a8):=hT.kept (fun b hb' => hbU.block b (by have:=hA b hb';omega)) (fun _ h => h)
 have HF:=hid (Fr.of_below hbU hb)
 have HQ:=hid hQ
 have hpU:w.heap.size < U.heap.size:=(Array.getElem?_eq_some_iff.1 hQ).1
 obtain ⟨c0,c1,c2,c3,c4,c5,c6,c7,c8⟩:=nine' hQ
 obtain ⟨p,hp⟩:∃ p,p = w.heap.size:=⟨_,rfl⟩
 have HMU:=hid hMU
 have HTU:=hid hTU
 rw [← hp] at c0 c1 c2 c3 c4 c5 c6 c7 c8 hpU HQ
 have hlen1:(Tn.mk 3 R a2 ts a4 a5 a6 a7 a8).len = 1:=by simp [Tn.len]
 rw [hlen1] at hlen
 have e:(Tn.mk 3 R a2 ts a4 a5 a6 a7 a8).lay l.length = [⟨4,(l.length:Int) + 1,0,a2,[]⟩]:=by simp [Tn.lay]
 rw [e]
 have HSS:Hid (∀ W,Below U.heap.size U W → Calls Tryz.prog 93 #[pt m,(⟨4,0,0,a2,none,0,0⟩:Iv).v] W fun e w' => e = .returned (.tuple #[]) ∧ MKL w' m base A (l ++ [⟨4,(l.length:Int) + 1,0,a2,[]⟩]) ∧ Fr base W w'):=fun W hW =>
  stepL 4 0 a2 none 0 0 [] (HMU.out.below hW hA (by omega)) (im_bare _ _ _ _ _ _) hm hA (by omega) (Nat.le_trans hbU2 hW.size)
 clear hM hMU hbU hQ hT hTU
 go_enter Tryz.func205,Tryz.ntmps205
 go_upto_region 1 with fail
 rw [← hU,← hp]
 clear hU hp
 go_region_with (first | (go_at_call 93;(with_reducible refine (HSS.out _ ?_).mono ?_);(exact drew_below _);rintro e w3 ⟨rfl,hM,hf⟩;have HM:=hid hM;have HF3:=hid hf;clear hM hf))
 all_goals go_wp2_with fail
 all_goals go_end0
 all_goals exact ⟨rfl,HM.out,HF.out.trans ((Fr.of_below (drew_below U) hbU2).trans HF3.out)⟩
set_option maxRecDepth 100000 in
set_option maxHeartbeats 8000000 in
theorem cat97 {base:Nat} {A:Nat → Prop} {a2 a4 a5 a7:Int} {a6:Bool} {a8:ByteArray} {r1 s1:Option Addr} {r2 r3 s2 s3:Nat} {R:List (Int × Int)} {ts:List Tn} (hA:∀ b,A b → b < base) (hIH:∀ i (hi:i < ts.length) N,LP 94 base A N ts[i]):LP 207 base A ⟨4,r1,r2,r3,a2,s1,s2,s3,a4,a5,a6,a7,a8⟩ (.mk 4 R a2 ts a4 a5 a6 a7 a8):=by
 intro w m l hM hm hb hT hlen
 obtain ⟨U,hU⟩:∃ U,U = w.alloc (.cells #[.int .i64 4,.slice r1 r2 r3,.int .i64 a2,.slice s1 s2 s3,.int .i64 a4,.int .i64 a5,.bool a6,.int .i64 a7,.string a8] 25):=⟨_,rfl⟩
 have hbU:Below w.heap.size w U:=by rw [hU];exact Joins.below_alloc1 w _
 have hQ:BNo U w.heap.size ⟨4,r1,r2,r3,a2,s1,s2,s3,a4,a5,a6,a7,a8⟩:=by rw [hU];exact heap_alloc_new w _
 have hMU:=hM.below hbU hA (by omega)
 have hbU2:base ≤ U.heap.size:=Nat.le_trans hb hbU.size
 have hTU:TP U A ⟨4,r1,r2,r3,a2,s1,s2,s3,a4,a5,a6,a7,a8⟩ (.mk 4 R a2 ts a4 a5 a6 a7 a8):=hT.kept (fun b hb' => hbU.block b (by have:=hA b hb';omega)) (fun _ h => h)
 have HF:=hid (Fr.of_below hbU hb)
 have HQ:=hid hQ
 have hpU:w.heap.size < U.heap.size:=(Array.getElem?_eq_some_iff.1 hQ).1
 obtain ⟨c0,c1,c2,c3,c4,c5,c6,c7,c8⟩:=nine' hQ
 obtain ⟨p,hp⟩:∃ p,p = w.heap.size:=⟨_,rfl⟩
 have HMU:=hid hMU
 have HTU:=hid hTU
 rw [← hp] at c0 c1 c2 c3 c4 c5 c6 c7 c8 hpU HQ
 have hl4:(Tn.mk 4 R a2 ts a4 a5 a6 a7 a8).len = lenL ts:=by simp [Tn.len]
 rw [hl4] at hlen
 have e:(Tn.mk 4 R a2 ts a4 a5 a6 a7 a8).lay l.length = layL ts l.length:=by simp [Tn.lay]
 rw [e]
 obtain ⟨ND,hs,hS,hk⟩:∃ ND:Nat → Nv,s2 = ts.length ∧ (0 < ts.length → ∃ b o,s1 = some ⟨b,o,none⟩ ∧ A b ∧ ∀ i,i < ts.length → N9 U b o i (ND i)) ∧ ∀ i (hi:i < ts.length),TP U A (ND i) ts[i]:=by cases hTU with | @mk _ _ _ ND ok hr hR hRk hs hS hk => exact ⟨ND,hs,hS,hk⟩
 have hmx:s2 ≤ 9223372036854775807:=by cases hTU with | mk ok hr hR hRk hs hS hk => have:=ok.s;have e:maxLen = 9223372036854775807:=rfl;dsimp only at this;omega
 have HL:=hid hs
 have HS:=hid hS
 have HK:=hid hk
 have HIH:=hid hIH
 have HLN:=hid hlen
 clear hs hS hk hIH hlen
 clear hM hMU hbU hQ hT hTU
 go_enter Tryz.func207,Tryz.ntmps207
 go_upto_region 1 with fail
 rw [← hU,← hp]
 clear hU hp
 go_wp2_with fail
 go_loopw [9] (fun y wq => ∃ i:Nat,y = .int .i64 (i:Int) ∧ i ≤ s2 ∧ Hid (MKL wq m base A (l ++ layL (ts.take i) l.length)) ∧ Hid (Fr base U wq)) (fun y _ => s2 - (intOf y).toNat)
 case atStart => exact ⟨0,rfl,by omega,by show MKL _ _ _ _ _;simpa [layL] using HMU.out,Fr.of_below (Below.refl _ _) hbU2⟩
 case round =>
  obtain ⟨i,rfl,hi,HI,HFq⟩:=hrel
  have bQ:=HFq.out.blk p _ _ _ HQ.out (by decide) (by decide)
  clear c0 c1 c2 c3 c4 c5 c6 c7 c8
  obtain ⟨c0,c1,c2,c3,c4,c5,c6,c7,c8⟩:=nine' bQ
  clear bQ
  by_cases hil:i < s2
  ·have b1:decide ((i:Int) < (s2:Int)) = true:=by simp;omega
   have b2:(i:Int) < (s2:Int):=by omega
   have ad1:IntKind.i64.wrap ((i:Int) + 1) = (i:Int) + 1:=by simp [IntKind.wrap,IntKind.bits,IntKind.signed];omega
   have hlt:i < ts.length:=by have:=HL.out;omega
   obtain ⟨b,o,hs1,hbl,h9⟩:=HS.out (by omega)
   subst hs1
   have hfb:=HFq.out.bel hA
   obtain ⟨n0,n1,n2,n3,n4,n5,n6,n7,n8⟩:=(h9 i hlt).kept (hfb b hbl)
   have hTi:=(HK.out i hlt).kept hfb (fun _ h => h)
   obtain ⟨M,hMe⟩:∃ M,M = ND i:=⟨_,rfl⟩
   rw [← hMe] at n0 n1 n2 n3 n4 n5 n6 n7 n8 hTi
   have HTi:=hid hTi
   clear h9 hMe hTi hfb
   go_upto_region 4 with fail
   obtain ⟨X,hX⟩:∃ X,X = wr.alloc (.cells #[.int .i64 M.k,.slice M.r1 M.r2 M.r3,.int .i64 M.a2,.slice M.s1 M.s2 M.s3,.int .i64 M.a4,.int .i64 M.a5,.bool M.a6,.int .i64 M.a7,.string M.a8] 25):=⟨_,rfl⟩
   rw [← hX]
   have hXb:Below wr.heap.size wr X:=by rw [hX];exact Joins.below_alloc1 wr _
   have hXn:BNo X wr.heap.size M:=by rw [hX];exact heap_alloc_new wr _
   have hbw:base ≤ wr.heap.size:=Nat.le_trans hbU2 HFq.out.size
   have htk:layL (ts.take (i + 1)) l.length = layL (ts.take i) l.length ++ ts[i].lay (l.length + lenL (ts.take i)):=by
    rw [List.take_succ_eq_append_getElem hlt,layL_append];simp [layL]
   have hll:(l ++ layL (ts.take i) l.length).length = l.length + lenL (ts.take i):=by rw [List.length_append,layL_len]
   have hln:lenL (ts.take i) + ts[i].len ≤ lenL ts:=by
    have h1:=lenL_append (ts.take (i + 1)) (ts.drop (i + 1))
    rw [List.take_append_drop,List.take_succ_eq_append_getElem hlt,lenL_append] at h1
    simp only [lenL] at h1
    omega
   have HC:=HIH.out i hlt M X m (l ++ layL (ts.take i) l.length) (HI.out.below hXb hA (by omega)) hm (Nat.le_trans hbw hXb.size) (HTi.out.kept (fun b hb' => hXb.block b (by have:=hA b hb';omega)) (fun _ h => h)) (by rw [hll];have:=HLN.out;omega)
   rw [hll] at HC
   obtain ⟨x0,x1,x2,x3,x4,x5,x6,x7,x8⟩:=nine' hXn
   have HTK:=hid htk
   have HXF:=hid (Fr.of_below hXb hbw)
   clear hX hXb hXn htk hll hln n0 n1 n2 n3 n4 n5 n6 n7 n8 c0 c1 c2 c3 c4 c5 c6 c7 c8 HTi
   go_wp2_with (first | (go_at_call 94;(with_reducible refine HC.mono ?_);rintro e w2 ⟨rfl,hM2,hf2⟩;have HM2:=hid hM2;have HF2:=hid hf2;clear hM2 hf2 HC))
   refine ⟨⟨i + 1,by push_cast;rfl,by omega,?_,HFq.out.trans (HXF.out.trans HF2.out)⟩,by simp [intOf];omega⟩
   show MKL _ _ _ _ _
   rw [HTK.out,← List.append_assoc]
   exact HM2.out
  ·have b1:decide ((i:Int) < (s2:Int)) = false:=by simp;omega
   obtain rfl:i = s2:=by omega
   go_wp2
   all_goals go_end0
   all_goals
    have htk:ts.take i = ts:=by rw [HL.out,List.take_length]
    have h:=HI.out
    rw [htk] at h
    exact ⟨rfl,h,HF.out.trans HFq.out⟩
set_option maxRecDepth 100000 in
set_option maxHeartbeats 8000000 in
theorem group96 {base:Nat} {A:Nat → Prop} {a2 a4 a5 a7:Int} {a6:Bool} {a8:ByteArray} {r1 s1:Option Addr} {r2 r3 s2 s3:Nat} {R:List (Int × Int)} {ts:List Tn} (hA:∀ b,A b → b < base) (y:Tn) (hts:ts = [y]) (hix:0 ≤ a7 ∧ a7 ≤ 500) (hIH:∀ N,LP 94 base A N y):LP 206 base A ⟨7,r1,r2,r3,a2,s1,s2,s3,a4,a5,a6,a7,a8⟩ (.mk 7 R a2 ts a4 a5 a6 a7 a8):=by
 intro w m l hM hm hb hT hlen
 obtain ⟨U,hU⟩:∃ U,U = w.alloc (.cells #[.int .i64 7,.slice r1 r2 r3,.int .i64 a2,.slice s1 s2 s3,.int .i64 a4,.int .i64 a5,.bool a6,.int .i64 a7,.string a8] 25):=⟨_,rfl⟩
 have hbU:Below w.heap.size w U:=by rw [hU];exact Joins.below_alloc1 w _
 have hQ:BNo U w.heap.size ⟨7,r1,r2,r3,a2,s1,s2,s3,a4,a5,a6,a7,a8⟩:=by rw [hU];exact heap_alloc_new w _
 have hMU:=hM.below hbU hA (by omega)
 have hbU2:base ≤ U.heap.size:=Nat.le_trans hb hbU.size
 have hTU:TP U A ⟨7,r1,r2,r3,a2,s1,s2,s3,a4,a5,a6,a7,a8⟩ (.mk 7 R a2 ts a4 a5 a6 a7 a8):=hT.kept (fun b hb' => hbU.block b (by have:=hA b hb';omega)) (fun _ h => h)
 have HF:=hid (Fr.of_below hbU hb)
 have HQ:=hid hQ
 have hpU:w.heap.size < U.heap.size:=(Array.getElem?_eq_some_iff.1 hQ).1
 obtain ⟨c0,c1,c2,c3,c4,c5,c6,c7,c8⟩:=nine' hQ
 obtain ⟨p,hp⟩:∃ p,p = w.heap.size:=⟨_,rfl⟩
 have HMU:=hid hMU
 have HTU:=hid hTU
 rw [← hp] at c0 c1 c2 c3 c4 c5 c6 c7 c8 hpU HQ
 subst hts
 have hl7:(Tn.mk 7 R a2 [y] a4 a5 a6 a7 a8).len = y.len + 2:=by simp [Tn.len,lenL]
 rw [hl7] at hlen
 have e:(Tn.mk 7 R a2 [y] a4 a5 a6 a7 a8).lay l.length = ⟨3,(l.length:Int) + 1,0,2 * a7,[]⟩ :: (y.lay (l.length + 1) ++ [⟨3,((l.length + 1 + y.len:Nat):Int) + 1,0,2 * a7 + 1,[]⟩]):=by simp [Tn.lay,layL,lenL]
 rw [e]
 obtain ⟨M,b,o,hs2,hs1,hbl,h9,hTM⟩:∃ (M:Nv) (b o:Nat),s2 = 1 ∧ s1 = some ⟨b,o,none⟩ ∧ A b ∧ N9 U b o 0 M ∧ TP U A M y:=by
  cases hTU with
  | @mk _ _ _ ND ok hr hR hRk hs hS hk =>
   obtain ⟨b,o,h1,h2,h3⟩:=hS (by simp)
   exact ⟨ND 0,b,o,hs,h1,h2,h3 0 (by simp),hk 0 (by simp)⟩
 subst hs1 hs2
 have w1:IntKind.i64.wrap (2 * a7) = 2 * a7:=by simp [IntKind.wrap,IntKind.bits,IntKind.signed];omega
 have w2:IntKind.i64.wrap (2 * a7 + 1) = 2 * a7 + 1:=by simp [IntKind.wrap,IntKind.bits,IntKind.signed];omega
 have HSS:Hid (∀ W,Below U.heap.size U W → Calls Tryz.prog 93 #[pt m,(⟨3,0,0,2 * a7,none,0,0⟩:Iv).v] W fun e w' => e = .returned (.tuple #[]) ∧ MKL w' m base A (l ++ [⟨3,(l.length:Int) + 1,0,2 * a7,[]⟩]) ∧ Fr base W w'):=fun W hW =>
  stepL 3 0 (2 * a7) none 0 0 [] (HMU.out.below hW hA (by omega)) (im_bare _ _ _ _ _ _) hm hA (by omega) (Nat.le_trans hbU2 hW.size)
 have HIH:=hid hIH
 have H9:=hid h9
 have HTM:=hid hTM
 clear hIH h9 hTM
 clear hM hMU hbU hQ hT hTU
 go_enter Tryz.func206,Tryz.ntmps206
 go_upto_region 1 with fail
 rw [← hU,← hp]
 clear hU hp
 go_region_with (first | (go_at_call 93;(with_reducible refine (HSS.out _ ?_).mono ?_);(exact drew_below _);rintro e w3 ⟨rfl,hM,hf⟩;have HM:=hid hM;have HF3:=hid hf;clear hM hf))
 all_goals
  have hF3:Fr base U w3:=(Fr.of_below (drew_below U) hbU2).trans HF3.out
  have bQ:=hF3.blk p _ _ _ HQ.out (by decide) (by decide)
  clear c0 c1 c2 c3 c4 c5 c6 c7 c8
  obtain ⟨c0,c1,c2,c3,c4,c5,c6,c7,c8⟩:=nine' bQ
  have hfb:=hF3.bel hA
  obtain ⟨n0,n1,n2,n3,n4,n5,n6,n7,n8⟩:=H9.out.kept (hfb b hbl)
  simp only [Nat.zero_mul,Nat.add_zero] at n0 n1 n2 n3 n4 n5 n6 n7 n8
  have hb3:base ≤ w3.heap.size:=Nat.le_trans hbU2 hF3.size
  have HC:=HIH.out M w3 m _ HM.out hm hb3 (HTM.out.kept hfb (fun _ h => h)) (by simp;omega)
  have hll:(l ++ [(⟨3,(l.length:Int) + 1,0,2 * a7,[]⟩:In)]).length = l.length + 1:=by simp
  rw [hll] at HC
  have HF3':=hid hF3
  have HQ3:=hid bQ
  clear bQ hfb hF3 hll
  go_upto_region 3 with (first | (go_at_call 94;(with_reducible refine HC.mono ?_);rintro e w4 ⟨rfl,hM,hf⟩;have HM4:=hid hM;have HF4:=hid hf;clear hM hf HC))
  have bQ:=HF4.out.blk p _ _ _ HQ3.out (by decide) (by decide)
  clear c0 c1 c2 c3 c4 c5 c6 c7 c8 n0 n1 n2 n3 n4 n5 n6 n7 n8
  obtain ⟨c0,c1,c2,c3,c4,c5,c6,c7,c8⟩:=nine' bQ
  have hb4:base ≤ w4.heap.size:=Nat.le_trans hb3 HF4.out.size
  have hll:(l ++ [(⟨3,(l.length:Int) + 1,0,2 * a7,[]⟩:In)] ++ y.lay (l.length + 1)).length = l.length + 1 + y.len:=by simp [lay_len];omega
  have HST:Hid (∀ W,Below w4.heap.size w4 W → Calls Tryz.prog 93 #[pt m,(⟨3,0,0,2 * a7 + 1,none,0,0⟩:Iv).v] W fun e w' => e = .returned (.tuple #[]) ∧ MKL w' m base A (l ++ [⟨3,(l.length:Int) + 1,0,2 * a7,[]⟩] ++ y.lay (l.length + 1) ++ [⟨3,((l.length + 1 + y.len:Nat):Int) + 1,0,2 * a7 + 1,[]⟩]) ∧ Fr base W w'):=fun W hW => by
   have:=stepL 3 0 (2 * a7 + 1) none 0 0 [] (HM4.out.below hW hA (by omega)) (im_bare _ _ _ _ _ _) hm hA (by rw [hll];omega) (Nat.le_trans hb4 hW.size)
   rw [hll] at this
   exact this
  clear bQ hll
  go_region_with (first | (go_at_call 93;(with_reducible refine (HST.out _ ?_).mono ?_);(exact drew_below _);rintro e w5 ⟨rfl,hM,hf⟩;have HM5:=hid hM;have HF5:=hid hf;clear hM hf))
  all_goals go_wp2_with fail
  all_goals go_end0
  all_goals
   refine ⟨rfl,?_,HF.out.trans (HF3'.out.trans (HF4.out.trans ((Fr.of_below (drew_below w4) hb4).trans HF5.out)))⟩
   have h:=HM5.out
   simpa [List.append_assoc] using h
end Go.Proofs.YtacaanhnlfpbhaaGreat
