/- HELPERS: texts of ours put together. -/
import Derived.Test.YtacaanhnlfpbhaaGreatK11
import Derived.Test.YtacaanhnlfpbhaaGreatK04
namespace Go.Proofs.YtacaanhnlfpbhaaGreat
open Go.RowKit
set_option linter.unusedVariables false
set_option linter.unusedSimpArgs false
structure AG where
 s:Nat→Prop
 g:Option Addr→Nat→Nat→List (Int × Int)→Prop
 g0:g none 0 0 []
instance:CoeFun AG (fun _=>Nat→Prop):=⟨AG.s⟩
inductive TPQ (w:World) (A:AG):Nv→Tn→Prop
 | mk {N:Nv} {R:List (Int × Int)} {ts:List Tn} {ND:Nat→Nv} (ok:N.ok) (hr:N.r2=R.length) (hR:R≠[]→A.g N.r1 N.r2 N.r3 R) (hRk:True) (hs:N.s2=ts.length)
   (hS:0 < ts.length→∃ b o,N.s1=some ⟨b,o,none⟩∧A.s b∧∀ i,i < ts.length→N9 w b o i (ND i)) (hk:∀ i (hi:i < ts.length),TPQ w A (ND i) ts[i]) :
   TPQ w A N (.mk N.k R N.a2 ts N.a4 N.a5 N.a6 N.a7 N.a8)
theorem TPQ.kept {w w':World} {A:AG} {N:Nv} {t:Tn} (h:TPQ w A N t) (hk:∀ b,A.s b→w'.heap[b]?=w.heap[b]?) (hA:∀ b,A.s b→A.s b):TPQ w' A N t:=by
 induction h with
 | mk ok hr hR hRk hs hS hkk ih =>
  refine .mk ok hr hR hRk hs (fun hp=>?_) ih
  obtain ⟨b,o,h1,h2,h3⟩:=hS hp
  exact ⟨b,o,h1,h2,fun i hi=>(h3 i hi).kept (hk b h2)⟩
inductive NfQ:Tn→Prop
 | leaf {k:Int} {R:List (Int × Int)} {a mn mx:Int} {lz:Bool} {ix:Int} {nm:ByteArray} (hk:k=1∨k=2∨k=3) (hn:R.length≤5000):NfQ (.mk k R a [] mn mx lz ix nm)
 | cat {s:List Tn} (h2:2≤s.length) (h:True) (hs:∀ u ∈ s,NfQ u):NfQ (zN 4 s)
 | alt {s:List Tn} (h2:2≤s.length) (h:True) (hs:∀ u ∈ s,NfQ u):NfQ (zN 5 s)
 | loop {mn mx:Int} {lz:Bool} {y:Tn} (h:(mn=0∧mx=1)∨(mn=0∧mx=-1)∨(mn=1∧mx=-1)) (hy:NfQ y):NfQ (loopT mn mx lz y)
 | grp {ix:Int} {nm:ByteArray} {y:Tn} (hn:1≤ix∧ix≤500) (hy:NfQ y):NfQ (.mk 7 [] 0 [y] 0 0 false ix nm)
structure IMpQ (w:World) (A:AG) (N:Iv) (I:In):Prop where
 op:N.op=I.op
 x:N.x=I.x
 y:N.y=I.y
 a:N.a=I.a
 len:N.r2=I.R.length
 sm:N.r2 * 16≤140737488351232
 rp:A.g N.r1 N.r2 N.r3 I.R
theorem IMpQ.kept {w w':World} {A:AG} {N:Iv} {I:In} (h:IMpQ w A N I) (hk:∀ b,A b→w'.heap[b]?=w.heap[b]?):IMpQ w' A N I:=⟨h.op,h.x,h.y,h.a,h.len,h.sm,h.rp⟩
def MKLQ (w:World) (m base:Nat) (A:AG) (l:List In):Prop:=∃ is:List Iv,MK w m base l.length (is.flatMap Iv.cs)∧is.length=l.length∧∀ k (h:k < is.length) (h':k < l.length),IMpQ w A is[k] l[k]
theorem MKLQ.below {w w':World} {m base:Nat} {A:AG} {l:List In} (h:MKLQ w m base A l) (hb:Below w.heap.size w w') (hA:∀ b,A b→b < base) (hs:base≤w.heap.size):MKLQ w' m base A l:=by
 obtain ⟨is,h1,h2,h3⟩:=h
 exact ⟨is,h1.below hb,h2,fun k hk hk'=>(h3 k hk hk').kept fun b hb'=>hb.block b (by have:=hA b hb';omega)⟩
theorem MKLQ.cell {w:World} {m base:Nat} {A:AG} {l:List In} (h:MKLQ w m base A l):∃ z1 c,w.cell? ⟨m,0,none⟩=some (.slice z1 l.length c):=by
 obtain ⟨is,⟨z1,c,h1,_⟩,_⟩:=h
 exact ⟨z1,c,Joins.cell_of_block h1 0⟩
theorem MKLQ.lt {w:World} {m base:Nat} {A:AG} {l:List In} (h:MKLQ w m base A l):m < w.heap.size:=by
 obtain ⟨is,⟨z1,c,h1,_⟩,_⟩:=h
 exact (Array.getElem?_eq_some_iff.1 h1).1
theorem next65lQ {w:World} {m base:Nat} {A:AG} {l:List In} (h:MKLQ w m base A l):Calls Tryz.prog 137 #[pt m] w fun e w'=>e=.returned (.int .i64 (l.length:Int))∧w'=w:=by
 obtain ⟨z1,c,hc⟩:=h.cell
 exact next65c m 0 z1 l.length c w hc
theorem im_bareQ (w:World) (A:AG) (op x y a:Int):IMpQ w A ⟨op,x,y,a,none,0,0⟩ ⟨op,x,y,a,[]⟩:=⟨rfl,rfl,rfl,rfl,rfl,by simp,A.g0⟩
theorem MKLQ.snoc {w w':World} {m base:Nat} {A:AG} {l:List In} {is:List Iv} {N:Iv} {I:In} (h2:is.length=l.length) (h3:∀ k (h:k < is.length) (h':k < l.length),IMpQ w A is[k] l[k]) (hI:IMpQ w A N I) (hM:MK w' m base (l.length + 1) (is.flatMap Iv.cs ++ Iv.cs N)) (hb:∀ b,A b→w'.heap[b]?=w.heap[b]?):MKLQ w' m base A (l ++ [I]):=by
 refine ⟨is ++ [N],?_,by simp [h2],fun k hk hk'=>?_⟩
 ·rw [List.length_append,List.flatMap_append];simpa using hM
 ·by_cases hl:k < l.length
  ·rw [List.getElem_append_left (by omega),List.getElem_append_left hl]
   exact (h3 k (by omega) hl).kept hb
  ·simp only [List.length_append,List.length_cons,List.length_nil] at hk hk'
   have e:k=l.length:=by omega
   subst e
   rw [List.getElem_append_right (by omega),List.getElem_append_right (Nat.le_refl _)]
   simp only [h2,Nat.sub_self,List.getElem_cons_zero]
   exact hI.kept hb
theorem addLQ {w:World} {m base:Nat} {A:AG} {l:List In} (N:Iv) (I:In) (h:MKLQ w m base A l) (hI:IMpQ w A N I) (hm:base≤m) (hA:∀ b,A b→b < base) (hn:l.length≤20000) (hb:base≤w.heap.size) :
  Calls Tryz.prog 95 #[pt m,N.v] w fun e w'=>e=.returned (.tuple #[])∧MKLQ w' m base A (l ++ [I])∧Fr base w w':=by
 obtain ⟨is,h1,h2,h3⟩:=h
 refine (add42' N h1 hm hn hb).mono ?_
 rintro e w' ⟨rfl,hM,hf⟩
 exact ⟨rfl,MKLQ.snoc h2 h3 hI hM (hf.bel hA),hf⟩
theorem stepLQ {w:World} {m base:Nat} {A:AG} {l:List In} (op yy aa:Int) (r1:Option Addr) (r2 r3:Nat) (R:List (Int × Int)) (h:MKLQ w m base A l) (hI:IMpQ w A ⟨op,(l.length:Int) + 1,yy,aa,r1,r2,r3⟩ ⟨op,(l.length:Int) + 1,yy,aa,R⟩) (hm:base≤m) (hA:∀ b,A b→b < base) (hn:l.length≤20000) (hb:base≤w.heap.size) :
  Calls Tryz.prog 93 #[pt m,(⟨op,0,yy,aa,r1,r2,r3⟩:Iv).v] w fun e w'=>e=.returned (.tuple #[])∧MKLQ w' m base A (l ++ [⟨op,(l.length:Int) + 1,yy,aa,R⟩])∧Fr base w w':=by
 obtain ⟨is,h1,h2,h3⟩:=h
 refine (step48 op yy aa r1 r2 r3 h1 hm hn hb).mono ?_
 rintro e w' ⟨rfl,hM,hf⟩
 exact ⟨rfl,MKLQ.snoc h2 h3 hI hM (hf.bel hA),hf⟩
abbrev LPQ (F base:Nat) (A:AG) (N:Nv) (t:Tn):Prop:=∀ (w:World) (m:Nat) (l:List In),MKLQ w m base A l→base≤m→base≤w.heap.size→TPQ w A N t→l.length + t.len≤20000 →
 Calls Tryz.prog F #[pt m,N.v] w fun e w'=>e=.returned (.tuple #[])∧MKLQ w' m base A (l ++ t.lay l.length)∧Fr base w w'
set_option maxRecDepth 100000 in
set_option maxHeartbeats 8000000 in
theorem empty100Q {base:Nat} {A:AG} {k a2 a4 a5 a7:Int} {a6:Bool} {a8:ByteArray} {r1 s1:Option Addr} {r2 r3 s2 s3:Nat} {R:List (Int × Int)} {ts:List Tn} (hA:∀ b,A b→b < base) (k1:k≠2) (k2:k≠3) (k3:k≠4) (k4:k≠5) (k5:k≠6) (k6:k≠7):LPQ 210 base A ⟨k,r1,r2,r3,a2,s1,s2,s3,a4,a5,a6,a7,a8⟩ (.mk k R a2 ts a4 a5 a6 a7 a8):=by
 intro w m l hM hm hb hT hlen
 obtain ⟨U,hU⟩:∃ U,U=w.alloc (.cells #[.int .i64 k,.slice r1 r2 r3,.int .i64 a2,.slice s1 s2 s3,.int .i64 a4,.int .i64 a5,.bool a6,.int .i64 a7,.string a8] 25):=⟨_,rfl⟩
 have hbU:Below w.heap.size w U:=by rw [hU];exact Joins.below_alloc1 w _
 have hQ:BNo U w.heap.size ⟨k,r1,r2,r3,a2,s1,s2,s3,a4,a5,a6,a7,a8⟩:=by rw [hU];exact heap_alloc_new w _
 have hMU:=hM.below hbU hA (by omega)
 have hbU2:base≤U.heap.size:=Nat.le_trans hb hbU.size
 have hTU:TPQ U A ⟨k,r1,r2,r3,a2,s1,s2,s3,a4,a5,a6,a7,a8⟩ (.mk k R a2 ts a4 a5 a6 a7 a8):=hT.kept (fun b hb'=>hbU.block b (by have:=hA b hb';omega)) (fun _ h=>h)
 have HF:=hid (Fr.of_below hbU hb)
 have HQ:=hid hQ
 have hpU:w.heap.size < U.heap.size:=(Array.getElem?_eq_some_iff.1 hQ).1
 obtain ⟨c0,c1,c2,c3,c4,c5,c6,c7,c8⟩:=nine' hQ
 obtain ⟨p,hp⟩:∃ p,p=w.heap.size:=⟨_,rfl⟩
 have HMU:=hid hMU
 have HTU:=hid hTU
 rw [← hp] at c0 c1 c2 c3 c4 c5 c6 c7 c8 hpU HQ
 have e:(Tn.mk k R a2 ts a4 a5 a6 a7 a8).lay l.length=[]:=by simp [Tn.lay,k1,k2,k3,k4,k5,k6]
 rw [e,List.append_nil]
 clear hM hMU hbU hQ hT hTU
 go_enter Tryz.func210,Tryz.ntmps210
 go_wp2_with fail
 rw [← hU]
 clear hU hp
 go_end0
 exact ⟨rfl,HMU.out,HF.out⟩
set_option maxRecDepth 100000 in
set_option maxHeartbeats 8000000 in
theorem class94gQ {base:Nat} {A:AG} {a2 a4 a5 a7:Int} {a6:Bool} {a8:ByteArray} {r1 s1:Option Addr} {r2 r3 s2 s3:Nat} {R:List (Int × Int)} {ts:List Tn} (hA:∀ b,A b→b < base) (h5:R.length≤5000):LPQ 204 base A ⟨2,r1,r2,r3,a2,s1,s2,s3,a4,a5,a6,a7,a8⟩ (.mk 2 R a2 ts a4 a5 a6 a7 a8):=by
 intro w m l hM hm hb hT hlen
 obtain ⟨U,hU⟩:∃ U,U=w.alloc (.cells #[.int .i64 2,.slice r1 r2 r3,.int .i64 a2,.slice s1 s2 s3,.int .i64 a4,.int .i64 a5,.bool a6,.int .i64 a7,.string a8] 25):=⟨_,rfl⟩
 have hbU:Below w.heap.size w U:=by rw [hU];exact Joins.below_alloc1 w _
 have hQ:BNo U w.heap.size ⟨2,r1,r2,r3,a2,s1,s2,s3,a4,a5,a6,a7,a8⟩:=by rw [hU];exact heap_alloc_new w _
 have hMU:=hM.below hbU hA (by omega)
 have hbU2:base≤U.heap.size:=Nat.le_trans hb hbU.size
 have hTU:TPQ U A ⟨2,r1,r2,r3,a2,s1,s2,s3,a4,a5,a6,a7,a8⟩ (.mk 2 R a2 ts a4 a5 a6 a7 a8):=hT.kept (fun b hb'=>hbU.block b (by have:=hA b hb';omega)) (fun _ h=>h)
 have HF:=hid (Fr.of_below hbU hb)
 have HQ:=hid hQ
 have hpU:w.heap.size < U.heap.size:=(Array.getElem?_eq_some_iff.1 hQ).1
 obtain ⟨c0,c1,c2,c3,c4,c5,c6,c7,c8⟩:=nine' hQ
 obtain ⟨p,hp⟩:∃ p,p=w.heap.size:=⟨_,rfl⟩
 have HMU:=hid hMU
 have HTU:=hid hTU
 rw [← hp] at c0 c1 c2 c3 c4 c5 c6 c7 c8 hpU HQ
 have hlen1:(Tn.mk 2 R a2 ts a4 a5 a6 a7 a8).len=1:=by simp [Tn.len]
 rw [hlen1] at hlen
 have hr:r2=R.length:=by cases hTU with | mk ok hr hR hRk hs hS hk=>exact hr
 have hR:R≠[]→A.g r1 r2 r3 R:=by cases hTU with | mk ok hr hR hRk hs hS hk=>exact hR
 by_cases hR0:R.length=0
 ·have e:(Tn.mk 2 R a2 ts a4 a5 a6 a7 a8).lay l.length=[⟨6,0,0,0,[]⟩]:=by simp [Tn.lay,hR0]
  rw [e]
  have hr0:r2=0:=by omega
  subst hr0
  have HC:=addLQ ⟨6,0,0,0,none,0,0⟩ ⟨6,0,0,0,[]⟩ HMU.out (im_bareQ _ _ _ _ _ _) hm hA (by omega) hbU2
  clear hR hr
  clear hM hMU hbU hQ hT hTU
  go_enter Tryz.func204,Tryz.ntmps204
  go_upto_region 1 with fail
  rw [← hU,← hp]
  clear hU hp
  go_wp2_with (first | (go_at_call 95;(with_reducible refine HC.mono ?_);rintro e w3 ⟨rfl,hM,hf⟩;have HM:=hid hM;have HF3:=hid hf;clear hM hf HC))
  all_goals first | go_end0 | (refine bodyPost_ret (results_none rfl _ _ _) rfl ?_)
  all_goals exact ⟨rfl,HM.out,HF.out.trans HF3.out⟩
 ·have e:(Tn.mk 2 R a2 ts a4 a5 a6 a7 a8).lay l.length=[⟨1,(l.length:Int) + 1,0,0,R⟩]:=by simp [Tn.lay,hR0]
  rw [e]
  have g0:((r2:Int) == 0)=false:=by simp;omega
  have HSS:Hid (∀ W,Below U.heap.size U W→Calls Tryz.prog 93 #[pt m,(⟨1,0,0,0,r1,r2,r3⟩:Iv).v] W fun e w'=>e=.returned (.tuple #[])∧MKLQ w' m base A (l ++ [⟨1,(l.length:Int) + 1,0,0,R⟩])∧Fr base W w'):=fun W hW =>
   stepLQ 1 0 0 r1 r2 r3 R (HMU.out.below hW hA (by omega)) ⟨rfl,rfl,rfl,rfl,hr,by show r2 * 16≤_;omega,hR (by intro e;apply hR0;rw [e];rfl)⟩ hm hA (by omega) (Nat.le_trans hbU2 hW.size)
  clear hR hr
  clear hM hMU hbU hQ hT hTU
  go_enter Tryz.func204,Tryz.ntmps204
  go_upto_region 1 with fail
  rw [← hU,← hp]
  clear hU hp
  go_upto_region 3 with fail
  go_region_with (first | (go_at_call 93;(with_reducible refine (HSS.out _ ?_).mono ?_);(exact drew_below _);rintro e w3 ⟨rfl,hM,hf⟩;have HM:=hid hM;have HF3:=hid hf;clear hM hf))
  all_goals go_wp2_with fail
  all_goals go_end0
  all_goals exact ⟨rfl,HM.out,HF.out.trans ((Fr.of_below (drew_below U) hbU2).trans HF3.out)⟩
set_option maxRecDepth 100000 in
set_option maxHeartbeats 8000000 in
theorem assert95Q {base:Nat} {A:AG} {a2 a4 a5 a7:Int} {a6:Bool} {a8:ByteArray} {r1 s1:Option Addr} {r2 r3 s2 s3:Nat} {R:List (Int × Int)} {ts:List Tn} (hA:∀ b,A b→b < base) :LPQ 205 base A ⟨3,r1,r2,r3,a2,s1,s2,s3,a4,a5,a6,a7,a8⟩ (.mk 3 R a2 ts a4 a5 a6 a7 a8):=by
 intro w m l hM hm hb hT hlen
 obtain ⟨U,hU⟩:∃ U,U=w.alloc (.cells #[.int .i64 3,.slice r1 r2 r3,.int .i64 a2,.slice s1 s2 s3,.int .i64 a4,.int .i64 a5,.bool a6,.int .i64 a7,.string a8] 25):=⟨_,rfl⟩
 have hbU:Below w.heap.size w U:=by rw [hU];exact Joins.below_alloc1 w _
 have hQ:BNo U w.heap.size ⟨3,r1,r2,r3,a2,s1,s2,s3,a4,a5,a6,a7,a8⟩:=by rw [hU];exact heap_alloc_new w _
 have hMU:=hM.below hbU hA (by omega)
 have hbU2:base≤U.heap.size:=Nat.le_trans hb hbU.size
 have hTU:TPQ U A ⟨3,r1,r2,r3,a2,s1,s2,s3,a4,a5,a6,a7,a8⟩ (.mk 3 R a2 ts a4 a5 a6 a7 a8):=hT.kept (fun b hb'=>hbU.block b (by have:=hA b hb';omega)) (fun _ h=>h)
 have HF:=hid (Fr.of_below hbU hb)
 have HQ:=hid hQ
 have hpU:w.heap.size < U.heap.size:=(Array.getElem?_eq_some_iff.1 hQ).1
 obtain ⟨c0,c1,c2,c3,c4,c5,c6,c7,c8⟩:=nine' hQ
 obtain ⟨p,hp⟩:∃ p,p=w.heap.size:=⟨_,rfl⟩
 have HMU:=hid hMU
 have HTU:=hid hTU
 rw [← hp] at c0 c1 c2 c3 c4 c5 c6 c7 c8 hpU HQ
 have hlen1:(Tn.mk 3 R a2 ts a4 a5 a6 a7 a8).len=1:=by simp [Tn.len]
 rw [hlen1] at hlen
 have e:(Tn.mk 3 R a2 ts a4 a5 a6 a7 a8).lay l.length=[⟨4,(l.length:Int) + 1,0,a2,[]⟩]:=by simp [Tn.lay]
 rw [e]
 have HSS:Hid (∀ W,Below U.heap.size U W→Calls Tryz.prog 93 #[pt m,(⟨4,0,0,a2,none,0,0⟩:Iv).v] W fun e w'=>e=.returned (.tuple #[])∧MKLQ w' m base A (l ++ [⟨4,(l.length:Int) + 1,0,a2,[]⟩])∧Fr base W w'):=fun W hW =>
  stepLQ 4 0 a2 none 0 0 [] (HMU.out.below hW hA (by omega)) (im_bareQ _ _ _ _ _ _) hm hA (by omega) (Nat.le_trans hbU2 hW.size)
 clear hM hMU hbU hQ hT hTU
 go_enter Tryz.func205,Tryz.ntmps205
 go_upto_region 1 with fail
 rw [← hU,← hp]
 clear hU hp
 go_region_with (first | (go_at_call 93;(with_reducible refine (HSS.out _ ?_).mono ?_);(exact drew_below _);rintro e w3 ⟨rfl,hM,hf⟩;have HM:=hid hM;have HF3:=hid hf;clear hM hf))
 all_goals go_wp2_with fail
 all_goals go_end0
 all_goals exact ⟨rfl,HM.out,HF.out.trans ((Fr.of_below (drew_below U) hbU2).trans HF3.out)⟩
set_option maxRecDepth 100000 in
set_option maxHeartbeats 8000000 in
theorem cat97Q {base:Nat} {A:AG} {a2 a4 a5 a7:Int} {a6:Bool} {a8:ByteArray} {r1 s1:Option Addr} {r2 r3 s2 s3:Nat} {R:List (Int × Int)} {ts:List Tn} (hA:∀ b,A b→b < base) (hIH:∀ i (hi:i < ts.length) N,LPQ 94 base A N ts[i]):LPQ 207 base A ⟨4,r1,r2,r3,a2,s1,s2,s3,a4,a5,a6,a7,a8⟩ (.mk 4 R a2 ts a4 a5 a6 a7 a8):=by
 intro w m l hM hm hb hT hlen
 obtain ⟨U,hU⟩:∃ U,U=w.alloc (.cells #[.int .i64 4,.slice r1 r2 r3,.int .i64 a2,.slice s1 s2 s3,.int .i64 a4,.int .i64 a5,.bool a6,.int .i64 a7,.string a8] 25):=⟨_,rfl⟩
 have hbU:Below w.heap.size w U:=by rw [hU];exact Joins.below_alloc1 w _
 have hQ:BNo U w.heap.size ⟨4,r1,r2,r3,a2,s1,s2,s3,a4,a5,a6,a7,a8⟩:=by rw [hU];exact heap_alloc_new w _
 have hMU:=hM.below hbU hA (by omega)
 have hbU2:base≤U.heap.size:=Nat.le_trans hb hbU.size
 have hTU:TPQ U A ⟨4,r1,r2,r3,a2,s1,s2,s3,a4,a5,a6,a7,a8⟩ (.mk 4 R a2 ts a4 a5 a6 a7 a8):=hT.kept (fun b hb'=>hbU.block b (by have:=hA b hb';omega)) (fun _ h=>h)
 have HF:=hid (Fr.of_below hbU hb)
 have HQ:=hid hQ
 have hpU:w.heap.size < U.heap.size:=(Array.getElem?_eq_some_iff.1 hQ).1
 obtain ⟨c0,c1,c2,c3,c4,c5,c6,c7,c8⟩:=nine' hQ
 obtain ⟨p,hp⟩:∃ p,p=w.heap.size:=⟨_,rfl⟩
 have HMU:=hid hMU
 have HTU:=hid hTU
 rw [← hp] at c0 c1 c2 c3 c4 c5 c6 c7 c8 hpU HQ
 have hl4:(Tn.mk 4 R a2 ts a4 a5 a6 a7 a8).len=lenL ts:=by simp [Tn.len]
 rw [hl4] at hlen
 have e:(Tn.mk 4 R a2 ts a4 a5 a6 a7 a8).lay l.length=layL ts l.length:=by simp [Tn.lay]
 rw [e]
 obtain ⟨ND,hs,hS,hk⟩:∃ ND:Nat→Nv,s2=ts.length∧(0 < ts.length→∃ b o,s1=some ⟨b,o,none⟩∧A b∧∀ i,i < ts.length→N9 U b o i (ND i))∧∀ i (hi:i < ts.length),TPQ U A (ND i) ts[i]:=by cases hTU with | @mk _ _ _ ND ok hr hR hRk hs hS hk=>exact ⟨ND,hs,hS,hk⟩
 have hmx:s2≤9223372036854775807:=by cases hTU with | mk ok hr hR hRk hs hS hk=>have:=ok.s;have e:maxLen=9223372036854775807:=rfl;dsimp only at this;omega
 have HL:=hid hs
 have HS:=hid hS
 have HK:=hid hk
 have HIH:=hid hIH
 have HLN:=hid hlen
 clear hs hS hk hIH hlen
 clear hM hMU hbU hQ hT hTU
 go_enter Tryz.func207,Tryz.ntmps207
 go_upto_region 1 with fail
 rw [← hU,← hp]
 clear hU hp
 go_wp2_with fail
 go_loopw [9] (fun y wq=>∃ i:Nat,y=.int .i64 (i:Int)∧i≤s2∧Hid (MKLQ wq m base A (l ++ layL (ts.take i) l.length))∧Hid (Fr base U wq)) (fun y _=>s2 - (intOf y).toNat)
 case atStart=>exact ⟨0,rfl,by omega,by show MKLQ _ _ _ _ _;simpa [layL] using HMU.out,Fr.of_below (Below.refl _ _) hbU2⟩
 case round =>
  obtain ⟨i,rfl,hi,HI,HFq⟩:=hrel
  have bQ:=HFq.out.blk p _ _ _ HQ.out (by decide) (by decide)
  clear c0 c1 c2 c3 c4 c5 c6 c7 c8
  obtain ⟨c0,c1,c2,c3,c4,c5,c6,c7,c8⟩:=nine' bQ
  clear bQ
  by_cases hil:i < s2
  ·have b1:decide ((i:Int) < (s2:Int))=true:=by simp;omega
   have b2:(i:Int) < (s2:Int):=by omega
   have ad1:IntKind.i64.wrap ((i:Int) + 1)=(i:Int) + 1:=by simp [IntKind.wrap,IntKind.bits,IntKind.signed];omega
   have hlt:i < ts.length:=by have:=HL.out;omega
   obtain ⟨b,o,hs1,hbl,h9⟩:=HS.out (by omega)
   subst hs1
   have hfb:=HFq.out.bel hA
   obtain ⟨n0,n1,n2,n3,n4,n5,n6,n7,n8⟩:=(h9 i hlt).kept (hfb b hbl)
   have hTi:=(HK.out i hlt).kept hfb (fun _ h=>h)
   obtain ⟨M,hMe⟩:∃ M,M=ND i:=⟨_,rfl⟩
   rw [← hMe] at n0 n1 n2 n3 n4 n5 n6 n7 n8 hTi
   have HTi:=hid hTi
   clear h9 hMe hTi hfb
   go_upto_region 4 with fail
   obtain ⟨X,hX⟩:∃ X,X=wr.alloc (.cells #[.int .i64 M.k,.slice M.r1 M.r2 M.r3,.int .i64 M.a2,.slice M.s1 M.s2 M.s3,.int .i64 M.a4,.int .i64 M.a5,.bool M.a6,.int .i64 M.a7,.string M.a8] 25):=⟨_,rfl⟩
   rw [← hX]
   have hXb:Below wr.heap.size wr X:=by rw [hX];exact Joins.below_alloc1 wr _
   have hXn:BNo X wr.heap.size M:=by rw [hX];exact heap_alloc_new wr _
   have hbw:base≤wr.heap.size:=Nat.le_trans hbU2 HFq.out.size
   have htk:layL (ts.take (i + 1)) l.length=layL (ts.take i) l.length ++ ts[i].lay (l.length + lenL (ts.take i)):=by
    rw [List.take_succ_eq_append_getElem hlt,layL_append];simp [layL]
   have hll:(l ++ layL (ts.take i) l.length).length=l.length + lenL (ts.take i):=by rw [List.length_append,layL_len]
   have hln:lenL (ts.take i) + ts[i].len≤lenL ts:=by
    have h1:=lenL_append (ts.take (i + 1)) (ts.drop (i + 1))
    rw [List.take_append_drop,List.take_succ_eq_append_getElem hlt,lenL_append] at h1
    simp only [lenL] at h1
    omega
   have HC:=HIH.out i hlt M X m (l ++ layL (ts.take i) l.length) (HI.out.below hXb hA (by omega)) hm (Nat.le_trans hbw hXb.size) (HTi.out.kept (fun b hb'=>hXb.block b (by have:=hA b hb';omega)) (fun _ h=>h)) (by rw [hll];have:=HLN.out;omega)
   rw [hll] at HC
   obtain ⟨x0,x1,x2,x3,x4,x5,x6,x7,x8⟩:=nine' hXn
   have HTK:=hid htk
   have HXF:=hid (Fr.of_below hXb hbw)
   clear hX hXb hXn htk hll hln n0 n1 n2 n3 n4 n5 n6 n7 n8 c0 c1 c2 c3 c4 c5 c6 c7 c8 HTi
   go_wp2_with (first | (go_at_call 94;(with_reducible refine HC.mono ?_);rintro e w2 ⟨rfl,hM2,hf2⟩;have HM2:=hid hM2;have HF2:=hid hf2;clear hM2 hf2 HC))
   refine ⟨⟨i + 1,by push_cast;rfl,by omega,?_,HFq.out.trans (HXF.out.trans HF2.out)⟩,by simp [intOf];omega⟩
   show MKLQ _ _ _ _ _
   rw [HTK.out,← List.append_assoc]
   exact HM2.out
  ·have b1:decide ((i:Int) < (s2:Int))=false:=by simp;omega
   obtain rfl:i=s2:=by omega
   go_wp2
   all_goals go_end0
   all_goals
    have htk:ts.take i=ts:=by rw [HL.out,List.take_length]
    have h:=HI.out
    rw [htk] at h
    exact ⟨rfl,h,HF.out.trans HFq.out⟩
set_option maxRecDepth 100000 in
set_option maxHeartbeats 8000000 in
theorem group96Q {base:Nat} {A:AG} {a2 a4 a5 a7:Int} {a6:Bool} {a8:ByteArray} {r1 s1:Option Addr} {r2 r3 s2 s3:Nat} {R:List (Int × Int)} {ts:List Tn} (hA:∀ b,A b→b < base) (y:Tn) (hts:ts=[y]) (hix:0≤a7∧a7≤500) (hIH:∀ N,LPQ 94 base A N y):LPQ 206 base A ⟨7,r1,r2,r3,a2,s1,s2,s3,a4,a5,a6,a7,a8⟩ (.mk 7 R a2 ts a4 a5 a6 a7 a8):=by
 intro w m l hM hm hb hT hlen
 obtain ⟨U,hU⟩:∃ U,U=w.alloc (.cells #[.int .i64 7,.slice r1 r2 r3,.int .i64 a2,.slice s1 s2 s3,.int .i64 a4,.int .i64 a5,.bool a6,.int .i64 a7,.string a8] 25):=⟨_,rfl⟩
 have hbU:Below w.heap.size w U:=by rw [hU];exact Joins.below_alloc1 w _
 have hQ:BNo U w.heap.size ⟨7,r1,r2,r3,a2,s1,s2,s3,a4,a5,a6,a7,a8⟩:=by rw [hU];exact heap_alloc_new w _
 have hMU:=hM.below hbU hA (by omega)
 have hbU2:base≤U.heap.size:=Nat.le_trans hb hbU.size
 have hTU:TPQ U A ⟨7,r1,r2,r3,a2,s1,s2,s3,a4,a5,a6,a7,a8⟩ (.mk 7 R a2 ts a4 a5 a6 a7 a8):=hT.kept (fun b hb'=>hbU.block b (by have:=hA b hb';omega)) (fun _ h=>h)
 have HF:=hid (Fr.of_below hbU hb)
 have HQ:=hid hQ
 have hpU:w.heap.size < U.heap.size:=(Array.getElem?_eq_some_iff.1 hQ).1
 obtain ⟨c0,c1,c2,c3,c4,c5,c6,c7,c8⟩:=nine' hQ
 obtain ⟨p,hp⟩:∃ p,p=w.heap.size:=⟨_,rfl⟩
 have HMU:=hid hMU
 have HTU:=hid hTU
 rw [← hp] at c0 c1 c2 c3 c4 c5 c6 c7 c8 hpU HQ
 subst hts
 have hl7:(Tn.mk 7 R a2 [y] a4 a5 a6 a7 a8).len=y.len + 2:=by simp [Tn.len,lenL]
 rw [hl7] at hlen
 have e:(Tn.mk 7 R a2 [y] a4 a5 a6 a7 a8).lay l.length=⟨3,(l.length:Int) + 1,0,2 * a7,[]⟩ :: (y.lay (l.length + 1) ++ [⟨3,((l.length + 1 + y.len:Nat):Int) + 1,0,2 * a7 + 1,[]⟩]):=by simp [Tn.lay,layL,lenL]
 rw [e]
 obtain ⟨M,b,o,hs2,hs1,hbl,h9,hTM⟩:∃ (M:Nv) (b o:Nat),s2=1∧s1=some ⟨b,o,none⟩∧A b∧N9 U b o 0 M∧TPQ U A M y:=by
  cases hTU with
  | @mk _ _ _ ND ok hr hR hRk hs hS hk =>
   obtain ⟨b,o,h1,h2,h3⟩:=hS (by simp)
   exact ⟨ND 0,b,o,hs,h1,h2,h3 0 (by simp),hk 0 (by simp)⟩
 subst hs1 hs2
 have w1:IntKind.i64.wrap (2 * a7)=2 * a7:=by simp [IntKind.wrap,IntKind.bits,IntKind.signed];omega
 have w2:IntKind.i64.wrap (2 * a7 + 1)=2 * a7 + 1:=by simp [IntKind.wrap,IntKind.bits,IntKind.signed];omega
 have HSS:Hid (∀ W,Below U.heap.size U W→Calls Tryz.prog 93 #[pt m,(⟨3,0,0,2 * a7,none,0,0⟩:Iv).v] W fun e w'=>e=.returned (.tuple #[])∧MKLQ w' m base A (l ++ [⟨3,(l.length:Int) + 1,0,2 * a7,[]⟩])∧Fr base W w'):=fun W hW =>
  stepLQ 3 0 (2 * a7) none 0 0 [] (HMU.out.below hW hA (by omega)) (im_bareQ _ _ _ _ _ _) hm hA (by omega) (Nat.le_trans hbU2 hW.size)
 have HIH:=hid hIH
 have H9:=hid h9
 have HTM:=hid hTM
 clear hIH h9 hTM
 clear hM hMU hbU hQ hT hTU
 go_enter Tryz.func206,Tryz.ntmps206
 go_upto_region 1 with fail
 rw [← hU,← hp]
 clear hU hp
 go_region_with (first | (go_at_call 93;(with_reducible refine (HSS.out _ ?_).mono ?_);(exact drew_below _);rintro e w3 ⟨rfl,hM,hf⟩;have HM:=hid hM;have HF3:=hid hf;clear hM hf))
 all_goals
  have hF3:Fr base U w3:=(Fr.of_below (drew_below U) hbU2).trans HF3.out
  have bQ:=hF3.blk p _ _ _ HQ.out (by decide) (by decide)
  clear c0 c1 c2 c3 c4 c5 c6 c7 c8
  obtain ⟨c0,c1,c2,c3,c4,c5,c6,c7,c8⟩:=nine' bQ
  have hfb:=hF3.bel hA
  obtain ⟨n0,n1,n2,n3,n4,n5,n6,n7,n8⟩:=H9.out.kept (hfb b hbl)
  simp only [Nat.zero_mul,Nat.add_zero] at n0 n1 n2 n3 n4 n5 n6 n7 n8
  have hb3:base≤w3.heap.size:=Nat.le_trans hbU2 hF3.size
  have HC:=HIH.out M w3 m _ HM.out hm hb3 (HTM.out.kept hfb (fun _ h=>h)) (by simp;omega)
  have hll:(l ++ [(⟨3,(l.length:Int) + 1,0,2 * a7,[]⟩:In)]).length=l.length + 1:=by simp
  rw [hll] at HC
  have HF3':=hid hF3
  have HQ3:=hid bQ
  clear bQ hfb hF3 hll
  go_upto_region 3 with (first | (go_at_call 94;(with_reducible refine HC.mono ?_);rintro e w4 ⟨rfl,hM,hf⟩;have HM4:=hid hM;have HF4:=hid hf;clear hM hf HC))
  have bQ:=HF4.out.blk p _ _ _ HQ3.out (by decide) (by decide)
  clear c0 c1 c2 c3 c4 c5 c6 c7 c8 n0 n1 n2 n3 n4 n5 n6 n7 n8
  obtain ⟨c0,c1,c2,c3,c4,c5,c6,c7,c8⟩:=nine' bQ
  have hb4:base≤w4.heap.size:=Nat.le_trans hb3 HF4.out.size
  have hll:(l ++ [(⟨3,(l.length:Int) + 1,0,2 * a7,[]⟩:In)] ++ y.lay (l.length + 1)).length=l.length + 1 + y.len:=by simp [lay_len];omega
  have HST:Hid (∀ W,Below w4.heap.size w4 W→Calls Tryz.prog 93 #[pt m,(⟨3,0,0,2 * a7 + 1,none,0,0⟩:Iv).v] W fun e w'=>e=.returned (.tuple #[])∧MKLQ w' m base A (l ++ [⟨3,(l.length:Int) + 1,0,2 * a7,[]⟩] ++ y.lay (l.length + 1) ++ [⟨3,((l.length + 1 + y.len:Nat):Int) + 1,0,2 * a7 + 1,[]⟩])∧Fr base W w'):=fun W hW=>by
   have:=stepLQ 3 0 (2 * a7 + 1) none 0 0 [] (HM4.out.below hW hA (by omega)) (im_bareQ _ _ _ _ _ _) hm hA (by rw [hll];omega) (Nat.le_trans hb4 hW.size)
   rw [hll] at this
   exact this
  clear bQ hll
  go_region_with (first | (go_at_call 93;(with_reducible refine (HST.out _ ?_).mono ?_);(exact drew_below _);rintro e w5 ⟨rfl,hM,hf⟩;have HM5:=hid hM;have HF5:=hid hf;clear hM hf))
  all_goals go_wp2_with fail
  all_goals go_end0
  all_goals
   refine ⟨rfl,?_,HF.out.trans (HF3'.out.trans (HF4.out.trans ((Fr.of_below (drew_below w4) hb4).trans HF5.out)))⟩
   have h:=HM5.out
   simpa [List.append_assoc] using h
structure MKxQ (w:World) (m base g c:Nat) (A:AG) (is:List Iv) (l:List In):Prop where
 bx:BxM w m (some ⟨g,0,none⟩) l.length c
 row:w.ownsRow base 86 5 (.slice (some ⟨g,0,none⟩) l.length c) l.length (is.flatMap Iv.cs)
 len:is.length=l.length
 im:∀ k (h:k < is.length) (h':k < l.length),IMpQ w A is[k] l[k]
theorem MKLQ.open {w:World} {m base:Nat} {A:AG} {l:List In} (h:MKLQ w m base A l) (hp:0 < l.length):∃ g c is,MKxQ w m base g c A is l:=by
 obtain ⟨is,⟨z1,c,h1,h2⟩,h3,h4⟩:=h
 rcases h2.2 with ⟨e,h0⟩ | ⟨g,cap,cur,e,_⟩
 ·omega
 ·simp only [Value.slice.injEq,true_and] at e
  obtain ⟨rfl,rfl⟩:=e
  exact ⟨g,c,is,h1,h2,h3,h4⟩
theorem MKxQ.close {w:World} {m base g c:Nat} {A:AG} {is:List Iv} {l:List In} (h:MKxQ w m base g c A is l):MKLQ w m base A l:=⟨is,⟨_,c,h.bx,h.row⟩,h.len,h.im⟩
theorem MKxQ.ne {w:World} {m base g c:Nat} {A:AG} {is:List Iv} {l:List In} (h:MKxQ w m base g c A is l):g≠m:=fun e=>own_ne h.row h.bx (by decide) (by rw [e];rfl)
theorem MKxQ.drew {w:World} {m base g c:Nat} {A:AG} {is:List Iv} {l:List In} (h:MKxQ w m base g c A is l):MKxQ w.drew m base g c A is l:=
 ⟨h.bx,h.row.drew,h.len,fun k hk hk'=>(h.im k hk hk').kept fun _ _=>rfl⟩
theorem MKxQ.keep {w w':World} {m base g c:Nat} {A:AG} {is is':List Iv} {l l':List In} (h:MKxQ w m base g c A is l) (hA:∀ b,A b→b < base) (j:Nat) (v:Value) (hw:w'=w.setCell ⟨g,j,none⟩ v):BxM w' m (some ⟨g,0,none⟩) l.length c∧(∀ b,A b→w'.heap[b]?=w.heap[b]?)∧Fr base w w':=by
 subst hw
 have hg:=(h.row.lt g rfl).1
 refine ⟨(Below.heap_setCell _ _ _ _ (fun e=>h.ne e.symm)).trans h.bx,fun b hb'=>Below.heap_setCell _ _ _ _ (by have:=hA b hb';show b≠g;omega),⟨rfl,rfl,rfl,by simp [World.setCell],fun b cs t fr e h1 h2=>(Below.heap_setCell _ _ _ _ (fun eq=>?_)).trans e,fun b hb=>Below.heap_setCell _ _ _ _ (by show b≠g;omega)⟩⟩
 subst eq
 exact own_ne h.row e h1 rfl
theorem MKxQ.setX {w:World} {m base g c:Nat} {A:AG} {is:List Iv} {l:List In} (h:MKxQ w m base g c A is l) (hA:∀ b,A b→b < base) (i:Nat) (hi:i < l.length) (x:Int):MKxQ (w.setCell ⟨g,i * 5 + 1,none⟩ (.int .i64 x)) m base g c A (is.modify i (Iv.setX x)) (l.modify i (In.setX x)):=by
 obtain ⟨k1,k2,k3⟩:=h.keep (is':=is) (l':=l) hA (i * 5 + 1) (.int .i64 x) rfl
 refine ⟨by rw [List.length_modify];exact k1,?_,by simp [h.len],fun k hk hk'=>?_⟩
 ·rw [List.length_modify,← flat5_X _ _ _ (by rw [h.len];exact hi)]
  exact row_set1 h.row (by rw [flat5_len,h.len];omega) _
 ·simp only [List.length_modify] at hk hk'
  have hI:=(h.im k hk hk').kept k2
  rw [List.getElem_modify,List.getElem_modify]
  split
  ·exact ⟨hI.op,rfl,hI.y,hI.a,hI.len,hI.sm,hI.rp⟩
  ·exact hI
theorem MKxQ.setY {w:World} {m base g c:Nat} {A:AG} {is:List Iv} {l:List In} (h:MKxQ w m base g c A is l) (hA:∀ b,A b→b < base) (i:Nat) (hi:i < l.length) (x:Int):MKxQ (w.setCell ⟨g,i * 5 + 2,none⟩ (.int .i64 x)) m base g c A (is.modify i (Iv.setY x)) (l.modify i (In.setY x)):=by
 obtain ⟨k1,k2,k3⟩:=h.keep (is':=is) (l':=l) hA (i * 5 + 2) (.int .i64 x) rfl
 refine ⟨by rw [List.length_modify];exact k1,?_,by simp [h.len],fun k hk hk'=>?_⟩
 ·rw [List.length_modify,← flat5_Y _ _ _ (by rw [h.len];exact hi)]
  exact row_set1 h.row (by rw [flat5_len,h.len];omega) _
 ·simp only [List.length_modify] at hk hk'
  have hI:=(h.im k hk hk').kept k2
  rw [List.getElem_modify,List.getElem_modify]
  split
  ·exact ⟨hI.op,hI.x,rfl,hI.a,hI.len,hI.sm,hI.rp⟩
  ·exact hI
theorem MKxQ.there {w:World} {m base g c:Nat} {A:AG} {is:List Iv} {l:List In} (h:MKxQ w m base g c A is l) (i:Nat) (hi:i < l.length):w.there g (i * 5) 5:=row_there h.row (j:=i * 5) (m:=5) (by omega)
set_option maxRecDepth 100000 in
set_option maxHeartbeats 8000000 in
theorem fork109Q {w:World} {m base:Nat} {A:AG} {l:List In} (at':Nat) (r q:Int) (lz:Bool) (h:MKLQ w m base A l) (hat:at' < l.length) (hm:base≤m) (hA:∀ b,A b→b < base) (hl:l.length≤20000) (hb:base≤w.heap.size) :
  Calls Tryz.prog 233 #[pt m,.int .i64 (at':Int),.int .i64 r,.int .i64 q,.bool lz] w fun e w'=>e=.returned (.tuple #[])∧MKLQ w' m base A ((l.modify at' (In.setX (if lz then q else r))).modify at' (In.setY (if lz then r else q)))∧Fr base w w':=by
 obtain ⟨g,c,is,hx⟩:=h.open (by omega)
 have k0:w.cell? ⟨m,0,none⟩=some (.slice (some ⟨g,0,none⟩) l.length c):=Joins.cell_of_block hx.bx 0
 have b1:(at':Int) < (l.length:Int):=by omega
 have hne:=hx.ne
 have ht:=hx.there at' hat
 obtain ⟨v1,hv1⟩:=Option.isSome_iff_exists.1 (ht 1 (by omega)).1
 obtain ⟨v2,hv2⟩:=Option.isSome_iff_exists.1 (ht 2 (by omega)).1
 have f1:=(ht 1 (by omega)).2
 have f2:=(ht 2 (by omega)).2
 have HFIN:Hid (∀ x y:Int,MKLQ ((w.drew.setCell ⟨g,at' * 5 + 1,none⟩ (.int .i64 x)).setCell ⟨g,at' * 5 + 2,none⟩ (.int .i64 y)) m base A ((l.modify at' (In.setX x)).modify at' (In.setY y))∧Fr base w ((w.drew.setCell ⟨g,at' * 5 + 1,none⟩ (.int .i64 x)).setCell ⟨g,at' * 5 + 2,none⟩ (.int .i64 y))):=fun x y=>by
  have h0:=hx.drew
  have h1:=h0.setX hA at' hat x
  have h2:=h1.setY hA at' (by rw [List.length_modify];exact hat) y
  refine ⟨h2.close,?_⟩
  have e0:=Fr.of_below (base:=base) (drew_below w) hb
  have e1:=(h0.keep (is':=is) (l':=l) hA (at' * 5 + 1) (.int .i64 x) rfl).2.2
  have e2:=(h1.keep (is':=is) (l':=l) hA (at' * 5 + 2) (.int .i64 y) rfl).2.2
  exact e0.trans (e1.trans e2)
 obtain ⟨n,hn⟩:∃ n,n=l.length:=⟨_,rfl⟩
 rw [← hn] at k0 b1 hl
 clear ht hx h hn
 go_enter Tryz.func233,Tryz.ntmps233
 cases lz
 ·go_upto_region 2 with fail
  go_region_with fail
  all_goals go_wp2_with fail
  all_goals go_end0
  all_goals exact ⟨rfl,HFIN.out r q⟩
 ·go_upto_region 2 with fail
  go_region_with fail
  all_goals go_wp2_with fail
  all_goals go_end0
  all_goals exact ⟨rfl,HFIN.out q r⟩
end Go.Proofs.YtacaanhnlfpbhaaGreat
