/- HELPERS: texts of ours put together. -/
import Derived.Test.YtacaanhnlfpbhaaGreatK30
import Derived.Test.YtacaanhnlfpbhaaGreatK42
import Derived.Test.YtacaanhnlfpbhaaGreatK49
namespace Go.Proofs.YtacaanhnlfpbhaaGreat
open Go.RowKit Go.Lk
set_option linter.unusedVariables false
set_option linter.unusedSimpArgs false
set_option maxRecDepth 100000 in
set_option maxHeartbeats 4000000 in
theorem same35 {w:World} {a1 a2:Option Addr} {n1 c1 n2 c2:Nat} {l:List Int} (h1:IR w (.slice a1 n1 c1) l) (h2:IR w (.slice a2 n2 c2) l) (hl:l.length≤100000) :
  Calls Tryz.prog 35 #[.slice a1 n1 c1,.slice a2 n2 c2] w fun e w'=>e=.returned (.bool true)∧Below w.heap.size w w':=by
 obtain ⟨n,hn⟩:∃ n,n=l.length:=⟨_,rfl⟩
 obtain ⟨ad1,cc1,e1,h1'⟩:=h1
 obtain ⟨ad2,cc2,e2,h2'⟩:=h2
 simp only [Value.slice.injEq] at e1 e2
 obtain ⟨rfl,rfl,rfl⟩:=e1
 obtain ⟨rfl,rfl,rfl⟩:=e2
 rw [← hn] at h1' h2' hl ⊢
 have HN:=hid hn
 have H1:=hid h1'
 have H2:=hid h2'
 clear h1' h2' hn
 go_enter Tryz.func35,Tryz.ntmps35
 go_wp2
 go_loopw [5] (fun s5 wr=>∃ k:Nat,s5=.int .i64 (k:Int)∧k≤n∧Hid (Below w.heap.size w wr)) (fun s5 _=>n - (intOf s5).toNat)
 case atStart=>exact ⟨0,rfl,Nat.zero_le _,Below.refl _ _⟩
 case round =>
  obtain ⟨k,rfl,hk,HBW⟩:=hrel
  by_cases hkn:k < n
  ·have b1:decide ((k:Int) < (n:Int))=true:=by simp;omega
   have b2:(k:Int) < (n:Int):=by omega
   have a3:=wrap_ok ((k:Int) + 1) (by omega) (by omega)
   rcases H1.out with h0 | ⟨q1,o1,rfl,hq1,hc1⟩
   ·omega
   rcases H2.out with h0 | ⟨q2,o2,rfl,hq2,hc2⟩
   ·omega
   have m1:=(HBW.out.cell (p:=⟨q1,o1 + k,none⟩) hq1).trans (hc1 k (by omega))
   have m2:=(HBW.out.cell (p:=⟨q2,o2 + k,none⟩) hq2).trans (hc2 k (by omega))
   generalize l.getD k 0=v at m1 m2
   have hk2:k < 9223372036854775807:=by omega
   clear hc1 hc2 H1 H2
   go_wp2_with fail
   go_quiet (fail)
   go_wp2
   refine ⟨⟨k + 1,by push_cast;rfl,by omega,below_drewN' HBW.out _⟩,by simp [intOf];omega⟩
  ·have b1:decide ((k:Int) < (n:Int))=false:=by simp;omega
   have b2:¬ ((k:Int) < (n:Int)):=by omega
   clear H1 H2
   go_wp2
   all_goals go_ret
   all_goals exact ⟨rfl,HBW.out⟩
theorem bit_meansW {t:Tn} {tx:List Int} {i:Nat} {l:List (Int × List Int)} {r:Fd} {m':List Pt} (hc:errC t=0) (hp:errP t tx.length (i:Int)=0) (hS:PS t.spread t.notes tx i l) (hb:BitA (progT t) tx 0 (2 + 2 * t.top) (i:Int) true r m'):(r=none∧l=[])∨∃ q c rest,r=some (0,c)∧l=(q,c) :: rest:=by
 obtain ⟨hf,hn,hl⟩:=errC_facts hc
 obtain ⟨p1,p2,p3,p4,p5⟩:=errP_parts hp
 have hK:t.notes=(2 + 2 * t.top).toNat:=by rw [top_gi];simp only [Tn.notes];omega
 have hN:=nf_S t hf
 have f3:=(spread_ok t.S hN.fine).2
 rw [hN.spread_eq] at f3
 obtain ⟨lb,hb'⟩:=PS.of_sf hN.fine f3 (by omega) t.notes tx i (by omega)
 have e2:=PS.simp_eq hf hS hb'
 subst e2
 obtain ⟨M',r',hd,ho⟩:=df_first hf (by omega) hb'
 unfold BitA at hb
 rw [Int.toNat_natCast] at hb
 obtain ⟨x,hx⟩:∃ x,tx.length + 1 - i=x + 1:=⟨tx.length - i,by omega⟩
 rw [hx,bgs_oneG] at hb
 have h1:=da_single hb
 rw [hK] at hd
 obtain ⟨_,e⟩:=df_det h1 hd
 rw [e]
 exact ho
def NoB (t:Tn) (tx:List Int) (i:Nat):Prop:=∀ r1 m1,BitA (progT t) tx 0 (2 + 2 * t.top) (i:Int) true r1 m1→r1=none
theorem errR_prog {t:Tn} {tx:List Int} {i:Nat} (hc:errC t=0) (h64:tx.length≤64) (hi:i≤tx.length):errR (progT t) 0 (2 + 2 * t.top) tx.length (i:Int)=0:=by
 obtain ⟨hf,hn,hl⟩:=errC_facts hc
 have hm:=prog_may hf (by omega)
 unfold errR
 rw [if_neg (by omega),if_neg (by simp [hm]),if_neg (by omega)]
theorem pike_first {t:Tn} {tx:List Int} {A:Nat} {anch:Bool} {r:Fd} {m':List Pt} (hc:errC t=0) (hp:errP t tx.length (A:Int)=0) (hd:BitA (progT t) tx 0 (2 + 2 * t.top) (A:Int) anch r m') :
  (∀ (i:Nat) l,A≤i→i≤tx.length→(anch=true→i=A)→PS t.spread t.notes tx i l→(∀ j,A≤j→j < i→NoB t tx j)→(l=[]∧NoB t tx i)∨∃ q c rest,l=(q,c) :: rest∧r=some (0,c))∧(anch=true→NoB t tx A→r=none)∧(anch=false→(∀ j,A≤j→j≤tx.length→NoB t tx j)→r=none):=by
 obtain ⟨p1,p2,p3,p4,p5⟩:=errP_parts hp
 have hR:=errR_prog (tx:=tx) (i:=A) hc p1 (by omega)
 refine ⟨fun i l h1 h2 h3 hS hno=>?_,fun ha hn=>?_,fun ha hn=>?_⟩
 ·obtain ⟨ri,mi,hdi,_⟩:=bit_ex (tx:=tx) true (errR_prog (i:=i) hc p1 h2)
  have hpi:errP t tx.length (i:Int)=0:=errP_on hp (by omega) (by omega)
  rcases bit_meansW hc hpi hS hdi with ⟨e1,e2⟩ | ⟨q,c,rest,e1,e2⟩
  ·exact .inl ⟨e2,fun r1 m1 h=>by obtain ⟨_,e⟩:=da_det h hdi;rw [e,e1]⟩
  ·refine .inr ⟨q,c,rest,e2,?_⟩
   cases anch with
   | true =>
    have:=h3 rfl
    subst this
    obtain ⟨_,e⟩:=da_det hd hdi
    rw [e,e1]
   | false =>
    rcases bit_first hR hd with ⟨_,g2⟩ | ⟨zz,j,g1,g2,g3,g4,g5,_⟩
    ·have:=g2 i ri mi (by rw [Int.toNat_natCast];exact h1) h2 hdi
     rw [this] at e1
     cases e1
    ·rw [Int.toNat_natCast] at g2
     rcases Nat.lt_trichotomy i j with hij | hij | hij
     ·have:=g4 i ri mi (by rw [Int.toNat_natCast];exact h1) hij hdi
      rw [this] at e1
      cases e1
     ·subst hij
      rw [g1,← g5 ri mi hdi,e1]
     ·obtain ⟨rj,mj,hdj,_⟩:=bit_ex (tx:=tx) true (errR_prog (i:=j) hc p1 g3)
      have e3:=g5 rj mj hdj
      have e4:=hno j g2 hij rj mj hdj
      rw [e3] at e4
      cases e4
 ·subst ha
  exact hn r m' hd
 ·subst ha
  rcases bit_first hR hd with ⟨g1,_⟩ | ⟨zz,j,g1,g2,g3,g4,g5,_⟩
  ·exact g1
  ·rw [Int.toNat_natCast] at g2
   obtain ⟨rj,mj,hdj,_⟩:=bit_ex (tx:=tx) true (errR_prog (i:=j) hc p1 g3)
   have e3:=g5 rj mj hdj
   have e4:=hn j g2 g3 rj mj hdj
   rw [e3] at e4
   cases e4
theorem run10_t {w:World} {ad tad:Option Addr} {n c tn tc:Nat} {k:Int} {A:Nat} {anch:Bool} {t:Tn} {tx:List Int} {r:Fd} (hP:PI w w.heap.size ad n (progT t)) (hT:TextAt w.heap.size w tad tn tx) (hk:k=2 + 2 * t.top) (h0:0≤t.top) (hR:errR (progT t) 0 k tx.length (A:Int)=0) (hr:(lockRun (prOf (progT t) tx 0 k.toNat) tx.length A anch).1=r) (hl:∀ y,r=some y→y.2.length=k.toNat) :
  Calls Tryz.prog 34 #[pv ad n c 0 k,.slice tad tn tc,.int .i64 (A:Int),.bool anch] w fun e w'=>∃ a1 n1 c1 st,e=.returned (.tuple #[.agg #[.bool r.isSome,.slice a1 n1 c1,.int .i64 (whF r),.int .i64 st],.int .i64 0])∧IR w' (.slice a1 n1 c1) (capsF r)∧Below w.heap.size w w':=by
 refine (run10 (a:=(A:Int)) (anch:=anch) (s:=0) hP hT).mono fun e w' h=>?_
 rcases h with ⟨_,hb,h⟩ | ⟨h,_⟩
 ·simp only [Int.toNat_natCast,show (0:Int).toNat=0 from rfl] at h
  rw [hr] at h
  cases r with
  | none =>
   simp only at h
   exact ⟨none,0,0,_,h,IR.nil w',hb⟩
  | some y =>
   simp only at h
   obtain ⟨g,e1,e2⟩:=h
   exact ⟨_,_,_,_,e1,IR.row e2,hb⟩
 ·exact absurd hR h
set_option maxRecDepth 100000 in
set_option maxHeartbeats 32000000 in
theorem ptrees6 {w:World} {N:Nv} {t:Tn} {tad:Option Addr} {tn tc:Nat} {a:Int} {anch:Bool} {tx:List Int} (h:TI w w.heap.size N t) (hsm:t.small=true) (hT:TextAt w.heap.size w tad tn tx) (htc:tn≤tc) :
  Calls Tryz.prog 6 #[N.v,.agg #[.slice tad tn tc,.int .i64 a,.bool anch]] w fun e w'=>e=.returned (.bool true)∧Below w.heap.size w w':=by
 obtain ⟨U,hU⟩:∃ U,U=(w.alloc (.cells #[.int .i64 N.k,.slice N.r1 N.r2 N.r3,.int .i64 N.a2,.slice N.s1 N.s2 N.s3,.int .i64 N.a4,.int .i64 N.a5,.bool N.a6,.int .i64 N.a7,.string N.a8] 25)).alloc (.cells #[.slice tad tn tc,.int .i64 a,.bool anch] 59):=⟨_,rfl⟩
 have hbU:Below w.heap.size w U:=by rw [hU];exact below_two' w _ _
 have hX:BNo U w.heap.size N:=by rw [hU];exact (heap_alloc_old _ _ (by simp)).trans (heap_alloc_new w _)
 have hY:U.heap[w.heap.size + 1]?=some (.cells #[.slice tad tn tc,.int .i64 a,.bool anch] 59 (0,0)):=by rw [hU];exact two_new w _ _ _
 have hyU:w.heap.size + 1 < U.heap.size:=(Array.getElem?_eq_some_iff.1 hY).1
 have tiw:∀ (W:World),Below w.heap.size w W→TI W W.heap.size N t:=fun W hW=>(h.kept fun b hb=>hW.block b hb).le hW.size
 have HD:=deep10 (tiw _ hbU)
 have TIW:=hid tiw
 have HTW:Hid (∀ W,Below w.heap.size w W→TextAt W.heap.size W tad tn tx):=fun W h=>(hT.below h).mono h.size
 have HTWL:Hid (∀ W,Below w.heap.size w W→Look.TextAt W.heap.size W tad tn tx):=fun W h=>HTW.out W h
 have htm:tn≤35184372088832:=hT.2.1
 have HTL:=hid hT.1
 obtain ⟨x,hx⟩:∃ x,x=w.heap.size:=⟨_,rfl⟩
 obtain ⟨y,hy⟩:∃ y,y=w.heap.size + 1:=⟨_,rfl⟩
 have HK0:Hid (∀ W,Below U.heap.size U W→BNo W x N∧(W.cell? ⟨y,0,none⟩=some (.slice tad tn tc)∧W.cell? ⟨y,1,none⟩=some (.int .i64 a)∧W.cell? ⟨y,2,none⟩=some (.bool anch))∧Below w.heap.size w W):=fun W h=>by rw [hx,hy];exact ⟨(h.block _ (by omega)).trans hX,three_cells3 ((h.block _ hyU).trans hY),hbU.trans (Joins.below_le h hbU.size)⟩
 clear hbU hX hY tiw h hT
 go_enter Tryz.func6,Tryz.ntmps6
 go_upto_region 1 with fail
 rw [← hU,← hy,← hx]
 clear hU hx hy hyU
 obtain ⟨hN0,⟨e0,e1,e2⟩,_⟩:=HK0.out U (Below.refl _ _)
 obtain ⟨c0,c1,c2,c3,c4,c5,c6,c7,c8⟩:=nine' hN0
 clear hN0
 by_cases hdp:4194304 < t.nodes
 ·rw [decide_eq_true hdp] at HD
  go_wp2_with (first | (go_at_call 8;(with_reducible refine HD.mono ?_);rintro e U1 ⟨rfl,hb⟩;have HB1:=hid hb;clear hb HD))
  all_goals go_ret
  all_goals exact ⟨rfl,(HK0.out _ HB1.out).2.2⟩
 rw [decide_eq_false hdp] at HD
 go_upto_region 4 with (go_at_call 8;(with_reducible refine HD.mono ?_);rintro e U1 ⟨rfl,hb⟩;have HB1:=hid hb;clear hb HD)
 clear c0 c1 c2 c3 c4 c5 c6 c7 c8 e0 e1 e2
 obtain ⟨hN0,⟨e0,e1,e2⟩,hbw⟩:=HK0.out U1 HB1.out
 obtain ⟨c0,c1,c2,c3,c4,c5,c6,c7,c8⟩:=nine' hN0
 have HM:=much11 N t tad tn tc U1 (TIW.out _ hbw) htm
 obtain ⟨mu,hmu⟩:∃ mu,mu=muchB t tn:=⟨_,rfl⟩
 rw [← hmu] at HM
 clear hmu hN0 hbw
 go_upto_region 5 with (go_at_call 9;(with_reducible refine HM.mono ?_);rintro e U2 ⟨rfl,hb⟩;have HB2:=hid (HB1.out.trans (Joins.below_le hb HB1.out.size));clear hb HM)
 clear c0 c1 c2 c3 c4 c5 c6 c7 c8 e0 e1 e2
 obtain ⟨hN0,⟨e0,e1,e2⟩,hbw⟩:=HK0.out U2 HB2.out
 obtain ⟨c0,c1,c2,c3,c4,c5,c6,c7,c8⟩:=nine' hN0
 have HH:=heavy8 (TIW.out _ hbw) hsm
 clear hN0 hbw
 go_upto_region 6 with (go_at_call 22;(with_reducible refine HH.mono ?_);rintro e U3 ⟨hv,rfl,hb⟩;have HB3:=hid (HB2.out.trans (Joins.below_le hb HB2.out.size));clear hb HH)
 clear c0 c1 c2 c3 c4 c5 c6 c7 c8 e0 e1 e2
 by_cases hmv:mu=true
 ·subst hmv
  go_wp2
  all_goals go_ret
  all_goals exact ⟨rfl,(HK0.out _ HB3.out).2.2⟩
 have hmf:mu=false:=by simpa using hmv
 subst hmf
 by_cases hvt:hv=true
 ·subst hvt
  go_wp2
  all_goals go_ret
  all_goals exact ⟨rfl,(HK0.out _ HB3.out).2.2⟩
 have hvf:hv=false:=by simpa using hvt
 subst hvf
 have HA:=awake7P U3
 go_upto_region 9 with (go_at_call 31;(with_reducible refine HA.mono ?_);rintro e U4 ⟨rfl,hb⟩;have HB4:=hid (HB3.out.trans (Joins.below_le hb HB3.out.size));clear hb HA)
 obtain ⟨hN0,⟨e0,e1,e2⟩,hbw⟩:=HK0.out U4 HB4.out
 obtain ⟨c0,c1,c2,c3,c4,c5,c6,c7,c8⟩:=nine' hN0
 have HS:=sound25 (TIW.out _ hbw)
 clear hN0 hbw
 obtain ⟨sd,hsd⟩:∃ sd,sd=(if t.sound then (0:Int) else 50):=⟨_,rfl⟩
 rw [← hsd] at HS
 have HSD:=hid hsd
 clear hsd
 go_upto_region 10 with (go_at_call 32;(with_reducible refine HS.mono ?_);rintro e U5 ⟨rfl,hb⟩;have HB5:=hid (HB4.out.trans (Joins.below_le hb HB4.out.size));clear hb HS)
 clear c0 c1 c2 c3 c4 c5 c6 c7 c8 e0 e1 e2
 obtain ⟨hN0,⟨e0,e1,e2⟩,_⟩:=HK0.out U5 HB5.out
 by_cases hbad:sd≠0∨64 < tn∨a < 0∨(tn:Int) < a
 ·have HBW:=hid (HK0.out _ HB5.out).2.2
  by_cases h1:sd≠0
  ·have k1:(sd != 0)=true:=by simp [h1]
   clear h1 hbad hN0
   go_wp2
   all_goals go_ret
   all_goals exact ⟨rfl,HBW.out⟩
  have k1:(sd != 0)=false:=by simpa using h1
  by_cases h2:64 < tn
  ·have k2:decide ((tn:Int) > 64)=true:=by simp;omega
   have k2':decide ((64:Int) < (tn:Int))=true:=by simp;omega
   clear h1 h2 hbad hN0
   go_wp2
   all_goals go_ret
   all_goals exact ⟨rfl,HBW.out⟩
  have k2:decide ((tn:Int) > 64)=false:=by simp;omega
  have k2':decide ((64:Int) < (tn:Int))=false:=by simp;omega
  by_cases h3:a < 0
  ·have k3:decide (a < 0)=true:=by simp;omega
   clear h1 h2 hbad hN0
   go_wp2
   all_goals go_ret
   all_goals exact ⟨rfl,HBW.out⟩
  have k3:decide (a < 0)=false:=by simp;omega
  have k4:decide (a > (tn:Int))=true:=by simp;omega
  have k4':decide ((tn:Int) < a)=true:=by simp;omega
  clear h1 h2 h3 hbad hN0
  go_wp2
  all_goals go_ret
  all_goals exact ⟨rfl,HBW.out⟩
 have h1:sd=0:=by omega
 have h2:tn≤64:=by omega
 obtain ⟨A,hA⟩:=Int.eq_ofNat_of_zero_le (show 0≤a by omega)
 have hAt:A≤tn:=by omega
 have hsnd:t.sound=true:=by
  have:=HSD.out
  rw [h1] at this
  by_cases hs:t.sound=true
  ·exact hs
  ·simp [hs] at this
 have k1:(sd != 0)=false:=by simp [h1]
 have k2:decide ((tn:Int) > 64)=false:=by simp;omega
 have k2':decide ((64:Int) < (tn:Int))=false:=by simp;omega
 have k3:decide (a < 0)=false:=by simp;omega
 have k4:decide (a > (tn:Int))=false:=by simp;omega
 have k4':decide ((tn:Int) < a)=false:=by simp;omega
 have HAE:=hid hA
 have HSN:=hid hsnd
 clear h1 hbad hN0 hA hsnd HSD
 go_upto_region 12 with fail
 clear k1 k2 k2' k3 k4 k4' e0 e1 e2
 have hAE:=HAE.out
 subst hAE
 obtain ⟨hN0,⟨e0,e1,e2⟩,hbw⟩:=HK0.out U5 HB5.out
 obtain ⟨c0,c1,c2,c3,c4,c5,c6,c7,c8⟩:=nine' hN0
 have hf:=(sound_parts HSN.out).1
 have HZ:=refsize28 (TIW.out _ hbw) hf U5 (Nat.le_refl _) (fun _ _=>rfl)
 obtain ⟨zs,hzs⟩:∃ zs,zs=(min 1073741824 t.sz:Nat):=⟨_,rfl⟩
 rw [← hzs] at HZ
 have HZE:=hid hzs
 clear hN0 hbw hf hzs
 go_upto_region 13 with (go_at_call 33;(with_reducible refine HZ.mono ?_);rintro e U6 ⟨rfl,hb⟩;have HB6:=hid (HB5.out.trans (Joins.below_le hb HB5.out.size));clear hb HZ)
 clear c0 c1 c2 c3 c4 c5 c6 c7 c8 e0 e1 e2
 by_cases hbig:2000 < zs
 ·have k1:decide ((zs:Int) > 2000)=true:=by simp;omega
  have k1':decide ((2000:Int) < (zs:Int))=true:=by simp;omega
  go_wp2
  all_goals go_ret
  all_goals exact ⟨rfl,(HK0.out _ HB6.out).2.2⟩
 have k1:decide ((zs:Int) > 2000)=false:=by simp;omega
 have k1':decide ((2000:Int) < (zs:Int))=false:=by simp;omega
 have HPE:Hid (errP t tn (A:Int)=0):=by
  have:=HZE.out
  show errP t tn (A:Int)=0
  unfold errP
  rw [if_neg (by omega),if_neg (by simp [HSN.out]),if_neg (by omega),if_neg (by omega)]
 go_upto_region 15 with fail
 clear k1 k1' hbig HZE
 obtain ⟨hN0,_,hbw⟩:=HK0.out U6 HB6.out
 obtain ⟨c0,c1,c2,c3,c4,c5,c6,c7,c8⟩:=nine' hN0
 have HC:=compileD (TIW.out _ hbw)
 obtain ⟨E,hEE⟩:∃ E,E=errC t:=⟨_,rfl⟩
 unfold CPost at HC
 rw [← hEE] at HC
 have HEE:=hid hEE
 clear hEE hN0 hbw
 go_upto_region 16 with (go_at_call 25;(with_reducible refine HC.mono ?_);rintro e W5 ⟨ad,n,c,s,k,rfl,hb,hp⟩;have HBC:=hid hb;have HPC:=hid hp;clear hb hp HC)
 clear c0 c1 c2 c3 c4 c5 c6 c7 c8
 obtain ⟨V,hV⟩:∃ V,V=W5.alloc (.cells #[.slice ad n c,.int .i64 s,.int .i64 k] 46):=⟨_,rfl⟩
 obtain ⟨z,hz⟩:∃ z,z=W5.heap.size:=⟨_,rfl⟩
 rw [← hV,← hz]
 have hb5:Below W5.heap.size W5 V:=by rw [hV];exact Joins.below_alloc1 W5 _
 have hV5:V.heap[z]?=some (.cells #[.slice ad n c,.int .i64 s,.int .i64 k] 46 (0,0)):=by rw [hV,hz];exact heap_alloc_new W5 _
 have hb45:Below U6.heap.size U6 V:=HBC.out.trans (Joins.below_le hb5 HBC.out.size)
 have HUV:Hid (Below U.heap.size U V):=HB6.out.trans (Joins.below_le hb45 HB6.out.size)
 have hz5:z < V.heap.size:=(Array.getElem?_eq_some_iff.1 hV5).1
 have HPK:Hid (E=0→s=0∧k=2 + 2 * t.top∧∀ W,Below V.heap.size V W→PI W W.heap.size ad n (progT t)):=fun h0=>by
  obtain ⟨q1,q2,q3⟩:=HPC.out h0
  refine ⟨q1,q2,fun W hW=>q3 W (fun b h1 h2=>?_) ?_⟩
  ·exact (hW.block b (Nat.lt_of_lt_of_le h2 hb5.size)).trans (hb5.block b h2)
  ·exact Nat.le_trans hb5.size hW.size
 have HCX:Hid (∀ W,Below V.heap.size V W→BNo W x N∧(W.cell? ⟨y,0,none⟩=some (.slice tad tn tc)∧W.cell? ⟨y,1,none⟩=some (.int .i64 (A:Int))∧W.cell? ⟨y,2,none⟩=some (.bool anch))∧Below w.heap.size w W∧(W.cell? ⟨z,0,none⟩=some (.slice ad n c)∧W.cell? ⟨z,1,none⟩=some (.int .i64 s)∧W.cell? ⟨z,2,none⟩=some (.int .i64 k))):=fun W h=>by
  obtain ⟨g1,g2,g3⟩:=HK0.out W (HUV.out.trans (Joins.below_le h HUV.out.size))
  exact ⟨g1,g2,g3,three_cells3 ((h.block z hz5).trans hV5)⟩
 clear hV hz hb5 hV5 hb45 HPC HBC HUV hz5
 by_cases hE0:E=0
 case neg =>
  have hE3:E=3:=by
   rcases errC_three t with g | g | g
   ·exact absurd (HEE.out.trans g) hE0
   ·exfalso
    unfold errC at g
    rw [if_pos HSN.out] at g
    split at g
    ·cases g
    ·unfold errS at g
     rw [if_pos HSN.out] at g
     split at g <;> cases g
   ·exact HEE.out.trans g
  subst hE3
  clear hE0
  go_wp2
  all_goals go_ret
  all_goals exact ⟨rfl,(HCX.out _ (Below.refl _ _)).2.2.1⟩
 obtain ⟨hs,hk,hpi⟩:=HPK.out hE0
 subst hs
 subst hE0
 have hC0:errC t=0:=HEE.out.symm
 have HC0:=hid hC0
 have hgi:0≤t.top:=(top_fine t (errC_facts hC0).1).1
 have hgi2:t.top≤500:=(top_fine t (errC_facts hC0).1).2
 have hR:=errR_prog (tx:=tx) (i:=A) hC0 (by rw [← HTL.out];exact h2) (by rw [← HTL.out];exact hAt)
 obtain ⟨r,m',hd,hlk⟩:=bit_ex (tx:=tx) anch hR
 rw [Int.toNat_natCast] at hlk
 have hcap:=bit_caps hR hd
 have HR:=run10_t (r:=r) (c:=c) (tc:=tc) (k:=k) (A:=A) (anch:=anch) (hpi V (Below.refl _ _)) (HTW.out V (HCX.out V (Below.refl _ _)).2.2.1) hk hgi (by rw [hk];exact hR) (by rw [hk];exact hlk) (by rw [hk];exact hcap)
 have HPF:=hid (pike_first hC0 (by rw [← HTL.out];exact HPE.out) hd)
 obtain ⟨KK,hKK⟩:∃ KK,KK=(2 + 2 * t.top).toNat:=⟨_,rfl⟩
 have hKb:0 < KK∧KK≤2000:=by omega
 rw [← hKK] at hcap
 have HCAP:=hid hcap
 clear hpi hk HPK HEE hd hlk hR hcap hC0 hKK hgi hgi2 hdp hvt hmv hsm HB1 HB2 HB3 HB4 HB5 HB6 HK0
 generalize hok:r.isSome=okf at HR
 generalize hwf:whF r=wf at HR
 generalize hcf:capsF r=cf at HR
 have HOK:=hid hok
 have HWF:=hid hwf
 have HCF:=hid hcf
 clear hok hwf hcf
 obtain ⟨_,⟨e0,e1,e2⟩,_,⟨z0,z1,z2⟩⟩:=HCX.out V (Below.refl _ _)
 go_upto_region 19 with (go_at_call 34;(with_reducible refine HR.mono ?_);rintro e W7 ⟨f1,fn,fc,st,rfl,hi,hb⟩;have HI7:=hid hi;have HB7:=hid hb;clear hb hi HR)
 clear e0 e1 e2 z0 z1 z2
 obtain ⟨X,hX⟩:∃ X,X=W7.alloc (.cells #[.bool okf,.slice f1 fn fc,.int .i64 wf,.int .i64 st] 54):=⟨_,rfl⟩
 obtain ⟨v,hv⟩:∃ v,v=W7.heap.size:=⟨_,rfl⟩
 rw [← hX,← hv]
 have hbX:Below W7.heap.size W7 X:=by rw [hX];exact Joins.below_alloc1 W7 _
 have hVV:X.heap[v]?=some (.cells #[.bool okf,.slice f1 fn fc,.int .i64 wf,.int .i64 st] 54 (0,0)):=by rw [hX,hv];exact heap_alloc_new W7 _
 have hvX:v < X.heap.size:=(Array.getElem?_eq_some_iff.1 hVV).1
 have hVX:Below V.heap.size V X:=HB7.out.trans (Joins.below_le hbX HB7.out.size)
 have hIX:=HI7.out.below hbX
 have HKX:Hid (∀ W,Below X.heap.size X W→Below V.heap.size V W∧(W.cell? ⟨v,0,none⟩=some (.bool okf)∧W.cell? ⟨v,1,none⟩=some (.slice f1 fn fc)∧W.cell? ⟨v,2,none⟩=some (.int .i64 wf)∧W.cell? ⟨v,3,none⟩=some (.int .i64 st))∧IR W (.slice f1 fn fc) cf):=fun W h=>⟨hVX.trans (Joins.below_le h hVX.size),four_cells ((h.block v hvX).trans hVV),hIX.below h⟩
 have HFN:Hid (r=none→fn=0):=fun h0=>by
  obtain ⟨_,_,e,_⟩:=hIX
  simp only [Value.slice.injEq] at e
  rw [e.2.1,← HCF.out,h0]
  rfl
 clear hX hv hbX hVV hvX hVX hIX HI7 HB7
 obtain ⟨hVX0,_,_⟩:=HKX.out X (Below.refl _ _)
 obtain ⟨_,⟨e0,e1,e2⟩,_,_⟩:=HCX.out X hVX0
 clear hVX0
 go_upto_region 22 with fail
 clear e0 e1 e2
 have HEND:Hid (∀ W,Below X.heap.size X W→r=none→okf=false∧fn=0∧Below w.heap.size w W):=fun W h h0=>⟨by rw [← HOK.out,h0];rfl,HFN.out h0,(HCX.out W (HKX.out W h).1).2.2.1⟩
 go_loopw [15] (fun u wq=>∃ i:Nat,u=.int .i64 (i:Int)∧A≤i∧i≤tn + 1∧Hid ((anch=true→i=A)∧∀ j,A≤j→j < i→NoB t tx j)∧Hid (Below X.heap.size X wq)) (fun u _=>tn + 1 - (intOf u).toNat)
 case atStart=>exact ⟨A,rfl,Nat.le_refl _,by omega,⟨fun _=>rfl,fun j h1 h2=>absurd h2 (by omega)⟩,Below.refl _ _⟩
 case round =>
  obtain ⟨i,rfl,hAi,hi,HNO,HBQ⟩:=hrel
  obtain ⟨hVQ,⟨v0,v1,v2,v3⟩,hIF⟩:=HKX.out wr HBQ.out
  obtain ⟨hN0,⟨e0,e1,e2⟩,hbw,_⟩:=HCX.out wr hVQ
  by_cases hit:i≤tn
  case neg =>
   have g1:decide ((i:Int)≤(tn:Int))=false:=by simp;omega
   have hrn:r=none:=by
    cases anch with
    | true=>have:=HNO.out.1 rfl;omega
    | false=>exact HPF.out.2.2 rfl fun j h1 h2=>HNO.out.2 j h1 (by have:=HTL.out;omega)
   obtain ⟨q1,q2,q3⟩:=HEND.out wr HBQ.out hrn
   have HQ3:=hid q3
   subst q1
   subst q2
   clear hVQ hIF hN0 hbw hrn q3
   go_wp2
   all_goals go_ret
   all_goals exact ⟨rfl,HQ3.out⟩
  have g1:decide ((i:Int)≤(tn:Int))=true:=by simp;omega
  have a1:IntKind.i64.wrap ((i:Int) + 1)=(i:Int) + 1:=by rw [wrap_ok _ (by omega) (by omega)]
  have hpe:errP t tn (i:Int)=0:=errP_on HPE.out (by omega) (by omega)
  have HQ:=(parses14 N t tx tad tn tc (i:Int) wr (TIW.out _ hbw) (HTWL.out _ hbw) htc).mono fun e w' h=>AnsW.ok h hpe
  obtain ⟨c0,c1,c2,c3,c4,c5,c6,c7,c8⟩:=nine' hN0
  clear v0 v1 v2 v3 hIF hN0 hbw hpe hVQ
  go_upto_region 25 with (go_at_call 14;(with_reducible refine HQ.mono ?_);rintro e X1 ⟨la,lc,l,rfl,hl1,hl2,hb⟩;have HL1:=hid hl1;have HL2:=hid hl2;have HX1:=hid (HBQ.out.trans (Joins.below_le hb HBQ.out.size));clear hb hl1 hl2 HQ)
  clear c0 c1 c2 c3 c4 c5 c6 c7 c8 e0 e1 e2
  obtain ⟨hV1,⟨v0,v1,v2,v3⟩,hIF⟩:=HKX.out X1 HX1.out
  obtain ⟨_,⟨e0,e1,e2⟩,hbw1,_⟩:=HCX.out X1 hV1
  rcases HPF.out.1 i l hAi (by rw [← HTL.out];exact hit) HNO.out.1 HL2.out HNO.out.2 with ⟨hl0,hnb⟩ | ⟨q,c0,rest,hl0,hri⟩
  ·subst hl0
   have HNB:=hid hnb
   clear hnb HL1 HL2 hIF
   cases anch with
   | true =>
    have hiA:=HNO.out.1 rfl
    have hrn:r=none:=HPF.out.2.1 rfl (by rw [← hiA];exact HNB.out)
    obtain ⟨q1,q2,q3⟩:=HEND.out X1 HX1.out hrn
    have HQ3:=hid q3
    subst q1
    subst q2
    clear hV1 hbw1 hrn q3 hiA
    go_wp2
    all_goals go_ret
    all_goals exact ⟨rfl,HQ3.out⟩
   | false =>
    have hni:(false=true→i + 1=A)∧∀ j,A≤j→j < i + 1→NoB t tx j:=by
     refine ⟨fun h=>absurd h (by decide),fun j h1 h2=>?_⟩
     by_cases h3:j < i
     ·exact HNO.out.2 j h1 h3
     ·have:j=i:=by omega
      subst this
      exact HNB.out
    have HNI:=hid hni
    clear hni
    clear hV1 hbw1 HNB HNO
    go_wp2
    refine ⟨⟨i + 1,by push_cast;rfl,by omega,by omega,HNI.out,HX1.out⟩,by simp [intOf];omega⟩
  ·have hcl:=HCAP.out _ hri
   simp only at hcl
   have hokf1:okf=true:=by rw [← HOK.out,hri];rfl
   have hcf1:cf=c0:=by rw [← HCF.out,hri];rfl
   have hwf1:wf=0:=by rw [← HWF.out,hri];rfl
   subst hl0
   have hlen:0 < c0.length:=by omega
   have hlen2:c0.length≤100000:=by omega
   obtain ⟨lb,fb,fcc,hla,hcell,hIR⟩:=HL1.out.first hlen
   subst hla
   subst hokf1 hcf1 hwf1
   have HS:Hid (∀ W,Below X1.heap.size X1 W→Calls Tryz.prog 35 #[.slice f1 fn fc,.slice (some ⟨fb,0,none⟩) cf.length fcc] W fun e w'=>e=.returned (.bool true)∧Below W.heap.size W w'):=fun W h=>same35 (hIF.below h) (hIR.below h) hlen2
   have HBX1:=hid hbw1
   have HK4:Hid (∀ W,Below X1.heap.size X1 W→(W.cell? ⟨v,0,none⟩=some (.bool true)∧W.cell? ⟨v,1,none⟩=some (.slice f1 fn fc)∧W.cell? ⟨v,2,none⟩=some (.int .i64 0)∧W.cell? ⟨v,3,none⟩=some (.int .i64 st))∧Below w.heap.size w W):=fun W h=>by
    have h2:=HX1.out.trans (Joins.below_le h HX1.out.size)
    obtain ⟨g1,g2,_⟩:=HKX.out W h2
    exact ⟨g2,(HCX.out W g1).2.2.1⟩
   clear HL1 HL2 hIF hIR hri hcl hV1 hbw1
   generalize hll:((q,cf) :: rest).length=ll
   have hl1:0 < ll:=by rw [← hll];simp
   clear hll
   have gl:decide ((ll:Int) > 0)=true:=by simp;omega
   have gl2:decide ((0:Int) < (ll:Int))=true:=by simp;omega
   have gl3:((ll:Int) == 0)=false:=by simp;omega
   have gl4:decide (0 < ll)=true:=by simp;omega
   have gl5:¬ ll=0:=by omega
   go_upto_region 28 with fail
   go_region_with (first | (go_at_call 35;(with_reducible refine (HS.out _ ?_).mono ?_);(exact drew_below _);rintro e X3 ⟨rfl,hb⟩;have HB9:Hid (Below X1.heap.size X1 X3):=(drew_below X1).trans hb;have HVX:=hid (HK4.out X3 HB9.out).2;obtain ⟨n0,n1,n2,n3⟩:=(HK4.out X3 HB9.out).1;clear hb))
   all_goals go_wp2
   all_goals go_ret
   all_goals exact ⟨rfl,HVX.out⟩
end Go.Proofs.YtacaanhnlfpbhaaGreat
