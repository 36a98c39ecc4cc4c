/- HELPERS: texts of ours put together. -/
import Derived.Test.YtacaanhnlfpbhaaGreatK46
import Derived.Test.YtacaanhnlfpbhaaGreatK50
import Derived.Test.YtacaanhnlfpbhaaGreatK51
import Derived.Test.YtacaanhnlfpbhaaGreatK01
import Derived.Test.YtacaanhnlfpbhaaGreatRows
import Derived.Deep.SlicePairs
import Derived.RowKit
import Derived.JoinedCond
import Derived.OpenShut
import Derived.SizedLaws
import Derived.Lib.SmallJoins
import Derived.Test.YtacaanhnlfpbhaaGreatK14
import Derived.Test.YtacaanhnlfpbhaaGreatProg
import Derived.WalkKit
import Derived.ProofKit
import Derived.BigQuiet
import Derived.WalkSmall
import Derived.Deep.QuietTactic
import Derived.Deep.RegionWith
import Derived.Laws.EntriesVeiled
import Derived.Deep.WholeRow
import Derived.Test.YtacaanhnlfpbhaaGreatK13
import Derived.Test.YtacaanhnlfpbhaaGreatK02
namespace Go.Proofs.YtacaanhnlfpbhaaGreat
open Go.RowKit Go.Lk
set_option linter.unusedVariables false
set_option linter.unusedSimpArgs false
set_option maxRecDepth 100000 in
set_option maxHeartbeats 4000000 in
theorem same30 {w:World} {a1 a2:Option Addr} {n1 c1 n2 c2:Nat} {l:List Int} (h1:IR w (.slice a1 n1 c1) l) (h2:IR w (.slice a2 n2 c2) l) (hl:l.length ≤ 100000) :
  Calls Tryz.prog 30 #[.slice a1 n1 c1,.slice a2 n2 c2] w fun e w' => e = .returned (.bool true) ∧ Below w.heap.size w w':=by
 obtain ⟨n,hn⟩:∃ n,n = l.length:=⟨_,rfl⟩
 obtain ⟨ad1,cc1,e1,h1'⟩:=h1
 obtain ⟨ad2,cc2,e2,h2'⟩:=h2
 simp only [Value.slice.injEq] at e1 e2
 obtain ⟨rfl,rfl,rfl⟩:=e1
 obtain ⟨rfl,rfl,rfl⟩:=e2
 rw [← hn] at h1' h2' hl ⊢
 have HN:=hid hn
 have H1:=hid h1'
 have H2:=hid h2'
 clear h1' h2' hn
 go_enter Tryz.func30,Tryz.ntmps30
 go_wp2
 go_loopw [5] (fun s5 wr => ∃ k:Nat,s5 = .int .i64 (k:Int) ∧ k ≤ n ∧ Hid (Below w.heap.size w wr)) (fun s5 _ => n - (intOf s5).toNat)
 case atStart => exact ⟨0,rfl,Nat.zero_le _,Below.refl _ _⟩
 case round =>
  obtain ⟨k,rfl,hk,HBW⟩:=hrel
  by_cases hkn:k < n
  ·have b1:decide ((k:Int) < (n:Int)) = true:=by simp;omega
   have b2:(k:Int) < (n:Int):=by omega
   have a3:=wrap_ok ((k:Int) + 1) (by omega) (by omega)
   rcases H1.out with h0 | ⟨q1,o1,rfl,hq1,hc1⟩
   ·omega
   rcases H2.out with h0 | ⟨q2,o2,rfl,hq2,hc2⟩
   ·omega
   have m1:=(HBW.out.cell (p:=⟨q1,o1 + k,none⟩) hq1).trans (hc1 k (by omega))
   have m2:=(HBW.out.cell (p:=⟨q2,o2 + k,none⟩) hq2).trans (hc2 k (by omega))
   generalize l.getD k 0 = v at m1 m2
   have hk2:k < 9223372036854775807:=by omega
   clear hc1 hc2 H1 H2
   go_wp2_with fail
   go_quiet (fail)
   go_wp2
   refine ⟨⟨k + 1,by push_cast;rfl,by omega,below_drewN' HBW.out _⟩,by simp [intOf];omega⟩
  ·have b1:decide ((k:Int) < (n:Int)) = false:=by simp;omega
   have b2:¬ ((k:Int) < (n:Int)):=by omega
   clear H1 H2
   go_wp2
   all_goals go_ret
   all_goals exact ⟨rfl,HBW.out⟩
theorem nxT_len (tx:List Int) (I:In) (p:Nat) (caps:List Int):(nxT tx I p caps).2.length = caps.length:=by
 unfold nxT
 repeat' split
 all_goals simp
theorem evt_len {l:List In} {tx:List Int} {st:List TkT} {m:Met} {caps:List Int} {r:Option (Int × List Int)} (h:EvT l tx st m caps r):∀ y,r = some y → y.2.length = caps.length:=by
 induction h with
 | nil m c => intro y h;cases h
 | un a o st m c r _ ih => intro y h;rw [ih y h,List.length_set]
 | old i p st m c r _ _ ih => exact ih
 | fit i p st m c I _ _ _ => intro y h;cases h;rfl
 | step i p st m c r I _ _ _ _ ih => intro y h;rw [ih y h,nxT_len]
theorem errP_two {t:Tn} {tn i:Nat} (hs:t.sound = true) (ht:tn ≤ 20) (hi:i ≤ tn):errP t tn (i:Int) = 0 ∨ errP t tn (i:Int) = 3:=by
 unfold errP
 rw [if_neg (by omega),if_neg (by simp [hs])]
 split
 ·exact .inr rfl
 ·rw [if_neg (by omega)];exact .inl rfl
theorem errC_sound {t:Tn} (h:errC t = 0):t.sound = true:=by
 unfold errC at h
 split at h
 ·assumption
 ·cases h
def AnsWk (t:Tn) (tx:List Int) (i:Nat) (w:World) (e:Ending) (w':World):Prop:=
 ∃ la lc l,e = .returned (.tuple #[.slice la l.length lc,.int .i64 0]) ∧ Parsed w.heap.size w' (.slice la l.length lc) l ∧ PS t.spread t.notes tx i l ∧ Below w.heap.size w w'
theorem AnsW.ok {t:Tn} {tx:List Int} {tn:Nat} {i:Nat} {w w':World} {e:Ending} (h:AnsW t tx tn (i:Int) w e w') (h0:errP t tn (i:Int) = 0):AnsWk t tx i w e w':=by
 obtain ⟨pv,l,rfl,h1,h2,h3,h4⟩:=h
 obtain ⟨la,lc,rfl⟩:=h1.form
 have:=(h2 h0).1
 rw [Int.toNat_natCast] at this
 rw [h0]
 exact ⟨la,lc,l,rfl,h1,this,h4⟩
theorem AnsW.no {t:Tn} {tx:List Int} {tn:Nat} {i:Nat} {w w':World} {e:Ending} (h:AnsW t tx tn (i:Int) w e w') (h0:errP t tn (i:Int) = 3):e = .returned (.tuple #[.slice none 0 0,.int .i64 3]) ∧ Below w.heap.size w w':=by
 obtain ⟨pv,l,rfl,h1,h2,h3,h4⟩:=h
 obtain ⟨rfl,_⟩:=h3 (by omega)
 rw [h0]
 exact ⟨rfl,h4⟩
set_option maxRecDepth 100000 in
set_option maxHeartbeats 32000000 in
theorem pmeans5 {w:World} {N:Nv} {t:Tn} {tad:Option Addr} {tn tc:Nat} {tx:List Int} (h:TI w w.heap.size N t) (hsm:t.small = true) (hT:TextAt w.heap.size w tad tn tx) (htc:tn ≤ tc) :
  Calls Tryz.prog 5 #[N.v,.slice tad tn tc] w fun e w' => e = .returned (.bool true) ∧ Below w.heap.size w w':=by
 obtain ⟨U,hU⟩:∃ U,U = w.alloc (.cells #[.int .i64 N.k,.slice N.r1 N.r2 N.r3,.int .i64 N.a2,.slice N.s1 N.s2 N.s3,.int .i64 N.a4,.int .i64 N.a5,.bool N.a6,.int .i64 N.a7,.string N.a8] 25):=⟨_,rfl⟩
 have hbU:Below w.heap.size w U:=by rw [hU];exact Joins.below_alloc1 w _
 have hX:BNo U w.heap.size N:=by rw [hU];exact heap_alloc_new w _
 have hxU:w.heap.size < U.heap.size:=(Array.getElem?_eq_some_iff.1 hX).1
 have tiw:∀ (W:World),Below w.heap.size w W → TI W W.heap.size N t:=fun W hW => (h.kept fun b hb => hW.block b hb).le hW.size
 have HD:=deep10 (tiw _ hbU)
 have TIW:=hid tiw
 have HTW:Hid (∀ W,Below w.heap.size w W → TextAt W.heap.size W tad tn tx):=fun W h => (hT.below h).mono h.size
 have HTWL:Hid (∀ W,Below w.heap.size w W → Look.TextAt W.heap.size W tad tn tx):=fun W h => HTW.out W h
 have htl:tn = tx.length:=hT.1
 have htm:tn ≤ 35184372088832:=hT.2.1
 have HTL:=hid htl
 have HB0:=hid hbU
 obtain ⟨x,hx⟩:∃ x,x = w.heap.size:=⟨_,rfl⟩
 have hK0:∀ W,Below U.heap.size U W → BNo W x N ∧ Below w.heap.size w W:=fun W h => by rw [hx];exact ⟨(h.block _ (by omega)).trans hX,hbU.trans (Joins.below_le h hbU.size)⟩
 have HK0:=hid hK0
 have hxU':x < U.heap.size:=by omega
 clear hbU hX tiw h hT htl hK0 hxU
 go_enter Tryz.func5,Tryz.ntmps5
 go_upto_region 1 with fail
 rw [← hU,← hx]
 have HXE:=hid hx
 clear hU hx
 obtain ⟨c0,c1,c2,c3,c4,c5,c6,c7,c8⟩:=nine' (HK0.out U (Below.refl _ _)).1
 by_cases hdp:4194304 < t.nodes
 ·rw [decide_eq_true hdp] at HD
  go_wp2_with (first | (go_at_call 8;(with_reducible refine HD.mono ?_);rintro e U1 ⟨rfl,hb⟩;have HB1:=hid hb;clear hb HD))
  all_goals go_ret
  all_goals exact ⟨rfl,(HK0.out _ HB1.out).2⟩
 rw [decide_eq_false hdp] at HD
 go_upto_region 4 with (go_at_call 8;(with_reducible refine HD.mono ?_);rintro e U1 ⟨rfl,hb⟩;have HB1:=hid hb;clear hb HD)
 clear c0 c1 c2 c3 c4 c5 c6 c7 c8
 have HH:=heavy8 (TIW.out _ (HK0.out _ HB1.out).2) hsm
 obtain ⟨c0,c1,c2,c3,c4,c5,c6,c7,c8⟩:=nine' (HK0.out U1 HB1.out).1
 go_upto_region 5 with (go_at_call 22;(with_reducible refine HH.mono ?_);rintro e U2 ⟨hv,rfl,hb⟩;have HB2:=hid (HB1.out.trans (Joins.below_le hb HB1.out.size));clear hb HH)
 clear c0 c1 c2 c3 c4 c5 c6 c7 c8
 by_cases hvt:hv = true
 ·subst hvt
  go_wp2
  all_goals go_ret
  all_goals exact ⟨rfl,(HK0.out _ HB2.out).2⟩
 have hvf:hv = false:=by simpa using hvt
 subst hvf
 have HA:=awake7 U2
 by_cases ht20:20 < tn
 ·have g1:decide ((tn:Int) > 20) = true:=by simp;omega
  have g2:decide ((20:Int) < (tn:Int)) = true:=by simp;omega
  go_wp2_with (go_at_call 23;(with_reducible refine HA.mono ?_);rintro e U4 ⟨rfl,hb⟩;have HB4:=hid (HB2.out.trans (Joins.below_le hb HB2.out.size));clear hb HA)
  all_goals go_ret
  all_goals exact ⟨rfl,(HK0.out _ HB4.out).2⟩
 have ht20':tn ≤ 20:=by omega
 have g1:decide ((tn:Int) > 20) = false:=by simp;omega
 have g2:decide ((20:Int) < (tn:Int)) = false:=by simp;omega
 go_upto_region 10 with (go_at_call 23;(with_reducible refine HA.mono ?_);rintro e U4 ⟨rfl,hb⟩;have HB4:=hid (HB2.out.trans (Joins.below_le hb HB2.out.size));clear hb HA)
 clear g1 g2
 have HC:=compileT (TIW.out _ (HK0.out _ HB4.out).2)
 obtain ⟨E,hEE⟩:∃ E,E = errC t:=⟨_,rfl⟩
 unfold CPost at HC
 rw [← hEE] at HC
 have HEE:=hid hEE
 clear hEE
 obtain ⟨c0,c1,c2,c3,c4,c5,c6,c7,c8⟩:=nine' (HK0.out U4 HB4.out).1
 go_upto_region 11 with (go_at_call 24;(with_reducible refine HC.mono ?_);rintro e W5 ⟨ad,n,c,s,k,rfl,hb,hp⟩;have HB5:=hid hb;have HP5:=hid hp;clear hb hp HC)
 clear c0 c1 c2 c3 c4 c5 c6 c7 c8
 obtain ⟨U5,hU5⟩:∃ U5,U5 = W5.alloc (.cells #[.slice ad n c,.int .i64 s,.int .i64 k] 46):=⟨_,rfl⟩
 obtain ⟨z,hz⟩:∃ z,z = W5.heap.size:=⟨_,rfl⟩
 rw [← hU5,← hz]
 have hb5:Below W5.heap.size W5 U5:=by rw [hU5];exact Joins.below_alloc1 W5 _
 have hV5:U5.heap[z]? = some (.cells #[.slice ad n c,.int .i64 s,.int .i64 k] 46 (0,0)):=by rw [hU5,hz];exact heap_alloc_new W5 _
 have hb45:Below U4.heap.size U4 U5:=HB5.out.trans (Joins.below_le hb5 HB5.out.size)
 have HU5:Hid (Below U.heap.size U U5):=HB4.out.trans (Joins.below_le hb45 HB4.out.size)
 have hz5:z < U5.heap.size:=(Array.getElem?_eq_some_iff.1 hV5).1
 have HV5:Hid (∀ W,Below U5.heap.size U5 W → W.heap[z]? = some (.cells #[.slice ad n c,.int .i64 s,.int .i64 k] 46 (0,0)) ∧ Below U.heap.size U W):=fun W h => ⟨(h.block z hz5).trans hV5,HU5.out.trans (Joins.below_le h HU5.out.size)⟩
 have HPK:Hid (E = 0 → s = 0 ∧ k = 2 + 2 * t.top ∧ ∀ W,Below U5.heap.size U5 W → PI W W.heap.size ad n (progT t)):=fun h0 => by
  obtain ⟨e1,e2,e3⟩:=HP5.out h0
  refine ⟨e1,e2,fun W hW => e3 W (fun b h1 h2 => ?_) ?_⟩
  ·exact (hW.block b (Nat.lt_of_lt_of_le h2 hb5.size)).trans (hb5.block b h2)
  ·exact Nat.le_trans hb5.size hW.size
 clear hU5 hz hb5 hV5 hb45 HP5 HB5
 by_cases hE0:E = 0
 case neg =>
  have k1:(E != 0) = true:=by simp [hE0]
  clear hE0
  go_wp2
  all_goals go_ret
  all_goals exact ⟨rfl,(HK0.out _ HU5.out).2⟩
 obtain ⟨hs,hk,hpi⟩:=HPK.out hE0
 subst hs
 subst hE0
 have hC0:errC t = 0:=HEE.out.symm
 have HC0:=hid hC0
 obtain ⟨hf,hn2,hl3⟩:=errC_facts hC0
 have hK:k = ((t.notes:Nat):Int):=by rw [hk,top_gi];have:=(fine_gi t hf).1;simp only [Tn.notes];omega
 have hmay:mayB (progT t) 0 k = true:=by rw [hk];exact prog_may hf (by omega)
 have hgi:=fine_gi t hf
 have hnt:t.notes ≤ 2000:=by simp only [Tn.notes];omega
 have hnt1:0 < t.notes:=by simp only [Tn.notes];omega
 have hsd:=errC_sound hC0
 obtain ⟨K,hKe⟩:∃ K,K = t.notes:=⟨_,rfl⟩
 rw [← hKe] at hK hnt hnt1
 subst hK
 have HKE:=hid hKe
 clear hk hKe hC0 hf hn2 hl3 hgi
 have HMAY:=hid hmay
 have HPW:=hid hpi
 have HCX:Hid (∀ W,Below U5.heap.size U5 W → Below w.heap.size w W ∧ BNo W x N ∧ (W.cell? ⟨z,0,none⟩ = some (.slice ad n c) ∧ W.cell? ⟨z,1,none⟩ = some (.int .i64 0) ∧ W.cell? ⟨z,2,none⟩ = some (.int .i64 (K:Int)))):=fun W h => by
  obtain ⟨h1,h2⟩:=HV5.out W h
  exact ⟨(HK0.out W h2).2,(HK0.out W h2).1,three_cells3 h1⟩
 have HSD:=hid hsd
 have HCK:=rcheck9 (c:=c) (s:=0) (k:=(K:Int)) (hpi U5 (Below.refl _ _))
 rw [hmay] at HCK
 clear hpi hdp hvt hxU' HV5 HK0 HB1 HB2 HB4 hz5 hsm HPK HEE hmay hsd HU5 HB0
 obtain ⟨_,_,⟨z0,z1,z2⟩⟩:=HCX.out U5 (Below.refl _ _)
 go_upto_region 14 with (go_at_call 28;(with_reducible refine HCK.mono ?_);rintro e V ⟨rfl,hb⟩;have HBV:=hid hb;clear hb HCK)
 clear z0 z1 z2
 go_wp2_with fail
 go_loopw [11] (fun u wq => ∃ i:Nat,u = .int .i64 (i:Int) ∧ i ≤ tn + 1 ∧ Hid (Below U5.heap.size U5 wq)) (fun u _ => tn + 1 - (intOf u).toNat)
 case atStart => exact ⟨0,rfl,by omega,HBV.out⟩
 case round =>
  obtain ⟨i,rfl,hi,HBQ⟩:=hrel
  by_cases hit:i ≤ tn
  case neg =>
   have g1:decide ((i:Int) ≤ (tn:Int)) = false:=by simp;omega
   have HWW:=hid (HCX.out _ HBQ.out).1
   go_wp2
   all_goals go_ret
   all_goals exact ⟨rfl,HWW.out⟩
  have g1:decide ((i:Int) ≤ (tn:Int)) = true:=by simp;omega
  have a1:IntKind.i64.wrap ((i:Int) + 1) = (i:Int) + 1:=by rw [wrap_ok _ (by omega) (by omega)]
  have HQ0:=parses14 N t tx tad tn tc (i:Int) wr (TIW.out _ (HCX.out _ HBQ.out).1) (HTWL.out _ (HCX.out _ HBQ.out).1) htc
  obtain ⟨c0,c1,c2,c3,c4,c5,c6,c7,c8⟩:=nine' (HCX.out _ HBQ.out).2.1
  rcases errP_two HSD.out ht20' hit with hpe | hpe
  case inr =>
   have HQ:=HQ0.mono fun e w' h => AnsW.no h hpe
   clear HQ0 hpe
   go_wp2_with (go_at_call 14;(with_reducible refine HQ.mono ?_);rintro e X1 ⟨rfl,hb⟩;have HX1:=hid (HBQ.out.trans (Joins.below_le hb HBQ.out.size));clear hb HQ)
   all_goals go_ret
   all_goals exact ⟨rfl,(HCX.out _ HX1.out).1⟩
  have HQ:=HQ0.mono fun e w' h => AnsW.ok h hpe
  have HPE:=hid hpe
  clear HQ0 hpe
  go_upto_region 22 with (go_at_call 14;(with_reducible refine HQ.mono ?_);rintro e X1 ⟨la,lc,l,rfl,hl1,hl2,hb⟩;have HL1:=hid hl1;have HL2:=hid hl2;have HX1:=hid (HBQ.out.trans (Joins.below_le hb HBQ.out.size));clear hb hl1 hl2 HQ)
  clear c0 c1 c2 c3 c4 c5 c6 c7 c8
  obtain ⟨r,hev,hcase⟩:=prog_first HC0.out (by rw [← HTL.out];exact HPE.out) HL2.out
  rw [← HKE.out] at hev
  have HF:=find22 (c:=c) (tc:=tc) (S:=0) (HPW.out X1 HX1.out) HMAY.out (HTW.out X1 (HCX.out X1 HX1.out).1) ht20' hit hev
  obtain ⟨_,_,⟨z0,z1,z2⟩⟩:=HCX.out X1 HX1.out
  rcases hcase with ⟨hri,hl0⟩ | ⟨q,c0,rest,hri,hl0⟩
  ·subst hri
   subst hl0
   clear HL1 HL2 hev
   have HF':Calls Tryz.prog 29 #[pv ad n c 0 (K:Int),.slice tad tn tc,.int .i64 (i:Int),.bool true] X1 (FRT none X1):=HF
   clear HF
   go_upto_region 23 with (go_at_call 29;(with_reducible refine HF'.mono ?_);rintro e X2 ⟨rfl,hb⟩;have HX2:=hid (HX1.out.trans (Joins.below_le hb HX1.out.size));clear hb HF')
   clear z0 z1 z2
   obtain ⟨V3,hV3⟩:∃ V3,V3 = X2.alloc (.cells #[.bool false,.slice none 0 0,.int .i64 0,.int .i64 0] 54):=⟨_,rfl⟩
   obtain ⟨v8,hv8⟩:∃ v8,v8 = X2.heap.size:=⟨_,rfl⟩
   rw [← hV3,← hv8]
   have hbV:Below X2.heap.size X2 V3:=by rw [hV3];exact Joins.below_alloc1 X2 _
   have hVV:V3.heap[v8]? = some (.cells #[.bool false,.slice none 0 0,.int .i64 0,.int .i64 0] 54 (0,0)):=by rw [hV3,hv8];exact heap_alloc_new X2 _
   have HBV3:Hid (Below U5.heap.size U5 V3):=HX2.out.trans (Joins.below_le hbV HX2.out.size)
   have k0:V3.cell? ⟨v8,0,none⟩ = some (.bool false):=(four_cells hVV).1
   clear hV3 hv8 hbV hVV
   go_wp2
   refine ⟨⟨i + 1,by push_cast;rfl,by omega,HBV3.out⟩,by simp [intOf];omega⟩
  ·have hcl:c0.length = K:=by have:=evt_len hev _ hri;simpa using this
   subst hri
   subst hl0
   have hlen:0 < c0.length:=by omega
   have hlen2:c0.length ≤ 100000:=by omega
   obtain ⟨lb,fb,fcc,hla,hcell,hIR⟩:=HL1.out.first hlen
   subst hla
   have HF':Calls Tryz.prog 29 #[pv ad n c 0 (K:Int),.slice tad tn tc,.int .i64 (i:Int),.bool true] X1 (FRT (some (0,c0)) X1):=HF
   have HCELL:=hid hcell
   have HIRH:=hid hIR
   clear HF HL1 HL2 hcell hIR hev hcl
   generalize hll:((q,c0) :: rest).length = ll
   have hl1:0 < ll:=by rw [← hll];simp
   clear hll
   go_upto_region 23 with (go_at_call 29;(with_reducible refine HF'.mono ?_);rintro e X2 ⟨g,rfl,hi8,hb⟩;have HI8:=hid hi8;have HXB:=hid hb;have HX2:=hid (HX1.out.trans (Joins.below_le hb HX1.out.size));clear hb hi8 HF')
   clear z0 z1 z2
   obtain ⟨V3,hV3⟩:∃ V3,V3 = X2.alloc (.cells #[.bool true,.slice (some ⟨g,0,none⟩) c0.length c0.length,.int .i64 0,.int .i64 0] 54):=⟨_,rfl⟩
   obtain ⟨v8,hv8⟩:∃ v8,v8 = X2.heap.size:=⟨_,rfl⟩
   rw [← hV3,← hv8]
   have hbV:Below X2.heap.size X2 V3:=by rw [hV3];exact Joins.below_alloc1 X2 _
   have hVV:V3.heap[v8]? = some (.cells #[.bool true,.slice (some ⟨g,0,none⟩) c0.length c0.length,.int .i64 0,.int .i64 0] 54 (0,0)):=by rw [hV3,hv8];exact heap_alloc_new X2 _
   have hv83:v8 < V3.heap.size:=(Array.getElem?_eq_some_iff.1 hVV).1
   have hX1V3:Below X1.heap.size X1 V3:=HXB.out.trans (Joins.below_le hbV HXB.out.size)
   have HBV3:Hid (Below U5.heap.size U5 V3):=HX1.out.trans (Joins.below_le hX1V3 HX1.out.size)
   have HIG:IR V3 (.slice (some ⟨g,0,none⟩) c0.length c0.length) c0:=(IR.row HI8.out).below hbV
   have HIP:=HIRH.out.below hX1V3
   have kc:V3.cell? ⟨lb,1,none⟩ = some (.slice (some ⟨fb,0,none⟩) c0.length fcc):=(hX1V3.cell (World.block_lt_of_cell? _ _ HCELL.out)).trans HCELL.out
   obtain ⟨k0,k1,k2,k3⟩:=four_cells hVV
   have HVV:=hid hVV
   have HS:Hid (∀ W,Below V3.heap.size V3 W → Calls Tryz.prog 30 #[.slice (some ⟨g,0,none⟩) c0.length c0.length,.slice (some ⟨fb,0,none⟩) c0.length fcc] W fun e w' => e = .returned (.bool true) ∧ Below W.heap.size W w'):=fun W h => same30 (HIG.below h) (HIP.below h) hlen2
   have HK4:Hid (∀ W,Below V3.heap.size V3 W → (W.cell? ⟨v8,0,none⟩ = some (.bool true) ∧ W.cell? ⟨v8,1,none⟩ = some (.slice (some ⟨g,0,none⟩) c0.length c0.length) ∧ W.cell? ⟨v8,2,none⟩ = some (.int .i64 0) ∧ W.cell? ⟨v8,3,none⟩ = some (.int .i64 0)) ∧ Below U5.heap.size U5 W):=fun W h => ⟨four_cells ((h.block v8 hv83).trans HVV.out),HBV3.out.trans (Joins.below_le h HBV3.out.size)⟩
   clear hV3 hv8 hbV hVV hX1V3 HI8 HIRH HCELL HXB HVV HIG HIP
   have gl:decide ((ll:Int) > 0) = true:=by simp;omega
   have gl2:decide ((0:Int) < (ll:Int)) = true:=by simp;omega
   have gl3:((ll:Int) == 0) = false:=by simp;omega
   have gl4:decide (0 < ll) = true:=by simp;omega
   have gl5:¬ ll = 0:=by omega
   go_upto_region 26 with fail
   go_region_with (first | (go_at_call 30;(with_reducible refine (HS.out _ ?_).mono ?_);(exact drew_below _);rintro e X3 ⟨rfl,hb⟩;have HB9:Hid (Below V3.heap.size V3 X3):=(drew_below V3).trans hb;have HVX:=hid (HK4.out X3 HB9.out).2;have k9:=(HK4.out X3 HB9.out).1.2.2.1;clear hb))
   all_goals go_wp2
   all_goals exact ⟨⟨i + 1,by push_cast;rfl,by omega,HVX.out⟩,by simp [intOf];omega⟩
end Go.Proofs.YtacaanhnlfpbhaaGreat
namespace Go.Proofs.YtacaanhnlfpbhaaGreat
open Go.ChangeShapes Go.WideShapes Go.ChangeAt Go.RowKit Go.Deep
set_option linter.unusedVariables false
set_option linter.unusedSimpArgs false
set_option maxRecDepth 100000 in
theorem text_arg {H:Type} {enc:TypeId × Value → H} {W:World} {base:Nat} {v:Value} {d:DataW H} {p:List MemPlace} (hok:Value.okWide Tryz.prog W .any base 26 v)
  (h0:DataW.Trod enc Tryz.prog W 0 (fun _ => true) true 26 v d p) (hsz:∀ n ∈ d.weights Tryz.prog 26,n ≤ reachBytes) :
  ∃ (l:List Int) (ad:Option Addr) (n cap:Nat),v = .slice ad n cap ∧ n ≤ cap ∧ Look.TextAt W.heap.size W ad n l:=by
 obtain ⟨a0,len,cap,rfl⟩:=okWide_slice Tryz.underlying26 hok
 obtain ⟨fuel,hf⟩:=h0
 rcases open_ints Tryz.underlying26 Tryz.underlying3 cells3a hf with ⟨hcs,hx⟩ | ⟨a,len',cap',zs,hcs,_,hl,hm,hz,hx,hcell,hwz⟩
 ·simp [Value.cells] at hcs
  obtain ⟨rfl,rfl,rfl⟩:=hcs
  exact ⟨[],none,0,0,rfl,Nat.le_refl _,rfl,by omega,.inl rfl⟩
 ·simp [Value.cells] at hcs
  obtain ⟨rfl,rfl,rfl⟩:=hcs
  simp only [if_true] at hz
  obtain ⟨rfl,rfl⟩:=Prod.mk.inj hx
  have hb3:Tryz.prog.bytesOf 3 = 8:=by kernel_rfl
  have hs:=hsz (((lits (H:=H) .i64 (zs.take len)).length + (lits (H:=H) .i64 (zs.drop len)).length) * Tryz.prog.bytesOf 3) (by simp [DataW.weights,Tryz.underlying26,lits])
  rw [hb3,show reachBytes = 140737488351232 from rfl] at hs
  simp only [lits,List.length_map,List.length_take,List.length_drop] at hs
  have htl:(zs.take len).length = len:=by rw [List.length_take];omega
  refine ⟨zs.take len,some a,len,cap,rfl,by omega,htl.symm,by omega,?_⟩
  rcases Nat.eq_zero_or_pos len with h0 | h0
  ·exact .inl h0
  ·right
   obtain ⟨b,off,rfl,hc⟩:=ints_at hcell (by omega)
   refine ⟨b,off,rfl,lt_of_cell (hc 0 (by omega)),fun k hk => ?_⟩
   have hk':k < zs.length:=by omega
   rw [hc k hk']
   simp [List.getD_eq_getElem?_getD,List.getElem?_take_of_lt hk,List.getElem?_eq_getElem hk']
end Go.Proofs.YtacaanhnlfpbhaaGreat
