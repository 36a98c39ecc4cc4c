/- HELPERS: texts of ours put together. -/
import Derived.Test.YtacaanhnlfpbhaaGreatK53
import Derived.Test.YtacaanhnlfpbhaaGreatK13
import Derived.Test.YtacaanhnlfpbhaaGreatK46
import Derived.Test.YtacaanhnlfpbhaaGreatK43
import Derived.Test.YtacaanhnlfpbhaaGreatK01
import Derived.Test.YtacaanhnlfpbhaaGreatRows
import Derived.Deep.SlicePairs
import Derived.RowKit
import Derived.JoinedCond
import Derived.OpenShut
import Derived.SizedLaws
import Derived.Lib.SmallJoins
import Derived.Test.YtacaanhnlfpbhaaGreatK15
import Derived.Test.YtacaanhnlfpbhaaGreatK14
import Derived.Test.YtacaanhnlfpbhaaGreatProg
import Derived.WalkKit
import Derived.ProofKit
import Derived.BigQuiet
import Derived.WalkSmall
import Derived.Deep.QuietTactic
import Derived.Deep.RegionWith
import Derived.Laws.EntriesVeiled
import Derived.Deep.WholeRow
import Derived.Test.YtacaanhnlfpbhaaGreatK02
namespace Go.Proofs.YtacaanhnlfpbhaaGreat
open Go.RowKit Go.Lk
set_option linter.unusedVariables false
set_option linter.unusedSimpArgs false
theorem three_cells3 {w:World} {b:Nat} {v0 v1 v2:Value} {t:TypeId} {fr:Nat × Nat} (h:w.heap[b]? = some (.cells #[v0,v1,v2] t fr)):w.cell? ⟨b,0,none⟩ = some v0 ∧ w.cell? ⟨b,1,none⟩ = some v1 ∧ w.cell? ⟨b,2,none⟩ = some v2:=
 ⟨Joins.cell_of_block h 0,Joins.cell_of_block h 1,Joins.cell_of_block h 2⟩
def FT (ok:Bool) (wh:Int) (cs:List Int) (st:Nat) (w:World) (e:Ending) (w':World):Prop:=
 ∃ a1 n1 c1,e = .returned (.tuple #[.agg #[.bool ok,.slice a1 n1 c1,.int .i64 wh,.int .i64 (st:Int)],.int .i64 0]) ∧ IR w' (.slice a1 n1 c1) cs ∧ Below w.heap.size w w'
def AnsOk (t:Tn) (tx:List Int) (i:Nat) (w:World) (e:Ending) (w':World):Prop:=
 ∃ la lc l,e = .returned (.tuple #[.slice la l.length lc,.int .i64 0]) ∧ Parsed w.heap.size w' (.slice la l.length lc) l ∧ PS t t.notes tx i l ∧ Below w.heap.size w w'
theorem Answers.ok {t:Tn} {tx:List Int} {tn:Nat} {i:Nat} {w w':World} {e:Ending} (h:Answers t tx tn (i:Int) w e w') (h0:errP t tn (i:Int) = 0):AnsOk t tx i w e w':=by
 obtain ⟨pv,l,rfl,h1,h2,h3,h4⟩:=h
 obtain ⟨la,lc,rfl⟩:=h1.form
 have:=(h2 h0).1
 rw [Int.toNat_natCast] at this
 rw [h0]
 exact ⟨la,lc,l,rfl,h1,this,h4⟩
theorem Parsed.first {N:Nat} {w:World} {la:Option Addr} {lc:Nat} {q:Int} {c:List Int} {rest:List (Int × List Int)} (h:Parsed N w (.slice la ((q,c) :: rest).length lc) ((q,c) :: rest)) (hc:0 < c.length):∃ lb fb fc,la = some ⟨lb,0,none⟩ ∧ w.cell? ⟨lb,1,none⟩ = some (.slice (some ⟨fb,0,none⟩) c.length fc) ∧ IR w (.slice (some ⟨fb,0,none⟩) c.length fc) c:=by
 rcases h.ends with ⟨_,e⟩ | ⟨b,cap,e,_⟩
 ·cases e
 ·cases e
  obtain ⟨cb,cc,q1,q2⟩:=h.caps 0 (by simp) hc
  simp only [Nat.zero_mul,Nat.zero_add,List.getElem_cons_zero] at q1 q2
  refine ⟨b,cb,cc,rfl,q1,_,_,rfl,.inr ⟨cb,0,rfl,World.block_lt_of_cell? _ _ (q2 0 hc),fun k hk => ?_⟩⟩
  rw [Nat.zero_add]
  exact q2 k hk
set_option maxRecDepth 100000 in
set_option maxHeartbeats 32000000 in
theorem bmeans7_no {w:World} {N:Nv} {t:Tn} {tad:Option Addr} {tn tc:Nat} {a:Int} {tx:List Int} (h:TI w w.heap.size N t) (hsm:t.small = true) (hT:TextAt w.heap.size w tad tn tx) (htc:tn ≤ tc) (hE:¬ (errC t = 0 ∧ errP t tn a = 0)) :
  Calls Tryz.prog 7 #[N.v,.slice tad tn tc,.int .i64 a] w fun e w' => e = .returned (.bool true) ∧ Below w.heap.size w w':=by
 obtain ⟨U,hU⟩:∃ U,U = w.alloc (.cells #[.int .i64 N.k,.slice N.r1 N.r2 N.r3,.int .i64 N.a2,.slice N.s1 N.s2 N.s3,.int .i64 N.a4,.int .i64 N.a5,.bool N.a6,.int .i64 N.a7,.string N.a8] 25):=⟨_,rfl⟩
 have hbU:Below w.heap.size w U:=by rw [hU];exact Joins.below_alloc1 w _
 have hX:BNo U w.heap.size N:=by rw [hU];exact heap_alloc_new w _
 have hxU:w.heap.size < U.heap.size:=(Array.getElem?_eq_some_iff.1 hX).1
 have tiw:∀ (W:World),Below w.heap.size w W → TI W W.heap.size N t:=fun W hW => (h.kept fun b hb => hW.block b hb).le hW.size
 have HD:=deep10 (tiw _ hbU)
 have TIW:=hid tiw
 have HTW:Hid (∀ W,Below w.heap.size w W → TextAt W.heap.size W tad tn tx):=fun W h => (hT.below h).mono h.size
 have HTWL:Hid (∀ W,Below w.heap.size w W → Look.TextAt W.heap.size W tad tn tx):=fun W h => HTW.out W h
 have htl:tn = tx.length:=hT.1
 have htm:tn ≤ 35184372088832:=hT.2.1
 have HTL:=hid htl
 have HB0:=hid hbU
 obtain ⟨x,hx⟩:∃ x,x = w.heap.size:=⟨_,rfl⟩
 have hK0:∀ W,Below U.heap.size U W → BNo W x N ∧ Below w.heap.size w W:=fun W h => by rw [hx];exact ⟨(h.block _ (by omega)).trans hX,hbU.trans (Joins.below_le h hbU.size)⟩
 have HK0:=hid hK0
 have hxU':x < U.heap.size:=by omega
 have HEH:=hid hE
 clear hbU hX tiw h hT htl hK0 hxU hE
 go_enter Tryz.func7,Tryz.ntmps7
 go_upto_region 1 with fail
 rw [← hU,← hx]
 have HXE:=hid hx
 clear hU hx
 obtain ⟨c0,c1,c2,c3,c4,c5,c6,c7,c8⟩:=nine' (HK0.out U (Below.refl _ _)).1
 by_cases hdp:4194304 < t.nodes
 ·rw [decide_eq_true hdp] at HD
  go_wp2_with (first | (go_at_call 8;(with_reducible refine HD.mono ?_);rintro e U1 ⟨rfl,hb⟩;have HB1:=hid hb;clear hb HD))
  all_goals go_ret
  all_goals exact ⟨rfl,(HK0.out _ HB1.out).2⟩
 rw [decide_eq_false hdp] at HD
 go_upto_region 4 with (go_at_call 8;(with_reducible refine HD.mono ?_);rintro e U1 ⟨rfl,hb⟩;have HB1:=hid hb;clear hb HD)
 clear c0 c1 c2 c3 c4 c5 c6 c7 c8
 have HH:=heavy8 (TIW.out _ (HK0.out _ HB1.out).2) hsm
 obtain ⟨c0,c1,c2,c3,c4,c5,c6,c7,c8⟩:=nine' (HK0.out U1 HB1.out).1
 go_upto_region 5 with (go_at_call 22;(with_reducible refine HH.mono ?_);rintro e U2 ⟨hv,rfl,hb⟩;have HB2:=hid (HB1.out.trans (Joins.below_le hb HB1.out.size));clear hb HH)
 clear c0 c1 c2 c3 c4 c5 c6 c7 c8
 by_cases hvt:hv = true
 ·subst hvt
  go_wp2
  all_goals go_ret
  all_goals exact ⟨rfl,(HK0.out _ HB2.out).2⟩
 have hvf:hv = false:=by simpa using hvt
 subst hvf
 have HM:=much11 N t tad tn tc U2 (TIW.out _ (HK0.out _ HB2.out).2) htm
 obtain ⟨mu,hmu⟩:∃ mu,mu = muchB t tn:=⟨_,rfl⟩
 rw [← hmu] at HM
 clear hmu
 obtain ⟨c0,c1,c2,c3,c4,c5,c6,c7,c8⟩:=nine' (HK0.out U2 HB2.out).1
 go_upto_region 8 with (go_at_call 9;(with_reducible refine HM.mono ?_);rintro e U3 ⟨rfl,hb⟩;have HB3:=hid (HB2.out.trans (Joins.below_le hb HB2.out.size));clear hb HM)
 clear c0 c1 c2 c3 c4 c5 c6 c7 c8
 cases mu
 case true =>
  go_wp2
  all_goals go_ret
  all_goals exact ⟨rfl,(HK0.out _ HB3.out).2⟩
 have HA:=awake5 U3
 go_upto_region 11 with (go_at_call 36;(with_reducible refine HA.mono ?_);rintro e U4 ⟨rfl,hb⟩;have HB4:=hid (HB3.out.trans (Joins.below_le hb HB3.out.size));clear hb HA)
 have HC:=compileT (TIW.out _ (HK0.out _ HB4.out).2)
 obtain ⟨E,hEE⟩:∃ E,E = errC t:=⟨_,rfl⟩
 unfold CPost at HC
 rw [← hEE] at HC
 have HEE:=hid hEE
 clear hEE
 obtain ⟨c0,c1,c2,c3,c4,c5,c6,c7,c8⟩:=nine' (HK0.out U4 HB4.out).1
 go_upto_region 12 with (go_at_call 24;(with_reducible refine HC.mono ?_);rintro e W5 ⟨ad,n,c,s,k,rfl,hb,hp⟩;have HB5:=hid hb;have HP5:=hid hp;clear hb hp HC)
 clear c0 c1 c2 c3 c4 c5 c6 c7 c8
 obtain ⟨U5,hU5⟩:∃ U5,U5 = W5.alloc (.cells #[.slice ad n c,.int .i64 s,.int .i64 k] 46):=⟨_,rfl⟩
 obtain ⟨z,hz⟩:∃ z,z = W5.heap.size:=⟨_,rfl⟩
 rw [← hU5,← hz]
 have hb5:Below W5.heap.size W5 U5:=by rw [hU5];exact Joins.below_alloc1 W5 _
 have hV5:U5.heap[z]? = some (.cells #[.slice ad n c,.int .i64 s,.int .i64 k] 46 (0,0)):=by rw [hU5,hz];exact heap_alloc_new W5 _
 have hb45:Below U4.heap.size U4 U5:=HB5.out.trans (Joins.below_le hb5 HB5.out.size)
 have HU5:Hid (Below U.heap.size U U5):=HB4.out.trans (Joins.below_le hb45 HB4.out.size)
 have hz5:z < U5.heap.size:=(Array.getElem?_eq_some_iff.1 hV5).1
 have HV5:Hid (∀ W,Below U5.heap.size U5 W → W.heap[z]? = some (.cells #[.slice ad n c,.int .i64 s,.int .i64 k] 46 (0,0)) ∧ Below U.heap.size U W):=fun W h => ⟨(h.block z hz5).trans hV5,HU5.out.trans (Joins.below_le h HU5.out.size)⟩
 have HPK:Hid (E = 0 → s = 0 ∧ k = 2 + 2 * t.top ∧ ∀ W,Below U5.heap.size U5 W → PI W W.heap.size ad n (progT t)):=fun h0 => by
  obtain ⟨e1,e2,e3⟩:=HP5.out h0
  refine ⟨e1,e2,fun W hW => e3 W (fun b h1 h2 => ?_) ?_⟩
  ·exact (hW.block b (Nat.lt_of_lt_of_le h2 hb5.size)).trans (hb5.block b h2)
  ·exact Nat.le_trans hb5.size hW.size
 clear hU5 hz hb5 hV5 hb45 HP5 HB5
 have HQ:=parses13g N t tx tad tn tc a U5 (TIW.out _ (HK0.out _ HU5.out).2) (HTWL.out _ (HK0.out _ HU5.out).2) htc
 obtain ⟨F,hFF⟩:∃ F,F = errP t tn a:=⟨_,rfl⟩
 unfold Answers at HQ
 rw [← hFF] at HQ
 have HFF:=hid hFF
 clear hFF
 obtain ⟨c0,c1,c2,c3,c4,c5,c6,c7,c8⟩:=nine' (HK0.out U5 HU5.out).1
 go_upto_region 13 with (go_at_call 13;(with_reducible refine HQ.mono ?_);rintro e W6 ⟨pv0,l0,rfl,_,_,_,hb⟩;have HB6:=hid hb;clear hb HQ)
 clear c0 c1 c2 c3 c4 c5 c6 c7 c8
 have ho:¬ (E = 0 ∧ F = 0):=by rw [HEE.out,HFF.out];exact HEH.out
 by_cases hE0:E = 0
 ·have hF0:F ≠ 0:=fun e => ho ⟨hE0,e⟩
  have k1:(E != 0) = false:=by simp [hE0]
  have k2:(F != 0) = true:=by simp [hF0]
  clear ho hE0 hF0
  go_wp2
  all_goals go_ret
  all_goals exact ⟨rfl,(HK0.out _ (HV5.out _ HB6.out).2).2⟩
 ·have k1:(E != 0) = true:=by simp [hE0]
  clear ho hE0
  go_wp2
  all_goals go_ret
  all_goals exact ⟨rfl,(HK0.out _ (HV5.out _ HB6.out).2).2⟩
set_option maxRecDepth 100000 in
set_option maxHeartbeats 32000000 in
theorem bmeans7_yes {w:World} {N:Nv} {t:Tn} {tad:Option Addr} {tn tc:Nat} {a:Int} {tx:List Int} (h:TI w w.heap.size N t) (hsm:t.small = true) (hT:TextAt w.heap.size w tad tn tx) (htc:tn ≤ tc) (hE:errC t = 0 ∧ errP t tn a = 0) :
  Calls Tryz.prog 7 #[N.v,.slice tad tn tc,.int .i64 a] w fun e w' => e = .returned (.bool true) ∧ Below w.heap.size w w':=by
 obtain ⟨U,hU⟩:∃ U,U = w.alloc (.cells #[.int .i64 N.k,.slice N.r1 N.r2 N.r3,.int .i64 N.a2,.slice N.s1 N.s2 N.s3,.int .i64 N.a4,.int .i64 N.a5,.bool N.a6,.int .i64 N.a7,.string N.a8] 25):=⟨_,rfl⟩
 have hbU:Below w.heap.size w U:=by rw [hU];exact Joins.below_alloc1 w _
 have hX:BNo U w.heap.size N:=by rw [hU];exact heap_alloc_new w _
 have hxU:w.heap.size < U.heap.size:=(Array.getElem?_eq_some_iff.1 hX).1
 have tiw:∀ (W:World),Below w.heap.size w W → TI W W.heap.size N t:=fun W hW => (h.kept fun b hb => hW.block b hb).le hW.size
 have HD:=deep10 (tiw _ hbU)
 have TIW:=hid tiw
 have HTW:Hid (∀ W,Below w.heap.size w W → TextAt W.heap.size W tad tn tx):=fun W h => (hT.below h).mono h.size
 have HTWL:Hid (∀ W,Below w.heap.size w W → Look.TextAt W.heap.size W tad tn tx):=fun W h => HTW.out W h
 have htl:tn = tx.length:=hT.1
 have htm:tn ≤ 35184372088832:=hT.2.1
 have HTL:=hid htl
 have HB0:=hid hbU
 obtain ⟨x,hx⟩:∃ x,x = w.heap.size:=⟨_,rfl⟩
 have hK0:∀ W,Below U.heap.size U W → BNo W x N ∧ Below w.heap.size w W:=fun W h => by rw [hx];exact ⟨(h.block _ (by omega)).trans hX,hbU.trans (Joins.below_le h hbU.size)⟩
 have HK0:=hid hK0
 have hxU':x < U.heap.size:=by omega
 have HEH:=hid hE
 clear hbU hX tiw h hT htl hK0 hxU hE
 go_enter Tryz.func7,Tryz.ntmps7
 go_upto_region 1 with fail
 rw [← hU,← hx]
 have HXE:=hid hx
 clear hU hx
 obtain ⟨c0,c1,c2,c3,c4,c5,c6,c7,c8⟩:=nine' (HK0.out U (Below.refl _ _)).1
 by_cases hdp:4194304 < t.nodes
 ·rw [decide_eq_true hdp] at HD
  go_wp2_with (first | (go_at_call 8;(with_reducible refine HD.mono ?_);rintro e U1 ⟨rfl,hb⟩;have HB1:=hid hb;clear hb HD))
  all_goals go_ret
  all_goals exact ⟨rfl,(HK0.out _ HB1.out).2⟩
 rw [decide_eq_false hdp] at HD
 go_upto_region 4 with (go_at_call 8;(with_reducible refine HD.mono ?_);rintro e U1 ⟨rfl,hb⟩;have HB1:=hid hb;clear hb HD)
 clear c0 c1 c2 c3 c4 c5 c6 c7 c8
 have HH:=heavy8 (TIW.out _ (HK0.out _ HB1.out).2) hsm
 obtain ⟨c0,c1,c2,c3,c4,c5,c6,c7,c8⟩:=nine' (HK0.out U1 HB1.out).1
 go_upto_region 5 with (go_at_call 22;(with_reducible refine HH.mono ?_);rintro e U2 ⟨hv,rfl,hb⟩;have HB2:=hid (HB1.out.trans (Joins.below_le hb HB1.out.size));clear hb HH)
 clear c0 c1 c2 c3 c4 c5 c6 c7 c8
 by_cases hvt:hv = true
 ·subst hvt
  go_wp2
  all_goals go_ret
  all_goals exact ⟨rfl,(HK0.out _ HB2.out).2⟩
 have hvf:hv = false:=by simpa using hvt
 subst hvf
 have HM:=much11 N t tad tn tc U2 (TIW.out _ (HK0.out _ HB2.out).2) htm
 obtain ⟨mu,hmu⟩:∃ mu,mu = muchB t tn:=⟨_,rfl⟩
 rw [← hmu] at HM
 clear hmu
 obtain ⟨c0,c1,c2,c3,c4,c5,c6,c7,c8⟩:=nine' (HK0.out U2 HB2.out).1
 go_upto_region 8 with (go_at_call 9;(with_reducible refine HM.mono ?_);rintro e U3 ⟨rfl,hb⟩;have HB3:=hid (HB2.out.trans (Joins.below_le hb HB2.out.size));clear hb HM)
 clear c0 c1 c2 c3 c4 c5 c6 c7 c8
 cases mu
 case true =>
  go_wp2
  all_goals go_ret
  all_goals exact ⟨rfl,(HK0.out _ HB3.out).2⟩
 have HA:=awake5 U3
 go_upto_region 11 with (go_at_call 36;(with_reducible refine HA.mono ?_);rintro e U4 ⟨rfl,hb⟩;have HB4:=hid (HB3.out.trans (Joins.below_le hb HB3.out.size));clear hb HA)
 have HC:=compileT (TIW.out _ (HK0.out _ HB4.out).2)
 obtain ⟨E,hEE⟩:∃ E,E = errC t:=⟨_,rfl⟩
 unfold CPost at HC
 rw [← hEE] at HC
 have HEE:=hid hEE
 clear hEE
 obtain ⟨c0,c1,c2,c3,c4,c5,c6,c7,c8⟩:=nine' (HK0.out U4 HB4.out).1
 go_upto_region 12 with (go_at_call 24;(with_reducible refine HC.mono ?_);rintro e W5 ⟨ad,n,c,s,k,rfl,hb,hp⟩;have HB5:=hid hb;have HP5:=hid hp;clear hb hp HC)
 clear c0 c1 c2 c3 c4 c5 c6 c7 c8
 obtain ⟨U5,hU5⟩:∃ U5,U5 = W5.alloc (.cells #[.slice ad n c,.int .i64 s,.int .i64 k] 46):=⟨_,rfl⟩
 obtain ⟨z,hz⟩:∃ z,z = W5.heap.size:=⟨_,rfl⟩
 rw [← hU5,← hz]
 have hb5:Below W5.heap.size W5 U5:=by rw [hU5];exact Joins.below_alloc1 W5 _
 have hV5:U5.heap[z]? = some (.cells #[.slice ad n c,.int .i64 s,.int .i64 k] 46 (0,0)):=by rw [hU5,hz];exact heap_alloc_new W5 _
 have hb45:Below U4.heap.size U4 U5:=HB5.out.trans (Joins.below_le hb5 HB5.out.size)
 have HU5:Hid (Below U.heap.size U U5):=HB4.out.trans (Joins.below_le hb45 HB4.out.size)
 have hz5:z < U5.heap.size:=(Array.getElem?_eq_some_iff.1 hV5).1
 have HV5:Hid (∀ W,Below U5.heap.size U5 W → W.heap[z]? = some (.cells #[.slice ad n c,.int .i64 s,.int .i64 k] 46 (0,0)) ∧ Below U.heap.size U W):=fun W h => ⟨(h.block z hz5).trans hV5,HU5.out.trans (Joins.below_le h HU5.out.size)⟩
 have HPK:Hid (E = 0 → s = 0 ∧ k = 2 + 2 * t.top ∧ ∀ W,Below U5.heap.size U5 W → PI W W.heap.size ad n (progT t)):=fun h0 => by
  obtain ⟨e1,e2,e3⟩:=HP5.out h0
  refine ⟨e1,e2,fun W hW => e3 W (fun b h1 h2 => ?_) ?_⟩
  ·exact (hW.block b (Nat.lt_of_lt_of_le h2 hb5.size)).trans (hb5.block b h2)
  ·exact Nat.le_trans hb5.size hW.size
 clear hU5 hz hb5 hV5 hb45 HP5 HB5
 have HQ:=parses13g N t tx tad tn tc a U5 (TIW.out _ (HK0.out _ HU5.out).2) (HTWL.out _ (HK0.out _ HU5.out).2) htc
 obtain ⟨F,hFF⟩:∃ F,F = errP t tn a:=⟨_,rfl⟩
 unfold Answers at HQ
 rw [← hFF] at HQ
 have HFF:=hid hFF
 clear hFF
 obtain ⟨c0,c1,c2,c3,c4,c5,c6,c7,c8⟩:=nine' (HK0.out U5 HU5.out).1
 go_upto_region 13 with (go_at_call 13;(with_reducible refine HQ.mono ?_);rintro e W6 ⟨pv0,l0,rfl,_,_,_,hb⟩;have HB6:=hid hb;clear hb HQ)
 clear c0 c1 c2 c3 c4 c5 c6 c7 c8
 have hE0:E = 0:=HEE.out.trans HEH.out.1
 have hF0:F = 0:=HFF.out.trans HEH.out.2
 obtain ⟨hs,hk,hpi⟩:=HPK.out hE0
 subst hs
 subst hE0
 subst hF0
 have HKE:=hid hk
 clear hk
 obtain ⟨p1,p2,p3,p4,p5⟩:=errP_parts HEH.out.2
 obtain ⟨A,rfl⟩:=Int.eq_ofNat_of_zero_le p4
 have hAt:A ≤ tn:=by omega
 clear p2 p3 p4 p5
 have HPW:=hid hpi
 have HCX:Hid (∀ W,Below U5.heap.size U5 W → Below w.heap.size w W ∧ BNo W x N ∧ (W.cell? ⟨z,0,none⟩ = some (.slice ad n c) ∧ W.cell? ⟨z,1,none⟩ = some (.int .i64 0) ∧ W.cell? ⟨z,2,none⟩ = some (.int .i64 k))):=fun W h => by
  obtain ⟨h1,h2⟩:=HV5.out W h
  exact ⟨(HK0.out W h2).2,(HK0.out W h2).1,three_cells3 h1⟩
 have HRN:Hid (∀ W (q:Int) (an:Bool) r m',Below U5.heap.size U5 W → errB (progT t) 0 k tx.length q = 0 → BitA (progT t) tx 0 k q an r m' → Calls Tryz.prog 37 #[pv ad n c 0 k,.slice tad tn tc,.int .i64 q,.bool an] W (FT r.isSome (whF r) (capsF r) m'.length W)):=fun W q an r m' h he hd => run8S (HPW.out W h) (HTW.out W (HCX.out W h).1) he hd
 have HPS:Hid (∀ W (i:Nat),Below U5.heap.size U5 W → errP t tn (i:Int) = 0 → Calls Tryz.prog 13 #[N.v,.slice tad tn tc,.int .i64 (i:Int)] W (AnsOk t tx i W)):=fun W i h he => (parses13g N t tx tad tn tc (i:Int) W (TIW.out _ (HCX.out W h).1) (HTWL.out _ (HCX.out W h).1) htc).mono fun e w' h => h.ok he
 have hbig:=errB_big HEH.out.1 HEH.out.2
 rw [← HKE.out,HTL.out] at hbig
 clear hpi hdp hvt hxU' HV5 HK0 HB1 HB2 HB3 HB4 hz5 hsm HPK HEE HFF
 obtain ⟨_,_,⟨z0,z1,z2⟩⟩:=HCX.out W6 HB6.out
 rcases hbig with he | he
 case inr =>
  have HRE:=run8E (n:=n) (c:=c) (tc:=tc) (anch:=false) (HPW.out W6 HB6.out) (HTW.out W6 (HCX.out W6 HB6.out).1) (s:=0) (k:=k) (a:=(A:Int)) (by rw [he];decide)
  rw [he] at HRE
  clear he
  go_wp2_with (go_at_call 37;(with_reducible refine HRE.mono ?_);rintro e W7 ⟨hb,rfl⟩;have HB7:=hid hb;clear hb HRE)
  all_goals go_ret
  all_goals exact ⟨rfl,(HCX.out _ (HB6.out.trans (Joins.below_le (HB7.out.trans (Joins.below_le (Joins.below_alloc1 W7 _) HB7.out.size)) HB6.out.size))).1⟩
 have hR:=errB_R he
 obtain ⟨r,m',hd,_⟩:=bit_ex (tx:=tx) false hR
 have HFIRST:=hid (bit_first hR hd)
 have HMAY:=hid (may_ok (errR_ok hR).2.1)
 have HR1:=HRN.out W6 (A:Int) false r m' HB6.out he hd
 have HEB:=hid he
 clear hd he hR
 generalize hst:m'.length = st at HR1
 clear hst
 generalize hokf:r.isSome = okf at HR1
 generalize hwf:whF r = wf at HR1
 generalize hcf:capsF r = cf at HR1
 have HOK:=hid hokf
 have HWF:=hid hwf
 have HCF:=hid hcf
 clear hokf hwf hcf
 have hty:Hid (st = st):=rfl
 go_upto_region 16 with (go_at_call 37;(with_reducible refine HR1.mono ?_);rintro e W7 ⟨f1,fn,fc,rfl,hi,hb⟩;have HI7:=hid hi;have HB7:=hid (HB6.out.trans (Joins.below_le hb HB6.out.size));clear hb hi HR1)
 clear z0 z1 z2
 obtain ⟨V,hV⟩:∃ V,V = W7.alloc (.cells #[.bool okf,.slice f1 fn fc,.int .i64 wf,.int .i64 (st:Int)] 54):=⟨_,rfl⟩
 obtain ⟨v,hv⟩:∃ v,v = W7.heap.size:=⟨_,rfl⟩
 rw [← hV,← hv]
 have hbV:Below W7.heap.size W7 V:=by rw [hV];exact Joins.below_alloc1 W7 _
 have hVV:V.heap[v]? = some (.cells #[.bool okf,.slice f1 fn fc,.int .i64 wf,.int .i64 (st:Int)] 54 (0,0)):=by rw [hV,hv];exact heap_alloc_new W7 _
 have hvV:v < V.heap.size:=(Array.getElem?_eq_some_iff.1 hVV).1
 have hUV:Below U5.heap.size U5 V:=HB7.out.trans (Joins.below_le hbV HB7.out.size)
 have hIV:=HI7.out.below hbV
 have HKV:Hid (∀ W,Below V.heap.size V W → Below U5.heap.size U5 W ∧ (W.cell? ⟨v,0,none⟩ = some (.bool okf) ∧ W.cell? ⟨v,1,none⟩ = some (.slice f1 fn fc) ∧ W.cell? ⟨v,2,none⟩ = some (.int .i64 wf) ∧ W.cell? ⟨v,3,none⟩ = some (.int .i64 (st:Int))) ∧ IR W (.slice f1 fn fc) cf):=fun W h => ⟨hUV.trans (Joins.below_le h hUV.size),four_cells ((h.block v hvV).trans hVV),hIV.below h⟩
 clear hV hv hbV hVV hvV hUV hIV HI7 HB7 HB6
 go_wp2_with fail
 go_loopw [17] (fun u wq => ∃ i:Nat,u = .int .i64 (i:Int) ∧ A ≤ i ∧ i ≤ tn + 1 ∧ Hid (Below V.heap.size V wq) ∧ Hid (∀ (q:Nat) r1 m1,A ≤ q → q < i → BitA (progT t) tx 0 k q true r1 m1 → r1 = none)) (fun u _ => tn + 1 - (intOf u).toNat)
 case atStart => exact ⟨A,rfl,Nat.le_refl _,by omega,Below.refl _ _,fun q r1 m1 h1 h2 => absurd h2 (by omega)⟩
 case round =>
  obtain ⟨i,rfl,hAi,hi,HBQ,HNO⟩:=hrel
  obtain ⟨hUQ,⟨v0,v1,v2,v3⟩,hIF⟩:=HKV.out wr HBQ.out
  by_cases hit:i ≤ tn
  case neg =>
   have g1:decide ((i:Int) ≤ (tn:Int)) = false:=by simp;omega
   have hr0:r = none:=by
    rcases HFIRST.out with ⟨h1,_⟩ | ⟨zz,j,h1,h2,h3,_,h5,_⟩
    ·exact h1
    ·have hj:=errB_on HEB.out (q:=(j:Int)) (by omega) (by omega)
     obtain ⟨rj,mj,hdj,_⟩:=bit_ex (tx:=tx) true (errB_R hj)
     have e1:=h5 rj mj hdj
     have e2:=HNO.out j rj mj (by omega) (by have:=HTL.out;omega) hdj
     rw [e1] at e2
     cases e2
   have hok0:okf = false:=by rw [← HOK.out,hr0];rfl
   subst hok0
   have HWW:=hid (HCX.out _ hUQ).1
   clear hUQ hIF hr0
   go_wp2
   all_goals go_ret
   all_goals exact ⟨rfl,HWW.out⟩
  have g1:decide ((i:Int) ≤ (tn:Int)) = true:=by simp;omega
  have a1:IntKind.i64.wrap ((i:Int) + 1) = (i:Int) + 1:=by rw [wrap_ok _ (by omega) (by omega)]
  have hpi:errP t tn (i:Int) = 0:=errP_on HEH.out.2 (by omega) (by omega)
  have hei:errB (progT t) (0:Int) k tx.length (i:Int) = 0:=errB_on HEB.out (by omega) (by have:=HTL.out;omega)
  obtain ⟨ri,mi,hdi,_⟩:=bit_ex (tx:=tx) true (errB_R hei)
  have HMEAN:Hid (∀ l,PS t t.notes tx i l → (ri = none ∧ l = []) ∨ ∃ q c rest,ri = some (0,c) ∧ l = (q,c) :: rest):=fun l hl => bit_means HEH.out.1 (by rw [← HTL.out];exact hpi) hl (by rw [← HKE.out];exact hdi)
  have HNI:Hid (ri = none → ∀ (q:Nat) r1 m1,A ≤ q → q < i + 1 → BitA (progT t) tx 0 k q true r1 m1 → r1 = none):=fun h0 q r1 m1 h1 h2 h3 => by
   by_cases hq:q < i
   ·exact HNO.out q r1 m1 h1 hq h3
   ·have:q = i:=by omega
    subst this
    rw [← h0]
    obtain ⟨_,e⟩:=da_det h3 hdi
    exact e
  have HSOME:Hid (∀ y,ri = some y → r = some y):=fun y hy => by
   rcases HFIRST.out with ⟨_,h2⟩ | ⟨zz,j,h1,h2,h3,h4,h5,_⟩
   ·have:=h2 i ri mi (by rw [Int.toNat_natCast];exact hAi) (by have:=HTL.out;omega) hdi
    rw [this] at hy
    cases hy
   ·rw [Int.toNat_natCast] at h2
    rcases Nat.lt_trichotomy i j with hij | hij | hij
    ·have:=h4 i ri mi (by rw [Int.toNat_natCast];exact hAi) hij hdi
     rw [this] at hy
     cases hy
    ·subst hij
     rw [h1,← h5 ri mi hdi,hy]
    ·have hj:=errB_on HEB.out (q:=(j:Int)) (by omega) (by omega)
     obtain ⟨rj,mj,hdj,_⟩:=bit_ex (tx:=tx) true (errB_R hj)
     have e1:=h5 rj mj hdj
     have e2:=HNO.out j rj mj h2 hij hdj
     rw [e1] at e2
     cases e2
  have HQ:=HPS.out wr i hUQ hpi
  obtain ⟨c0,c1,c2,c3,c4,c5,c6,c7,c8⟩:=nine' (HCX.out _ hUQ).2.1
  have HEI:=hid hei
  have HDI:=hid hdi
  clear v0 v1 v2 v3 hUQ hIF hei hdi hpi
  go_upto_region 22 with (go_at_call 13;(with_reducible refine HQ.mono ?_);rintro e X1 ⟨la,lc,l,rfl,hl1,hl2,hb⟩;have HL1:=hid hl1;have HL2:=hid hl2;have HX1:=hid (HBQ.out.trans (Joins.below_le hb HBQ.out.size));clear hb hl1 hl2 HQ)
  clear c0 c1 c2 c3 c4 c5 c6 c7 c8
  obtain ⟨hUQ,_,_⟩:=HKV.out X1 HX1.out
  have HR2:=HRN.out X1 (i:Int) true ri mi hUQ HEI.out HDI.out
  obtain ⟨_,_,⟨z0,z1,z2⟩⟩:=HCX.out X1 hUQ
  clear hUQ
  generalize mi.length = sti at HR2
  rcases HMEAN.out l HL2.out with ⟨hri,hl0⟩ | ⟨q,c0,rest,hri,hl0⟩
  ·subst hri
   subst hl0
   have HNI2:=hid (HNI.out rfl)
   have HR2':Calls Tryz.prog 37 #[pv ad n c 0 k,.slice tad tn tc,.int .i64 (i:Int),.bool true] X1 (FT false 0 [] sti X1):=HR2
   clear HR2 HMEAN HSOME HNI HL1 HL2 HEI HDI
   go_upto_region 23 with (go_at_call 37;(with_reducible refine HR2'.mono ?_);rintro e X2 ⟨q1,qn,qc,rfl,hi8,hb⟩;have HX2:=hid (HX1.out.trans (Joins.below_le hb HX1.out.size));clear hb hi8 HR2')
   clear z0 z1 z2
   obtain ⟨V3,hV3⟩:∃ V3,V3 = X2.alloc (.cells #[.bool false,.slice q1 qn qc,.int .i64 0,.int .i64 (sti:Int)] 54):=⟨_,rfl⟩
   obtain ⟨v8,hv8⟩:∃ v8,v8 = X2.heap.size:=⟨_,rfl⟩
   rw [← hV3,← hv8]
   have hbV:Below X2.heap.size X2 V3:=by rw [hV3];exact Joins.below_alloc1 X2 _
   have hVV:V3.heap[v8]? = some (.cells #[.bool false,.slice q1 qn qc,.int .i64 0,.int .i64 (sti:Int)] 54 (0,0)):=by rw [hV3,hv8];exact heap_alloc_new X2 _
   have HBV3:Hid (Below V.heap.size V V3):=HX2.out.trans (Joins.below_le hbV HX2.out.size)
   have k0:V3.cell? ⟨v8,0,none⟩ = some (.bool false):=(four_cells hVV).1
   clear hV3 hv8 hbV hVV
   go_wp2
   refine ⟨⟨i + 1,by push_cast;rfl,by omega,by omega,HBV3.out,HNI2.out⟩,by simp [intOf];omega⟩
  ·have hr:=HSOME.out _ hri
   subst hri
   subst hl0
   have hokf1:okf = true:=by rw [← HOK.out,hr];rfl
   have hcf1:cf = c0:=by rw [← HCF.out,hr];rfl
   have hwf1:wf = 0:=by rw [← HWF.out,hr];rfl
   have hcl:c0.length = k.toNat:=bit_caps (errB_R HEI.out) HDI.out _ rfl
   have hk2:=HMAY.out
   have hlen:0 < c0.length:=by rw [hcl];omega
   have hlen2:c0.length ≤ 100000:=by rw [hcl];omega
   clear hcl hk2 hr
   subst hokf1 hcf1 hwf1
   obtain ⟨lb,fb,fcc,hla,hcell,hIR⟩:=HL1.out.first hlen
   subst hla
   have HR2':Calls Tryz.prog 37 #[pv ad n c 0 k,.slice tad tn tc,.int .i64 (i:Int),.bool true] X1 (FT true 0 cf sti X1):=HR2
   have HCELL:=hid hcell
   have HIRH:=hid hIR
   clear HR2 HMEAN HSOME HNI HL1 HL2 HEI HDI hcell hIR
   generalize hll:((q,cf) :: rest).length = ll
   have hl1:0 < ll:=by rw [← hll];simp
   clear hll
   have HLN:=hid hl1
   go_upto_region 23 with (go_at_call 37;(with_reducible refine HR2'.mono ?_);rintro e X2 ⟨q1,qn,qc,rfl,hi8,hb⟩;have HI8:=hid hi8;have HXB:=hid hb;have HX2:=hid (HX1.out.trans (Joins.below_le hb HX1.out.size));clear hb hi8 HR2')
   clear z0 z1 z2
   obtain ⟨V3,hV3⟩:∃ V3,V3 = X2.alloc (.cells #[.bool true,.slice q1 qn qc,.int .i64 0,.int .i64 (sti:Int)] 54):=⟨_,rfl⟩
   obtain ⟨v8,hv8⟩:∃ v8,v8 = X2.heap.size:=⟨_,rfl⟩
   rw [← hV3,← hv8]
   have hbV:Below X2.heap.size X2 V3:=by rw [hV3];exact Joins.below_alloc1 X2 _
   have hVV:V3.heap[v8]? = some (.cells #[.bool true,.slice q1 qn qc,.int .i64 0,.int .i64 (sti:Int)] 54 (0,0)):=by rw [hV3,hv8];exact heap_alloc_new X2 _
   have hv83:v8 < V3.heap.size:=(Array.getElem?_eq_some_iff.1 hVV).1
   have hX1V3:Below X1.heap.size X1 V3:=HXB.out.trans (Joins.below_le hbV HXB.out.size)
   have HBV3:Hid (Below V.heap.size V V3):=HX1.out.trans (Joins.below_le hX1V3 HX1.out.size)
   have HIG:=hid (HI8.out.below hbV)
   have HIP:=hid (HIRH.out.below hX1V3)
   have kc:V3.cell? ⟨lb,1,none⟩ = some (.slice (some ⟨fb,0,none⟩) cf.length fcc):=(hX1V3.cell (World.block_lt_of_cell? _ _ HCELL.out)).trans HCELL.out
   have HVV:=hid hVV
   obtain ⟨k0,k1,k2,k3⟩:=four_cells hVV
   clear hV3 hv8 hbV hVV hX1V3 HI8 HIRH HCELL HXB
   have gl:decide ((ll:Int) > 0) = true:=by simp;omega
   have gl2:decide ((0:Int) < (ll:Int)) = true:=by simp;omega
   have gl3:((ll:Int) == 0) = false:=by simp;omega
   have gl4:decide (0 < ll) = true:=by simp;omega
   have gl5:¬ ll = 0:=by omega
   go_upto_region 26 with fail
   clear k0 k1 k2 k3
   go_upto_region 27 with fail
   clear kc
   obtain ⟨V4,hV4⟩:∃ V4,V4 = V3.alloc (.cells #[.bool true,.slice (some ⟨fb,0,none⟩) cf.length fcc,.int .i64 0,.int .i64 0] 54):=⟨_,rfl⟩
   obtain ⟨v9,hv9⟩:∃ v9,v9 = V3.heap.size:=⟨_,rfl⟩
   rw [← hV4,← hv9]
   have hbV:Below V3.heap.size V3 V4:=by rw [hV4];exact Joins.below_alloc1 V3 _
   have hVV4:V4.heap[v9]? = some (.cells #[.bool true,.slice (some ⟨fb,0,none⟩) cf.length fcc,.int .i64 0,.int .i64 0] 54 (0,0)):=by rw [hV4,hv9];exact heap_alloc_new V3 _
   have hv94:v9 < V4.heap.size:=(Array.getElem?_eq_some_iff.1 hVV4).1
   have HBV4:Hid (Below V.heap.size V V4):=HBV3.out.trans (Joins.below_le hbV HBV3.out.size)
   have H4:Hid (∀ W,Below V4.heap.size V4 W → (W.cell? ⟨v9,0,none⟩ = some (.bool true) ∧ W.cell? ⟨v9,1,none⟩ = some (.slice (some ⟨fb,0,none⟩) cf.length fcc) ∧ W.cell? ⟨v9,2,none⟩ = some (.int .i64 0) ∧ W.cell? ⟨v9,3,none⟩ = some (.int .i64 0)) ∧ (W.cell? ⟨v8,0,none⟩ = some (.bool true) ∧ W.cell? ⟨v8,1,none⟩ = some (.slice q1 qn qc) ∧ W.cell? ⟨v8,2,none⟩ = some (.int .i64 0) ∧ W.cell? ⟨v8,3,none⟩ = some (.int .i64 (sti:Int))) ∧ IR W (.slice q1 qn qc) cf ∧ IR W (.slice (some ⟨fb,0,none⟩) cf.length fcc) cf ∧ Below V.heap.size V W):=fun W h =>
    have h3:Below V3.heap.size V3 W:=hbV.trans (Joins.below_le h hbV.size)
    ⟨four_cells ((h.block v9 hv94).trans hVV4),four_cells ((h3.block v8 hv83).trans HVV.out),HIG.out.below h3,HIP.out.below h3,HBV4.out.trans (Joins.below_le h HBV4.out.size)⟩
   clear hV4 hv9 hbV hVV4 hv94 HVV HIG HIP hv83
   obtain ⟨⟨k0,k1,k2,k3⟩,⟨j0,j1,j2,j3⟩,i1,i2,_⟩:=H4.out V4 (Below.refl _ _)
   have HS1:=find15 (ok:=true) (wh:=0) (st:=0) (st2:=(sti:Int)) i2 i1 hlen2
   clear i1 i2
   go_upto_region 28 with (go_at_call 38;(with_reducible refine HS1.mono ?_);rintro e X3 ⟨rfl,hb⟩;have HB9:=hid hb;clear hb HS1)
   clear k0 k1 k2 k3 j0 j1 j2 j3
   obtain ⟨⟨k0,k1,k2,k3⟩,_,_,i2,hVX⟩:=H4.out X3 HB9.out
   obtain ⟨_,⟨v0,v1,v2,v3⟩,hIF⟩:=HKV.out X3 hVX
   have HS2:=find15 (ok:=true) (wh:=0) (st:=0) (st2:=(st:Int)) i2 hIF hlen2
   clear i2 hIF hVX
   go_wp2_with (go_at_call 38;(with_reducible refine HS2.mono ?_);rintro e X4 ⟨rfl,hb⟩;have HB10:=hid (HB9.out.trans (Joins.below_le hb HB9.out.size));clear hb HS2)
   all_goals go_ret
   all_goals exact ⟨rfl,(HCX.out _ (HKV.out _ (H4.out _ HB10.out).2.2.2.2).1).1⟩
theorem bmeans7 {w:World} {N:Nv} {t:Tn} {tad:Option Addr} {tn tc:Nat} {a:Int} {tx:List Int} (h:TI w w.heap.size N t) (hsm:t.small = true) (hT:TextAt w.heap.size w tad tn tx) (htc:tn ≤ tc) :
  Calls Tryz.prog 7 #[N.v,.slice tad tn tc,.int .i64 a] w fun e w' => e = .returned (.bool true) ∧ Below w.heap.size w w':=by
 by_cases hE:errC t = 0 ∧ errP t tn a = 0
 ·exact bmeans7_yes h hsm hT htc hE
 ·exact bmeans7_no h hsm hT htc hE
end Go.Proofs.YtacaanhnlfpbhaaGreat
namespace Go.Proofs.YtacaanhnlfpbhaaGreat
open Go.ChangeShapes Go.WideShapes Go.ChangeAt Go.RowKit Go.Deep
set_option linter.unusedVariables false
set_option linter.unusedSimpArgs false
set_option maxRecDepth 100000 in
theorem text_arg {H:Type} {enc:TypeId × Value → H} {W:World} {base:Nat} {v:Value} {d:DataW H} {p:List MemPlace} (hok:Value.okWide Tryz.prog W .any base 26 v)
  (h0:DataW.Trod enc Tryz.prog W 0 (fun _ => true) true 26 v d p) (hsz:∀ n ∈ d.weights Tryz.prog 26,n ≤ reachBytes) :
  ∃ (l:List Int) (ad:Option Addr) (n cap:Nat),v = .slice ad n cap ∧ n ≤ cap ∧ Look.TextAt W.heap.size W ad n l:=by
 obtain ⟨a0,len,cap,rfl⟩:=okWide_slice Tryz.underlying26 hok
 obtain ⟨fuel,hf⟩:=h0
 rcases open_ints Tryz.underlying26 Tryz.underlying3 cells3a hf with ⟨hcs,hx⟩ | ⟨a,len',cap',zs,hcs,_,hl,hm,hz,hx,hcell,hwz⟩
 ·simp [Value.cells] at hcs
  obtain ⟨rfl,rfl,rfl⟩:=hcs
  exact ⟨[],none,0,0,rfl,Nat.le_refl _,rfl,by omega,.inl rfl⟩
 ·simp [Value.cells] at hcs
  obtain ⟨rfl,rfl,rfl⟩:=hcs
  simp only [if_true] at hz
  obtain ⟨rfl,rfl⟩:=Prod.mk.inj hx
  have hb3:Tryz.prog.bytesOf 3 = 8:=by kernel_rfl
  have hs:=hsz (((lits (H:=H) .i64 (zs.take len)).length + (lits (H:=H) .i64 (zs.drop len)).length) * Tryz.prog.bytesOf 3) (by simp [DataW.weights,Tryz.underlying26,lits])
  rw [hb3,show reachBytes = 140737488351232 from rfl] at hs
  simp only [lits,List.length_map,List.length_take,List.length_drop] at hs
  have htl:(zs.take len).length = len:=by rw [List.length_take];omega
  refine ⟨zs.take len,some a,len,cap,rfl,by omega,htl.symm,by omega,?_⟩
  rcases Nat.eq_zero_or_pos len with h0 | h0
  ·exact .inl h0
  ·right
   obtain ⟨b,off,rfl,hc⟩:=ints_at hcell (by omega)
   refine ⟨b,off,rfl,lt_of_cell (hc 0 (by omega)),fun k hk => ?_⟩
   have hk':k < zs.length:=by omega
   rw [hc k hk']
   simp [List.getD_eq_getElem?_getD,List.getElem?_take_of_lt hk,List.getElem?_eq_getElem hk']
end Go.Proofs.YtacaanhnlfpbhaaGreat
