/- HELPERS: texts of ours put together. -/
import Derived.Test.YtjdbnoccdefnaaaGreatK52
import Derived.Test.YtjdbnoccdefnaaaGreatK39
import Derived.Test.YtjdbnoccdefnaaaGreatK55
namespace Go.Proofs.YtjdbnoccdefnaaaGreat
open Go.RowKit
set_option linter.unusedVariables false
set_option linter.unusedSimpArgs false
abbrev Bx3 (w:World) (b:Nat) (ad:Option Addr) (n c:Nat) (s k:Int):Prop:=w.heap[b]? = some (.cells #[.slice ad n c,.int .i64 s,.int .i64 k] 24 (0,0))
theorem bs {U U':World} {b:Nat} {o:Obj} (hb:Below U.heap.size U U') (h:U.heap[b]? = some o):U'.heap[b]? = some o:=(hb.block b (Array.getElem?_eq_some_iff.1 h).1).trans h
theorem ps {U U':World} {ad:Option Addr} {n:Nat} {l:List In} (hb:Below U.heap.size U U') (h:PI U U.heap.size ad n l):PI U' U'.heap.size ad n l:=h.kept hb hb.size
noncomputable def isB (l:List In) (s k:Int):Bool:=by
  classical exact decide (IsP l s k)
theorem isB_iff {l:List In} {s k:Int} {b:Bool} (h:b = true ↔ IsP l s k):b = isB l s k:=by
  classical
  unfold isB
  cases b
  · exact (decide_eq_false fun h2 => by have:=h.2 h2;cases this).symm
  · exact (decide_eq_true (h.1 rfl)).symm
theorem is9' {w:World} {ad:Option Addr} {n c:Nat} {l:List In} {s k:Int} (h:PI w w.heap.size ad n l):Calls Tryz.prog 9 #[pv ad n c s k] w fun e w' => e = .returned (.bool (isB l s k)) ∧ Below w.heap.size w w':=
  (is9 h).mono fun e w' h => by
    obtain ⟨b,rfl,h1,h2⟩:=h
    exact ⟨by rw [isB_iff h2],h1⟩
theorem ris7' {w:World} {ad:Option Addr} {n c:Nat} {l:List In} {s k:Int} (h:PI w w.heap.size ad n l):Calls Tryz.prog 7 #[pv ad n c s k] w fun e w' => e = .returned (.bool (isB l s k)) ∧ Below w.heap.size w w':=
  (ris7 h).mono fun e w' h => by
    obtain ⟨b,rfl,h1,h2⟩:=h
    exact ⟨by rw [isB_iff h2],h1⟩
set_option maxRecDepth 100000 in
set_option maxHeartbeats 16000000 in
theorem onepassIs3 {w:World} {ad ad2:Option Addr} {n n2 c c2:Nat} {s k s2 k2:Int} {l l2:List In} (h:PI w w.heap.size ad n l) (h2:PI w w.heap.size ad2 n2 l2) (hn:n * 56 ≤ 140737488351232) :
    Calls Tryz.prog 3 #[pv ad n c s k,pv ad2 n2 c2 s2 k2] w fun e w' => e = .returned (.bool true) ∧ Below w.heap.size w w':=by
  obtain ⟨v1,hv1⟩:∃ v1:Bool,v1 = isB l s k:=⟨_,rfl⟩
  obtain ⟨v2,hv2⟩:∃ v2:Bool,v2 = isB l2 s2 k2:=⟨_,rfl⟩
  have HV1:=hid hv1
  have HV2:=hid hv2
  clear hv1 hv2
  go_enter Tryz.func3,Tryz.ntmps3
  go_upto_region 1 with fail
  obtain ⟨U0,hU⟩:∃ U,U = (w.alloc (.cells #[.slice ad n c,.int .i64 s,.int .i64 k] 24)).alloc (.cells #[.slice ad2 n2 c2,.int .i64 s2,.int .i64 k2] 24):=⟨_,rfl⟩
  rw [← hU]
  have HB0:Hid (Below w.heap.size w U0):=by rw [hU];exact below_two' w _ _
  have HX0:Hid (Bx3 U0 w.heap.size ad n c s k):=by rw [hU];exact (heap_alloc_old _ _ (by simp)).trans (heap_alloc_new w _)
  have HY0:Hid (Bx3 U0 (w.heap.size + 1) ad2 n2 c2 s2 k2):=by rw [hU];exact two_new w _ _ _
  have HP0:Hid (PI U0 U0.heap.size ad n l):=h.kept HB0.out HB0.out.size
  have HQ0:Hid (PI U0 U0.heap.size ad2 n2 l2):=h2.kept HB0.out HB0.out.size
  clear hU h h2
  obtain ⟨y,hy⟩:∃ y,y = w.heap.size + 1:=⟨_,rfl⟩
  rw [← hy] at HY0 ⊢
  obtain ⟨x,hx⟩:∃ x,x = w.heap.size:=⟨_,rfl⟩
  rw [← hx] at HB0 HX0 hy ⊢
  have HXE:=hid hx
  have hxy:x < y:=by omega
  clear hx hy
  have hsz0:y < U0.heap.size:=(Array.getElem?_eq_some_iff.1 HY0.out).1
  have HC:=awake6 U0
  go_upto_region 2 with (go_at_call 6;(with_reducible refine HC.mono ?_);rintro e U1 ⟨rfl,hb⟩;have HBS:=hid hb;clear hb HC)
  have HX1:Hid (Bx3 U1 x ad n c s k):=bs HBS.out HX0.out
  have HY1:Hid (Bx3 U1 y ad2 n2 c2 s2 k2):=bs HBS.out HY0.out
  have HP1:Hid (PI U1 U1.heap.size ad n l):=ps HBS.out HP0.out
  have HQ1:Hid (PI U1 U1.heap.size ad2 n2 l2):=ps HBS.out HQ0.out
  have HB1:Hid (Below x w U1):=HB0.out.trans (Joins.below_le HBS.out (by omega))
  have hsz1:y < U1.heap.size:=Nat.lt_of_lt_of_le hsz0 HBS.out.size
  clear HBS HB0 hsz0 HX0 HY0 HP0 HQ0
  have HC:=ris7' (c:=c) (s:=s) (k:=k) HP1.out
  rw [← HV1.out] at HC
  obtain ⟨ao0,ao1,ao2⟩:=three_cells HX1.out
  go_upto_region 3 with (go_at_call 7;(with_reducible refine HC.mono ?_);rintro e U2 ⟨rfl,hb⟩;have HBS:=hid hb;clear hb HC)
  clear ao0 ao1 ao2
  have HX2:Hid (Bx3 U2 x ad n c s k):=bs HBS.out HX1.out
  have HY2:Hid (Bx3 U2 y ad2 n2 c2 s2 k2):=bs HBS.out HY1.out
  have HP2:Hid (PI U2 U2.heap.size ad n l):=ps HBS.out HP1.out
  have HQ2:Hid (PI U2 U2.heap.size ad2 n2 l2):=ps HBS.out HQ1.out
  have HB2:Hid (Below x w U2):=HB1.out.trans (Joins.below_le HBS.out (by omega))
  have hsz2:y < U2.heap.size:=Nat.lt_of_lt_of_le hsz1 HBS.out.size
  clear HBS HB1 hsz1 HX1 HY1 HP1 HQ1
  have HC:=ris7' (c:=c2) (s:=s2) (k:=k2) HQ2.out
  rw [← HV2.out] at HC
  obtain ⟨ao0,ao1,ao2⟩:=three_cells HY2.out
  go_upto_region 4 with (go_at_call 7;(with_reducible refine HC.mono ?_);rintro e U3 ⟨rfl,hb⟩;have HBS:=hid hb;clear hb HC)
  clear ao0 ao1 ao2
  have HX3:Hid (Bx3 U3 x ad n c s k):=bs HBS.out HX2.out
  have HY3:Hid (Bx3 U3 y ad2 n2 c2 s2 k2):=bs HBS.out HY2.out
  have HP3:Hid (PI U3 U3.heap.size ad n l):=ps HBS.out HP2.out
  have HQ3:Hid (PI U3 U3.heap.size ad2 n2 l2):=ps HBS.out HQ2.out
  have HB3:Hid (Below x w U3):=HB2.out.trans (Joins.below_le HBS.out (by omega))
  have hsz3:y < U3.heap.size:=Nat.lt_of_lt_of_le hsz2 HBS.out.size
  clear HBS HB2 hsz2 HX2 HY2 HP2 HQ2
  have HC:=lent8 (c:=c) (s:=s) (k:=k) HP3.out hn
  obtain ⟨ao0,ao1,ao2⟩:=three_cells HX3.out
  go_upto_region 5 with (go_at_call 8;(with_reducible refine HC.mono ?_);rintro e W1 ⟨ad1,c1,MS,rfl,hM,hb⟩;have HMM:=hid hM;have HBW:=hid hb;clear hM hb HC)
  clear ao0 ao1 ao2
  obtain ⟨B0,hB0⟩:∃ B0,B0 = U3.heap.size:=⟨_,rfl⟩
  rw [← hB0] at HMM
  obtain ⟨U4,hU⟩:∃ U,U = W1.alloc (.cells #[.slice ad1 n c1,.int .i64 s,.int .i64 k] 24):=⟨_,rfl⟩
  rw [← hU]
  have HBS:Hid (Below U3.heap.size U3 U4):=by rw [hU];exact HBW.out.alloc HBW.out.size _
  have HZ4:Hid (Bx3 U4 W1.heap.size ad1 n c1 s k):=by rw [hU];exact heap_alloc_new W1 _
  have HL4:Hid (PL U4 B0 ad1 n c1 l MS):=by rw [hU];exact HMM.out.below (Joins.below_alloc1 _ _)
  have hBB:y < B0:=by omega
  have hB1:B0 ≤ W1.heap.size:=by rw [hB0];exact HBW.out.size
  have hB2:W1.heap.size < U4.heap.size:=(Array.getElem?_eq_some_iff.1 HZ4.out).1
  clear hB0
  obtain ⟨z,hz⟩:∃ z,z = W1.heap.size:=⟨_,rfl⟩
  rw [← hz] at HZ4 hB1 hB2 ⊢
  clear hz hU HMM HBW
  have HX4:Hid (Bx3 U4 x ad n c s k):=bs HBS.out HX3.out
  have HY4:Hid (Bx3 U4 y ad2 n2 c2 s2 k2):=bs HBS.out HY3.out
  have HP4:Hid (PI U4 U4.heap.size ad n l):=ps HBS.out HP3.out
  have HQ4:Hid (PI U4 U4.heap.size ad2 n2 l2):=ps HBS.out HQ3.out
  have HB4:Hid (Below x w U4):=HB3.out.trans (Joins.below_le HBS.out (by omega))
  have hsz4:y < U4.heap.size:=Nat.lt_of_lt_of_le hsz3 HBS.out.size
  clear HBS HB3 hsz3 HX3 HY3 HP3 HQ3
  have hB3:B0 ≤ U4.heap.size:=by omega
  clear hB2
  have HC:=is9' (c:=c1) (s:=s) (k:=k) HL4.out.pi
  rw [← HV1.out] at HC
  obtain ⟨ao0,ao1,ao2⟩:=three_cells HZ4.out
  go_upto_region 6 with (go_at_call 9;(with_reducible refine HC.mono ?_);rintro e U5 ⟨rfl,hb⟩;have HBS:=hid hb;clear hb HC)
  clear ao0 ao1 ao2
  have HX5:Hid (Bx3 U5 x ad n c s k):=bs HBS.out HX4.out
  have HY5:Hid (Bx3 U5 y ad2 n2 c2 s2 k2):=bs HBS.out HY4.out
  have HP5:Hid (PI U5 U5.heap.size ad n l):=ps HBS.out HP4.out
  have HQ5:Hid (PI U5 U5.heap.size ad2 n2 l2):=ps HBS.out HQ4.out
  have HZ5:Hid (Bx3 U5 z ad1 n c1 s k):=bs HBS.out HZ4.out
  have HL5:Hid (PL U5 B0 ad1 n c1 l MS):=HL4.out.below HBS.out
  have hB4:B0 ≤ U5.heap.size:=Nat.le_trans hB3 HBS.out.size
  clear hB3
  have hB3:=hB4
  clear hB4
  have HB5:Hid (Below x w U5):=HB4.out.trans (Joins.below_le HBS.out (by omega))
  have hsz5:y < U5.heap.size:=Nat.lt_of_lt_of_le hsz4 HBS.out.size
  clear HBS HB4 hsz4 HX4 HY4 HP4 HQ4 HZ4 HL4
  have HC:=is9' (c:=c2) (s:=s2) (k:=k2) HQ5.out
  rw [← HV2.out] at HC
  obtain ⟨ao0,ao1,ao2⟩:=three_cells HY5.out
  go_upto_region 7 with (go_at_call 9;(with_reducible refine HC.mono ?_);rintro e U6 ⟨rfl,hb⟩;have HBS:=hid hb;clear hb HC)
  clear ao0 ao1 ao2
  have HX6:Hid (Bx3 U6 x ad n c s k):=bs HBS.out HX5.out
  have HY6:Hid (Bx3 U6 y ad2 n2 c2 s2 k2):=bs HBS.out HY5.out
  have HP6:Hid (PI U6 U6.heap.size ad n l):=ps HBS.out HP5.out
  have HQ6:Hid (PI U6 U6.heap.size ad2 n2 l2):=ps HBS.out HQ5.out
  have HZ6:Hid (Bx3 U6 z ad1 n c1 s k):=bs HBS.out HZ5.out
  have HL6:Hid (PL U6 B0 ad1 n c1 l MS):=HL5.out.below HBS.out
  have hB4:B0 ≤ U6.heap.size:=Nat.le_trans hB3 HBS.out.size
  clear hB3
  have hB3:=hB4
  clear hB4
  have HB6:Hid (Below x w U6):=HB5.out.trans (Joins.below_le HBS.out (by omega))
  have hsz6:y < U6.heap.size:=Nat.lt_of_lt_of_le hsz5 HBS.out.size
  clear HBS HB5 hsz5 HX5 HY5 HP5 HQ5 HZ5 HL5
  have HC:=is9' (c:=c1) (s:=s) (k:=k) HL6.out.pi
  rw [← HV1.out] at HC
  obtain ⟨ao0,ao1,ao2⟩:=three_cells HZ6.out
  go_upto_region 8 with (go_at_call 9;(with_reducible refine HC.mono ?_);rintro e U7 ⟨rfl,hb⟩;have HBS:=hid hb;clear hb HC)
  clear ao0 ao1 ao2
  have HX7:Hid (Bx3 U7 x ad n c s k):=bs HBS.out HX6.out
  have HY7:Hid (Bx3 U7 y ad2 n2 c2 s2 k2):=bs HBS.out HY6.out
  have HP7:Hid (PI U7 U7.heap.size ad n l):=ps HBS.out HP6.out
  have HQ7:Hid (PI U7 U7.heap.size ad2 n2 l2):=ps HBS.out HQ6.out
  have HZ7:Hid (Bx3 U7 z ad1 n c1 s k):=bs HBS.out HZ6.out
  have HL7:Hid (PL U7 B0 ad1 n c1 l MS):=HL6.out.below HBS.out
  have hB4:B0 ≤ U7.heap.size:=Nat.le_trans hB3 HBS.out.size
  clear hB3
  have hB3:=hB4
  clear hB4
  have HB7:Hid (Below x w U7):=HB6.out.trans (Joins.below_le HBS.out (by omega))
  have hsz7:y < U7.heap.size:=Nat.lt_of_lt_of_le hsz6 HBS.out.size
  clear HBS HB6 hsz6 HX6 HY6 HP6 HQ6 HZ6 HL6
  have HC:=same11 (c:=c1) (c':=c) (s:=s) (k:=k) HL7.out.pi HP7.out (by omega)
  obtain ⟨ao0,ao1,ao2⟩:=three_cells HZ7.out
  obtain ⟨bo0,bo1,bo2⟩:=three_cells HX7.out
  go_upto_region 9 with (go_at_call 10;(with_reducible refine HC.mono ?_);rintro e U8 ⟨rfl,hb⟩;have HBS:=hid hb;clear hb HC)
  clear ao0 ao1 ao2 bo0 bo1 bo2
  have HX8:Hid (Bx3 U8 x ad n c s k):=bs HBS.out HX7.out
  have HY8:Hid (Bx3 U8 y ad2 n2 c2 s2 k2):=bs HBS.out HY7.out
  have HP8:Hid (PI U8 U8.heap.size ad n l):=ps HBS.out HP7.out
  have HQ8:Hid (PI U8 U8.heap.size ad2 n2 l2):=ps HBS.out HQ7.out
  have HZ8:Hid (Bx3 U8 z ad1 n c1 s k):=bs HBS.out HZ7.out
  have HL8:Hid (PL U8 B0 ad1 n c1 l MS):=HL7.out.below HBS.out
  have hB4:B0 ≤ U8.heap.size:=Nat.le_trans hB3 HBS.out.size
  clear hB3
  have hB3:=hB4
  clear hB4
  have HB8:Hid (Below x w U8):=HB7.out.trans (Joins.below_le HBS.out (by omega))
  have hsz8:y < U8.heap.size:=Nat.lt_of_lt_of_le hsz7 HBS.out.size
  clear HBS HB7 hsz7 HX7 HY7 HP7 HQ7 HZ7 HL7
  have HC:=kept12 (s:=s) (k:=k) HL8.out hn
  obtain ⟨ao0,ao1,ao2⟩:=three_cells HZ8.out
  go_upto_region 12 with (go_at_call 11;(with_reducible refine HC.mono ?_);rintro e U9 ⟨rfl,hb⟩;have HBS:=hid hb;clear hb HC)
  clear ao0 ao1 ao2
  have HX9:Hid (Bx3 U9 x ad n c s k):=bs HBS.out HX8.out
  have HY9:Hid (Bx3 U9 y ad2 n2 c2 s2 k2):=bs HBS.out HY8.out
  have HP9:Hid (PI U9 U9.heap.size ad n l):=ps HBS.out HP8.out
  have HQ9:Hid (PI U9 U9.heap.size ad2 n2 l2):=ps HBS.out HQ8.out
  have HZ9:Hid (Bx3 U9 z ad1 n c1 s k):=bs HBS.out HZ8.out
  have HL9:Hid (PL U9 B0 ad1 n c1 l MS):=HL8.out.below HBS.out
  have hB4:B0 ≤ U9.heap.size:=Nat.le_trans hB3 HBS.out.size
  clear hB3
  have hB3:=hB4
  clear hB4
  have HB9:Hid (Below x w U9):=HB8.out.trans (Joins.below_le HBS.out (by omega))
  have hsz9:y < U9.heap.size:=Nat.lt_of_lt_of_le hsz8 HBS.out.size
  clear HBS HB8 hsz8 HX8 HY8 HP8 HQ8 HZ8 HL8
  have HC:=turned13 (s:=s) (k:=k) HL9.out hn hB3
  obtain ⟨ao0,ao1,ao2⟩:=three_cells HZ9.out
  go_upto_region 13 with (go_at_call 12;(with_reducible refine HC.mono ?_);rintro e U10 ⟨rfl,⟨l3,hP3⟩,hb,hs3,hf3⟩;have HP3:=hid hP3;have HBW:=hid hb;have HF3:=hid hf3;clear hP3 hb hf3 HC)
  clear ao0 ao1 ao2
  have HZ10:Hid (Bx3 U10 z ad1 n c1 s k):=HF3.out z _ _ HZ9.out
  have HB10:Hid (Below x w U10):=HB9.out.trans (Joins.below_le HBW.out (by omega))
  have hsz10:y < U10.heap.size:=Nat.lt_of_lt_of_le hsz9 hs3
  have HR10:Hid (PI U10 U10.heap.size ad1 n l3):=HP3.out
  clear HP3 HBW HF3 hs3 hB3 hB1 HB9 hsz9 HX9 HY9 HP9 HQ9 HZ9 HL9
  obtain ⟨v3,hv3⟩:∃ v3:Bool,v3 = isB l3 s k:=⟨_,rfl⟩
  have HV3:=hid hv3
  clear hv3
  have HC:=copy14 (c:=c1) (s:=s) (k:=k) HR10.out hn
  obtain ⟨ao0,ao1,ao2⟩:=three_cells HZ10.out
  go_upto_region 14 with (go_at_call 13;(with_reducible refine HC.mono ?_);rintro e W3 ⟨ad3,c3,rfl,hM,hb⟩;have HMM:=hid hM;have HBW:=hid hb;clear hM hb HC)
  clear ao0 ao1 ao2
  obtain ⟨U11,hU⟩:∃ U,U = W3.alloc (.cells #[.slice ad3 n c3,.int .i64 s,.int .i64 k] 24):=⟨_,rfl⟩
  rw [← hU]
  have HBS:Hid (Below U10.heap.size U10 U11):=by rw [hU];exact HBW.out.alloc HBW.out.size _
  have HT11:Hid (Bx3 U11 W3.heap.size ad3 n c3 s k):=by rw [hU];exact heap_alloc_new W3 _
  have HW11:Hid (PI U11 U11.heap.size ad3 n l3):=by rw [hU];exact ps (Joins.below_alloc1 _ _) HMM.out
  obtain ⟨zt,hz⟩:∃ z,z = W3.heap.size:=⟨_,rfl⟩
  rw [← hz] at HT11 ⊢
  clear hz hU HMM HBW
  have HZ11:Hid (Bx3 U11 z ad1 n c1 s k):=bs HBS.out HZ10.out
  have HR11:Hid (PI U11 U11.heap.size ad1 n l3):=ps HBS.out HR10.out
  have HB11:Hid (Below x w U11):=HB10.out.trans (Joins.below_le HBS.out (by omega))
  have hsz11:y < U11.heap.size:=Nat.lt_of_lt_of_le hsz10 HBS.out.size
  clear HBS HB10 hsz10 HZ10 HR10
  have HC:=ris7' (c:=c3) (s:=s) (k:=k) HW11.out
  rw [← HV3.out] at HC
  obtain ⟨ao0,ao1,ao2⟩:=three_cells HT11.out
  go_upto_region 15 with (go_at_call 7;(with_reducible refine HC.mono ?_);rintro e U12 ⟨rfl,hb⟩;have HBS:=hid hb;clear hb HC)
  clear ao0 ao1 ao2
  have HZ12:Hid (Bx3 U12 z ad1 n c1 s k):=bs HBS.out HZ11.out
  have HR12:Hid (PI U12 U12.heap.size ad1 n l3):=ps HBS.out HR11.out
  have HB12:Hid (Below x w U12):=HB11.out.trans (Joins.below_le HBS.out (by omega))
  have hsz12:y < U12.heap.size:=Nat.lt_of_lt_of_le hsz11 HBS.out.size
  clear HBS HB11 hsz11 HZ11 HR11 HT11 HW11
  have HC:=is9' (c:=c1) (s:=s) (k:=k) HR12.out
  rw [← HV3.out] at HC
  obtain ⟨ao0,ao1,ao2⟩:=three_cells HZ12.out
  go_wp2_with (first | (go_at_call 9;(with_reducible refine HC.mono ?_);rintro e U99 ⟨rfl,hb⟩;have HBS:=hid hb;clear hb HC))
  go_ret
  refine ⟨by first | rfl | simp,?_⟩
  rw [← HXE.out]
  exact HB12.out.trans (Joins.below_le HBS.out (by omega))
end Go.Proofs.YtjdbnoccdefnaaaGreat
