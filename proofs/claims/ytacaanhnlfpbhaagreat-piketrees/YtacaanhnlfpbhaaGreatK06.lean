/- HELPERS: texts of ours put together. -/
import Derived.Test.YtacaanhnlfpbhaaGreatK05
import Derived.Test.YtacaanhnlfpbhaaGreatK01
import Derived.Test.YtacaanhnlfpbhaaGreatK03
import Derived.DeepKeys3
import Derived.MapKept
import Derived.Lib.Small
import Derived.Test.YtacaanhnlfpbhaaGreatK04
import Derived.Test.YtacaanhnlfpbhaaGreatProg
import Derived.WalkKit
import Derived.ProofKit
import Derived.BigQuiet
import Derived.WalkSmall
import Derived.Deep.QuietTactic
import Derived.Deep.RegionWith
import Derived.Laws.EntriesVeiled
import Derived.Deep.WholeRow
import Derived.Test.YtacaanhnlfpbhaaGreatK02
import Derived.WalkLawsBesides
import Derived.Lib.LazyBuf
import Derived.Deep.Cut
import Derived.Laws.Rows
import Derived.Deep.MidRow
import Derived.Deep.OwnRows
import Derived.Deep.SlicePairs
import Derived.RowKit
import Derived.Laws.BitsLemmas
import Derived.Deep.RegionHeld2
import Derived.Lib.MinMax
import Derived.RangeFuncNested
import Derived.RangeFuncBound
import Derived.RangeFuncCalls
import Derived.RangeFuncLeaves
import Derived.Shelf.Abstract
import Derived.Shelf.RegionOpen
import Derived.OwnWalkIn
import Derived.TacticsInMore
import Derived.LoopNIn
import Derived.LoopIn
namespace Go.Proofs.YtacaanhnlfpbhaaGreat
open Go.RowKit
set_option linter.unusedVariables false
set_option linter.unusedSimpArgs false
set_option maxRecDepth 100000 in
set_option maxHeartbeats 8000000 in
theorem node60E (N:Nv) (R:List (Int × Int)) (w:World) (ok:N.ok) (hr:N.r2=R.length) (hR:R2 w w.heap.size N.r1 R) (hk:N.k=1) :
  Calls Tryz.prog 101 #[N.v] w fun e w'=>e=.returned (.bool (nodeB N.k R N.a2 N.s2 N.a4 N.a5 N.a6 N.a7 N.a8))∧Below w.heap.size w w':=by
 have HB:=hid' (Joins.below_alloc1 w (.cells (Array.mk N.cs) 25))
 have HC:=bareE N
 have e1:nodeB N.k R N.a2 N.s2 N.a4 N.a5 N.a6 N.a7 N.a8=bareB N.r2 N.a2 N.s2 N.a4 N.a5 N.a6 N.a7 N.a8 false false false false false:=by simp [nodeB,hk,hr]
 rw [e1]
 generalize bareB N.r2 N.a2 N.s2 N.a4 N.a5 N.a6 N.a7 N.a8 false false false false false=q at HC ⊢
 obtain ⟨k,r1,r2,r3,a2,s1,s2,s3,a4,a5,a6,a7,a8⟩:=N
 simp only at hk
 subst hk
 clear ok hr hR e1
 go_enter Tryz.func101,Tryz.ntmps101
 go_wp2_with (first | (go_at_call 147;(with_reducible refine (HC _).mono ?_);rintro e w2 ⟨rfl,hb2⟩;have HB2:=hid' hb2;clear hb2 HC))
 go_ret
 exact ⟨rfl,HB.out.trans (Joins.below_le HB2.out (by simp))⟩
set_option maxRecDepth 100000 in
set_option maxHeartbeats 8000000 in
theorem node60C (N:Nv) (R:List (Int × Int)) (w:World) (ok:N.ok) (hr:N.r2=R.length) (hR:R2 w w.heap.size N.r1 R) (hk:N.k=2) :
  Calls Tryz.prog 101 #[N.v] w fun e w'=>e=.returned (.bool (nodeB N.k R N.a2 N.s2 N.a4 N.a5 N.a6 N.a7 N.a8))∧Below w.heap.size w w':=by
 have HB:=hid' (Joins.below_alloc1 w (.cells (Array.mk N.cs) 25))
 have HC:=bareC N
 have HRR:=rright33 R N.r1 N.r2 N.r3 (w.alloc (.cells (Array.mk N.cs) 25)) hr.symm (by have:=ok.r;have:maxLen=9223372036854775807:=rfl;omega) ((R2.row (hR.kept (fun b hb=>heap_alloc_old w _ hb)) hr).below (Below.refl _ _) (Nat.le_refl _) (by simp))
 have e1:nodeB N.k R N.a2 N.s2 N.a4 N.a5 N.a6 N.a7 N.a8=(rightB R && bareB N.r2 N.a2 N.s2 N.a4 N.a5 N.a6 N.a7 N.a8 true false false false false):=by simp [nodeB,hk,hr]
 rw [e1]
 generalize bareB N.r2 N.a2 N.s2 N.a4 N.a5 N.a6 N.a7 N.a8 true false false false false=q at HC ⊢
 generalize rightB R=q2 at HRR ⊢
 obtain ⟨k,r1,r2,r3,a2,s1,s2,s3,a4,a5,a6,a7,a8⟩:=N
 simp only at hk
 subst hk
 clear ok hr hR e1
 cases q2
 ·go_enter Tryz.func101,Tryz.ntmps101
  go_wp2_with (first | (go_at_call 100;(with_reducible refine HRR.mono ?_);rintro e w2 ⟨rfl,hb2⟩;obtain ⟨x0,x1,x2,x3,x4,x5,x6,x7,x8⟩:=nine' ((hb2.block w.heap.size (by simp)).trans (heap_alloc_new w _));have HB2:=hid' hb2;clear hb2 HRR) | (go_at_call 147;(with_reducible refine (HC _).mono ?_);rintro e w3 ⟨rfl,hb3⟩;have HB3:=hid' hb3;clear hb3 HC))
  go_ret
  exact ⟨rfl,HB.out.trans (Joins.below_le HB2.out (by simp))⟩
 ·go_enter Tryz.func101,Tryz.ntmps101
  go_wp2_with (first | (go_at_call 100;(with_reducible refine HRR.mono ?_);rintro e w2 ⟨rfl,hb2⟩;obtain ⟨x0,x1,x2,x3,x4,x5,x6,x7,x8⟩:=nine' ((hb2.block w.heap.size (by simp)).trans (heap_alloc_new w _));have HB2:=hid' hb2;clear hb2 HRR) | (go_at_call 147;(with_reducible refine (HC _).mono ?_);rintro e w3 ⟨rfl,hb3⟩;have HB3:=hid' hb3;clear hb3 HC))
  go_ret
  exact ⟨by simp,(HB.out.trans (Joins.below_le HB2.out (by simp))).trans (Joins.below_le HB3.out (by have:=HB2.out.size;simp at this;omega))⟩
set_option maxRecDepth 100000 in
set_option maxHeartbeats 8000000 in
theorem node60A (N:Nv) (R:List (Int × Int)) (w:World) (ok:N.ok) (hr:N.r2=R.length) (hR:R2 w w.heap.size N.r1 R) (hk:N.k=3) :
  Calls Tryz.prog 101 #[N.v] w fun e w'=>e=.returned (.bool (nodeB N.k R N.a2 N.s2 N.a4 N.a5 N.a6 N.a7 N.a8))∧Below w.heap.size w w':=by
 have HB:=hid' (Joins.below_alloc1 w (.cells (Array.mk N.cs) 25))
 have HC:=bareA N
 have HAA:=assertion74 N.a2
 have e1:nodeB N.k R N.a2 N.s2 N.a4 N.a5 N.a6 N.a7 N.a8=(assertB N.a2 && bareB N.r2 N.a2 N.s2 N.a4 N.a5 N.a6 N.a7 N.a8 false true false false false):=by simp [nodeB,hk,hr]
 rw [e1]
 generalize bareB N.r2 N.a2 N.s2 N.a4 N.a5 N.a6 N.a7 N.a8 false true false false false=q at HC ⊢
 generalize assertB N.a2=q2 at HAA ⊢
 obtain ⟨k,r1,r2,r3,a2,s1,s2,s3,a4,a5,a6,a7,a8⟩:=N
 simp only at hk
 subst hk
 clear ok hr hR e1
 cases q2
 ·go_enter Tryz.func101,Tryz.ntmps101
  go_wp2_with (first | (go_at_call 148;(with_reducible refine (HAA _).mono ?_);rintro e w2 ⟨rfl,hww⟩;subst hww) | (go_at_call 147;(with_reducible refine (HC _).mono ?_);rintro e w3 ⟨rfl,hb3⟩;have HB3:=hid' hb3;clear hb3 HC))
  go_ret
  exact ⟨rfl,HB.out⟩
 ·go_enter Tryz.func101,Tryz.ntmps101
  go_wp2_with (first | (go_at_call 148;(with_reducible refine (HAA _).mono ?_);rintro e w2 ⟨rfl,hww⟩;subst hww) | (go_at_call 147;(with_reducible refine (HC _).mono ?_);rintro e w3 ⟨rfl,hb3⟩;have HB3:=hid' hb3;clear hb3 HC))
  go_ret
  exact ⟨by simp,HB.out.trans (Joins.below_le HB3.out (by simp))⟩
set_option maxRecDepth 100000 in
set_option maxHeartbeats 8000000 in
theorem node60S4 (N:Nv) (R:List (Int × Int)) (w:World) (ok:N.ok) (hr:N.r2=R.length) (hR:R2 w w.heap.size N.r1 R) (hk:N.k=4) :
  Calls Tryz.prog 101 #[N.v] w fun e w'=>e=.returned (.bool (nodeB N.k R N.a2 N.s2 N.a4 N.a5 N.a6 N.a7 N.a8))∧Below w.heap.size w w':=by
 have HB:=hid' (Joins.below_alloc1 w (.cells (Array.mk N.cs) 25))
 have HC:=bareS N
 have e1:nodeB N.k R N.a2 N.s2 N.a4 N.a5 N.a6 N.a7 N.a8=(decide (2≤N.s2) && bareB N.r2 N.a2 N.s2 N.a4 N.a5 N.a6 N.a7 N.a8 false false true false false):=by simp [nodeB,hk,hr]
 rw [e1]
 generalize bareB N.r2 N.a2 N.s2 N.a4 N.a5 N.a6 N.a7 N.a8 false false true false false=q at HC ⊢
 have hm2:N.s2≤9223372036854775807:=by have:=ok.s;have:maxLen=9223372036854775807:=rfl;omega
 obtain ⟨k,r1,r2,r3,a2,s1,s2,s3,a4,a5,a6,a7,a8⟩:=N
 simp only at hk hm2
 subst hk
 clear ok hr hR e1
 by_cases h2:2≤s2
 ·have b1:decide ((s2:Int) ≥ 2)=true:=by simp;omega
  have b2:decide ((2:Int)≤(s2:Int))=true:=by simp;omega
  have e2:decide (2≤s2)=true:=by simp;omega
  rw [e2]
  go_enter Tryz.func101,Tryz.ntmps101
  go_wp2_with (first | (go_at_call 147;(with_reducible refine (HC _).mono ?_);rintro e w3 ⟨rfl,hb3⟩;have HB3:=hid' hb3;clear hb3 HC))
  go_ret
  exact ⟨by simp,HB.out.trans (Joins.below_le HB3.out (by simp))⟩
 ·have b1:decide ((s2:Int) ≥ 2)=false:=by simp;omega
  have b2:decide ((2:Int)≤(s2:Int))=false:=by simp;omega
  have e2:decide (2≤s2)=false:=by simp;omega
  rw [e2]
  go_enter Tryz.func101,Tryz.ntmps101
  go_wp2_with (first | (go_at_call 147;(with_reducible refine (HC _).mono ?_);rintro e w3 ⟨rfl,hb3⟩;have HB3:=hid' hb3;clear hb3 HC))
  go_ret
  exact ⟨by simp,HB.out⟩
set_option maxRecDepth 100000 in
set_option maxHeartbeats 8000000 in
theorem node60S5 (N:Nv) (R:List (Int × Int)) (w:World) (ok:N.ok) (hr:N.r2=R.length) (hR:R2 w w.heap.size N.r1 R) (hk:N.k=5) :
  Calls Tryz.prog 101 #[N.v] w fun e w'=>e=.returned (.bool (nodeB N.k R N.a2 N.s2 N.a4 N.a5 N.a6 N.a7 N.a8))∧Below w.heap.size w w':=by
 have HB:=hid' (Joins.below_alloc1 w (.cells (Array.mk N.cs) 25))
 have HC:=bareS N
 have e1:nodeB N.k R N.a2 N.s2 N.a4 N.a5 N.a6 N.a7 N.a8=(decide (2≤N.s2) && bareB N.r2 N.a2 N.s2 N.a4 N.a5 N.a6 N.a7 N.a8 false false true false false):=by simp [nodeB,hk,hr]
 rw [e1]
 generalize bareB N.r2 N.a2 N.s2 N.a4 N.a5 N.a6 N.a7 N.a8 false false true false false=q at HC ⊢
 have hm2:N.s2≤9223372036854775807:=by have:=ok.s;have:maxLen=9223372036854775807:=rfl;omega
 obtain ⟨k,r1,r2,r3,a2,s1,s2,s3,a4,a5,a6,a7,a8⟩:=N
 simp only at hk hm2
 subst hk
 clear ok hr hR e1
 by_cases h2:2≤s2
 ·have b1:decide ((s2:Int) ≥ 2)=true:=by simp;omega
  have b2:decide ((2:Int)≤(s2:Int))=true:=by simp;omega
  have e2:decide (2≤s2)=true:=by simp;omega
  rw [e2]
  go_enter Tryz.func101,Tryz.ntmps101
  go_wp2_with (first | (go_at_call 147;(with_reducible refine (HC _).mono ?_);rintro e w3 ⟨rfl,hb3⟩;have HB3:=hid' hb3;clear hb3 HC))
  go_ret
  exact ⟨by simp,HB.out.trans (Joins.below_le HB3.out (by simp))⟩
 ·have b1:decide ((s2:Int) ≥ 2)=false:=by simp;omega
  have b2:decide ((2:Int)≤(s2:Int))=false:=by simp;omega
  have e2:decide (2≤s2)=false:=by simp;omega
  rw [e2]
  go_enter Tryz.func101,Tryz.ntmps101
  go_wp2_with (first | (go_at_call 147;(with_reducible refine (HC _).mono ?_);rintro e w3 ⟨rfl,hb3⟩;have HB3:=hid' hb3;clear hb3 HC))
  go_ret
  exact ⟨by simp,HB.out⟩
set_option maxRecDepth 100000 in
set_option maxHeartbeats 8000000 in
theorem node60R (N:Nv) (R:List (Int × Int)) (w:World) (ok:N.ok) (hr:N.r2=R.length) (hR:R2 w w.heap.size N.r1 R) (hk:N.k=6) :
  Calls Tryz.prog 101 #[N.v] w fun e w'=>e=.returned (.bool (nodeB N.k R N.a2 N.s2 N.a4 N.a5 N.a6 N.a7 N.a8))∧Below w.heap.size w w':=by
 have HB:=hid' (Joins.below_alloc1 w (.cells (Array.mk N.cs) 25))
 have HC:=bareR N
 have e1:nodeB N.k R N.a2 N.s2 N.a4 N.a5 N.a6 N.a7 N.a8=(decide (N.s2=1) && decide (0≤N.a4) && decide (N.a4≤1000) && (decide (N.a5=-1) || decide (N.a4≤N.a5) && decide (N.a5≤1000)) && bareB N.r2 N.a2 N.s2 N.a4 N.a5 N.a6 N.a7 N.a8 false false true true false):=by simp [nodeB,hk,hr]
 rw [e1]
 generalize bareB N.r2 N.a2 N.s2 N.a4 N.a5 N.a6 N.a7 N.a8 false false true true false=q at HC ⊢
 have hm2:N.s2≤9223372036854775807:=by have:=ok.s;have:maxLen=9223372036854775807:=rfl;omega
 obtain ⟨k,r1,r2,r3,a2,s1,s2,s3,a4,a5,a6,a7,a8⟩:=N
 simp only at hk hm2
 subst hk
 clear ok hr hR e1
 by_cases h5:a5=-1
 ·subst h5
  go_enter Tryz.func101,Tryz.ntmps101
  go_wp2_with (first | (go_at_call 147;(with_reducible refine (HC _).mono ?_);rintro e w3 ⟨rfl,hb3⟩;have HB3:=hid' hb3;clear hb3 HC))
  all_goals go_ret
  all_goals (refine ⟨ret_bool ?_,by first | exact HB.out | exact HB.out.trans (Joins.below_le HB3.out (by simp))⟩)
  all_goals clear HB
  all_goals (try clear HB3)
  all_goals (try clear HC)
  all_goals (try clear HN)
  all_goals simp_all
  all_goals (intros;omega)
 ·have h5':(a5 == -1)=false:=by simpa using h5
  go_enter Tryz.func101,Tryz.ntmps101
  go_wp2_with (first | (go_at_call 147;(with_reducible refine (HC _).mono ?_);rintro e w3 ⟨rfl,hb3⟩;have HB3:=hid' hb3;clear hb3 HC))
  all_goals go_ret
  all_goals (refine ⟨ret_bool ?_,by first | exact HB.out | exact HB.out.trans (Joins.below_le HB3.out (by simp))⟩)
  all_goals clear HB
  all_goals (try clear HB3)
  all_goals (try clear HC)
  all_goals (try clear HN)
  all_goals simp_all
  all_goals (intros;omega)
set_option maxRecDepth 100000 in
set_option maxHeartbeats 8000000 in
theorem node60G (N:Nv) (R:List (Int × Int)) (w:World) (ok:N.ok) (hr:N.r2=R.length) (hR:R2 w w.heap.size N.r1 R) (hk:N.k=7) :
  Calls Tryz.prog 101 #[N.v] w fun e w'=>e=.returned (.bool (nodeB N.k R N.a2 N.s2 N.a4 N.a5 N.a6 N.a7 N.a8))∧Below w.heap.size w w':=by
 have HB:=hid' (Joins.below_alloc1 w (.cells (Array.mk N.cs) 25))
 have HC:=bareG N
 have HN:=fun w=>name75 N.a8 w (by have:=ok.a8;have:maxLen=9223372036854775807:=rfl;omega)
 have e1:nodeB N.k R N.a2 N.s2 N.a4 N.a5 N.a6 N.a7 N.a8=(decide (N.s2=1) && decide (1≤N.a7) && decide (N.a7≤500) && (N.a8.toList.isEmpty || nameB N.a8) && bareB N.r2 N.a2 N.s2 N.a4 N.a5 N.a6 N.a7 N.a8 false false true false true):=by simp [nodeB,hk,hr]
 rw [e1]
 generalize bareB N.r2 N.a2 N.s2 N.a4 N.a5 N.a6 N.a7 N.a8 false false true false true=q at HC ⊢
 generalize nameB N.a8=q2 at HN ⊢
 have hm2:N.s2≤9223372036854775807:=by have:=ok.s;have:maxLen=9223372036854775807:=rfl;omega
 obtain ⟨k,r1,r2,r3,a2,s1,s2,s3,a4,a5,a6,a7,a8⟩:=N
 simp only at hk hm2
 subst hk
 clear ok hr hR e1
 go_enter Tryz.func101,Tryz.ntmps101
 go_wp2_with (first | (go_at_call 149;(with_reducible refine (HN _).mono ?_);rintro e w2 ⟨rfl,hww⟩;subst hww) | (go_at_call 147;(with_reducible refine (HC _).mono ?_);rintro e w3 ⟨rfl,hb3⟩;have HB3:=hid' hb3;clear hb3 HC))
 all_goals go_ret
 all_goals (refine ⟨ret_bool ?_,by first | exact HB.out | exact HB.out.trans (Joins.below_le HB3.out (by simp))⟩)
 all_goals clear HB
 all_goals (try clear HB3)
 all_goals (try clear HC)
 all_goals (try clear HN)
 all_goals simp_all
 all_goals (intros;omega)
set_option maxRecDepth 100000 in
set_option maxHeartbeats 8000000 in
theorem node60O (N:Nv) (R:List (Int × Int)) (w:World) (ok:N.ok) (hr:N.r2=R.length) (hR:R2 w w.heap.size N.r1 R) (hk:N.k≠1∧N.k≠2∧N.k≠3∧N.k≠4∧N.k≠5∧N.k≠6∧N.k≠7) :
  Calls Tryz.prog 101 #[N.v] w fun e w'=>e=.returned (.bool (nodeB N.k R N.a2 N.s2 N.a4 N.a5 N.a6 N.a7 N.a8))∧Below w.heap.size w w':=by
 have HB:=hid' (Joins.below_alloc1 w (.cells (Array.mk N.cs) 25))
 rw [nodeB_ne hk]
 obtain ⟨k1,k2,k3,k4,k5,k6,k7⟩:=hk
 have j1:(N.k == 1)=false:=by simpa using k1
 have j2:(N.k == 2)=false:=by simpa using k2
 have j3:(N.k == 3)=false:=by simpa using k3
 have j4:(N.k == 4)=false:=by simpa using k4
 have j5:(N.k == 5)=false:=by simpa using k5
 have j6:(N.k == 6)=false:=by simpa using k6
 have j7:(N.k == 7)=false:=by simpa using k7
 obtain ⟨k,r1,r2,r3,a2,s1,s2,s3,a4,a5,a6,a7,a8⟩:=N
 simp only at j1 j2 j3 j4 j5 j6 j7
 clear ok hr hR k1 k2 k3 k4 k5 k6 k7
 go_enter Tryz.func101,Tryz.ntmps101
 go_wp2
 go_ret
 exact ⟨rfl,HB.out⟩
theorem node60 (N:Nv) (R:List (Int × Int)) (w:World) (ok:N.ok) (hr:N.r2=R.length) (hR:R2 w w.heap.size N.r1 R) :
  Calls Tryz.prog 101 #[N.v] w fun e w'=>e=.returned (.bool (nodeB N.k R N.a2 N.s2 N.a4 N.a5 N.a6 N.a7 N.a8))∧Below w.heap.size w w':=by
 by_cases k1:N.k=1
 ·exact node60E N R w ok hr hR k1
 by_cases k2:N.k=2
 ·exact node60C N R w ok hr hR k2
 by_cases k3:N.k=3
 ·exact node60A N R w ok hr hR k3
 by_cases k4:N.k=4
 ·exact node60S4 N R w ok hr hR k4
 by_cases k5:N.k=5
 ·exact node60S5 N R w ok hr hR k5
 by_cases k6:N.k=6
 ·exact node60R N R w ok hr hR k6
 by_cases k7:N.k=7
 ·exact node60G N R w ok hr hR k7
 ·exact node60O N R w ok hr hR ⟨k1,k2,k3,k4,k5,k6,k7⟩
mutual
def Tn.ct:Tn→Int→Int→Int
 | .mk k R a s mn mx lz ix nm,l,d=>if nodeB k R a s.length mn mx lz ix nm=true∧d≤10000 then ctL s (l - 1) (d + 1) else -1
def ctL:List Tn→Int→Int→Int
 | [],l,_=>l
 | t :: ts,l,d=>if l < 0 then l else ctL ts (t.ct l d) d
end
theorem ctL_neg (ts:List Tn) (l d:Int) (h:l < 0):ctL ts l d=l:=by cases ts <;> simp [ctL,h]
mutual
theorem Tn.ct_spec:∀ (t:Tn) (l d:Int),0≤l→d≤10001→(t.ct l d≤l - 1∨t.ct l d=-1)∧(-1≤t.ct l d)∧(0≤t.ct l d↔t.fine=true∧(t.depth:Int) + d≤10001∧(t.nodes:Int)≤l)∧(0≤t.ct l d→t.ct l d=l - t.nodes)
 | .mk k R a s mn mx lz ix nm,l,d,h,hd=>by
  simp only [Tn.ct,Tn.nodes,Tn.fine,Tn.depth]
  by_cases hn:nodeB k R a s.length mn mx lz ix nm=true∧d≤10000
  ·have:=ctL_spec s (l - 1) (d + 1) (by omega) (by omega)
   rw [if_pos hn]
   simp only [hn.1,Bool.true_and]
   refine ⟨by omega,by omega,?_,by omega⟩
   rw [this.2.2.1]
   constructor
   ·rintro ⟨h1,h2,h3⟩;exact ⟨h1,by omega,by omega⟩
   ·rintro ⟨h1,h2,h3⟩;exact ⟨h1,by omega,by omega⟩
  ·rw [if_neg hn]
   refine ⟨by omega,by omega,?_,by omega⟩
   constructor
   ·intro h;omega
   ·rintro ⟨h1,h2,h3⟩
    rw [Bool.and_eq_true] at h1
    exact absurd ⟨h1.1,by omega⟩ hn
theorem ctL_spec:∀ (ts:List Tn) (l d:Int),-1≤l→d≤10001→(ctL ts l d≤l∨ctL ts l d=-1)∧(-1≤ctL ts l d)∧(0≤ctL ts l d↔fineL ts=true∧(depthL ts:Int) + d≤10001∧(nodesL ts:Int)≤l)∧(0≤ctL ts l d→ctL ts l d=l - nodesL ts)
 | [],l,d,h,hd=>by simp [ctL,nodesL,fineL,depthL];omega
 | t :: ts,l,d,h,hd=>by
  simp only [ctL,nodesL,fineL,depthL]
  by_cases hl:l < 0
  ·rw [if_pos hl]
   refine ⟨by omega,by omega,?_,by omega⟩
   constructor
   ·intro h;omega
   ·rintro ⟨h1,h2,h3⟩;have:=t.pos;omega
  ·have h1:=Tn.ct_spec t l d (by omega) hd
   have h2:=ctL_spec ts (t.ct l d) d (by omega) hd
   rw [if_neg hl]
   refine ⟨by omega,by omega,?_,?_⟩
   ·constructor
    ·intro h
     obtain ⟨a1,a2,a3⟩:=h2.2.2.1.1 h
     have hc:0≤t.ct l d:=by omega
     obtain ⟨b1,b2,b3⟩:=h1.2.2.1.1 hc
     have:=h1.2.2.2 hc
     exact ⟨by rw [b1,a1];rfl,by omega,by omega⟩
    ·rintro ⟨a1,a2,a3⟩
     rw [Bool.and_eq_true] at a1
     have hc:=h1.2.2.1.2 ⟨a1.1,by omega,by omega⟩
     have:=h1.2.2.2 hc
     exact h2.2.2.1.2 ⟨a1.2,by omega,by omega⟩
   ·intro h
    have hc:0≤t.ct l d:=by
     by_cases hc:0≤t.ct l d
     ·exact hc
     ·rw [ctL_neg _ _ _ (by omega)] at h;omega
    have:=h1.2.2.2 hc
    have:=h2.2.2.2 h
    omega
end
theorem ctL_drop (ts:List Tn) (i:Nat) (hi:i < ts.length) (l d:Int) (h:0≤l):ctL (ts.drop i) l d=ctL (ts.drop (i + 1)) (ts[i].ct l d) d:=by
 rw [List.drop_eq_getElem_cons hi]
 simp only [ctL]
 rw [if_neg (by omega)]
theorem sound_ct (t:Tn):decide (0≤t.ct 200000 1)=t.sound:=by
 have:=(t.ct_spec 200000 1 (by omega) (by omega)).2.2.1
 rw [Bool.eq_iff_iff,decide_eq_true_eq,this]
 simp only [Tn.sound,Bool.and_eq_true,decide_eq_true_eq]
 constructor
 ·rintro ⟨h1,h2,h3⟩;exact ⟨⟨h1,by omega⟩,by omega⟩
 ·rintro ⟨⟨h1,h2⟩,h3⟩;exact ⟨h1,by omega,by omega⟩
set_option maxRecDepth 100000 in
set_option maxHeartbeats 8000000 in
theorem count47 {w0:World} {B:Nat} {N:Nv} {t:Tn} (h:TI w0 B N t):∀ (l d:Int) (w:World),0≤l∧l≤4194304→0≤d∧d≤10001→B≤w.heap.size→(∀ b,b < B→w.heap[b]?=w0.heap[b]?) →
  Calls Tryz.prog 64 #[N.v,.int .i64 l,.int .i64 d] w fun e w'=>e=.returned (.int .i64 (t.ct l d))∧Below w.heap.size w w':=by
 induction h with
 | @mk N R ts ND ok hr hR hRk hs hS hk ih =>
 intro l d w hl hd hB hw
 have HN:=node60 N R (w.alloc (.cells #[.int .i64 N.k,.slice N.r1 N.r2 N.r3,.int .i64 N.a2,.slice N.s1 N.s2 N.s3,.int .i64 N.a4,.int .i64 N.a5,.bool N.a6,.int .i64 N.a7,.string N.a8] 25)) ok hr ((hR.kept (fun b hb=>(heap_alloc_old w _ (by omega)).trans (hw b hb))).le (by simp;omega))
 have hmax:=ok.s
 obtain ⟨k,r1,r2,r3,a2,s1,s2,s3,a4,a5,a6,a7,a8⟩:=N
 dsimp only at hs hS hmax HN
 simp only [Tn.ct]
 rw [show nodeB k R a2 s2 a4 a5 a6 a7 a8=nodeB k R a2 ts.length a4 a5 a6 a7 a8 by rw [hs]] at HN
 have ad0:IntKind.i64.wrap (l - 1)=l - 1:=by simp [IntKind.wrap,IntKind.bits,IntKind.signed];omega
 have adD:IntKind.i64.wrap (d + 1)=d + 1:=by simp [IntKind.wrap,IntKind.bits,IntKind.signed];omega
 generalize nodeB k R a2 ts.length a4 a5 a6 a7 a8=nb at HN ⊢
 have HW:=hid' hw
 have HS:=hid' hS
 have IH:=hid' ih
 have hm2:s2≤9223372036854775807:=by have:maxLen=9223372036854775807:=rfl;omega
 have HL:=hid' hs
 clear ok hr hR hRk hk hS hw ih hmax hs
 have HAL:=hid' (Joins.below_alloc1 w (.cells #[.int .i64 k,.slice r1 r2 r3,.int .i64 a2,.slice s1 s2 s3,.int .i64 a4,.int .i64 a5,.bool a6,.int .i64 a7,.string a8] 25))
 have HNB:=hid' (heap_alloc_new w (.cells #[.int .i64 k,.slice r1 r2 r3,.int .i64 a2,.slice s1 s2 s3,.int .i64 a4,.int .i64 a5,.bool a6,.int .i64 a7,.string a8] 25))
 cases nb
 ·simp only [Bool.false_eq_true,false_and,if_false]
  go_enter Tryz.func64,Tryz.ntmps64
  go_wp2_with (first | (go_at_call 101;(with_reducible refine HN.mono ?_);rintro e w1 ⟨rfl,hb1⟩;have HB1:=hid' hb1;clear hb1 HN))
  go_ret
  exact ⟨rfl,HAL.out.trans (Joins.below_le HB1.out (by simp))⟩
 by_cases hdd:d≤10000
 ·have c1:decide (d > 10000)=false:=by simp;omega
  have c1':decide (10000 < d)=false:=by simp;omega
  rw [if_pos ⟨rfl,hdd⟩]
  obtain ⟨r,hrr⟩:∃ r,r=ctL ts (l - 1) (d + 1):=⟨_,rfl⟩
  rw [← hrr]
  have HR:=hid' hrr
  clear hrr
  go_enter Tryz.func64,Tryz.ntmps64
  go_wp2_with (first | (go_at_call 101;(with_reducible refine HN.mono ?_);rintro e w1 ⟨rfl,hb1⟩;obtain ⟨z0,z1,z2,z3,z4,z5,z6,z7,z8⟩:=nine' ((hb1.block w.heap.size (by simp)).trans HNB.out);have HB1:=hid' hb1;clear hb1 HN))
  have HF1:=hid' (HAL.out.trans (Joins.below_le HB1.out (by simp)))
  have HX1:=hid' ((HB1.out.block w.heap.size (by simp)).trans HNB.out)
  clear HAL HNB HB1 z0 z1 z2 z3 z4 z5 z6 z7 z8
  go_loopw [1,8] (fun u y wq=>∃ i:Nat,y=.int .i64 (i:Int)∧i≤s2∧(∃ q,u=.int .i64 q∧(-1≤q∧q≤4194304)∧Hid (ctL (ts.drop i) q (d + 1)=r))∧Hid (Below w.heap.size w wq)∧Hid (wq.heap[w.heap.size]?=some (.cells #[.int .i64 k,.slice r1 r2 r3,.int .i64 a2,.slice s1 s2 s3,.int .i64 a4,.int .i64 a5,.bool a6,.int .i64 a7,.string a8] 25 (0,0)))) (fun _ y _=>s2 - (intOf y).toNat)
  case atStart=>exact ⟨0,rfl,by omega,⟨l - 1,rfl,by omega,HR.out.symm⟩,HF1.out,HX1.out⟩
  case round =>
   obtain ⟨i,rfl,hi,⟨q,rfl,hq,HQ⟩,BK,BX⟩:=hrel
   obtain ⟨o0,o1,o2,o3,o4,o5,o6,o7,o8⟩:=nine' BX.out
   by_cases hil:i < s2
   ·have b1:decide ((i:Int) < (s2:Int))=true:=by simp;omega
    have b2:(i:Int) < (s2:Int):=by omega
    by_cases hq0:0≤q
    ·have b3:decide (q ≥ 0)=true:=by simp;omega
     have b3':decide (0≤q)=true:=by simp;omega
     have hlt:i < ts.length:=by rw [← HL.out];exact hil
     obtain ⟨b,o,hs1,hb,hc⟩:=HS.out (by omega)
     subst hs1
     have hwk:∀ b,b < B→wr.heap[b]?=w0.heap[b]?:=fun b hb=>(BK.out.block b (by omega)).trans (HW.out b hb)
     obtain ⟨n0,n1,n2,n3,n4,n5,n6,n7,n8⟩:=(hc i hlt).kept (hwk b hb)
     have HC:=IH.out i hlt q (d + 1) wr ⟨hq0,hq.2⟩ (by omega) (by have:=BK.out.size;omega) hwk
     have hsp:=Tn.ct_spec ts[i] q (d + 1) hq0 (by omega)
     rw [ctL_drop ts i hlt q (d + 1) hq0] at HQ
     obtain ⟨g,hg⟩:∃ g,g=ts[i].ct q (d + 1):=⟨_,rfl⟩
     rw [← hg] at HC HQ hsp
     have hg2:-1≤g∧g≤4194304:=by omega
     obtain ⟨M,hM⟩:∃ M,M=ND i:=⟨_,rfl⟩
     rw [← hM] at HC n0 n1 n2 n3 n4 n5 n6 n7 n8
     have ad1:IntKind.i64.wrap ((i:Int) + 1)=(i:Int) + 1:=by simp [IntKind.wrap,IntKind.bits,IntKind.signed];omega
     clear hM hg hwk hc hsp hlt
     go_wp2_with (first | (go_at_call 64;(with_reducible refine HC.mono ?_);rintro e w2 ⟨rfl,hb2⟩;have HB2:=hid' hb2;clear hb2 HC))
     refine ⟨⟨i + 1,by push_cast;rfl,by omega,⟨_,rfl,hg2,HQ.out⟩,?_,?_⟩,?_⟩
     ·exact BK.out.trans (Joins.below_le HB2.out BK.out.size)
     ·exact (HB2.out.block _ (Array.getElem?_eq_some_iff.1 BX.out).1).trans BX.out
     ·simp [intOf]
      omega
    ·have b3:decide (q ≥ 0)=false:=by simp;omega
     have b3':decide (0≤q)=false:=by simp;omega
     have e:=HQ.out
     rw [ctL_neg _ _ _ (by omega)] at e
     go_wp2
     go_ret
     exact ⟨by first | rfl | exact ret_int e,BK.out⟩
   ·have b1:decide ((i:Int) < (s2:Int))=false:=by simp;omega
    obtain rfl:i=s2:=by omega
    have e:=HQ.out
    rw [HL.out,List.drop_length] at e
    simp only [ctL] at e
    go_wp2
    go_ret
    exact ⟨by first | rfl | exact ret_int e,BK.out⟩
 ·have c1:decide (d > 10000)=true:=by simp;omega
  have c1':decide (10000 < d)=true:=by simp;omega
  rw [if_neg (fun h=>hdd h.2)]
  go_enter Tryz.func64,Tryz.ntmps64
  go_wp2_with (first | (go_at_call 101;(with_reducible refine HN.mono ?_);rintro e w1 ⟨rfl,hb1⟩;have HB1:=hid' hb1;clear hb1 HN))
  go_ret
  exact ⟨rfl,HAL.out.trans (Joins.below_le HB1.out (by simp))⟩
theorem sound25 {w:World} {N:Nv} {t:Tn} (h:TI w w.heap.size N t):Calls Tryz.prog 32 #[N.v] w fun e w'=>e=.returned (.int .i64 (if t.sound then 0 else 50))∧Below w.heap.size w w':=by
 have HC:=count47 h 200000 1 (w.alloc (.cells (Array.mk N.cs) 25)) (by omega) (by omega) (by simp) (fun b hb=>heap_alloc_old w _ hb)
 have HS:=sound_ct t
 obtain ⟨k,r1,r2,r3,a2,s1,s2,s3,a4,a5,a6,a7,a8⟩:=N
 obtain ⟨g,hg⟩:∃ g,g=t.ct 200000 1:=⟨_,rfl⟩
 rw [← hg] at HC HS
 rw [← HS]
 clear hg HS
 by_cases h0:0≤g
 ·have e1:decide (g < 0)=false:=by simp;omega
  rw [decide_eq_true h0]
  go_enter Tryz.func32,Tryz.ntmps32
  go_wp2_with (first | (go_at_call 64;(with_reducible refine HC.mono ?_);rintro e w2 ⟨rfl,hb2⟩;have HB2:=hid' hb2;clear hb2 HC))
  go_ret
  exact ⟨rfl,(Joins.below_alloc1 w _).trans (Joins.below_le HB2.out (by simp))⟩
 ·have e1:decide (g < 0)=true:=by simp;omega
  rw [decide_eq_false h0]
  go_enter Tryz.func32,Tryz.ntmps32
  go_wp2_with (first | (go_at_call 64;(with_reducible refine HC.mono ?_);rintro e w2 ⟨rfl,hb2⟩;have HB2:=hid' hb2;clear hb2 HC))
  go_ret
  exact ⟨rfl,(Joins.below_alloc1 w _).trans (Joins.below_le HB2.out (by simp))⟩
abbrev Rng:=List (Int × Int)
inductive Way where
 | through
 | once (n:Int) (d:Way)
 | noted (c:Nat) (d:Way)
 | runeOf (L:Rng) (d:Way)
 | ifHolds (a:Int) (d:Way)
 | inOrder (l:List Way)
 | again (b:Nat)
structure Sg where
 done:List (Int × Int)
 notes:List Int
 parses:List (Int × List Int)
def heldB (tx:List Int) (a:Int) (p:Nat):Bool:=bits .andNot .i64 a (Look.atN tx (p:Int)) == 0
inductive Ex (tx:List Int) (E:Nat→Way):Way→Nat→Sg→Sg→Prop
 | through (p:Nat) (s:Sg):Ex tx E .through p s { s with parses:=s.parses ++ [((p:Int),s.notes.set 1 (p:Int))] }
 | skip {n:Int} {d:Way} {p:Nat} {s:Sg} (h:(n,(p:Int)) ∈ s.done):Ex tx E (.once n d) p s s
 | once {n:Int} {d:Way} {p:Nat} {s s':Sg} (h:(n,(p:Int)) ∉ s.done) (hd:Ex tx E d p { s with done:=s.done ++ [(n,(p:Int))] } s'):Ex tx E (.once n d) p s s'
 | noted {c:Nat} {d:Way} {p:Nat} {s s':Sg} (hd:Ex tx E d p { s with notes:=s.notes.set c (p:Int) } s'):Ex tx E (.noted c d) p s { s' with notes:=s'.notes.set c (s.notes.getD c 0) }
 | over {L:Rng} {d:Way} {p:Nat} {s:Sg} (h:tx.length≤p):Ex tx E (.runeOf L d) p s s
 | other {L:Rng} {d:Way} {p:Nat} {s:Sg} (h:p < tx.length) (hr:(rightB L && hasB L (tx.getD p 0))=false):Ex tx E (.runeOf L d) p s s
 | rune {L:Rng} {d:Way} {p:Nat} {s s':Sg} (h:p < tx.length) (hr:(rightB L && hasB L (tx.getD p 0))=true) (hd:Ex tx E d (p + 1) s s'):Ex tx E (.runeOf L d) p s s'
 | fails {a:Int} {d:Way} {p:Nat} {s:Sg} (h:heldB tx a p=false):Ex tx E (.ifHolds a d) p s s
 | holds {a:Int} {d:Way} {p:Nat} {s s':Sg} (h:heldB tx a p=true) (hd:Ex tx E d p s s'):Ex tx E (.ifHolds a d) p s s'
 | inOrder {l:List Way} {p:Nat} (ss:Nat→Sg) (h:∀ i (hi:i < l.length),Ex tx E (l[i]'hi) p (ss i) (ss (i + 1))):Ex tx E (.inOrder l) p (ss 0) (ss l.length)
 | again {b p:Nat} {s s':Sg} (h:Ex tx E (E b) p s s'):Ex tx E (.again b) p s s'
inductive PR (N:Nat) (w:World):List Value→List (Int × List Int)→List Nat→Prop
 | nil:PR N w [] [] []
 | cons {e:Int} {cp:List Int} {cv:Value} {cs:List Value} {l:List (Int × List Int)} {F:List Nat} (h:w.ownsRow N 3 1 cv cp.length (I64 cp)) (hl:PR N w cs l F) :
   PR N w (.int .i64 e :: cv :: cs) ((e,cp) :: l) (cv.ownBlock.toList ++ F)
theorem PR.kept {N:Nat} {w w':World} {cs:List Value} {l:List (Int × List Int)} {F:List Nat} (h:PR N w cs l F) (hk:∀ k ∈ F,w'.heap[k]?=w.heap[k]?):PR N w' cs l F:=by
 induction h with
 | nil=>exact .nil
 | cons h hl ih=>exact .cons (row_kept h fun b hb=>hk b (by simp [hb])) (ih fun k hkk=>hk k (by simp [hkk]))
theorem PR.low {N:Nat} {w:World} {cs:List Value} {l:List (Int × List Int)} {F:List Nat} (h:PR N w cs l F):∀ k ∈ F,N≤k∧k < w.heap.size:=by
 induction h with
 | nil=>intro k hk;cases hk
 | cons h hl ih =>
  intro k hk
  rcases List.mem_append.1 hk with hk | hk
  ·exact h.lt k (by simpa using hk)
  ·exact ih k hk
theorem PR.snoc {N:Nat} {w:World} {cs:List Value} {l:List (Int × List Int)} {F:List Nat} (h:PR N w cs l F) {e:Int} {cp:List Int} {cv:Value} (hc:w.ownsRow N 3 1 cv cp.length (I64 cp)):PR N w (cs ++ [.int .i64 e,cv]) (l ++ [(e,cp)]) (F ++ cv.ownBlock.toList):=by
 induction h with
 | nil=>simpa using PR.cons (e:=e) hc .nil
 | cons h hl ih=>rw [List.append_assoc];exact .cons h ih
theorem PR.typ {N:Nat} {w:World} {cs:List Value} {l:List (Int × List Int)} {F:List Nat} (h:PR N w cs l F):∀ k ∈ F,∃ cur,w.heap[k]?=some (.cells cur 3 (0,0)):=by
 induction h with
 | nil=>intro k hk;cases hk
 | cons h hl ih =>
  intro k hk
  rcases List.mem_append.1 hk with hk | hk
  ·rcases h.2 with ⟨rfl,_⟩ | ⟨b2,cap,cur,rfl,_,hgg,_⟩
   ·simp [Value.ownBlock] at hk
   ·simp [Value.ownBlock] at hk
    subst hk
    exact ⟨cur,hgg⟩
  ·exact ih k hk
mutual
def Way.few (h:Bool):Way→Prop
 | .through=>True
 | .once _ d=>d.few h
 | .noted _ d=>d.few h
 | .runeOf L d=>L.length≤1000000∧d.few h
 | .ifHolds _ d=>h=true∧d.few h
 | .inOrder l=>Ways.few h l
 | .again _=>True
def Ways.few (h:Bool):List Way→Prop
 | []=>True
 | d :: l=>d.few h∧Ways.few h l
end
theorem one_new (w2:World) (u:Value) (t:TypeId):∀ j y,[u][j]?=some y→(w2.alloc (.cells #[u] t)).cell? ((⟨w2.heap.size,0,none⟩:Addr).add j)=some y:=by
 intro j y hj
 match j,hj with
 | 0,hj=>simp at hj;subst hj;simp [Addr.add]
abbrev Dcd (lz:Bool) (n:Int) (b:Nat) (B:Way):Way:=.once (n + 1) (.inOrder (if lz=true then [B,.again b] else [.again b,B]))
mutual
def Way.ua:Way→List Nat
 | .through=>[]
 | .once _ d=>[]
 | .noted _ d=>d.ua
 | .runeOf _ d=>d.ua
 | .ifHolds _ d=>d.ua
 | .inOrder l=>uaL l
 | .again b=>[b]
def uaL:List Way→List Nat
 | []=>[]
 | d :: l=>d.ua ++ uaL l
end
mutual
def Way.tg (top:Nat):Way→Prop
 | .through=>False
 | .once n d=>(0≤n∧n≤(top:Int))∧(n=1∧d=.through∨d.tg top)
 | .noted _ d=>d.tg top
 | .runeOf _ d=>d.tg top
 | .ifHolds _ d=>d.tg top
 | .inOrder l=>tgL top l
 | .again b=>True
def tgL (top:Nat):List Way→Prop
 | []=>True
 | d :: l=>d.tg top∧tgL top l
end
structure Gw (W:Way):Prop where
 tg:W.tg 1000000000
 few:W.few true
theorem Gw.once {n:Int} {d:Way} (h:Gw d) (h0:0≤n) (h1:n≤1000000000):Gw (.once n d):=⟨by simp only [Way.tg];exact ⟨⟨h0,by omega⟩,.inr h.tg⟩,by simp only [Way.few];exact h.few⟩
theorem Gw.noted {c:Nat} {d:Way} (h:Gw d):Gw (.noted c d):=⟨by simp only [Way.tg];exact h.tg,by simp only [Way.few];exact h.few⟩
theorem Gw.runeOf {R:Rng} {d:Way} (h:Gw d) (hR:R.length≤1000000):Gw (.runeOf R d):=⟨by simp only [Way.tg];exact h.tg,by simp only [Way.few];exact ⟨hR,h.few⟩⟩
theorem Gw.ifHolds {a:Int} {d:Way} (h:Gw d):Gw (.ifHolds a d):=⟨by simp only [Way.tg];exact h.tg,by simp only [Way.few];exact ⟨by trivial,h.few⟩⟩
structure GwL (l:List Way):Prop where
 tg:tgL 1000000000 l
 few:Ways.few true l
theorem GwL.nil:GwL []:=⟨trivial,trivial⟩
theorem GwL.cons {d:Way} {l:List Way} (h:Gw d) (hl:GwL l):GwL (d :: l):=⟨⟨h.tg,hl.tg⟩,⟨h.few,hl.few⟩⟩
theorem GwL.snoc {d:Way}:∀ {l:List Way},GwL l→Gw d→GwL (l ++ [d])
 | [],_,h=>.cons h .nil
 | e :: l,hl,h=>.cons ⟨hl.tg.1,hl.few.1⟩ (GwL.snoc ⟨hl.tg.2,hl.few.2⟩ h)
theorem Gw.inOrder {l:List Way} (h:GwL l):Gw (.inOrder l):=⟨by simp only [Way.tg];exact h.tg,by simp only [Way.few];exact h.few⟩
theorem Gw.again (b:Nat):Gw (.again b):=⟨by simp only [Way.tg],by simp only [Way.few]⟩
theorem Gw.pair {lz:Bool} {B W:Way} (h1:Gw B) (h2:Gw W):Gw (.inOrder (if lz=true then [B,W] else [W,B])):=by
 cases lz
 ·exact .inOrder (.cons h2 (.cons h1 .nil))
 ·exact .inOrder (.cons h1 (.cons h2 .nil))
mutual
def Tn.gi:Tn→Int
 | .mk _ _ _ s _ _ _ ix _=>giL s ix
def giL:List Tn→Int→Int
 | [],m=>m
 | t :: ts,m=>giL ts (max m t.gi)
end
theorem giL_drop (ts:List Tn) (i:Nat) (hi:i < ts.length) (m:Int):giL (ts.drop i) m=giL (ts.drop (i + 1)) (max m ts[i].gi):=by
 rw [List.drop_eq_getElem_cons hi]
 simp only [giL]
def repN (mn mx:Int) (n:Nat):Nat:=if mx=-1 then max mn.toNat 1 * n + 1 else max 1 (mn.toNat * n + (mx - mn).toNat * (1 + n))
mutual
def Tn.sz:Tn→Nat
 | .mk k _ _ s mn mx _ _ _=>if k=6 then repN mn mx (szL s) else 1 + szL s
def szL:List Tn→Nat
 | []=>0
 | t :: ts=>t.sz + szL ts
end
theorem szL_take (ts:List Tn):∀ (i:Nat) (hi:i < ts.length),szL (ts.take (i + 1))=szL (ts.take i) + ts[i].sz:=by
 induction ts with
 | nil=>intro i hi;simp at hi
 | cons t ts ih =>
  intro i hi
  cases i with
  | zero=>simp [szL]
  | succ i =>
   have h:=ih i (by simpa using hi)
   simp only [List.take_succ_cons,szL,List.getElem_cons_succ] at h ⊢
   omega
theorem repN_cap (C:Nat) (mn mx:Int) (n:Nat):min C (repN mn mx (min C n))=min C (repN mn mx n):=by
 by_cases hn:n≤C
 ·rw [Nat.min_eq_right hn]
 ·have hc:min C n=C:=by omega
  rw [hc]
  unfold repN
  by_cases hx:mx=-1
  ·simp only [hx,if_true]
   have h1:C≤max mn.toNat 1 * C:=Nat.le_mul_of_pos_left _ (by omega)
   have h2:n≤max mn.toNat 1 * n:=Nat.le_mul_of_pos_left _ (by omega)
   omega
  ·simp only [hx,if_false]
   generalize mn.toNat=a
   generalize (mx - mn).toNat=b
   by_cases ha:a=0
   ·subst ha
    by_cases hb:b=0
    ·subst hb;simp
    ·have h1:1 + C≤b * (1 + C):=Nat.le_mul_of_pos_left _ (by omega)
     have h2:1 + n≤b * (1 + n):=Nat.le_mul_of_pos_left _ (by omega)
     omega
   ·have h1:C≤a * C:=Nat.le_mul_of_pos_left _ (by omega)
    have h2:n≤a * n:=Nat.le_mul_of_pos_left _ (by omega)
    omega
structure FineNZ (k:Int) (R:List (Int × Int)) (a:Int) (n:Nat) (mn mx:Int) (lz:Bool) (ix:Int) (nm:ByteArray):Prop where
 kind:k=1∨k=2∨k=3∨k=4∨k=5∨k=6∨k=7
 leaf:k=1∨k=2∨k=3→n=0
 rep:k=6→n=1∧0≤mn∧mn≤1000∧(mx=-1∨mn≤mx∧mx≤1000)
 grp:k=7→n=1∧1≤ix∧ix≤500
 idx:k≠7→ix=0
 two:k=4∨k=5→2≤n
 cls:k=2→rightB R=true
 ast:k=3→assertB a=true
theorem fine_nodeZ {k:Int} {R:List (Int × Int)} {a:Int} {n:Nat} {mn mx:Int} {lz:Bool} {ix:Int} {nm:ByteArray} (h:nodeB k R a n mn mx lz ix nm=true):FineNZ k R a n mn mx lz ix nm:=by
 have hk:k=1∨k=2∨k=3∨k=4∨k=5∨k=6∨k=7:=by
  by_cases h':k≠1∧k≠2∧k≠3∧k≠4∧k≠5∧k≠6∧k≠7
  ·rw [nodeB_ne h'] at h;cases h
  ·omega
 rcases hk with rfl | rfl | rfl | rfl | rfl | rfl | rfl <;> simp [nodeB,bareB] at h <;> refine ⟨by omega,by omega,by omega,by omega,by omega,by omega,?_,?_⟩ <;> first | (intro h';omega) | (intro _;exact h.1)
end Go.Proofs.YtacaanhnlfpbhaaGreat
