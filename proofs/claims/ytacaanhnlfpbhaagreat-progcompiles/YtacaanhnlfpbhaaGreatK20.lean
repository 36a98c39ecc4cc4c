/- HELPERS: texts of ours put together. -/
import Derived.Test.YtacaanhnlfpbhaaGreatK19
import Derived.Test.YtacaanhnlfpbhaaGreatK02
import Derived.Test.YtacaanhnlfpbhaaGreatK18
import Derived.Test.YtacaanhnlfpbhaaGreatK17
import Derived.Test.YtacaanhnlfpbhaaGreatK01
import Derived.DeepKeys3
import Derived.MapKept
import Derived.Lib.Small
import Derived.Test.YtacaanhnlfpbhaaGreatProg
import Derived.WalkKit
import Derived.ProofKit
import Derived.BigQuiet
import Derived.WalkSmall
import Derived.Deep.QuietTactic
import Derived.Deep.RegionWith
import Derived.Laws.EntriesVeiled
import Derived.Deep.WholeRow
import Derived.Test.YtacaanhnlfpbhaaGreatK03
import Derived.WalkLawsBesides
import Derived.Lib.LazyBuf
import Derived.Deep.Cut
import Derived.Laws.Rows
import Derived.Deep.MidRow
import Derived.Deep.OwnRows
import Derived.Test.YtacaanhnlfpbhaaGreatK04
import Derived.Test.YtacaanhnlfpbhaaGreatK07
import Derived.Test.YtacaanhnlfpbhaaGreatK06
import Derived.Test.YtacaanhnlfpbhaaGreatK05
import Derived.Deep.SlicePairs
import Derived.RowKit
import Derived.Laws.BitsLemmas
import Derived.Deep.RegionHeld2
import Derived.Lib.MinMax
import Derived.RangeFuncNested
import Derived.RangeFuncBound
import Derived.RangeFuncCalls
import Derived.RangeFuncLeaves
import Derived.Shelf.Abstract
import Derived.Shelf.RegionOpen
import Derived.OwnWalkIn
import Derived.TacticsInMore
import Derived.LoopNIn
import Derived.LoopIn
import Derived.Lib.SliceRun
import Derived.Deep.CutRange
import Derived.OrdersHeld
import Derived.StillTail
import Derived.Tactics
import Derived.Below
import Derived.LoopN
import Derived.Laws.IdiomCopy
import Derived.Deep.Onto
import Derived.Deep.RegionHeld3
import Derived.Lib.AppendZerosOnto
import Derived.Deep.LoopGhost
import Derived.WalkMore
import Derived.Lib.SmallJoins
import Derived.Maps.AppendAt
import Derived.Laws.AppendOwnNone
namespace Go.Proofs.YtacaanhnlfpbhaaGreat
open Go.RowKit
set_option linter.unusedVariables false
set_option linter.unusedSimpArgs false
set_option maxRecDepth 100000 in
set_option maxHeartbeats 8000000 in
theorem node60E (N:Nv) (R:List (Int × Int)) (w:World) (ok:N.ok) (hr:N.r2=R.length) (hR:R2 w w.heap.size N.r1 R) (hk:N.k=1) :
  Calls Tryz.prog 101 #[N.v] w fun e w'=>e=.returned (.bool (nodeB N.k R N.a2 N.s2 N.a4 N.a5 N.a6 N.a7 N.a8))∧Below w.heap.size w w':=by
 have HB:=hid' (Joins.below_alloc1 w (.cells (Array.mk N.cs) 25))
 have HC:=bareE N
 have e1:nodeB N.k R N.a2 N.s2 N.a4 N.a5 N.a6 N.a7 N.a8=bareB N.r2 N.a2 N.s2 N.a4 N.a5 N.a6 N.a7 N.a8 false false false false false:=by simp [nodeB,hk,hr]
 rw [e1]
 generalize bareB N.r2 N.a2 N.s2 N.a4 N.a5 N.a6 N.a7 N.a8 false false false false false=q at HC ⊢
 obtain ⟨k,r1,r2,r3,a2,s1,s2,s3,a4,a5,a6,a7,a8⟩:=N
 simp only at hk
 subst hk
 clear ok hr hR e1
 go_enter Tryz.func101,Tryz.ntmps101
 go_wp2_with (first | (go_at_call 147;(with_reducible refine (HC _).mono ?_);rintro e w2 ⟨rfl,hb2⟩;have HB2:=hid' hb2;clear hb2 HC))
 go_ret
 exact ⟨rfl,HB.out.trans (Joins.below_le HB2.out (by simp))⟩
set_option maxRecDepth 100000 in
set_option maxHeartbeats 8000000 in
theorem node60C (N:Nv) (R:List (Int × Int)) (w:World) (ok:N.ok) (hr:N.r2=R.length) (hR:R2 w w.heap.size N.r1 R) (hk:N.k=2) :
  Calls Tryz.prog 101 #[N.v] w fun e w'=>e=.returned (.bool (nodeB N.k R N.a2 N.s2 N.a4 N.a5 N.a6 N.a7 N.a8))∧Below w.heap.size w w':=by
 have HB:=hid' (Joins.below_alloc1 w (.cells (Array.mk N.cs) 25))
 have HC:=bareC N
 have HRR:=rright33 R N.r1 N.r2 N.r3 (w.alloc (.cells (Array.mk N.cs) 25)) hr.symm (by have:=ok.r;have:maxLen=9223372036854775807:=rfl;omega) ((R2.row (hR.kept (fun b hb=>heap_alloc_old w _ hb)) hr).below (Below.refl _ _) (Nat.le_refl _) (by simp))
 have e1:nodeB N.k R N.a2 N.s2 N.a4 N.a5 N.a6 N.a7 N.a8=(rightB R && bareB N.r2 N.a2 N.s2 N.a4 N.a5 N.a6 N.a7 N.a8 true false false false false):=by simp [nodeB,hk,hr]
 rw [e1]
 generalize bareB N.r2 N.a2 N.s2 N.a4 N.a5 N.a6 N.a7 N.a8 true false false false false=q at HC ⊢
 generalize rightB R=q2 at HRR ⊢
 obtain ⟨k,r1,r2,r3,a2,s1,s2,s3,a4,a5,a6,a7,a8⟩:=N
 simp only at hk
 subst hk
 clear ok hr hR e1
 cases q2
 ·go_enter Tryz.func101,Tryz.ntmps101
  go_wp2_with (first | (go_at_call 100;(with_reducible refine HRR.mono ?_);rintro e w2 ⟨rfl,hb2⟩;obtain ⟨x0,x1,x2,x3,x4,x5,x6,x7,x8⟩:=nine' ((hb2.block w.heap.size (by simp)).trans (heap_alloc_new w _));have HB2:=hid' hb2;clear hb2 HRR) | (go_at_call 147;(with_reducible refine (HC _).mono ?_);rintro e w3 ⟨rfl,hb3⟩;have HB3:=hid' hb3;clear hb3 HC))
  go_ret
  exact ⟨rfl,HB.out.trans (Joins.below_le HB2.out (by simp))⟩
 ·go_enter Tryz.func101,Tryz.ntmps101
  go_wp2_with (first | (go_at_call 100;(with_reducible refine HRR.mono ?_);rintro e w2 ⟨rfl,hb2⟩;obtain ⟨x0,x1,x2,x3,x4,x5,x6,x7,x8⟩:=nine' ((hb2.block w.heap.size (by simp)).trans (heap_alloc_new w _));have HB2:=hid' hb2;clear hb2 HRR) | (go_at_call 147;(with_reducible refine (HC _).mono ?_);rintro e w3 ⟨rfl,hb3⟩;have HB3:=hid' hb3;clear hb3 HC))
  go_ret
  exact ⟨by simp,(HB.out.trans (Joins.below_le HB2.out (by simp))).trans (Joins.below_le HB3.out (by have:=HB2.out.size;simp at this;omega))⟩
set_option maxRecDepth 100000 in
set_option maxHeartbeats 8000000 in
theorem node60A (N:Nv) (R:List (Int × Int)) (w:World) (ok:N.ok) (hr:N.r2=R.length) (hR:R2 w w.heap.size N.r1 R) (hk:N.k=3) :
  Calls Tryz.prog 101 #[N.v] w fun e w'=>e=.returned (.bool (nodeB N.k R N.a2 N.s2 N.a4 N.a5 N.a6 N.a7 N.a8))∧Below w.heap.size w w':=by
 have HB:=hid' (Joins.below_alloc1 w (.cells (Array.mk N.cs) 25))
 have HC:=bareA N
 have HAA:=assertion74 N.a2
 have e1:nodeB N.k R N.a2 N.s2 N.a4 N.a5 N.a6 N.a7 N.a8=(assertB N.a2 && bareB N.r2 N.a2 N.s2 N.a4 N.a5 N.a6 N.a7 N.a8 false true false false false):=by simp [nodeB,hk,hr]
 rw [e1]
 generalize bareB N.r2 N.a2 N.s2 N.a4 N.a5 N.a6 N.a7 N.a8 false true false false false=q at HC ⊢
 generalize assertB N.a2=q2 at HAA ⊢
 obtain ⟨k,r1,r2,r3,a2,s1,s2,s3,a4,a5,a6,a7,a8⟩:=N
 simp only at hk
 subst hk
 clear ok hr hR e1
 cases q2
 ·go_enter Tryz.func101,Tryz.ntmps101
  go_wp2_with (first | (go_at_call 148;(with_reducible refine (HAA _).mono ?_);rintro e w2 ⟨rfl,hww⟩;subst hww) | (go_at_call 147;(with_reducible refine (HC _).mono ?_);rintro e w3 ⟨rfl,hb3⟩;have HB3:=hid' hb3;clear hb3 HC))
  go_ret
  exact ⟨rfl,HB.out⟩
 ·go_enter Tryz.func101,Tryz.ntmps101
  go_wp2_with (first | (go_at_call 148;(with_reducible refine (HAA _).mono ?_);rintro e w2 ⟨rfl,hww⟩;subst hww) | (go_at_call 147;(with_reducible refine (HC _).mono ?_);rintro e w3 ⟨rfl,hb3⟩;have HB3:=hid' hb3;clear hb3 HC))
  go_ret
  exact ⟨by simp,HB.out.trans (Joins.below_le HB3.out (by simp))⟩
set_option maxRecDepth 100000 in
set_option maxHeartbeats 8000000 in
theorem node60S4 (N:Nv) (R:List (Int × Int)) (w:World) (ok:N.ok) (hr:N.r2=R.length) (hR:R2 w w.heap.size N.r1 R) (hk:N.k=4) :
  Calls Tryz.prog 101 #[N.v] w fun e w'=>e=.returned (.bool (nodeB N.k R N.a2 N.s2 N.a4 N.a5 N.a6 N.a7 N.a8))∧Below w.heap.size w w':=by
 have HB:=hid' (Joins.below_alloc1 w (.cells (Array.mk N.cs) 25))
 have HC:=bareS N
 have e1:nodeB N.k R N.a2 N.s2 N.a4 N.a5 N.a6 N.a7 N.a8=(decide (2≤N.s2) && bareB N.r2 N.a2 N.s2 N.a4 N.a5 N.a6 N.a7 N.a8 false false true false false):=by simp [nodeB,hk,hr]
 rw [e1]
 generalize bareB N.r2 N.a2 N.s2 N.a4 N.a5 N.a6 N.a7 N.a8 false false true false false=q at HC ⊢
 have hm2:N.s2≤9223372036854775807:=by have:=ok.s;have:maxLen=9223372036854775807:=rfl;omega
 obtain ⟨k,r1,r2,r3,a2,s1,s2,s3,a4,a5,a6,a7,a8⟩:=N
 simp only at hk hm2
 subst hk
 clear ok hr hR e1
 by_cases h2:2≤s2
 ·have b1:decide ((s2:Int) ≥ 2)=true:=by simp;omega
  have b2:decide ((2:Int)≤(s2:Int))=true:=by simp;omega
  have e2:decide (2≤s2)=true:=by simp;omega
  rw [e2]
  go_enter Tryz.func101,Tryz.ntmps101
  go_wp2_with (first | (go_at_call 147;(with_reducible refine (HC _).mono ?_);rintro e w3 ⟨rfl,hb3⟩;have HB3:=hid' hb3;clear hb3 HC))
  go_ret
  exact ⟨by simp,HB.out.trans (Joins.below_le HB3.out (by simp))⟩
 ·have b1:decide ((s2:Int) ≥ 2)=false:=by simp;omega
  have b2:decide ((2:Int)≤(s2:Int))=false:=by simp;omega
  have e2:decide (2≤s2)=false:=by simp;omega
  rw [e2]
  go_enter Tryz.func101,Tryz.ntmps101
  go_wp2_with (first | (go_at_call 147;(with_reducible refine (HC _).mono ?_);rintro e w3 ⟨rfl,hb3⟩;have HB3:=hid' hb3;clear hb3 HC))
  go_ret
  exact ⟨by simp,HB.out⟩
set_option maxRecDepth 100000 in
set_option maxHeartbeats 8000000 in
theorem node60S5 (N:Nv) (R:List (Int × Int)) (w:World) (ok:N.ok) (hr:N.r2=R.length) (hR:R2 w w.heap.size N.r1 R) (hk:N.k=5) :
  Calls Tryz.prog 101 #[N.v] w fun e w'=>e=.returned (.bool (nodeB N.k R N.a2 N.s2 N.a4 N.a5 N.a6 N.a7 N.a8))∧Below w.heap.size w w':=by
 have HB:=hid' (Joins.below_alloc1 w (.cells (Array.mk N.cs) 25))
 have HC:=bareS N
 have e1:nodeB N.k R N.a2 N.s2 N.a4 N.a5 N.a6 N.a7 N.a8=(decide (2≤N.s2) && bareB N.r2 N.a2 N.s2 N.a4 N.a5 N.a6 N.a7 N.a8 false false true false false):=by simp [nodeB,hk,hr]
 rw [e1]
 generalize bareB N.r2 N.a2 N.s2 N.a4 N.a5 N.a6 N.a7 N.a8 false false true false false=q at HC ⊢
 have hm2:N.s2≤9223372036854775807:=by have:=ok.s;have:maxLen=9223372036854775807:=rfl;omega
 obtain ⟨k,r1,r2,r3,a2,s1,s2,s3,a4,a5,a6,a7,a8⟩:=N
 simp only at hk hm2
 subst hk
 clear ok hr hR e1
 by_cases h2:2≤s2
 ·have b1:decide ((s2:Int) ≥ 2)=true:=by simp;omega
  have b2:decide ((2:Int)≤(s2:Int))=true:=by simp;omega
  have e2:decide (2≤s2)=true:=by simp;omega
  rw [e2]
  go_enter Tryz.func101,Tryz.ntmps101
  go_wp2_with (first | (go_at_call 147;(with_reducible refine (HC _).mono ?_);rintro e w3 ⟨rfl,hb3⟩;have HB3:=hid' hb3;clear hb3 HC))
  go_ret
  exact ⟨by simp,HB.out.trans (Joins.below_le HB3.out (by simp))⟩
 ·have b1:decide ((s2:Int) ≥ 2)=false:=by simp;omega
  have b2:decide ((2:Int)≤(s2:Int))=false:=by simp;omega
  have e2:decide (2≤s2)=false:=by simp;omega
  rw [e2]
  go_enter Tryz.func101,Tryz.ntmps101
  go_wp2_with (first | (go_at_call 147;(with_reducible refine (HC _).mono ?_);rintro e w3 ⟨rfl,hb3⟩;have HB3:=hid' hb3;clear hb3 HC))
  go_ret
  exact ⟨by simp,HB.out⟩
set_option maxRecDepth 100000 in
set_option maxHeartbeats 8000000 in
theorem node60R (N:Nv) (R:List (Int × Int)) (w:World) (ok:N.ok) (hr:N.r2=R.length) (hR:R2 w w.heap.size N.r1 R) (hk:N.k=6) :
  Calls Tryz.prog 101 #[N.v] w fun e w'=>e=.returned (.bool (nodeB N.k R N.a2 N.s2 N.a4 N.a5 N.a6 N.a7 N.a8))∧Below w.heap.size w w':=by
 have HB:=hid' (Joins.below_alloc1 w (.cells (Array.mk N.cs) 25))
 have HC:=bareR N
 have e1:nodeB N.k R N.a2 N.s2 N.a4 N.a5 N.a6 N.a7 N.a8=(decide (N.s2=1) && decide (0≤N.a4) && decide (N.a4≤1000) && (decide (N.a5=-1) || decide (N.a4≤N.a5) && decide (N.a5≤1000)) && bareB N.r2 N.a2 N.s2 N.a4 N.a5 N.a6 N.a7 N.a8 false false true true false):=by simp [nodeB,hk,hr]
 rw [e1]
 generalize bareB N.r2 N.a2 N.s2 N.a4 N.a5 N.a6 N.a7 N.a8 false false true true false=q at HC ⊢
 have hm2:N.s2≤9223372036854775807:=by have:=ok.s;have:maxLen=9223372036854775807:=rfl;omega
 obtain ⟨k,r1,r2,r3,a2,s1,s2,s3,a4,a5,a6,a7,a8⟩:=N
 simp only at hk hm2
 subst hk
 clear ok hr hR e1
 by_cases h5:a5=-1
 ·subst h5
  go_enter Tryz.func101,Tryz.ntmps101
  go_wp2_with (first | (go_at_call 147;(with_reducible refine (HC _).mono ?_);rintro e w3 ⟨rfl,hb3⟩;have HB3:=hid' hb3;clear hb3 HC))
  all_goals go_ret
  all_goals (refine ⟨ret_bool ?_,by first | exact HB.out | exact HB.out.trans (Joins.below_le HB3.out (by simp))⟩)
  all_goals clear HB
  all_goals (try clear HB3)
  all_goals (try clear HC)
  all_goals (try clear HN)
  all_goals simp_all
  all_goals (intros;omega)
 ·have h5':(a5 == -1)=false:=by simpa using h5
  go_enter Tryz.func101,Tryz.ntmps101
  go_wp2_with (first | (go_at_call 147;(with_reducible refine (HC _).mono ?_);rintro e w3 ⟨rfl,hb3⟩;have HB3:=hid' hb3;clear hb3 HC))
  all_goals go_ret
  all_goals (refine ⟨ret_bool ?_,by first | exact HB.out | exact HB.out.trans (Joins.below_le HB3.out (by simp))⟩)
  all_goals clear HB
  all_goals (try clear HB3)
  all_goals (try clear HC)
  all_goals (try clear HN)
  all_goals simp_all
  all_goals (intros;omega)
set_option maxRecDepth 100000 in
set_option maxHeartbeats 8000000 in
theorem node60G (N:Nv) (R:List (Int × Int)) (w:World) (ok:N.ok) (hr:N.r2=R.length) (hR:R2 w w.heap.size N.r1 R) (hk:N.k=7) :
  Calls Tryz.prog 101 #[N.v] w fun e w'=>e=.returned (.bool (nodeB N.k R N.a2 N.s2 N.a4 N.a5 N.a6 N.a7 N.a8))∧Below w.heap.size w w':=by
 have HB:=hid' (Joins.below_alloc1 w (.cells (Array.mk N.cs) 25))
 have HC:=bareG N
 have HN:=fun w=>name75 N.a8 w (by have:=ok.a8;have:maxLen=9223372036854775807:=rfl;omega)
 have e1:nodeB N.k R N.a2 N.s2 N.a4 N.a5 N.a6 N.a7 N.a8=(decide (N.s2=1) && decide (1≤N.a7) && decide (N.a7≤500) && (N.a8.toList.isEmpty || nameB N.a8) && bareB N.r2 N.a2 N.s2 N.a4 N.a5 N.a6 N.a7 N.a8 false false true false true):=by simp [nodeB,hk,hr]
 rw [e1]
 generalize bareB N.r2 N.a2 N.s2 N.a4 N.a5 N.a6 N.a7 N.a8 false false true false true=q at HC ⊢
 generalize nameB N.a8=q2 at HN ⊢
 have hm2:N.s2≤9223372036854775807:=by have:=ok.s;have:maxLen=9223372036854775807:=rfl;omega
 obtain ⟨k,r1,r2,r3,a2,s1,s2,s3,a4,a5,a6,a7,a8⟩:=N
 simp only at hk hm2
 subst hk
 clear ok hr hR e1
 go_enter Tryz.func101,Tryz.ntmps101
 go_wp2_with (first | (go_at_call 149;(with_reducible refine (HN _).mono ?_);rintro e w2 ⟨rfl,hww⟩;subst hww) | (go_at_call 147;(with_reducible refine (HC _).mono ?_);rintro e w3 ⟨rfl,hb3⟩;have HB3:=hid' hb3;clear hb3 HC))
 all_goals go_ret
 all_goals (refine ⟨ret_bool ?_,by first | exact HB.out | exact HB.out.trans (Joins.below_le HB3.out (by simp))⟩)
 all_goals clear HB
 all_goals (try clear HB3)
 all_goals (try clear HC)
 all_goals (try clear HN)
 all_goals simp_all
 all_goals (intros;omega)
set_option maxRecDepth 100000 in
set_option maxHeartbeats 8000000 in
theorem node60O (N:Nv) (R:List (Int × Int)) (w:World) (ok:N.ok) (hr:N.r2=R.length) (hR:R2 w w.heap.size N.r1 R) (hk:N.k≠1∧N.k≠2∧N.k≠3∧N.k≠4∧N.k≠5∧N.k≠6∧N.k≠7) :
  Calls Tryz.prog 101 #[N.v] w fun e w'=>e=.returned (.bool (nodeB N.k R N.a2 N.s2 N.a4 N.a5 N.a6 N.a7 N.a8))∧Below w.heap.size w w':=by
 have HB:=hid' (Joins.below_alloc1 w (.cells (Array.mk N.cs) 25))
 rw [nodeB_ne hk]
 obtain ⟨k1,k2,k3,k4,k5,k6,k7⟩:=hk
 have j1:(N.k == 1)=false:=by simpa using k1
 have j2:(N.k == 2)=false:=by simpa using k2
 have j3:(N.k == 3)=false:=by simpa using k3
 have j4:(N.k == 4)=false:=by simpa using k4
 have j5:(N.k == 5)=false:=by simpa using k5
 have j6:(N.k == 6)=false:=by simpa using k6
 have j7:(N.k == 7)=false:=by simpa using k7
 obtain ⟨k,r1,r2,r3,a2,s1,s2,s3,a4,a5,a6,a7,a8⟩:=N
 simp only at j1 j2 j3 j4 j5 j6 j7
 clear ok hr hR k1 k2 k3 k4 k5 k6 k7
 go_enter Tryz.func101,Tryz.ntmps101
 go_wp2
 go_ret
 exact ⟨rfl,HB.out⟩
theorem node60 (N:Nv) (R:List (Int × Int)) (w:World) (ok:N.ok) (hr:N.r2=R.length) (hR:R2 w w.heap.size N.r1 R) :
  Calls Tryz.prog 101 #[N.v] w fun e w'=>e=.returned (.bool (nodeB N.k R N.a2 N.s2 N.a4 N.a5 N.a6 N.a7 N.a8))∧Below w.heap.size w w':=by
 by_cases k1:N.k=1
 ·exact node60E N R w ok hr hR k1
 by_cases k2:N.k=2
 ·exact node60C N R w ok hr hR k2
 by_cases k3:N.k=3
 ·exact node60A N R w ok hr hR k3
 by_cases k4:N.k=4
 ·exact node60S4 N R w ok hr hR k4
 by_cases k5:N.k=5
 ·exact node60S5 N R w ok hr hR k5
 by_cases k6:N.k=6
 ·exact node60R N R w ok hr hR k6
 by_cases k7:N.k=7
 ·exact node60G N R w ok hr hR k7
 ·exact node60O N R w ok hr hR ⟨k1,k2,k3,k4,k5,k6,k7⟩
mutual
def Tn.ct:Tn→Int→Int→Int
 | .mk k R a s mn mx lz ix nm,l,d=>if nodeB k R a s.length mn mx lz ix nm=true∧d≤10000 then ctL s (l - 1) (d + 1) else -1
def ctL:List Tn→Int→Int→Int
 | [],l,_=>l
 | t :: ts,l,d=>if l < 0 then l else ctL ts (t.ct l d) d
end
theorem ctL_neg (ts:List Tn) (l d:Int) (h:l < 0):ctL ts l d=l:=by cases ts <;> simp [ctL,h]
mutual
theorem Tn.ct_spec:∀ (t:Tn) (l d:Int),0≤l→d≤10001→(t.ct l d≤l - 1∨t.ct l d=-1)∧(-1≤t.ct l d)∧(0≤t.ct l d↔t.fine=true∧(t.depth:Int) + d≤10001∧(t.nodes:Int)≤l)∧(0≤t.ct l d→t.ct l d=l - t.nodes)
 | .mk k R a s mn mx lz ix nm,l,d,h,hd=>by
  simp only [Tn.ct,Tn.nodes,Tn.fine,Tn.depth]
  by_cases hn:nodeB k R a s.length mn mx lz ix nm=true∧d≤10000
  ·have:=ctL_spec s (l - 1) (d + 1) (by omega) (by omega)
   rw [if_pos hn]
   simp only [hn.1,Bool.true_and]
   refine ⟨by omega,by omega,?_,by omega⟩
   rw [this.2.2.1]
   constructor
   ·rintro ⟨h1,h2,h3⟩;exact ⟨h1,by omega,by omega⟩
   ·rintro ⟨h1,h2,h3⟩;exact ⟨h1,by omega,by omega⟩
  ·rw [if_neg hn]
   refine ⟨by omega,by omega,?_,by omega⟩
   constructor
   ·intro h;omega
   ·rintro ⟨h1,h2,h3⟩
    rw [Bool.and_eq_true] at h1
    exact absurd ⟨h1.1,by omega⟩ hn
theorem ctL_spec:∀ (ts:List Tn) (l d:Int),-1≤l→d≤10001→(ctL ts l d≤l∨ctL ts l d=-1)∧(-1≤ctL ts l d)∧(0≤ctL ts l d↔fineL ts=true∧(depthL ts:Int) + d≤10001∧(nodesL ts:Int)≤l)∧(0≤ctL ts l d→ctL ts l d=l - nodesL ts)
 | [],l,d,h,hd=>by simp [ctL,nodesL,fineL,depthL];omega
 | t :: ts,l,d,h,hd=>by
  simp only [ctL,nodesL,fineL,depthL]
  by_cases hl:l < 0
  ·rw [if_pos hl]
   refine ⟨by omega,by omega,?_,by omega⟩
   constructor
   ·intro h;omega
   ·rintro ⟨h1,h2,h3⟩;have:=t.pos;omega
  ·have h1:=Tn.ct_spec t l d (by omega) hd
   have h2:=ctL_spec ts (t.ct l d) d (by omega) hd
   rw [if_neg hl]
   refine ⟨by omega,by omega,?_,?_⟩
   ·constructor
    ·intro h
     obtain ⟨a1,a2,a3⟩:=h2.2.2.1.1 h
     have hc:0≤t.ct l d:=by omega
     obtain ⟨b1,b2,b3⟩:=h1.2.2.1.1 hc
     have:=h1.2.2.2 hc
     exact ⟨by rw [b1,a1];rfl,by omega,by omega⟩
    ·rintro ⟨a1,a2,a3⟩
     rw [Bool.and_eq_true] at a1
     have hc:=h1.2.2.1.2 ⟨a1.1,by omega,by omega⟩
     have:=h1.2.2.2 hc
     exact h2.2.2.1.2 ⟨a1.2,by omega,by omega⟩
   ·intro h
    have hc:0≤t.ct l d:=by
     by_cases hc:0≤t.ct l d
     ·exact hc
     ·rw [ctL_neg _ _ _ (by omega)] at h;omega
    have:=h1.2.2.2 hc
    have:=h2.2.2.2 h
    omega
end
theorem ctL_drop (ts:List Tn) (i:Nat) (hi:i < ts.length) (l d:Int) (h:0≤l):ctL (ts.drop i) l d=ctL (ts.drop (i + 1)) (ts[i].ct l d) d:=by
 rw [List.drop_eq_getElem_cons hi]
 simp only [ctL]
 rw [if_neg (by omega)]
theorem sound_ct (t:Tn):decide (0≤t.ct 200000 1)=t.sound:=by
 have:=(t.ct_spec 200000 1 (by omega) (by omega)).2.2.1
 rw [Bool.eq_iff_iff,decide_eq_true_eq,this]
 simp only [Tn.sound,Bool.and_eq_true,decide_eq_true_eq]
 constructor
 ·rintro ⟨h1,h2,h3⟩;exact ⟨⟨h1,by omega⟩,by omega⟩
 ·rintro ⟨⟨h1,h2⟩,h3⟩;exact ⟨h1,by omega,by omega⟩
set_option maxRecDepth 100000 in
set_option maxHeartbeats 8000000 in
theorem count47 {w0:World} {B:Nat} {N:Nv} {t:Tn} (h:TI w0 B N t):∀ (l d:Int) (w:World),0≤l∧l≤4194304→0≤d∧d≤10001→B≤w.heap.size→(∀ b,b < B→w.heap[b]?=w0.heap[b]?) →
  Calls Tryz.prog 64 #[N.v,.int .i64 l,.int .i64 d] w fun e w'=>e=.returned (.int .i64 (t.ct l d))∧Below w.heap.size w w':=by
 induction h with
 | @mk N R ts ND ok hr hR hRk hs hS hk ih =>
 intro l d w hl hd hB hw
 have HN:=node60 N R (w.alloc (.cells #[.int .i64 N.k,.slice N.r1 N.r2 N.r3,.int .i64 N.a2,.slice N.s1 N.s2 N.s3,.int .i64 N.a4,.int .i64 N.a5,.bool N.a6,.int .i64 N.a7,.string N.a8] 25)) ok hr ((hR.kept (fun b hb=>(heap_alloc_old w _ (by omega)).trans (hw b hb))).le (by simp;omega))
 have hmax:=ok.s
 obtain ⟨k,r1,r2,r3,a2,s1,s2,s3,a4,a5,a6,a7,a8⟩:=N
 dsimp only at hs hS hmax HN
 simp only [Tn.ct]
 rw [show nodeB k R a2 s2 a4 a5 a6 a7 a8=nodeB k R a2 ts.length a4 a5 a6 a7 a8 by rw [hs]] at HN
 have ad0:IntKind.i64.wrap (l - 1)=l - 1:=by simp [IntKind.wrap,IntKind.bits,IntKind.signed];omega
 have adD:IntKind.i64.wrap (d + 1)=d + 1:=by simp [IntKind.wrap,IntKind.bits,IntKind.signed];omega
 generalize nodeB k R a2 ts.length a4 a5 a6 a7 a8=nb at HN ⊢
 have HW:=hid' hw
 have HS:=hid' hS
 have IH:=hid' ih
 have hm2:s2≤9223372036854775807:=by have:maxLen=9223372036854775807:=rfl;omega
 have HL:=hid' hs
 clear ok hr hR hRk hk hS hw ih hmax hs
 have HAL:=hid' (Joins.below_alloc1 w (.cells #[.int .i64 k,.slice r1 r2 r3,.int .i64 a2,.slice s1 s2 s3,.int .i64 a4,.int .i64 a5,.bool a6,.int .i64 a7,.string a8] 25))
 have HNB:=hid' (heap_alloc_new w (.cells #[.int .i64 k,.slice r1 r2 r3,.int .i64 a2,.slice s1 s2 s3,.int .i64 a4,.int .i64 a5,.bool a6,.int .i64 a7,.string a8] 25))
 cases nb
 ·simp only [Bool.false_eq_true,false_and,if_false]
  go_enter Tryz.func64,Tryz.ntmps64
  go_wp2_with (first | (go_at_call 101;(with_reducible refine HN.mono ?_);rintro e w1 ⟨rfl,hb1⟩;have HB1:=hid' hb1;clear hb1 HN))
  go_ret
  exact ⟨rfl,HAL.out.trans (Joins.below_le HB1.out (by simp))⟩
 by_cases hdd:d≤10000
 ·have c1:decide (d > 10000)=false:=by simp;omega
  have c1':decide (10000 < d)=false:=by simp;omega
  rw [if_pos ⟨rfl,hdd⟩]
  obtain ⟨r,hrr⟩:∃ r,r=ctL ts (l - 1) (d + 1):=⟨_,rfl⟩
  rw [← hrr]
  have HR:=hid' hrr
  clear hrr
  go_enter Tryz.func64,Tryz.ntmps64
  go_wp2_with (first | (go_at_call 101;(with_reducible refine HN.mono ?_);rintro e w1 ⟨rfl,hb1⟩;obtain ⟨z0,z1,z2,z3,z4,z5,z6,z7,z8⟩:=nine' ((hb1.block w.heap.size (by simp)).trans HNB.out);have HB1:=hid' hb1;clear hb1 HN))
  have HF1:=hid' (HAL.out.trans (Joins.below_le HB1.out (by simp)))
  have HX1:=hid' ((HB1.out.block w.heap.size (by simp)).trans HNB.out)
  clear HAL HNB HB1 z0 z1 z2 z3 z4 z5 z6 z7 z8
  go_loopw [1,8] (fun u y wq=>∃ i:Nat,y=.int .i64 (i:Int)∧i≤s2∧(∃ q,u=.int .i64 q∧(-1≤q∧q≤4194304)∧Hid (ctL (ts.drop i) q (d + 1)=r))∧Hid (Below w.heap.size w wq)∧Hid (wq.heap[w.heap.size]?=some (.cells #[.int .i64 k,.slice r1 r2 r3,.int .i64 a2,.slice s1 s2 s3,.int .i64 a4,.int .i64 a5,.bool a6,.int .i64 a7,.string a8] 25 (0,0)))) (fun _ y _=>s2 - (intOf y).toNat)
  case atStart=>exact ⟨0,rfl,by omega,⟨l - 1,rfl,by omega,HR.out.symm⟩,HF1.out,HX1.out⟩
  case round =>
   obtain ⟨i,rfl,hi,⟨q,rfl,hq,HQ⟩,BK,BX⟩:=hrel
   obtain ⟨o0,o1,o2,o3,o4,o5,o6,o7,o8⟩:=nine' BX.out
   by_cases hil:i < s2
   ·have b1:decide ((i:Int) < (s2:Int))=true:=by simp;omega
    have b2:(i:Int) < (s2:Int):=by omega
    by_cases hq0:0≤q
    ·have b3:decide (q ≥ 0)=true:=by simp;omega
     have b3':decide (0≤q)=true:=by simp;omega
     have hlt:i < ts.length:=by rw [← HL.out];exact hil
     obtain ⟨b,o,hs1,hb,hc⟩:=HS.out (by omega)
     subst hs1
     have hwk:∀ b,b < B→wr.heap[b]?=w0.heap[b]?:=fun b hb=>(BK.out.block b (by omega)).trans (HW.out b hb)
     obtain ⟨n0,n1,n2,n3,n4,n5,n6,n7,n8⟩:=(hc i hlt).kept (hwk b hb)
     have HC:=IH.out i hlt q (d + 1) wr ⟨hq0,hq.2⟩ (by omega) (by have:=BK.out.size;omega) hwk
     have hsp:=Tn.ct_spec ts[i] q (d + 1) hq0 (by omega)
     rw [ctL_drop ts i hlt q (d + 1) hq0] at HQ
     obtain ⟨g,hg⟩:∃ g,g=ts[i].ct q (d + 1):=⟨_,rfl⟩
     rw [← hg] at HC HQ hsp
     have hg2:-1≤g∧g≤4194304:=by omega
     obtain ⟨M,hM⟩:∃ M,M=ND i:=⟨_,rfl⟩
     rw [← hM] at HC n0 n1 n2 n3 n4 n5 n6 n7 n8
     have ad1:IntKind.i64.wrap ((i:Int) + 1)=(i:Int) + 1:=by simp [IntKind.wrap,IntKind.bits,IntKind.signed];omega
     clear hM hg hwk hc hsp hlt
     go_wp2_with (first | (go_at_call 64;(with_reducible refine HC.mono ?_);rintro e w2 ⟨rfl,hb2⟩;have HB2:=hid' hb2;clear hb2 HC))
     refine ⟨⟨i + 1,by push_cast;rfl,by omega,⟨_,rfl,hg2,HQ.out⟩,?_,?_⟩,?_⟩
     ·exact BK.out.trans (Joins.below_le HB2.out BK.out.size)
     ·exact (HB2.out.block _ (Array.getElem?_eq_some_iff.1 BX.out).1).trans BX.out
     ·simp [intOf]
      omega
    ·have b3:decide (q ≥ 0)=false:=by simp;omega
     have b3':decide (0≤q)=false:=by simp;omega
     have e:=HQ.out
     rw [ctL_neg _ _ _ (by omega)] at e
     go_wp2
     go_ret
     exact ⟨by first | rfl | exact ret_int e,BK.out⟩
   ·have b1:decide ((i:Int) < (s2:Int))=false:=by simp;omega
    obtain rfl:i=s2:=by omega
    have e:=HQ.out
    rw [HL.out,List.drop_length] at e
    simp only [ctL] at e
    go_wp2
    go_ret
    exact ⟨by first | rfl | exact ret_int e,BK.out⟩
 ·have c1:decide (d > 10000)=true:=by simp;omega
  have c1':decide (10000 < d)=true:=by simp;omega
  rw [if_neg (fun h=>hdd h.2)]
  go_enter Tryz.func64,Tryz.ntmps64
  go_wp2_with (first | (go_at_call 101;(with_reducible refine HN.mono ?_);rintro e w1 ⟨rfl,hb1⟩;have HB1:=hid' hb1;clear hb1 HN))
  go_ret
  exact ⟨rfl,HAL.out.trans (Joins.below_le HB1.out (by simp))⟩
theorem sound25 {w:World} {N:Nv} {t:Tn} (h:TI w w.heap.size N t):Calls Tryz.prog 32 #[N.v] w fun e w'=>e=.returned (.int .i64 (if t.sound then 0 else 50))∧Below w.heap.size w w':=by
 have HC:=count47 h 200000 1 (w.alloc (.cells (Array.mk N.cs) 25)) (by omega) (by omega) (by simp) (fun b hb=>heap_alloc_old w _ hb)
 have HS:=sound_ct t
 obtain ⟨k,r1,r2,r3,a2,s1,s2,s3,a4,a5,a6,a7,a8⟩:=N
 obtain ⟨g,hg⟩:∃ g,g=t.ct 200000 1:=⟨_,rfl⟩
 rw [← hg] at HC HS
 rw [← HS]
 clear hg HS
 by_cases h0:0≤g
 ·have e1:decide (g < 0)=false:=by simp;omega
  rw [decide_eq_true h0]
  go_enter Tryz.func32,Tryz.ntmps32
  go_wp2_with (first | (go_at_call 64;(with_reducible refine HC.mono ?_);rintro e w2 ⟨rfl,hb2⟩;have HB2:=hid' hb2;clear hb2 HC))
  go_ret
  exact ⟨rfl,(Joins.below_alloc1 w _).trans (Joins.below_le HB2.out (by simp))⟩
 ·have e1:decide (g < 0)=true:=by simp;omega
  rw [decide_eq_false h0]
  go_enter Tryz.func32,Tryz.ntmps32
  go_wp2_with (first | (go_at_call 64;(with_reducible refine HC.mono ?_);rintro e w2 ⟨rfl,hb2⟩;have HB2:=hid' hb2;clear hb2 HC))
  go_ret
  exact ⟨rfl,(Joins.below_alloc1 w _).trans (Joins.below_le HB2.out (by simp))⟩
theorem bx_lt {w:World} {b:Nat} {t:TypeId} {v:Value} (h:Bx w b t v):b < w.heap.size:=(Array.getElem?_eq_some_iff.1 h).1



theorem one_new (w2:World) (u:Value) (t:TypeId):∀ j y,[u][j]?=some y→(w2.alloc (.cells #[u] t)).cell? ((⟨w2.heap.size,0,none⟩:Addr).add j)=some y:=by
 intro j y hj
 match j,hj with
 | 0,hj=>simp at hj;subst hj;simp [Addr.add]

mutual
def Tn.gi:Tn→Int
 | .mk _ _ _ s _ _ _ ix _=>giL s ix
def giL:List Tn→Int→Int
 | [],m=>m
 | t :: ts,m=>giL ts (max m t.gi)
end
theorem giL_drop (ts:List Tn) (i:Nat) (hi:i < ts.length) (m:Int):giL (ts.drop i) m=giL (ts.drop (i + 1)) (max m ts[i].gi):=by
 rw [List.drop_eq_getElem_cons hi]
 simp only [giL]


end Go.Proofs.YtacaanhnlfpbhaaGreat
namespace Go.Proofs.YtacaanhnlfpbhaaGreat
set_option linter.unusedVariables false
set_option linter.unusedSimpArgs false


end Go.Proofs.YtacaanhnlfpbhaaGreat
namespace Go.Proofs.YtacaanhnlfpbhaaGreat
open Go.RowKit
set_option linter.unusedVariables false
set_option linter.unusedSimpArgs false


end Go.Proofs.YtacaanhnlfpbhaaGreat
namespace Go.Proofs.YtacaanhnlfpbhaaGreat
open Go.RowKit Go.Lk
set_option linter.unusedVariables false
set_option linter.unusedSimpArgs false




end Go.Proofs.YtacaanhnlfpbhaaGreat
namespace Go.Proofs.YtacaanhnlfpbhaaGreat
open Go.RowKit
set_option linter.unusedVariables false
set_option linter.unusedSimpArgs false



theorem sound_parts {t:Tn} (h:t.sound=true):t.fine=true∧t.depth≤10000∧t.nodes≤200000:=by
 simp only [Tn.sound,Bool.and_eq_true,decide_eq_true_eq] at h
 exact ⟨h.1.1,h.1.2,h.2⟩







theorem step_append {P:Program} {w:World} {ops:Array Oper} {o:Oper} {a:Act} {K:Act→World→Prop} {Q:Exit→Act→World→Prop} {E:Prop} (hgd:o.guard=none) (s x:Operand) (t:TypeId)
  (ho:o.op=.call { callee:=.builtin .append,args:=#[s,x],argTypes:=#[t,t] })
  (base:Nat) (e:TypeId) (i:TypeInfo) (z:Value) (size bytes:Nat) (ht:P.underlying t=some (.slice e)) (hi:P.info? e=some i) (hz:i.zero=some z)
  (hsize:i.size=size) (hby:i.bytes=bytes) (hzs:z.cells.size=size) (hpos:0 < size)
  (v:Value) (n:Nat) (xs:List Value) (hs:a.eval s=v) (hown:w.ownsRow base e size v n xs)
  (ad:Addr) (m c:Nat) (news:List Value) (hx:a.eval x=.slice (some ad) m c) (hl:news.length=m * size) (hm:0 < m) (hnews:∀ j u,news[j]?=some u→w.cell? (ad.add j)=some u) (h1:∀ u ∈ news,u.oneCell'=true)
  (h63:n + m≤maxLen) (hbytes:(n + m) * bytes≤140737488355328) (hbase:base≤w.heap.size)
  (h:∀ v' w',Hid (w'.ownsRow base e size v' (n + m) (xs ++ news))→Hid (Moved w w' v v')→K (a.put o.dst v') w'):if Region.wanted o (yielded ops a.tmps)=true then Oper.wp P o a w K Q else E:=by
 have hw:Region.wanted o (yielded ops a.tmps)=true:=by simp [Region.wanted,hgd]
 rw [if_pos hw]
 obtain ⟨v',w',hr,h2,h3⟩:=run_append_moveN (P:=P) w base t o.type e i z size bytes ht hi hz hsize hby hzs hpos v n xs hown ad m c news hl hm hnews h1 h63 hbytes hbase
 unfold Oper.wp execOp
 simp only [ho,resolve,invoke,builtin,Sem.run_bind,Sem.run_pure,Result.andThen_ok,List.map_toArray,List.map_cons,List.map_nil,hs,hx,hr]
 exact h v' w' h2 h3
end Go.Proofs.YtacaanhnlfpbhaaGreat
