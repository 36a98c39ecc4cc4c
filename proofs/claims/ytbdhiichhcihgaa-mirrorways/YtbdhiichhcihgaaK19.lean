/- HELPERS: texts of ours put together. -/
import Derived.Test.YtbdhiichhcihgaaK01
import Derived.Test.YtbdhiichhcihgaaK17
import Derived.Test.YtbdhiichhcihgaaK16
import Derived.Deep.Cut
import Derived.Deep.CutRange
import Derived.Laws.EntriesVeiled
import Derived.WalkLawsBesides
import Derived.Lib.LazyBuf
import Derived.Laws.Rows
import Derived.Deep.MidRow
import Derived.Deep.OwnRows
namespace Go.Proofs.Ytbdhiichhcihgaa
open Go.RowKit
set_option linter.unusedVariables false
set_option linter.unusedSimpArgs false
theorem two_len (r s:Nat) (h:¬ (r = 0 ∧ s = 0)) (hr:r ≤ 9223372036854775807) (hs:s ≤ 9223372036854775807):(wrap64 ((r:Int) + (s:Int)) == 0) = false:=by
 have:wrap64 ((r:Int) + (s:Int)) ≠ 0:=by unfold wrap64;omega
 simpa using this
set_option maxRecDepth 100000 in
set_option maxHeartbeats 8000000 in
theorem zero80 (N:Nv) (w:World) (hk:N.k = 0) (hr:N.r2 ≤ 9223372036854775807) (hs:N.s2 ≤ 9223372036854775807) :
  Calls Try.prog 48 #[N.v] w fun e w' => e = .returned (.bool (bareB N.r2 N.a2 N.s2 N.a4 N.a5 N.a6 N.a7 N.a8 false false false false false)) ∧ Below w.heap.size w w':=by
 obtain ⟨k,r1,r2,r3,a2,s1,s2,s3,a4,a5,a6,a7,a8⟩:=N
 simp only at hk hr hs
 subst hk
 by_cases h0:r2 = 0 ∧ s2 = 0
 ·obtain ⟨rfl,rfl⟩:=h0
  go_enter Try.func48,Try.ntmps48
  go_wp2
  all_goals go_ret
  all_goals (refine ⟨ret_bool ?_,Joins.below_alloc1 w _⟩)
  all_goals simp_all [bareB]
 ·have e1:=two_len r2 s2 h0 hr hs
  have e2:bareB r2 a2 s2 a4 a5 a6 a7 a8 false false false false false = false:=by
   simp [bareB]
   intro h
   omega
  rw [e2]
  go_enter Try.func48,Try.ntmps48
  go_wp2
  go_ret
  exact ⟨rfl,Joins.below_alloc1 w _⟩
set_option maxHeartbeats 1000000 in
theorem right_long' (ad:Option Addr) (n cap:Nat) (w:World) (hS:5000 < n) (hS2:n ≤ 9223372036854775807) :
  Calls Try.prog 44 #[.slice ad n cap] w fun e w' => e = .returned (.bool false) ∧ Below w.heap.size w w':=by
 go_enter Try.func44,Try.ntmps44
 go_wp2
 go_ret
 exact ⟨rfl,Below.refl _ _⟩
theorem right76 (L:List (Int × Int)) (ad:Option Addr) (n cap:Nat) (w:World) (hn:n = L.length) (hS2:n ≤ 9223372036854775807) (hl:RowAt w.heap.size w (.slice ad n cap) L) :
  Calls Try.prog 44 #[.slice ad n cap] w fun e w' => e = .returned (.bool (rightB L)) ∧ Below w.heap.size w w':=by
 by_cases h:n ≤ 5000
 ·have e:rightB L = rightFrom 0 L:=by unfold rightB;rw [← hn];simp [h]
  rw [e]
  exact right_short L ad n cap w hn h hl
 ·have e:rightB L = false:=by unfold rightB;rw [← hn];simp [h]
  rw [e]
  exact right_long' ad n cap w (by omega) hS2
theorem isAssert77 (n:Int) (w:World):Calls Try.prog 45 #[.int .i64 n] w fun e w' => e = .returned (.bool (assertB n)) ∧ w' = w:=by
 go_enter Try.func45,Try.ntmps45
 go_wp2
 all_goals go_ret
 all_goals exact ⟨ret_bool (by simp_all [assertB]),rfl⟩
def countB (mn mx:Int):Bool:=decide (0 ≤ mn) && decide (mn ≤ 1000) && (decide (mx = -1) || decide (mn ≤ mx) && decide (mx ≤ 1000))
set_option maxRecDepth 100000 in
theorem isCount78g (mn mx:Int) (w:World):Calls Try.prog 46 #[.int .i64 mn,.int .i64 mx] w fun e w' => e = .returned (.bool (countB mn mx)) ∧ w' = w:=by
 go_enter Try.func46,Try.ntmps46
 go_wp2
 all_goals go_ret
 all_goals refine ⟨ret_bool ?_,rfl⟩
 all_goals (rw [Bool.eq_iff_iff];simp [countB])
 all_goals omega
theorem empty_list:(⟨#[]⟩:ByteArray).toList = []:=by rw [ByteArray.toList_eq]
theorem two_new (w:World) (o:Obj) (c:Array Value) (t:TypeId):((w.alloc o).alloc (.cells c t)).heap[w.heap.size + 1]? = some (.cells c t (0,0)):=by
 have e:(w.alloc o).heap.size = w.heap.size + 1:=by simp
 rw [← e]
 exact heap_alloc_new _ _
set_option maxRecDepth 100000 in
set_option maxHeartbeats 8000000 in
theorem sound61E (N:Nv) (R:List (Int × Int)) (w:World) (ok:N.ok) (hr:N.r2 = R.length) (hR:R2 w w.heap.size N.r1 R) (hk:N.k = 1) :
  Calls Try.prog 35 #[N.v] w fun e w' => e = .returned (.bool (nodeB N.k R N.a2 N.s2 N.a4 N.a5 N.a6 N.a7 N.a8)) ∧ Below w.heap.size w w':=by
 have hr2:N.r2 ≤ 9223372036854775807:=by have:=ok.r;have:maxLen = 9223372036854775807:=rfl;omega
 have hs2:N.s2 ≤ 9223372036854775807:=by have:=ok.s;have:maxLen = 9223372036854775807:=rfl;omega
 have HC:∀ w,Calls Try.prog 48 #[Nv.v { N with k:=0 }] w fun e w' => e = .returned (.bool (bareB N.r2 N.a2 N.s2 N.a4 N.a5 N.a6 N.a7 N.a8 false false false false false)) ∧ Below w.heap.size w w':=fun w => by
  have h:=zero80 { N with k:=0 } w rfl hr2 hs2
  have e:bareB ({ N with k:=0 }:Nv).r2 ({ N with k:=0 }:Nv).a2 ({ N with k:=0 }:Nv).s2 ({ N with k:=0 }:Nv).a4 ({ N with k:=0 }:Nv).a5 ({ N with k:=0 }:Nv).a6 ({ N with k:=0 }:Nv).a7 ({ N with k:=0 }:Nv).a8 false false false false false = bareB N.r2 N.a2 N.s2 N.a4 N.a5 N.a6 N.a7 N.a8 false false false false false:=by simp [bareB]
  rw [e] at h
  exact h
 have e1:nodeB N.k R N.a2 N.s2 N.a4 N.a5 N.a6 N.a7 N.a8 = bareB N.r2 N.a2 N.s2 N.a4 N.a5 N.a6 N.a7 N.a8 false false false false false:=by simp [nodeB,hk,hr]
 rw [e1]
 generalize bareB N.r2 N.a2 N.s2 N.a4 N.a5 N.a6 N.a7 N.a8 false false false false false = q at HC ⊢
 obtain ⟨k,r1,r2,r3,a2,s1,s2,s3,a4,a5,a6,a7,a8⟩:=N
 simp only at hk
 subst hk
 clear ok hr hR e1 hr2 hs2
 go_enter Try.func35,Try.ntmps35
 go_wp2_with (first | (go_at_call 48;(with_reducible refine (HC _).mono ?_);rintro e w3 ⟨rfl,hb3⟩;have HB3:=hid' hb3;clear hb3 HC))
 go_ret
 exact ⟨rfl,(below_two' w _ _).trans (Joins.below_le HB3.out (by simp;try omega))⟩
set_option maxRecDepth 100000 in
set_option maxHeartbeats 8000000 in
theorem sound61C (N:Nv) (R:List (Int × Int)) (w:World) (ok:N.ok) (hr:N.r2 = R.length) (hR:R2 w w.heap.size N.r1 R) (hk:N.k = 2) :
  Calls Try.prog 35 #[N.v] w fun e w' => e = .returned (.bool (nodeB N.k R N.a2 N.s2 N.a4 N.a5 N.a6 N.a7 N.a8)) ∧ Below w.heap.size w w':=by
 have hr2:N.r2 ≤ 9223372036854775807:=by have:=ok.r;have:maxLen = 9223372036854775807:=rfl;omega
 have hs2:N.s2 ≤ 9223372036854775807:=by have:=ok.s;have:maxLen = 9223372036854775807:=rfl;omega
 have HC:∀ w,Calls Try.prog 48 #[Nv.v { N with k:=0,r1:=none,r2:=0,r3:=0 }] w fun e w' => e = .returned (.bool (bareB N.r2 N.a2 N.s2 N.a4 N.a5 N.a6 N.a7 N.a8 true false false false false)) ∧ Below w.heap.size w w':=fun w => by
  have h:=zero80 { N with k:=0,r1:=none,r2:=0,r3:=0 } w rfl (by simp) hs2
  have e:bareB ({ N with k:=0,r1:=none,r2:=0,r3:=0 }:Nv).r2 ({ N with k:=0,r1:=none,r2:=0,r3:=0 }:Nv).a2 ({ N with k:=0,r1:=none,r2:=0,r3:=0 }:Nv).s2 ({ N with k:=0,r1:=none,r2:=0,r3:=0 }:Nv).a4 ({ N with k:=0,r1:=none,r2:=0,r3:=0 }:Nv).a5 ({ N with k:=0,r1:=none,r2:=0,r3:=0 }:Nv).a6 ({ N with k:=0,r1:=none,r2:=0,r3:=0 }:Nv).a7 ({ N with k:=0,r1:=none,r2:=0,r3:=0 }:Nv).a8 false false false false false = bareB N.r2 N.a2 N.s2 N.a4 N.a5 N.a6 N.a7 N.a8 true false false false false:=by simp [bareB]
  rw [e] at h
  exact h
 have HRR:∀ o o',Calls Try.prog 44 #[.slice N.r1 N.r2 N.r3] ((w.alloc o).alloc o') fun e w' => e = .returned (.bool (rightB R)) ∧ Below ((w.alloc o).alloc o').heap.size ((w.alloc o).alloc o') w':=fun o o' =>
  right76 R N.r1 N.r2 N.r3 _ hr hr2 ((R2.row (hR.kept (fun b hb => (heap_alloc_old _ _ (by simp;omega)).trans (heap_alloc_old w _ hb))) hr).below (Below.refl _ _) (Nat.le_refl _) (by simp;try omega))
 have e1:nodeB N.k R N.a2 N.s2 N.a4 N.a5 N.a6 N.a7 N.a8 = (rightB R && bareB N.r2 N.a2 N.s2 N.a4 N.a5 N.a6 N.a7 N.a8 true false false false false):=by simp [nodeB,hk,hr]
 rw [e1]
 generalize bareB N.r2 N.a2 N.s2 N.a4 N.a5 N.a6 N.a7 N.a8 true false false false false = q at HC ⊢
 generalize rightB R = q2 at HRR ⊢
 obtain ⟨k,r1,r2,r3,a2,s1,s2,s3,a4,a5,a6,a7,a8⟩:=N
 simp only at hk
 subst hk
 clear ok hr hR e1 hr2 hs2
 cases q2
 ·go_enter Try.func35,Try.ntmps35
  go_wp2_with (first | (go_at_call 44;(with_reducible refine (HRR _ _).mono ?_);rintro e w2 ⟨rfl,hb2⟩;obtain ⟨x0,x1,x2,x3,x4,x5,x6,x7,x8⟩:=nine' ((hb2.block (w.heap.size + 1) (by simp)).trans (two_new w _ _ _));have HB2:=hid' hb2;clear hb2 HRR) | (go_at_call 48;(with_reducible refine (HC _).mono ?_);rintro e w3 ⟨rfl,hb3⟩;have HB3:=hid' hb3;clear hb3 HC))
  go_ret
  exact ⟨rfl,(below_two' w _ _).trans (Joins.below_le HB2.out (by simp;try omega))⟩
 ·go_enter Try.func35,Try.ntmps35
  go_wp2_with (first | (go_at_call 44;(with_reducible refine (HRR _ _).mono ?_);rintro e w2 ⟨rfl,hb2⟩;obtain ⟨x0,x1,x2,x3,x4,x5,x6,x7,x8⟩:=nine' ((hb2.block (w.heap.size + 1) (by simp)).trans (two_new w _ _ _));have HB2:=hid' hb2;clear hb2 HRR) | (go_at_call 48;(with_reducible refine (HC _).mono ?_);rintro e w3 ⟨rfl,hb3⟩;have HB3:=hid' hb3;clear hb3 HC))
  go_ret
  exact ⟨by simp,((below_two' w _ _).trans (Joins.below_le HB2.out (by simp;try omega))).trans (Joins.below_le HB3.out (by have:=HB2.out.size;simp at this;omega))⟩
set_option maxRecDepth 100000 in
set_option maxHeartbeats 8000000 in
theorem sound61A (N:Nv) (R:List (Int × Int)) (w:World) (ok:N.ok) (hr:N.r2 = R.length) (hR:R2 w w.heap.size N.r1 R) (hk:N.k = 3) :
  Calls Try.prog 35 #[N.v] w fun e w' => e = .returned (.bool (nodeB N.k R N.a2 N.s2 N.a4 N.a5 N.a6 N.a7 N.a8)) ∧ Below w.heap.size w w':=by
 have hr2:N.r2 ≤ 9223372036854775807:=by have:=ok.r;have:maxLen = 9223372036854775807:=rfl;omega
 have hs2:N.s2 ≤ 9223372036854775807:=by have:=ok.s;have:maxLen = 9223372036854775807:=rfl;omega
 have HC:∀ w,Calls Try.prog 48 #[Nv.v { N with k:=0,a2:=0 }] w fun e w' => e = .returned (.bool (bareB N.r2 N.a2 N.s2 N.a4 N.a5 N.a6 N.a7 N.a8 false true false false false)) ∧ Below w.heap.size w w':=fun w => by
  have h:=zero80 { N with k:=0,a2:=0 } w rfl hr2 hs2
  have e:bareB ({ N with k:=0,a2:=0 }:Nv).r2 ({ N with k:=0,a2:=0 }:Nv).a2 ({ N with k:=0,a2:=0 }:Nv).s2 ({ N with k:=0,a2:=0 }:Nv).a4 ({ N with k:=0,a2:=0 }:Nv).a5 ({ N with k:=0,a2:=0 }:Nv).a6 ({ N with k:=0,a2:=0 }:Nv).a7 ({ N with k:=0,a2:=0 }:Nv).a8 false false false false false = bareB N.r2 N.a2 N.s2 N.a4 N.a5 N.a6 N.a7 N.a8 false true false false false:=by simp [bareB]
  rw [e] at h
  exact h
 have HAA:=isAssert77 N.a2
 have e1:nodeB N.k R N.a2 N.s2 N.a4 N.a5 N.a6 N.a7 N.a8 = (assertB N.a2 && bareB N.r2 N.a2 N.s2 N.a4 N.a5 N.a6 N.a7 N.a8 false true false false false):=by simp [nodeB,hk,hr]
 rw [e1]
 generalize bareB N.r2 N.a2 N.s2 N.a4 N.a5 N.a6 N.a7 N.a8 false true false false false = q at HC ⊢
 generalize assertB N.a2 = q2 at HAA ⊢
 obtain ⟨k,r1,r2,r3,a2,s1,s2,s3,a4,a5,a6,a7,a8⟩:=N
 simp only at hk
 subst hk
 clear ok hr hR e1 hr2 hs2
 cases q2
 ·go_enter Try.func35,Try.ntmps35
  go_wp2_with (first | (go_at_call 45;(with_reducible refine (HAA _).mono ?_);rintro e w2 ⟨rfl,hww⟩;subst hww) | (go_at_call 48;(with_reducible refine (HC _).mono ?_);rintro e w3 ⟨rfl,hb3⟩;have HB3:=hid' hb3;clear hb3 HC))
  go_ret
  exact ⟨rfl,below_two' w _ _⟩
 ·go_enter Try.func35,Try.ntmps35
  go_wp2_with (first | (go_at_call 45;(with_reducible refine (HAA _).mono ?_);rintro e w2 ⟨rfl,hww⟩;subst hww) | (go_at_call 48;(with_reducible refine (HC _).mono ?_);rintro e w3 ⟨rfl,hb3⟩;have HB3:=hid' hb3;clear hb3 HC))
  go_ret
  exact ⟨by simp,(below_two' w _ _).trans (Joins.below_le HB3.out (by simp;try omega))⟩
set_option maxRecDepth 100000 in
set_option maxHeartbeats 8000000 in
theorem sound61S4 (N:Nv) (R:List (Int × Int)) (w:World) (ok:N.ok) (hr:N.r2 = R.length) (hR:R2 w w.heap.size N.r1 R) (hk:N.k = 4) :
  Calls Try.prog 35 #[N.v] w fun e w' => e = .returned (.bool (nodeB N.k R N.a2 N.s2 N.a4 N.a5 N.a6 N.a7 N.a8)) ∧ Below w.heap.size w w':=by
 have hr2:N.r2 ≤ 9223372036854775807:=by have:=ok.r;have:maxLen = 9223372036854775807:=rfl;omega
 have hs2:N.s2 ≤ 9223372036854775807:=by have:=ok.s;have:maxLen = 9223372036854775807:=rfl;omega
 have HC:∀ w,Calls Try.prog 48 #[Nv.v { N with k:=0,s1:=none,s2:=0,s3:=0 }] w fun e w' => e = .returned (.bool (bareB N.r2 N.a2 N.s2 N.a4 N.a5 N.a6 N.a7 N.a8 false false true false false)) ∧ Below w.heap.size w w':=fun w => by
  have h:=zero80 { N with k:=0,s1:=none,s2:=0,s3:=0 } w rfl hr2 (by simp)
  have e:bareB ({ N with k:=0,s1:=none,s2:=0,s3:=0 }:Nv).r2 ({ N with k:=0,s1:=none,s2:=0,s3:=0 }:Nv).a2 ({ N with k:=0,s1:=none,s2:=0,s3:=0 }:Nv).s2 ({ N with k:=0,s1:=none,s2:=0,s3:=0 }:Nv).a4 ({ N with k:=0,s1:=none,s2:=0,s3:=0 }:Nv).a5 ({ N with k:=0,s1:=none,s2:=0,s3:=0 }:Nv).a6 ({ N with k:=0,s1:=none,s2:=0,s3:=0 }:Nv).a7 ({ N with k:=0,s1:=none,s2:=0,s3:=0 }:Nv).a8 false false false false false = bareB N.r2 N.a2 N.s2 N.a4 N.a5 N.a6 N.a7 N.a8 false false true false false:=by simp [bareB]
  rw [e] at h
  exact h
 have e1:nodeB N.k R N.a2 N.s2 N.a4 N.a5 N.a6 N.a7 N.a8 = (decide (2 ≤ N.s2) && bareB N.r2 N.a2 N.s2 N.a4 N.a5 N.a6 N.a7 N.a8 false false true false false):=by simp [nodeB,hk,hr]
 rw [e1]
 generalize bareB N.r2 N.a2 N.s2 N.a4 N.a5 N.a6 N.a7 N.a8 false false true false false = q at HC ⊢
 obtain ⟨k,r1,r2,r3,a2,s1,s2,s3,a4,a5,a6,a7,a8⟩:=N
 simp only at hk hr2 hs2
 subst hk
 clear ok hr hR e1
 by_cases h2:2 ≤ s2
 ·have b1:decide ((s2:Int) ≥ 2) = true:=by simp;omega
  have b2:decide ((2:Int) ≤ (s2:Int)) = true:=by simp;omega
  have e2:decide (2 ≤ s2) = true:=by simp;omega
  rw [e2]
  go_enter Try.func35,Try.ntmps35
  go_wp2_with (first | (go_at_call 48;(with_reducible refine (HC _).mono ?_);rintro e w3 ⟨rfl,hb3⟩;have HB3:=hid' hb3;clear hb3 HC))
  go_ret
  exact ⟨by simp,(below_two' w _ _).trans (Joins.below_le HB3.out (by simp;try omega))⟩
 ·have b1:decide ((s2:Int) ≥ 2) = false:=by simp;omega
  have b2:decide ((2:Int) ≤ (s2:Int)) = false:=by simp;omega
  have e2:decide (2 ≤ s2) = false:=by simp;omega
  rw [e2]
  go_enter Try.func35,Try.ntmps35
  go_wp2_with (first | (go_at_call 48;(with_reducible refine (HC _).mono ?_);rintro e w3 ⟨rfl,hb3⟩;have HB3:=hid' hb3;clear hb3 HC))
  go_ret
  exact ⟨by simp,below_two' w _ _⟩
set_option maxRecDepth 100000 in
set_option maxHeartbeats 8000000 in
theorem sound61S5 (N:Nv) (R:List (Int × Int)) (w:World) (ok:N.ok) (hr:N.r2 = R.length) (hR:R2 w w.heap.size N.r1 R) (hk:N.k = 5) :
  Calls Try.prog 35 #[N.v] w fun e w' => e = .returned (.bool (nodeB N.k R N.a2 N.s2 N.a4 N.a5 N.a6 N.a7 N.a8)) ∧ Below w.heap.size w w':=by
 have hr2:N.r2 ≤ 9223372036854775807:=by have:=ok.r;have:maxLen = 9223372036854775807:=rfl;omega
 have hs2:N.s2 ≤ 9223372036854775807:=by have:=ok.s;have:maxLen = 9223372036854775807:=rfl;omega
 have HC:∀ w,Calls Try.prog 48 #[Nv.v { N with k:=0,s1:=none,s2:=0,s3:=0 }] w fun e w' => e = .returned (.bool (bareB N.r2 N.a2 N.s2 N.a4 N.a5 N.a6 N.a7 N.a8 false false true false false)) ∧ Below w.heap.size w w':=fun w => by
  have h:=zero80 { N with k:=0,s1:=none,s2:=0,s3:=0 } w rfl hr2 (by simp)
  have e:bareB ({ N with k:=0,s1:=none,s2:=0,s3:=0 }:Nv).r2 ({ N with k:=0,s1:=none,s2:=0,s3:=0 }:Nv).a2 ({ N with k:=0,s1:=none,s2:=0,s3:=0 }:Nv).s2 ({ N with k:=0,s1:=none,s2:=0,s3:=0 }:Nv).a4 ({ N with k:=0,s1:=none,s2:=0,s3:=0 }:Nv).a5 ({ N with k:=0,s1:=none,s2:=0,s3:=0 }:Nv).a6 ({ N with k:=0,s1:=none,s2:=0,s3:=0 }:Nv).a7 ({ N with k:=0,s1:=none,s2:=0,s3:=0 }:Nv).a8 false false false false false = bareB N.r2 N.a2 N.s2 N.a4 N.a5 N.a6 N.a7 N.a8 false false true false false:=by simp [bareB]
  rw [e] at h
  exact h
 have e1:nodeB N.k R N.a2 N.s2 N.a4 N.a5 N.a6 N.a7 N.a8 = (decide (2 ≤ N.s2) && bareB N.r2 N.a2 N.s2 N.a4 N.a5 N.a6 N.a7 N.a8 false false true false false):=by simp [nodeB,hk,hr]
 rw [e1]
 generalize bareB N.r2 N.a2 N.s2 N.a4 N.a5 N.a6 N.a7 N.a8 false false true false false = q at HC ⊢
 obtain ⟨k,r1,r2,r3,a2,s1,s2,s3,a4,a5,a6,a7,a8⟩:=N
 simp only at hk hr2 hs2
 subst hk
 clear ok hr hR e1
 by_cases h2:2 ≤ s2
 ·have b1:decide ((s2:Int) ≥ 2) = true:=by simp;omega
  have b2:decide ((2:Int) ≤ (s2:Int)) = true:=by simp;omega
  have e2:decide (2 ≤ s2) = true:=by simp;omega
  rw [e2]
  go_enter Try.func35,Try.ntmps35
  go_wp2_with (first | (go_at_call 48;(with_reducible refine (HC _).mono ?_);rintro e w3 ⟨rfl,hb3⟩;have HB3:=hid' hb3;clear hb3 HC))
  go_ret
  exact ⟨by simp,(below_two' w _ _).trans (Joins.below_le HB3.out (by simp;try omega))⟩
 ·have b1:decide ((s2:Int) ≥ 2) = false:=by simp;omega
  have b2:decide ((2:Int) ≤ (s2:Int)) = false:=by simp;omega
  have e2:decide (2 ≤ s2) = false:=by simp;omega
  rw [e2]
  go_enter Try.func35,Try.ntmps35
  go_wp2_with (first | (go_at_call 48;(with_reducible refine (HC _).mono ?_);rintro e w3 ⟨rfl,hb3⟩;have HB3:=hid' hb3;clear hb3 HC))
  go_ret
  exact ⟨by simp,below_two' w _ _⟩
set_option maxRecDepth 100000 in
set_option maxHeartbeats 8000000 in
theorem sound61R (N:Nv) (R:List (Int × Int)) (w:World) (ok:N.ok) (hr:N.r2 = R.length) (hR:R2 w w.heap.size N.r1 R) (hk:N.k = 6) :
  Calls Try.prog 35 #[N.v] w fun e w' => e = .returned (.bool (nodeB N.k R N.a2 N.s2 N.a4 N.a5 N.a6 N.a7 N.a8)) ∧ Below w.heap.size w w':=by
 have hr2:N.r2 ≤ 9223372036854775807:=by have:=ok.r;have:maxLen = 9223372036854775807:=rfl;omega
 have hs2:N.s2 ≤ 9223372036854775807:=by have:=ok.s;have:maxLen = 9223372036854775807:=rfl;omega
 have HC:∀ w,Calls Try.prog 48 #[Nv.v { N with k:=0,s1:=none,s2:=0,s3:=0,a4:=0,a5:=0,a6:=false }] w fun e w' => e = .returned (.bool (bareB N.r2 N.a2 N.s2 N.a4 N.a5 N.a6 N.a7 N.a8 false false true true false)) ∧ Below w.heap.size w w':=fun w => by
  have h:=zero80 { N with k:=0,s1:=none,s2:=0,s3:=0,a4:=0,a5:=0,a6:=false } w rfl hr2 (by simp)
  have e:bareB ({ N with k:=0,s1:=none,s2:=0,s3:=0,a4:=0,a5:=0,a6:=false }:Nv).r2 ({ N with k:=0,s1:=none,s2:=0,s3:=0,a4:=0,a5:=0,a6:=false }:Nv).a2 ({ N with k:=0,s1:=none,s2:=0,s3:=0,a4:=0,a5:=0,a6:=false }:Nv).s2 ({ N with k:=0,s1:=none,s2:=0,s3:=0,a4:=0,a5:=0,a6:=false }:Nv).a4 ({ N with k:=0,s1:=none,s2:=0,s3:=0,a4:=0,a5:=0,a6:=false }:Nv).a5 ({ N with k:=0,s1:=none,s2:=0,s3:=0,a4:=0,a5:=0,a6:=false }:Nv).a6 ({ N with k:=0,s1:=none,s2:=0,s3:=0,a4:=0,a5:=0,a6:=false }:Nv).a7 ({ N with k:=0,s1:=none,s2:=0,s3:=0,a4:=0,a5:=0,a6:=false }:Nv).a8 false false false false false = bareB N.r2 N.a2 N.s2 N.a4 N.a5 N.a6 N.a7 N.a8 false false true true false:=by simp [bareB]
  rw [e] at h
  exact h
 have HN:=isCount78g N.a4 N.a5
 have e1:nodeB N.k R N.a2 N.s2 N.a4 N.a5 N.a6 N.a7 N.a8 = (decide (N.s2 = 1) && countB N.a4 N.a5 && bareB N.r2 N.a2 N.s2 N.a4 N.a5 N.a6 N.a7 N.a8 false false true true false):=by simp [nodeB,countB,hk,hr,Bool.and_assoc]
 rw [e1]
 generalize bareB N.r2 N.a2 N.s2 N.a4 N.a5 N.a6 N.a7 N.a8 false false true true false = q at HC ⊢
 generalize countB N.a4 N.a5 = q2 at HN ⊢
 obtain ⟨k,r1,r2,r3,a2,s1,s2,s3,a4,a5,a6,a7,a8⟩:=N
 simp only at hk hr2 hs2
 subst hk
 clear ok hr hR e1
 by_cases h2:s2 = 1
 ·subst h2
  cases q2
  ·go_enter Try.func35,Try.ntmps35
   go_wp2_with (first | (go_at_call 46;(with_reducible refine (HN _).mono ?_);rintro e w2 ⟨rfl,hww⟩;subst hww) | (go_at_call 48;(with_reducible refine (HC _).mono ?_);rintro e w3 ⟨rfl,hb3⟩;have HB3:=hid' hb3;clear hb3 HC))
   go_ret
   exact ⟨by simp,below_two' w _ _⟩
  ·go_enter Try.func35,Try.ntmps35
   go_wp2_with (first | (go_at_call 46;(with_reducible refine (HN _).mono ?_);rintro e w2 ⟨rfl,hww⟩;subst hww) | (go_at_call 48;(with_reducible refine (HC _).mono ?_);rintro e w3 ⟨rfl,hb3⟩;have HB3:=hid' hb3;clear hb3 HC))
   go_ret
   exact ⟨by simp,(below_two' w _ _).trans (Joins.below_le HB3.out (by simp;try omega))⟩
 ·have b1:((s2:Int) == 1) = false:=by simp;omega
  have e2:decide (s2 = 1) = false:=by simpa using h2
  rw [e2]
  go_enter Try.func35,Try.ntmps35
  go_wp2_with (first | (go_at_call 46;(with_reducible refine (HN _).mono ?_);rintro e w2 ⟨rfl,hww⟩;subst hww) | (go_at_call 48;(with_reducible refine (HC _).mono ?_);rintro e w3 ⟨rfl,hb3⟩;have HB3:=hid' hb3;clear hb3 HC))
  go_ret
  exact ⟨by simp,below_two' w _ _⟩
set_option maxRecDepth 100000 in
set_option maxHeartbeats 8000000 in
theorem sound61G (N:Nv) (R:List (Int × Int)) (w:World) (ok:N.ok) (hr:N.r2 = R.length) (hR:R2 w w.heap.size N.r1 R) (hk:N.k = 7) :
  Calls Try.prog 35 #[N.v] w fun e w' => e = .returned (.bool (nodeB N.k R N.a2 N.s2 N.a4 N.a5 N.a6 N.a7 N.a8)) ∧ Below w.heap.size w w':=by
 have hr2:N.r2 ≤ 9223372036854775807:=by have:=ok.r;have:maxLen = 9223372036854775807:=rfl;omega
 have hs2:N.s2 ≤ 9223372036854775807:=by have:=ok.s;have:maxLen = 9223372036854775807:=rfl;omega
 have HC:∀ w,Calls Try.prog 48 #[Nv.v { N with k:=0,s1:=none,s2:=0,s3:=0,a7:=0,a8:=⟨#[]⟩ }] w fun e w' => e = .returned (.bool (bareB N.r2 N.a2 N.s2 N.a4 N.a5 N.a6 N.a7 N.a8 false false true false true)) ∧ Below w.heap.size w w':=fun w => by
  have h:=zero80 { N with k:=0,s1:=none,s2:=0,s3:=0,a7:=0,a8:=⟨#[]⟩ } w rfl hr2 (by simp)
  have e:bareB ({ N with k:=0,s1:=none,s2:=0,s3:=0,a7:=0,a8:=⟨#[]⟩ }:Nv).r2 ({ N with k:=0,s1:=none,s2:=0,s3:=0,a7:=0,a8:=⟨#[]⟩ }:Nv).a2 ({ N with k:=0,s1:=none,s2:=0,s3:=0,a7:=0,a8:=⟨#[]⟩ }:Nv).s2 ({ N with k:=0,s1:=none,s2:=0,s3:=0,a7:=0,a8:=⟨#[]⟩ }:Nv).a4 ({ N with k:=0,s1:=none,s2:=0,s3:=0,a7:=0,a8:=⟨#[]⟩ }:Nv).a5 ({ N with k:=0,s1:=none,s2:=0,s3:=0,a7:=0,a8:=⟨#[]⟩ }:Nv).a6 ({ N with k:=0,s1:=none,s2:=0,s3:=0,a7:=0,a8:=⟨#[]⟩ }:Nv).a7 ({ N with k:=0,s1:=none,s2:=0,s3:=0,a7:=0,a8:=⟨#[]⟩ }:Nv).a8 false false false false false = bareB N.r2 N.a2 N.s2 N.a4 N.a5 N.a6 N.a7 N.a8 false false true false true:=by simp [bareB,empty_list]
  rw [e] at h
  exact h
 have HN:=fun w => name79 N.a8 w (by have:=ok.a8;have:maxLen = 9223372036854775807:=rfl;omega)
 have e1:nodeB N.k R N.a2 N.s2 N.a4 N.a5 N.a6 N.a7 N.a8 = (decide (N.s2 = 1) && decide (1 ≤ N.a7) && decide (N.a7 ≤ 500) && (N.a8.toList.isEmpty || nameB N.a8) && bareB N.r2 N.a2 N.s2 N.a4 N.a5 N.a6 N.a7 N.a8 false false true false true):=by simp [nodeB,hk,hr]
 rw [e1]
 generalize bareB N.r2 N.a2 N.s2 N.a4 N.a5 N.a6 N.a7 N.a8 false false true false true = q at HC ⊢
 generalize nameB N.a8 = q2 at HN ⊢
 obtain ⟨k,r1,r2,r3,a2,s1,s2,s3,a4,a5,a6,a7,a8⟩:=N
 simp only at hk hr2 hs2
 subst hk
 clear ok hr hR e1
 go_enter Try.func35,Try.ntmps35
 go_wp2_with (first | (go_at_call 47;(with_reducible refine (HN _).mono ?_);rintro e w2 ⟨rfl,hww⟩;subst hww) | (go_at_call 48;(with_reducible refine (HC _).mono ?_);rintro e w3 ⟨rfl,hb3⟩;have HB3:=hid' hb3;clear hb3 HC))
 all_goals go_ret
 all_goals (refine ⟨ret_bool ?_,by first | exact below_two' w _ _ | exact (below_two' w _ _).trans (Joins.below_le HB3.out (by simp;try omega))⟩)
 all_goals (try clear HB3)
 all_goals (try clear HC)
 all_goals (try clear HN)
 all_goals simp_all
 all_goals (intros;omega)
set_option maxRecDepth 100000 in
set_option maxHeartbeats 8000000 in
theorem sound61O (N:Nv) (R:List (Int × Int)) (w:World) (ok:N.ok) (hr:N.r2 = R.length) (hR:R2 w w.heap.size N.r1 R) (hk:N.k ≠ 1 ∧ N.k ≠ 2 ∧ N.k ≠ 3 ∧ N.k ≠ 4 ∧ N.k ≠ 5 ∧ N.k ≠ 6 ∧ N.k ≠ 7) :
  Calls Try.prog 35 #[N.v] w fun e w' => e = .returned (.bool (nodeB N.k R N.a2 N.s2 N.a4 N.a5 N.a6 N.a7 N.a8)) ∧ Below w.heap.size w w':=by
 have hr2:N.r2 ≤ 9223372036854775807:=by have:=ok.r;have:maxLen = 9223372036854775807:=rfl;omega
 have hs2:N.s2 ≤ 9223372036854775807:=by have:=ok.s;have:maxLen = 9223372036854775807:=rfl;omega
 rw [nodeB_ne hk]
 obtain ⟨k1,k2,k3,k4,k5,k6,k7⟩:=hk
 have j1:(N.k == 1) = false:=by simpa using k1
 have j2:(N.k == 2) = false:=by simpa using k2
 have j3:(N.k == 3) = false:=by simpa using k3
 have j4:(N.k == 4) = false:=by simpa using k4
 have j5:(N.k == 5) = false:=by simpa using k5
 have j6:(N.k == 6) = false:=by simpa using k6
 have j7:(N.k == 7) = false:=by simpa using k7
 obtain ⟨k,r1,r2,r3,a2,s1,s2,s3,a4,a5,a6,a7,a8⟩:=N
 simp only at j1 j2 j3 j4 j5 j6 j7
 clear ok hr hR k1 k2 k3 k4 k5 k6 k7
 go_enter Try.func35,Try.ntmps35
 go_wp2
 go_ret
 exact ⟨rfl,below_two' w _ _⟩
theorem sound61 (N:Nv) (R:List (Int × Int)) (w:World) (ok:N.ok) (hr:N.r2 = R.length) (hR:R2 w w.heap.size N.r1 R) :
  Calls Try.prog 35 #[N.v] w fun e w' => e = .returned (.bool (nodeB N.k R N.a2 N.s2 N.a4 N.a5 N.a6 N.a7 N.a8)) ∧ Below w.heap.size w w':=by
 by_cases k1:N.k = 1
 ·exact sound61E N R w ok hr hR k1
 by_cases k2:N.k = 2
 ·exact sound61C N R w ok hr hR k2
 by_cases k3:N.k = 3
 ·exact sound61A N R w ok hr hR k3
 by_cases k4:N.k = 4
 ·exact sound61S4 N R w ok hr hR k4
 by_cases k5:N.k = 5
 ·exact sound61S5 N R w ok hr hR k5
 by_cases k6:N.k = 6
 ·exact sound61R N R w ok hr hR k6
 by_cases k7:N.k = 7
 ·exact sound61G N R w ok hr hR k7
 ·exact sound61O N R w ok hr hR ⟨k1,k2,k3,k4,k5,k6,k7⟩
abbrev pt (b:Nat):Value:=.pointer (some ⟨b,0,none⟩)
abbrev Bx (w:World) (b:Nat) (t:TypeId) (v:Value):Prop:=w.heap[b]? = some (.cells #[v] t (0,0))
theorem bx0 {w:World} {b:Nat} {t:TypeId} {v:Value} (h:Bx w b t v):w.cell? ⟨b,0,none⟩ = some v:=Joins.cell_of_block h 0
theorem Chg.trans {w w1 w2:World} {F F' F2:List Nat} (h:Chg w w1 F F') (h2:Chg w1 w2 F' F2):Chg w w2 F F2:=by
 refine ⟨h2.os.trans h.os,h2.tape.trans h.tape,h2.output.trans h.output,Nat.le_trans h.size h2.size,fun k hk hn => ?_,fun k hk => ?_⟩
 ·refine (h2.block k (Nat.lt_of_lt_of_le hk h.size) (fun hm => ?_)).trans (h.block k hk hn)
  rcases h.new k hm with h3 | h3
  ·exact hn h3
  ·omega
 ·rcases h2.new k hk with h3 | h3
  ·exact h.new k h3
  ·right;have:=h.size;omega
theorem Chg.refl (w:World) (F:List Nat):Chg w w F F:=⟨rfl,rfl,rfl,Nat.le_refl _,fun _ _ _ => rfl,fun _ h => .inl h⟩
theorem Chg.alloc {w w':World} {F F':List Nat} (h:Chg w w' F F') (o:Obj):Chg w (w'.alloc o) F F':=
 ⟨h.os,h.tape,h.output,by have:=h.size;simp;omega,fun k hk hn => (heap_alloc_old w' o (by have:=h.size;omega)).trans (h.block k hk hn),h.new⟩
def RP (w:World) (A:Nat → Prop) (ad:Option Addr) (R:List (Int × Int)):Prop:=
 R ≠ [] → ∃ b o,ad = some ⟨b,o,none⟩ ∧ A b ∧ ∀ i (hi:i < R.length),w.cell? ⟨b,o + i * 2,none⟩ = some (.int .i64 R[i].1) ∧ w.cell? ⟨b,o + i * 2 + 1,none⟩ = some (.int .i64 R[i].2)
inductive TP (w:World) (A:Nat → Prop):Nv → Tn → Prop
 | mk {N:Nv} {R:List (Int × Int)} {ts:List Tn} {ND:Nat → Nv} (ok:N.ok) (hr:N.r2 = R.length) (hR:RP w A N.r1 R) (hRk:∀ x ∈ R,I64ok x.1 ∧ I64ok x.2) (hs:N.s2 = ts.length)
   (hS:0 < ts.length → ∃ b o,N.s1 = some ⟨b,o,none⟩ ∧ A b ∧ ∀ i,i < ts.length → N9 w b o i (ND i)) (hk:∀ i (hi:i < ts.length),TP w A (ND i) ts[i]) :
   TP w A N (.mk N.k R N.a2 ts N.a4 N.a5 N.a6 N.a7 N.a8)
theorem RP.kept {w w':World} {A A':Nat → Prop} {ad:Option Addr} {R:List (Int × Int)} (h:RP w A ad R) (hk:∀ b,A b → w'.heap[b]? = w.heap[b]?) (hA:∀ b,A b → A' b):RP w' A' ad R:=fun hn => by
 obtain ⟨b,o,h1,h2,h3⟩:=h hn
 exact ⟨b,o,h1,hA b h2,fun i hi => ⟨(cell_eq (hk b h2) _).trans (h3 i hi).1,(cell_eq (hk b h2) _).trans (h3 i hi).2⟩⟩
theorem TP.kept {w w':World} {A A':Nat → Prop} {N:Nv} {t:Tn} (h:TP w A N t) (hk:∀ b,A b → w'.heap[b]? = w.heap[b]?) (hA:∀ b,A b → A' b):TP w' A' N t:=by
 induction h with
 | mk ok hr hR hRk hs hS hkk ih =>
  refine .mk ok hr (hR.kept hk hA) hRk hs (fun hp => ?_) ih
  obtain ⟨b,o,h1,h2,h3⟩:=hS hp
  exact ⟨b,o,h1,hA b h2,fun i hi => (h3 i hi).kept (hk b h2)⟩
theorem TI.tp {w:World} {B:Nat} {N:Nv} {t:Tn} (h:TI w B N t):TP w (fun b => b < B) N t:=by
 induction h with
 | mk ok hr hR hRk hs hS hkk ih => exact .mk ok hr hR hRk hs hS ih
theorem TP.ti {w:World} {A:Nat → Prop} {B:Nat} {N:Nv} {t:Tn} (h:TP w A N t) (hA:∀ b,A b → b < B):TI w B N t:=by
 induction h with
 | mk ok hr hR hRk hs hS hkk ih =>
  refine .mk ok hr (fun hn => ?_) hRk hs (fun hp => ?_) ih
  ·obtain ⟨b,o,h1,h2,h3⟩:=hR hn;exact ⟨b,o,h1,hA b h2,h3⟩
  ·obtain ⟨b,o,h1,h2,h3⟩:=hS hp;exact ⟨b,o,h1,hA b h2,h3⟩
theorem TP.ok {w:World} {A:Nat → Prop} {N:Nv} {t:Tn} (h:TP w A N t):N.ok:=by cases h;assumption
theorem flat9 (MS:List Nv):∀ (j k:Nat) (hj:j < MS.length),k < 9 → (MS.flatMap Nv.cs)[j * 9 + k]? = (Nv.cs MS[j])[k]?:=by
 induction MS with
 | nil => intro j k hj;simp at hj
 | cons M MS ih =>
  intro j k hj hk
  rw [List.flatMap_cons]
  have e9:(Nv.cs M).length = 9:=rfl
  cases j with
  | zero => rw [List.getElem?_append_left (by rw [e9];omega)];simp
  | succ j =>
   rw [List.getElem?_append_right (by rw [e9];omega)]
   have:=ih j k (by simpa using hj) hk
   rw [e9,show (j + 1) * 9 + k - 9 = j * 9 + k by omega,this]
   rfl
theorem flat9_len (MS:List Nv):(MS.flatMap Nv.cs).length = MS.length * 9:=by
 induction MS with
 | nil => rfl
 | cons M MS ih =>
  have e9:(Nv.cs M).length = 9:=rfl
  rw [List.flatMap_cons,List.length_append,ih,e9,List.length_cons]
  omega
abbrev Z9:Value:=.agg #[.int .i64 0,.slice none 0 0,.int .i64 0,.slice none 0 0,.int .i64 0,.int .i64 0,.bool false,.int .i64 0,.string ⟨#[]⟩]
theorem info25:(Try.prog.info? 25).map (fun i => (i.zero,i.size,i.bytes)) = some (some Z9,9,112):=by kernel_rfl
theorem info53:(Try.prog.info? 39).map (fun i => (i.zero,i.size,i.bytes)) = some (some (.agg #[.int .i64 0,.int .i64 0]),2,16):=by kernel_rfl
theorem size25:(Try.prog.info? 25).map (·.size) = some 9:=by kernel_rfl
theorem one9a (M:Nv):(#[.int .i64 M.k,.slice M.r1 M.r2 M.r3,.int .i64 M.a2,.slice M.s1 M.s2 M.s3,.int .i64 M.a4,.int .i64 M.a5,.bool M.a6,.int .i64 M.a7,.string M.a8]:Array Value).all (·.oneCell') = true:=by simp [Value.oneCell']
theorem run_append_nil0 {P:Program} (t ty e:TypeId) (i:TypeInfo) (ht:P.underlying t = some (.slice e)) (hi:P.info? e = some i) (ad:Option Addr) (c:Nat) (w:World) :
  (Builtin.append_ #[t,t] ty #[.slice none 0 0,.slice ad 0 c]).run P w = .ok (.slice none 0 0) w:=by
 cases ad with
 | none => simp [Builtin.append_,run_underlying ht,sizeOf,typeInfo,hi,Builtin.lenOf,Builtin.firstCells]
 | some a => simp [Builtin.append_,run_underlying ht,sizeOf,typeInfo,hi,Builtin.lenOf,Builtin.firstCells,loadCells,loadCellsFrom]
theorem wpList_append_nil {P:Program} {w:World} {ops:Array Oper} {rest:List Oper} {o:Oper} {a:Act} {Q:Exit → Act → World → Prop} (hgd:o.guard = none) (s x:Operand) (t:TypeId)
  (ho:o.op = .call { callee:=.builtin .append,args:=#[s,x],argTypes:=#[t,t] })
  (e:TypeId) (i:TypeInfo) (z:Value) (size bytes:Nat) (ht:P.underlying t = some (.slice e)) (hi:P.info? e = some i) (hz:i.zero = some z)
  (hsize:i.size = size) (hby:i.bytes = bytes) (hzs:z.cells.size = size) (hpos:0 < size) (hs:a.eval s = .slice none 0 0)
  (ad:Option Addr) (m c:Nat) (news:List Value) (hx:a.eval x = .slice ad m c) (hl:news.length = m * size) (hnews:0 < m → ∃ b f,ad = some ⟨b,f,none⟩ ∧ ∀ j u,news[j]? = some u → w.cell? ⟨b,f + j,none⟩ = some u) (h1:∀ u ∈ news,u.oneCell' = true)
  (h63:m ≤ maxLen) (hbytes:m * bytes ≤ 140737488355328)
  (h:∀ v' w',Hid (w'.ownsRow w.heap.size e size v' m news) → Hid (Below w.heap.size w w') → Hid (∀ b,v'.ownBlock = some b → b < w'.heap.size) → wpList P ops Q rest (a.put o.dst v') w'):wpList P ops Q (o :: rest) a w:=by
 refine wpList_plain hgd fun K hK => ?_
 rcases Nat.eq_zero_or_pos m with h0 | h0
 ·subst h0
  have hn:news = []:=List.length_eq_zero_iff.1 (by omega)
  subst hn
  have hr:=run_append_nil0 (P:=P) t o.type e i ht hi ad c w
  unfold Oper.wp execOp
  simp only [ho,resolve,invoke,builtin,Sem.run_bind,Sem.run_pure,Result.andThen_ok,List.map_toArray,List.map_cons,List.map_nil,hs,hx,hr]
  exact hK _ _ (h _ _ (World.ownsRow_nil _ _ _ _) (Below.refl _ _) (fun b hb => by cases hb))
 ·obtain ⟨b,f,rfl,hc⟩:=hnews h0
  obtain ⟨v',w',hr,h2,h3⟩:=run_append_moveN (P:=P) w w.heap.size t o.type e i z size bytes ht hi hz hsize hby hzs hpos (.slice none 0 0) 0 [] (World.ownsRow_nil _ _ _ _) ⟨b,f,none⟩ m c news hl h0 (fun j u hj => by rw [Addr.add_mid];exact hc j u hj) h1 (by omega) (by rw [Nat.zero_add];exact hbytes) (Nat.le_refl _)
  unfold Oper.wp execOp
  simp only [ho,resolve,invoke,builtin,Sem.run_bind,Sem.run_pure,Result.andThen_ok,List.map_toArray,List.map_cons,List.map_nil,hs,hx,hr]
  have hb:Below w.heap.size w w':=by
   rcases h3 with ⟨_,h⟩ | ⟨_,h⟩ <;> exact ⟨h.os,h.tape,h.output,h.size,fun k hk => h.block k hk (by simp [Value.ownBlock])⟩
  have h2':w'.ownsRow w.heap.size e size v' m news:=by simpa using h2
  exact hK _ _ (h v' w' h2' hb (fun b hb => (h2.lt b hb).2))
def FR (w:World) (b n:Nat) (f:Nat → Nv):Prop:=(∃ arr:Array Value,w.heap[b]? = some (.cells arr 25 (0,0)) ∧ arr.size = n * 9) ∧ ∀ i,i < n → N9 w b 0 i (f i)
theorem FR.kept {w w':World} {b n:Nat} {f:Nat → Nv} (h:FR w b n f) (hk:w'.heap[b]? = w.heap[b]?):FR w' b n f:=by
 obtain ⟨⟨arr,h1,h2⟩,h3⟩:=h
 exact ⟨⟨arr,hk.trans h1,h2⟩,fun i hi => (h3 i hi).kept hk⟩
theorem FR.as {w:World} {b n:Nat} {f g:Nat → Nv} (h:FR w b n f) (he:∀ i,i < n → f i = g i):FR w b n g:=⟨h.1,fun i hi => by rw [← he i hi];exact h.2 i hi⟩
theorem FR.lt {w:World} {b n:Nat} {f:Nat → Nv} (h:FR w b n f):b < w.heap.size:=by
 obtain ⟨⟨arr,h1,h2⟩,h3⟩:=h
 exact (Array.getElem?_eq_some_iff.1 h1).1
theorem FR.there {w:World} {b n:Nat} {f:Nat → Nv} (h:FR w b n f) {i:Nat} (hi:i < n):w.there b (i * 9) 9:=fun j hj => by
 obtain ⟨⟨arr,h1,h2⟩,h3⟩:=h
 refine ⟨?_,Joins.unfrozen_of_block h1 _⟩
 rw [Joins.cell_of_block h1,Array.getElem?_eq_getElem (by omega)]
 rfl
theorem block_setCells {b:Nat} {t:TypeId}:∀ (vs:List Value) (o:Nat) (w:World) (arr:Array Value),w.heap[b]? = some (.cells arr t (0,0)) → ∃ arr',(w.setCells b o vs).heap[b]? = some (.cells arr' t (0,0)) ∧ arr'.size = arr.size
 | [],_,_,arr,h => ⟨arr,h,rfl⟩
 | v :: vs,o,w,arr,h => by
  obtain ⟨arr',h1,h2⟩:=block_setCells vs (o + 1) (w.setCell ⟨b,o,none⟩ v) _ (Joins.block_setCell (i:=o) h v)
  exact ⟨arr',h1,by simpa using h2⟩
theorem setCells_old (b:Nat):∀ (vs:List Value) (o:Nat) (w:World) (k:Nat),k ≠ b → (w.setCells b o vs).heap[k]? = w.heap[k]?
 | [],_,_,_,_ => rfl
 | v :: vs,o,w,k,h => (setCells_old b vs (o + 1) _ k h).trans (Below.heap_setCell _ _ _ _ h)
theorem Below.setCells {B b:Nat} (hb:B ≤ b):∀ (vs:List Value) (o:Nat) (a w:World),Below B a w → Below B a (w.setCells b o vs)
 | [],_,_,_,h => h
 | v :: vs,o,a,w,h => Below.setCells hb vs (o + 1) a _ (h.setCell (by exact hb) v)
theorem FR.set {w:World} {b n:Nat} {f:Nat → Nv} (h:FR w b n f) {i:Nat} (hi:i < n) (M:Nv):FR (w.setCells b (i * 9) (Nv.cs M)) b n (fun j => if j = i then M else f j):=by
 have ht:=h.there hi
 obtain ⟨⟨arr,h1,h2⟩,h3⟩:=h
 refine ⟨?_,fun j hj => ?_⟩
 ·obtain ⟨arr',g1,g2⟩:=block_setCells (Nv.cs M) (i * 9) w arr h1
  exact ⟨arr',g1,by omega⟩
 ·by_cases e:j = i
  ·subst e
   have hin:=World.cell?_setCells_in b (Nv.cs M) (j * 9) w (fun k hk => (ht k (by simpa using hk)).1)
   simp only [if_pos]
   unfold N9
   simp only [Nat.zero_add]
   exact ⟨hin 0 (by simp),hin 1 (by simp),hin 2 (by simp),hin 3 (by simp),hin 4 (by simp),hin 5 (by simp),hin 6 (by simp),hin 7 (by simp),hin 8 (by simp)⟩
  ·have hout:∀ k,k < 9 → (w.setCells b (i * 9) (Nv.cs M)).cell? ⟨b,0 + j * 9 + k,none⟩ = w.cell? ⟨b,0 + j * 9 + k,none⟩:=fun k hk => World.cell?_setCells_out b (Nv.cs M) (i * 9) w _ (fun _ _ => by simp only [List.length_cons,List.length_nil];omega)
   simp only [if_neg e]
   obtain ⟨n0,n1,n2,n3,n4,n5,n6,n7,n8⟩:=h3 j hj
   exact ⟨(hout 0 (by omega)).trans n0,(hout 1 (by omega)).trans n1,(hout 2 (by omega)).trans n2,(hout 3 (by omega)).trans n3,(hout 4 (by omega)).trans n4,(hout 5 (by omega)).trans n5,(hout 6 (by omega)).trans n6,(hout 7 (by omega)).trans n7,(hout 8 (by omega)).trans n8⟩
theorem make9 (c:Nat) (hc:c ≤ 1000000) (w:World):(Instr.makeSlice 23 (.int .i64 (c:Int)) (.int .i64 (c:Int))).run Try.prog w = .ok (.slice (some ⟨w.heap.size,0,none⟩) c c) (w.alloc (.cells (madeCells Z9.cells (c * 9)) 25)):=by
 obtain ⟨i0,hi0,hz0,hz1,hz2⟩:=info_parts info25
 have h:=run_make (P:=Try.prog) w 23 25 i0 Z9 Try.underlying23 hi0 hz0 .i64 .i64 c c (by omega) (Int.le_refl _) (by rw [hz2];omega) (by omega)
 simp only [Int.toNat_natCast,hz1] at h
 exact h
theorem FR.made (w:World) (c:Nat):FR (w.alloc (.cells (madeCells Z9.cells (c * 9)) 25)) w.heap.size c (fun _ => default):=by
 have hb:=heap_alloc_new w (.cells (madeCells Z9.cells (c * 9)) 25)
 refine ⟨⟨_,hb,size_madeCells _ _⟩,fun i hi => ?_⟩
 have hc:∀ k,k < 9 → (w.alloc (.cells (madeCells Z9.cells (c * 9)) 25)).cell? ⟨w.heap.size,0 + i * 9 + k,none⟩ = some (Z9.cells[k]!):=fun k hk => by
  rw [Joins.cell_of_block hb]
  have h9:Z9.cells.size = 9:=rfl
  simp only [madeCells,h9]
  rw [Array.getElem?_map,Array.getElem?_range,if_pos (by omega)]
  simp only [Option.map_some]
  rw [show (0 + i * 9 + k) % 9 = k by omega]
 exact ⟨hc 0 (by omega),hc 1 (by omega),hc 2 (by omega),hc 3 (by omega),hc 4 (by omega),hc 5 (by omega),hc 6 (by omega),hc 7 (by omega),hc 8 (by omega)⟩
theorem nine_cases {k:Nat} (hk:k < 9):k = 0 ∨ k = 1 ∨ k = 2 ∨ k = 3 ∨ k = 4 ∨ k = 5 ∨ k = 6 ∨ k = 7 ∨ k = 8:=by omega
theorem FR.owns {w:World} {b n:Nat} {f:Nat → Nv} (h:FR w b n f) (hn:n ≤ maxLen):w.ownsRow 0 25 9 (.slice (some ⟨b,0,none⟩) n n) n (((List.range n).map f).flatMap Nv.cs):=by
 obtain ⟨⟨arr,h1,h2⟩,h3⟩:=h
 refine ⟨by rw [flat9_len];simp,.inr ⟨b,n,arr,rfl,Nat.zero_le _,h1,Nat.le_refl _,hn,h2,?_⟩⟩
 apply List.ext_getElem?
 intro j
 by_cases hj:j < n * 9
 ·obtain ⟨i,r,hr,rfl⟩:∃ i r,r < 9 ∧ j = i * 9 + r:=⟨j / 9,j % 9,by omega,by omega⟩
  have hi:i < n:=by omega
  rw [flat9 ((List.range n).map f) i r (by simpa using hi) hr,List.getElem?_take_of_lt hj]
  simp only [List.getElem_map,List.getElem_range]
  obtain ⟨n0,n1,n2,n3,n4,n5,n6,n7,n8⟩:=h3 i hi
  rw [Array.getElem?_toList,← Joins.cell_of_block h1 (i * 9 + r)]
  simp only [Nat.zero_add] at n0 n1 n2 n3 n4 n5 n6 n7 n8
  rcases nine_cases hr with rfl | rfl | rfl | rfl | rfl | rfl | rfl | rfl | rfl
  ·exact n0
  ·exact n1
  ·exact n2
  ·exact n3
  ·exact n4
  ·exact n5
  ·exact n6
  ·exact n7
  ·exact n8
 ·rw [List.getElem?_eq_none (by simp;omega),List.getElem?_eq_none (by rw [flat9_len];simp;omega)]
end Go.Proofs.Ytbdhiichhcihgaa
