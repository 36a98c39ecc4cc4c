/- HELPERS: texts of ours put together. -/
import Derived.Test.YtacaanhnlfpbhaaGreatK01
import Derived.Deep.Cut
import Derived.Deep.CutRange
namespace Go.Proofs.YtacaanhnlfpbhaaGreat
open Go.RowKit
set_option linter.unusedVariables false
set_option linter.unusedSimpArgs false
def okC (c:Int) (i:Nat):Bool:=decide (97≤c∧c≤122∨65≤c∧c≤90∨c=95∨48≤c∧c≤57∧i≠0)
def okAt (s:ByteArray) (i:Nat):Bool:=if h:i < s.size then okC (s[i].toNat:Int) i else true
def nameB (s:ByteArray):Bool:=decide (1≤s.size) && decide (s.size≤32) && (List.range s.size).all (okAt s)
theorem okAt_eq {s:ByteArray} {i:Nat} (h:i < s.size):okAt s i=okC (s[i].toNat:Int) i:=by unfold okAt;rw [dif_pos h]
theorem name_false {s:ByteArray} (i:Nat) (hi:i < s.size) (h:okC (s[i].toNat:Int) i=false):nameB s=false:=by
 have e:(List.range s.size).all (okAt s)=false:=by
  rw [List.all_eq_false]
  exact ⟨i,by simpa using hi,by rw [okAt_eq hi,h];simp⟩
 unfold nameB
 rw [e];simp
theorem name_true {s:ByteArray} (h1:1≤s.size) (h2:s.size≤32) (h:∀ j,j < s.size→okAt s j=true):nameB s=true:=by
 unfold nameB
 rw [decide_eq_true h1,decide_eq_true h2]
 simpa using h
theorem name_long {s:ByteArray} (h:¬ (1≤s.size∧s.size≤32)):nameB s=false:=by
 unfold nameB
 by_cases h1:1≤s.size
 ·rw [decide_eq_false (show ¬ s.size≤32 by omega)];simp
 ·rw [decide_eq_false h1];simp
set_option maxRecDepth 100000 in
set_option maxHeartbeats 4000000 in
theorem word103 (c:Nat) (w:World) (hc:c < 256):Calls Tryz.prog 225 #[.int .i64 (c:Int)] w fun e w'=>e=.returned (.bool (okC (c:Int) 1))∧w'=w:=by
 go_enter Tryz.func225,Tryz.ntmps225
 go_wp2
 all_goals go_ret
 all_goals exact ⟨ret_bool (by rw [Bool.eq_iff_iff];simp [okC];omega),rfl⟩
theorem digit102 (c:Nat) (w:World) (hc:c < 256):Calls Tryz.prog 224 #[.int .u8 (c:Int)] w fun e w'=>e=.returned (.bool (decide (48≤(c:Int)∧(c:Int)≤57)))∧w'=w:=by
 go_enter Tryz.func224,Tryz.ntmps224
 go_wp2
 all_goals go_ret
 all_goals exact ⟨ret_bool (by rw [Bool.eq_iff_iff];simp;omega),rfl⟩
set_option maxRecDepth 100000 in
set_option maxHeartbeats 4000000 in
theorem name79s (s:ByteArray) (w:World) (h1:1≤s.size) (h2:s.size≤32):Calls Tryz.prog 172 #[.string s] w fun e w'=>e=.returned (.bool (nameB s))∧w'=w:=by
 have e1:s.toList.isEmpty=false:=by
  cases h:s.toList.isEmpty
  ·rfl
  ·exfalso
   rw [List.isEmpty_iff] at h
   have:s.toList.length=s.size:=by rw [ByteArray.toList_eq];exact Array.length_toList
   rw [h] at this
   simp at this
   omega
 have b2:decide ((s.size:Int) > 32)=false:=by simp;omega
 have b2':decide (32 < (s.size:Int))=false:=by simp;omega
 have b3:(0:Int) < (s.size:Int):=by omega
 have HD:=digit102 (s[0].toNat) w (by have:=s[0].toNat_lt;omega)
 obtain ⟨r,hr⟩:∃ r,r=nameB s:=⟨_,rfl⟩
 rw [← hr]
 have HR:=hid' hr
 clear hr
 by_cases hd:(48:Int)≤(s[0].toNat:Int)∧(s[0].toNat:Int)≤57
 ·rw [decide_eq_true hd] at HD
  have e:r=false:=by rw [HR.out];exact name_false 0 (by omega) (by simp [okC];omega)
  subst e
  go_enter Tryz.func172,Tryz.ntmps172
  go_wp2_with (first | (go_at_call 224;(with_reducible refine HD.mono ?_);rintro e w2 ⟨rfl,hww⟩;have hwv:=hww.symm;subst hwv;clear hww))
  go_ret
  exact ⟨rfl,rfl⟩
 ·rw [decide_eq_false hd] at HD
  go_enter Tryz.func172,Tryz.ntmps172
  go_wp2_with (first | (go_at_call 224;(with_reducible refine HD.mono ?_);rintro e w2 ⟨rfl,hww⟩;have hwv:=hww.symm;subst hwv;clear hww))
  go_loopw [18] (fun y wq=>∃ i:Nat,y=.int .i64 (i:Int)∧i≤s.size∧Hid (∀ j,j < i→okAt s j=true)∧wq=w) (fun y _=>s.size - (intOf y).toNat)
  case atStart=>exact ⟨0,rfl,by omega,fun j hj=>by omega,rfl⟩
  case round =>
   obtain ⟨i,rfl,hi,HJ,rfl⟩:=hrel
   by_cases hil:i < s.size
   ·have b1:decide ((i:Int) < (s.size:Int))=true:=by simp;omega
    have b2:(i:Int) < (s.size:Int):=by omega
    have ad1:IntKind.i64.wrap ((i:Int) + 1)=(i:Int) + 1:=by simp [IntKind.wrap,IntKind.bits,IntKind.signed];omega
    have hlt:=s[i].toNat_lt
    have HW:=word103 (s[i].toNat) wr (by omega)
    have ad2:IntKind.i64.wrap ((s[i].toNat:Nat):Int)=(s[i].toNat:Int):=by simp [IntKind.wrap,IntKind.bits,IntKind.signed];omega
    by_cases hw:okC (s[i].toNat:Int) 1=true
    ·have HC:∀ j,j < i + 1→okAt s j=true:=fun j hj=>by
      by_cases e:j=i
      ·subst e
       rw [okAt_eq hil]
       by_cases e0:j=0
       ·subst e0
        simp [okC] at hw hd ⊢
        omega
       ·simp [okC] at hw ⊢
        omega
      ·exact HJ.out j (by omega)
     have HC':=hid' HC
     rw [hw] at HW
     clear HC hlt HJ
     go_wp2_with (first | (go_at_call 225;(with_reducible refine HW.mono ?_);rintro e w2 ⟨rfl,rfl⟩))
     refine ⟨⟨i + 1,by push_cast;rfl,by omega,HC'.out,by trivial⟩,?_⟩
     simp [intOf]
     omega
    ·have hw':okC (s[i].toNat:Int) 1=false:=by simpa using hw
     have e:r=false:=by
      rw [HR.out]
      refine name_false i hil ?_
      simp [okC] at hw' ⊢
      omega
     rw [hw'] at HW
     subst e
     clear hlt HJ
     go_wp2_with (first | (go_at_call 225;(with_reducible refine HW.mono ?_);rintro e w2 ⟨rfl,rfl⟩))
     go_ret
     exact ⟨rfl,rfl⟩
   ·have b1:decide ((i:Int) < (s.size:Int))=false:=by simp;omega
    have e:r=true:=by rw [HR.out];exact name_true h1 h2 fun j hj=>HJ.out j (by omega)
    subst e
    go_wp2
    go_ret
    exact ⟨rfl,rfl⟩
theorem name79 (s:ByteArray) (w:World) (hs:s.size≤9223372036854775807):Calls Tryz.prog 172 #[.string s] w fun e w'=>e=.returned (.bool (nameB s))∧w'=w:=by
 by_cases h:1≤s.size∧s.size≤32
 ·exact name79s s w h.1 h.2
 ·rw [name_long h]
  by_cases h1:1≤s.size
  ·have e1:s.toList.isEmpty=false:=by
    cases h:s.toList.isEmpty
    ·rfl
    ·exfalso
     rw [List.isEmpty_iff] at h
     have:s.toList.length=s.size:=by rw [ByteArray.toList_eq];exact Array.length_toList
     rw [h] at this
     simp at this
     omega
   have b2:decide ((s.size:Int) > 32)=true:=by simp;omega
   have b2':decide (32 < (s.size:Int))=true:=by simp;omega
   go_enter Tryz.func172,Tryz.ntmps172
   go_wp2
   go_ret
   exact ⟨rfl,rfl⟩
  ·have e1:s.toList.isEmpty=true:=by
    rw [List.isEmpty_iff,← List.length_eq_zero_iff,ByteArray.toList_eq]
    exact Array.length_toList.trans (show s.size=0 by omega)
   go_enter Tryz.func172,Tryz.ntmps172
   go_wp2
   go_ret
   exact ⟨rfl,rfl⟩
def nodeB (k:Int) (R:List (Int × Int)) (a:Int) (n:Nat) (mn mx:Int) (lz:Bool) (ix:Int) (nm:ByteArray):Bool:=
 if k=1 then bareB R.length a n mn mx lz ix nm false false false false false
 else if k=2 then rightB R && bareB R.length a n mn mx lz ix nm true false false false false
 else if k=3 then assertB a && bareB R.length a n mn mx lz ix nm false true false false false
 else if k=4∨k=5 then decide (2≤n) && bareB R.length a n mn mx lz ix nm false false true false false
 else if k=6 then decide (n=1) && decide (0≤mn) && decide (mn≤1000) && (decide (mx=-1) || decide (mn≤mx) && decide (mx≤1000)) && bareB R.length a n mn mx lz ix nm false false true true false
 else if k=7 then decide (n=1) && decide (1≤ix) && decide (ix≤500) && (nm.toList.isEmpty || nameB nm) && bareB R.length a n mn mx lz ix nm false false true false true
 else false
theorem R2.row {w:World} {B:Nat} {N:Nv} {R:List (Int × Int)} (h:R2 w B N.r1 R) (hr:N.r2=R.length):RowAt B w (.slice N.r1 N.r2 N.r3) R:=by
 refine ⟨N.r1,N.r3,by rw [hr],?_⟩
 rcases R with _ | ⟨x,R⟩
 ·exact .inl rfl
 ·obtain ⟨b,o,h1,h2,h3⟩:=h (by simp)
  refine .inr ⟨b,o,h1,h2,fun k hk=>?_,fun k hk=>?_⟩
  ·rw [(h3 k hk).1];simp only [List.getD_eq_getElem?_getD,List.getElem?_eq_getElem hk,Option.getD_some]
  ·rw [(h3 k hk).2];simp only [List.getD_eq_getElem?_getD,List.getElem?_eq_getElem hk,Option.getD_some]
theorem nodeB_ne {k:Int} {R:List (Int × Int)} {a:Int} {n:Nat} {mn mx:Int} {lz:Bool} {ix:Int} {nm:ByteArray} (h:k≠1∧k≠2∧k≠3∧k≠4∧k≠5∧k≠6∧k≠7):nodeB k R a n mn mx lz ix nm=false:=by
 simp [nodeB,h]
theorem two_len (r s:Nat) (h:¬ (r=0∧s=0)) (hr:r≤9223372036854775807) (hs:s≤9223372036854775807):(wrap64 ((r:Int) + (s:Int)) == 0)=false:=by
 have:wrap64 ((r:Int) + (s:Int))≠0:=by unfold wrap64;omega
 simpa using this
set_option maxRecDepth 100000 in
set_option maxHeartbeats 8000000 in
theorem zero80 (N:Nv) (w:World) (hk:N.k=0) (hr:N.r2≤9223372036854775807) (hs:N.s2≤9223372036854775807) :
  Calls Tryz.prog 173 #[N.v] w fun e w'=>e=.returned (.bool (bareB N.r2 N.a2 N.s2 N.a4 N.a5 N.a6 N.a7 N.a8 false false false false false))∧Below w.heap.size w w':=by
 obtain ⟨k,r1,r2,r3,a2,s1,s2,s3,a4,a5,a6,a7,a8⟩:=N
 simp only at hk hr hs
 subst hk
 by_cases h0:r2=0∧s2=0
 ·obtain ⟨rfl,rfl⟩:=h0
  go_enter Tryz.func173,Tryz.ntmps173
  go_wp2
  all_goals go_ret
  all_goals (refine ⟨ret_bool ?_,Joins.below_alloc1 w _⟩)
  all_goals simp_all [bareB]
 ·have e1:=two_len r2 s2 h0 hr hs
  have e2:bareB r2 a2 s2 a4 a5 a6 a7 a8 false false false false false=false:=by
   simp [bareB]
   intro h
   omega
  rw [e2]
  go_enter Tryz.func173,Tryz.ntmps173
  go_wp2
  go_ret
  exact ⟨rfl,Joins.below_alloc1 w _⟩
set_option maxHeartbeats 1000000 in
theorem right_long' (ad:Option Addr) (n cap:Nat) (w:World) (hS:5000 < n) (hS2:n≤9223372036854775807) :
  Calls Tryz.prog 169 #[.slice ad n cap] w fun e w'=>e=.returned (.bool false)∧Below w.heap.size w w':=by
 go_enter Tryz.func169,Tryz.ntmps169
 go_wp2
 go_ret
 exact ⟨rfl,Below.refl _ _⟩
theorem right76 (L:List (Int × Int)) (ad:Option Addr) (n cap:Nat) (w:World) (hn:n=L.length) (hS2:n≤9223372036854775807) (hl:RowAt w.heap.size w (.slice ad n cap) L) :
  Calls Tryz.prog 169 #[.slice ad n cap] w fun e w'=>e=.returned (.bool (rightB L))∧Below w.heap.size w w':=by
 by_cases h:n≤5000
 ·have e:rightB L=rightFrom 0 L:=by unfold rightB;rw [← hn];simp [h]
  rw [e]
  exact right_short L ad n cap w hn h hl
 ·have e:rightB L=false:=by unfold rightB;rw [← hn];simp [h]
  rw [e]
  exact right_long' ad n cap w (by omega) hS2
theorem isAssert77 (n:Int) (w:World):Calls Tryz.prog 170 #[.int .i64 n] w fun e w'=>e=.returned (.bool (assertB n))∧w'=w:=by
 go_enter Tryz.func170,Tryz.ntmps170
 go_wp2
 all_goals go_ret
 all_goals exact ⟨ret_bool (by simp_all [assertB]),rfl⟩
def countB (mn mx:Int):Bool:=decide (0≤mn) && decide (mn≤1000) && (decide (mx=-1) || decide (mn≤mx) && decide (mx≤1000))
set_option maxRecDepth 100000 in
theorem isCount78g (mn mx:Int) (w:World):Calls Tryz.prog 171 #[.int .i64 mn,.int .i64 mx] w fun e w'=>e=.returned (.bool (countB mn mx))∧w'=w:=by
 go_enter Tryz.func171,Tryz.ntmps171
 go_wp2
 all_goals go_ret
 all_goals refine ⟨ret_bool ?_,rfl⟩
 all_goals (rw [Bool.eq_iff_iff];simp [countB])
 all_goals omega
theorem empty_list:(⟨#[]⟩:ByteArray).toList=[]:=by rw [ByteArray.toList_eq]
theorem two_new (w:World) (o:Obj) (c:Array Value) (t:TypeId):((w.alloc o).alloc (.cells c t)).heap[w.heap.size + 1]?=some (.cells c t (0,0)):=by
 have e:(w.alloc o).heap.size=w.heap.size + 1:=by simp
 rw [← e]
 exact heap_alloc_new _ _
theorem below_two' (w:World) (o o':Obj):Below w.heap.size w ((w.alloc o).alloc o'):=(Joins.below_alloc1 w o).trans (Joins.below_le (Joins.below_alloc1 _ o') (by simp))
set_option maxRecDepth 100000 in
set_option maxHeartbeats 8000000 in
theorem sound61E (N:Nv) (R:List (Int × Int)) (w:World) (ok:N.ok) (hr:N.r2=R.length) (hR:R2 w w.heap.size N.r1 R) (hk:N.k=1) :
  Calls Tryz.prog 111 #[N.v] w fun e w'=>e=.returned (.bool (nodeB N.k R N.a2 N.s2 N.a4 N.a5 N.a6 N.a7 N.a8))∧Below w.heap.size w w':=by
 have hr2:N.r2≤9223372036854775807:=by have:=ok.r;have:maxLen=9223372036854775807:=rfl;omega
 have hs2:N.s2≤9223372036854775807:=by have:=ok.s;have:maxLen=9223372036854775807:=rfl;omega
 have HC:∀ w,Calls Tryz.prog 173 #[Nv.v { N with k:=0 }] w fun e w'=>e=.returned (.bool (bareB N.r2 N.a2 N.s2 N.a4 N.a5 N.a6 N.a7 N.a8 false false false false false))∧Below w.heap.size w w':=fun w=>by
  have h:=zero80 { N with k:=0 } w rfl hr2 hs2
  have e:bareB ({ N with k:=0 }:Nv).r2 ({ N with k:=0 }:Nv).a2 ({ N with k:=0 }:Nv).s2 ({ N with k:=0 }:Nv).a4 ({ N with k:=0 }:Nv).a5 ({ N with k:=0 }:Nv).a6 ({ N with k:=0 }:Nv).a7 ({ N with k:=0 }:Nv).a8 false false false false false=bareB N.r2 N.a2 N.s2 N.a4 N.a5 N.a6 N.a7 N.a8 false false false false false:=by simp [bareB]
  rw [e] at h
  exact h
 have e1:nodeB N.k R N.a2 N.s2 N.a4 N.a5 N.a6 N.a7 N.a8=bareB N.r2 N.a2 N.s2 N.a4 N.a5 N.a6 N.a7 N.a8 false false false false false:=by simp [nodeB,hk,hr]
 rw [e1]
 generalize bareB N.r2 N.a2 N.s2 N.a4 N.a5 N.a6 N.a7 N.a8 false false false false false=q at HC ⊢
 obtain ⟨k,r1,r2,r3,a2,s1,s2,s3,a4,a5,a6,a7,a8⟩:=N
 simp only at hk
 subst hk
 clear ok hr hR e1 hr2 hs2
 go_enter Tryz.func111,Tryz.ntmps111
 go_wp2_with (first | (go_at_call 173;(with_reducible refine (HC _).mono ?_);rintro e w3 ⟨rfl,hb3⟩;have HB3:=hid' hb3;clear hb3 HC))
 go_ret
 exact ⟨rfl,(below_two' w _ _).trans (Joins.below_le HB3.out (by simp;try omega))⟩
set_option maxRecDepth 100000 in
set_option maxHeartbeats 8000000 in
theorem sound61C (N:Nv) (R:List (Int × Int)) (w:World) (ok:N.ok) (hr:N.r2=R.length) (hR:R2 w w.heap.size N.r1 R) (hk:N.k=2) :
  Calls Tryz.prog 111 #[N.v] w fun e w'=>e=.returned (.bool (nodeB N.k R N.a2 N.s2 N.a4 N.a5 N.a6 N.a7 N.a8))∧Below w.heap.size w w':=by
 have hr2:N.r2≤9223372036854775807:=by have:=ok.r;have:maxLen=9223372036854775807:=rfl;omega
 have hs2:N.s2≤9223372036854775807:=by have:=ok.s;have:maxLen=9223372036854775807:=rfl;omega
 have HC:∀ w,Calls Tryz.prog 173 #[Nv.v { N with k:=0,r1:=none,r2:=0,r3:=0 }] w fun e w'=>e=.returned (.bool (bareB N.r2 N.a2 N.s2 N.a4 N.a5 N.a6 N.a7 N.a8 true false false false false))∧Below w.heap.size w w':=fun w=>by
  have h:=zero80 { N with k:=0,r1:=none,r2:=0,r3:=0 } w rfl (by simp) hs2
  have e:bareB ({ N with k:=0,r1:=none,r2:=0,r3:=0 }:Nv).r2 ({ N with k:=0,r1:=none,r2:=0,r3:=0 }:Nv).a2 ({ N with k:=0,r1:=none,r2:=0,r3:=0 }:Nv).s2 ({ N with k:=0,r1:=none,r2:=0,r3:=0 }:Nv).a4 ({ N with k:=0,r1:=none,r2:=0,r3:=0 }:Nv).a5 ({ N with k:=0,r1:=none,r2:=0,r3:=0 }:Nv).a6 ({ N with k:=0,r1:=none,r2:=0,r3:=0 }:Nv).a7 ({ N with k:=0,r1:=none,r2:=0,r3:=0 }:Nv).a8 false false false false false=bareB N.r2 N.a2 N.s2 N.a4 N.a5 N.a6 N.a7 N.a8 true false false false false:=by simp [bareB]
  rw [e] at h
  exact h
 have HRR:∀ o o',Calls Tryz.prog 169 #[.slice N.r1 N.r2 N.r3] ((w.alloc o).alloc o') fun e w'=>e=.returned (.bool (rightB R))∧Below ((w.alloc o).alloc o').heap.size ((w.alloc o).alloc o') w':=fun o o' =>
  right76 R N.r1 N.r2 N.r3 _ hr hr2 ((R2.row (hR.kept (fun b hb=>(heap_alloc_old _ _ (by simp;omega)).trans (heap_alloc_old w _ hb))) hr).below (Below.refl _ _) (Nat.le_refl _) (by simp;try omega))
 have e1:nodeB N.k R N.a2 N.s2 N.a4 N.a5 N.a6 N.a7 N.a8=(rightB R && bareB N.r2 N.a2 N.s2 N.a4 N.a5 N.a6 N.a7 N.a8 true false false false false):=by simp [nodeB,hk,hr]
 rw [e1]
 generalize bareB N.r2 N.a2 N.s2 N.a4 N.a5 N.a6 N.a7 N.a8 true false false false false=q at HC ⊢
 generalize rightB R=q2 at HRR ⊢
 obtain ⟨k,r1,r2,r3,a2,s1,s2,s3,a4,a5,a6,a7,a8⟩:=N
 simp only at hk
 subst hk
 clear ok hr hR e1 hr2 hs2
 cases q2
 ·go_enter Tryz.func111,Tryz.ntmps111
  go_wp2_with (first | (go_at_call 169;(with_reducible refine (HRR _ _).mono ?_);rintro e w2 ⟨rfl,hb2⟩;obtain ⟨x0,x1,x2,x3,x4,x5,x6,x7,x8⟩:=nine' ((hb2.block (w.heap.size + 1) (by simp)).trans (two_new w _ _ _));have HB2:=hid' hb2;clear hb2 HRR) | (go_at_call 173;(with_reducible refine (HC _).mono ?_);rintro e w3 ⟨rfl,hb3⟩;have HB3:=hid' hb3;clear hb3 HC))
  go_ret
  exact ⟨rfl,(below_two' w _ _).trans (Joins.below_le HB2.out (by simp;try omega))⟩
 ·go_enter Tryz.func111,Tryz.ntmps111
  go_wp2_with (first | (go_at_call 169;(with_reducible refine (HRR _ _).mono ?_);rintro e w2 ⟨rfl,hb2⟩;obtain ⟨x0,x1,x2,x3,x4,x5,x6,x7,x8⟩:=nine' ((hb2.block (w.heap.size + 1) (by simp)).trans (two_new w _ _ _));have HB2:=hid' hb2;clear hb2 HRR) | (go_at_call 173;(with_reducible refine (HC _).mono ?_);rintro e w3 ⟨rfl,hb3⟩;have HB3:=hid' hb3;clear hb3 HC))
  go_ret
  exact ⟨by simp,((below_two' w _ _).trans (Joins.below_le HB2.out (by simp;try omega))).trans (Joins.below_le HB3.out (by have:=HB2.out.size;simp at this;omega))⟩
set_option maxRecDepth 100000 in
set_option maxHeartbeats 8000000 in
theorem sound61A (N:Nv) (R:List (Int × Int)) (w:World) (ok:N.ok) (hr:N.r2=R.length) (hR:R2 w w.heap.size N.r1 R) (hk:N.k=3) :
  Calls Tryz.prog 111 #[N.v] w fun e w'=>e=.returned (.bool (nodeB N.k R N.a2 N.s2 N.a4 N.a5 N.a6 N.a7 N.a8))∧Below w.heap.size w w':=by
 have hr2:N.r2≤9223372036854775807:=by have:=ok.r;have:maxLen=9223372036854775807:=rfl;omega
 have hs2:N.s2≤9223372036854775807:=by have:=ok.s;have:maxLen=9223372036854775807:=rfl;omega
 have HC:∀ w,Calls Tryz.prog 173 #[Nv.v { N with k:=0,a2:=0 }] w fun e w'=>e=.returned (.bool (bareB N.r2 N.a2 N.s2 N.a4 N.a5 N.a6 N.a7 N.a8 false true false false false))∧Below w.heap.size w w':=fun w=>by
  have h:=zero80 { N with k:=0,a2:=0 } w rfl hr2 hs2
  have e:bareB ({ N with k:=0,a2:=0 }:Nv).r2 ({ N with k:=0,a2:=0 }:Nv).a2 ({ N with k:=0,a2:=0 }:Nv).s2 ({ N with k:=0,a2:=0 }:Nv).a4 ({ N with k:=0,a2:=0 }:Nv).a5 ({ N with k:=0,a2:=0 }:Nv).a6 ({ N with k:=0,a2:=0 }:Nv).a7 ({ N with k:=0,a2:=0 }:Nv).a8 false false false false false=bareB N.r2 N.a2 N.s2 N.a4 N.a5 N.a6 N.a7 N.a8 false true false false false:=by simp [bareB]
  rw [e] at h
  exact h
 have HAA:=isAssert77 N.a2
 have e1:nodeB N.k R N.a2 N.s2 N.a4 N.a5 N.a6 N.a7 N.a8=(assertB N.a2 && bareB N.r2 N.a2 N.s2 N.a4 N.a5 N.a6 N.a7 N.a8 false true false false false):=by simp [nodeB,hk,hr]
 rw [e1]
 generalize bareB N.r2 N.a2 N.s2 N.a4 N.a5 N.a6 N.a7 N.a8 false true false false false=q at HC ⊢
 generalize assertB N.a2=q2 at HAA ⊢
 obtain ⟨k,r1,r2,r3,a2,s1,s2,s3,a4,a5,a6,a7,a8⟩:=N
 simp only at hk
 subst hk
 clear ok hr hR e1 hr2 hs2
 cases q2
 ·go_enter Tryz.func111,Tryz.ntmps111
  go_wp2_with (first | (go_at_call 170;(with_reducible refine (HAA _).mono ?_);rintro e w2 ⟨rfl,hww⟩;subst hww) | (go_at_call 173;(with_reducible refine (HC _).mono ?_);rintro e w3 ⟨rfl,hb3⟩;have HB3:=hid' hb3;clear hb3 HC))
  go_ret
  exact ⟨rfl,below_two' w _ _⟩
 ·go_enter Tryz.func111,Tryz.ntmps111
  go_wp2_with (first | (go_at_call 170;(with_reducible refine (HAA _).mono ?_);rintro e w2 ⟨rfl,hww⟩;subst hww) | (go_at_call 173;(with_reducible refine (HC _).mono ?_);rintro e w3 ⟨rfl,hb3⟩;have HB3:=hid' hb3;clear hb3 HC))
  go_ret
  exact ⟨by simp,(below_two' w _ _).trans (Joins.below_le HB3.out (by simp;try omega))⟩
set_option maxRecDepth 100000 in
set_option maxHeartbeats 8000000 in
theorem sound61S4 (N:Nv) (R:List (Int × Int)) (w:World) (ok:N.ok) (hr:N.r2=R.length) (hR:R2 w w.heap.size N.r1 R) (hk:N.k=4) :
  Calls Tryz.prog 111 #[N.v] w fun e w'=>e=.returned (.bool (nodeB N.k R N.a2 N.s2 N.a4 N.a5 N.a6 N.a7 N.a8))∧Below w.heap.size w w':=by
 have hr2:N.r2≤9223372036854775807:=by have:=ok.r;have:maxLen=9223372036854775807:=rfl;omega
 have hs2:N.s2≤9223372036854775807:=by have:=ok.s;have:maxLen=9223372036854775807:=rfl;omega
 have HC:∀ w,Calls Tryz.prog 173 #[Nv.v { N with k:=0,s1:=none,s2:=0,s3:=0 }] w fun e w'=>e=.returned (.bool (bareB N.r2 N.a2 N.s2 N.a4 N.a5 N.a6 N.a7 N.a8 false false true false false))∧Below w.heap.size w w':=fun w=>by
  have h:=zero80 { N with k:=0,s1:=none,s2:=0,s3:=0 } w rfl hr2 (by simp)
  have e:bareB ({ N with k:=0,s1:=none,s2:=0,s3:=0 }:Nv).r2 ({ N with k:=0,s1:=none,s2:=0,s3:=0 }:Nv).a2 ({ N with k:=0,s1:=none,s2:=0,s3:=0 }:Nv).s2 ({ N with k:=0,s1:=none,s2:=0,s3:=0 }:Nv).a4 ({ N with k:=0,s1:=none,s2:=0,s3:=0 }:Nv).a5 ({ N with k:=0,s1:=none,s2:=0,s3:=0 }:Nv).a6 ({ N with k:=0,s1:=none,s2:=0,s3:=0 }:Nv).a7 ({ N with k:=0,s1:=none,s2:=0,s3:=0 }:Nv).a8 false false false false false=bareB N.r2 N.a2 N.s2 N.a4 N.a5 N.a6 N.a7 N.a8 false false true false false:=by simp [bareB]
  rw [e] at h
  exact h
 have e1:nodeB N.k R N.a2 N.s2 N.a4 N.a5 N.a6 N.a7 N.a8=(decide (2≤N.s2) && bareB N.r2 N.a2 N.s2 N.a4 N.a5 N.a6 N.a7 N.a8 false false true false false):=by simp [nodeB,hk,hr]
 rw [e1]
 generalize bareB N.r2 N.a2 N.s2 N.a4 N.a5 N.a6 N.a7 N.a8 false false true false false=q at HC ⊢
 obtain ⟨k,r1,r2,r3,a2,s1,s2,s3,a4,a5,a6,a7,a8⟩:=N
 simp only at hk hr2 hs2
 subst hk
 clear ok hr hR e1
 by_cases h2:2≤s2
 ·have b1:decide ((s2:Int) ≥ 2)=true:=by simp;omega
  have b2:decide ((2:Int)≤(s2:Int))=true:=by simp;omega
  have e2:decide (2≤s2)=true:=by simp;omega
  rw [e2]
  go_enter Tryz.func111,Tryz.ntmps111
  go_wp2_with (first | (go_at_call 173;(with_reducible refine (HC _).mono ?_);rintro e w3 ⟨rfl,hb3⟩;have HB3:=hid' hb3;clear hb3 HC))
  go_ret
  exact ⟨by simp,(below_two' w _ _).trans (Joins.below_le HB3.out (by simp;try omega))⟩
 ·have b1:decide ((s2:Int) ≥ 2)=false:=by simp;omega
  have b2:decide ((2:Int)≤(s2:Int))=false:=by simp;omega
  have e2:decide (2≤s2)=false:=by simp;omega
  rw [e2]
  go_enter Tryz.func111,Tryz.ntmps111
  go_wp2_with (first | (go_at_call 173;(with_reducible refine (HC _).mono ?_);rintro e w3 ⟨rfl,hb3⟩;have HB3:=hid' hb3;clear hb3 HC))
  go_ret
  exact ⟨by simp,below_two' w _ _⟩
set_option maxRecDepth 100000 in
set_option maxHeartbeats 8000000 in
theorem sound61S5 (N:Nv) (R:List (Int × Int)) (w:World) (ok:N.ok) (hr:N.r2=R.length) (hR:R2 w w.heap.size N.r1 R) (hk:N.k=5) :
  Calls Tryz.prog 111 #[N.v] w fun e w'=>e=.returned (.bool (nodeB N.k R N.a2 N.s2 N.a4 N.a5 N.a6 N.a7 N.a8))∧Below w.heap.size w w':=by
 have hr2:N.r2≤9223372036854775807:=by have:=ok.r;have:maxLen=9223372036854775807:=rfl;omega
 have hs2:N.s2≤9223372036854775807:=by have:=ok.s;have:maxLen=9223372036854775807:=rfl;omega
 have HC:∀ w,Calls Tryz.prog 173 #[Nv.v { N with k:=0,s1:=none,s2:=0,s3:=0 }] w fun e w'=>e=.returned (.bool (bareB N.r2 N.a2 N.s2 N.a4 N.a5 N.a6 N.a7 N.a8 false false true false false))∧Below w.heap.size w w':=fun w=>by
  have h:=zero80 { N with k:=0,s1:=none,s2:=0,s3:=0 } w rfl hr2 (by simp)
  have e:bareB ({ N with k:=0,s1:=none,s2:=0,s3:=0 }:Nv).r2 ({ N with k:=0,s1:=none,s2:=0,s3:=0 }:Nv).a2 ({ N with k:=0,s1:=none,s2:=0,s3:=0 }:Nv).s2 ({ N with k:=0,s1:=none,s2:=0,s3:=0 }:Nv).a4 ({ N with k:=0,s1:=none,s2:=0,s3:=0 }:Nv).a5 ({ N with k:=0,s1:=none,s2:=0,s3:=0 }:Nv).a6 ({ N with k:=0,s1:=none,s2:=0,s3:=0 }:Nv).a7 ({ N with k:=0,s1:=none,s2:=0,s3:=0 }:Nv).a8 false false false false false=bareB N.r2 N.a2 N.s2 N.a4 N.a5 N.a6 N.a7 N.a8 false false true false false:=by simp [bareB]
  rw [e] at h
  exact h
 have e1:nodeB N.k R N.a2 N.s2 N.a4 N.a5 N.a6 N.a7 N.a8=(decide (2≤N.s2) && bareB N.r2 N.a2 N.s2 N.a4 N.a5 N.a6 N.a7 N.a8 false false true false false):=by simp [nodeB,hk,hr]
 rw [e1]
 generalize bareB N.r2 N.a2 N.s2 N.a4 N.a5 N.a6 N.a7 N.a8 false false true false false=q at HC ⊢
 obtain ⟨k,r1,r2,r3,a2,s1,s2,s3,a4,a5,a6,a7,a8⟩:=N
 simp only at hk hr2 hs2
 subst hk
 clear ok hr hR e1
 by_cases h2:2≤s2
 ·have b1:decide ((s2:Int) ≥ 2)=true:=by simp;omega
  have b2:decide ((2:Int)≤(s2:Int))=true:=by simp;omega
  have e2:decide (2≤s2)=true:=by simp;omega
  rw [e2]
  go_enter Tryz.func111,Tryz.ntmps111
  go_wp2_with (first | (go_at_call 173;(with_reducible refine (HC _).mono ?_);rintro e w3 ⟨rfl,hb3⟩;have HB3:=hid' hb3;clear hb3 HC))
  go_ret
  exact ⟨by simp,(below_two' w _ _).trans (Joins.below_le HB3.out (by simp;try omega))⟩
 ·have b1:decide ((s2:Int) ≥ 2)=false:=by simp;omega
  have b2:decide ((2:Int)≤(s2:Int))=false:=by simp;omega
  have e2:decide (2≤s2)=false:=by simp;omega
  rw [e2]
  go_enter Tryz.func111,Tryz.ntmps111
  go_wp2_with (first | (go_at_call 173;(with_reducible refine (HC _).mono ?_);rintro e w3 ⟨rfl,hb3⟩;have HB3:=hid' hb3;clear hb3 HC))
  go_ret
  exact ⟨by simp,below_two' w _ _⟩
set_option maxRecDepth 100000 in
set_option maxHeartbeats 8000000 in
theorem sound61R (N:Nv) (R:List (Int × Int)) (w:World) (ok:N.ok) (hr:N.r2=R.length) (hR:R2 w w.heap.size N.r1 R) (hk:N.k=6) :
  Calls Tryz.prog 111 #[N.v] w fun e w'=>e=.returned (.bool (nodeB N.k R N.a2 N.s2 N.a4 N.a5 N.a6 N.a7 N.a8))∧Below w.heap.size w w':=by
 have hr2:N.r2≤9223372036854775807:=by have:=ok.r;have:maxLen=9223372036854775807:=rfl;omega
 have hs2:N.s2≤9223372036854775807:=by have:=ok.s;have:maxLen=9223372036854775807:=rfl;omega
 have HC:∀ w,Calls Tryz.prog 173 #[Nv.v { N with k:=0,s1:=none,s2:=0,s3:=0,a4:=0,a5:=0,a6:=false }] w fun e w'=>e=.returned (.bool (bareB N.r2 N.a2 N.s2 N.a4 N.a5 N.a6 N.a7 N.a8 false false true true false))∧Below w.heap.size w w':=fun w=>by
  have h:=zero80 { N with k:=0,s1:=none,s2:=0,s3:=0,a4:=0,a5:=0,a6:=false } w rfl hr2 (by simp)
  have e:bareB ({ N with k:=0,s1:=none,s2:=0,s3:=0,a4:=0,a5:=0,a6:=false }:Nv).r2 ({ N with k:=0,s1:=none,s2:=0,s3:=0,a4:=0,a5:=0,a6:=false }:Nv).a2 ({ N with k:=0,s1:=none,s2:=0,s3:=0,a4:=0,a5:=0,a6:=false }:Nv).s2 ({ N with k:=0,s1:=none,s2:=0,s3:=0,a4:=0,a5:=0,a6:=false }:Nv).a4 ({ N with k:=0,s1:=none,s2:=0,s3:=0,a4:=0,a5:=0,a6:=false }:Nv).a5 ({ N with k:=0,s1:=none,s2:=0,s3:=0,a4:=0,a5:=0,a6:=false }:Nv).a6 ({ N with k:=0,s1:=none,s2:=0,s3:=0,a4:=0,a5:=0,a6:=false }:Nv).a7 ({ N with k:=0,s1:=none,s2:=0,s3:=0,a4:=0,a5:=0,a6:=false }:Nv).a8 false false false false false=bareB N.r2 N.a2 N.s2 N.a4 N.a5 N.a6 N.a7 N.a8 false false true true false:=by simp [bareB]
  rw [e] at h
  exact h
 have HN:=isCount78g N.a4 N.a5
 have e1:nodeB N.k R N.a2 N.s2 N.a4 N.a5 N.a6 N.a7 N.a8=(decide (N.s2=1) && countB N.a4 N.a5 && bareB N.r2 N.a2 N.s2 N.a4 N.a5 N.a6 N.a7 N.a8 false false true true false):=by simp [nodeB,countB,hk,hr,Bool.and_assoc]
 rw [e1]
 generalize bareB N.r2 N.a2 N.s2 N.a4 N.a5 N.a6 N.a7 N.a8 false false true true false=q at HC ⊢
 generalize countB N.a4 N.a5=q2 at HN ⊢
 obtain ⟨k,r1,r2,r3,a2,s1,s2,s3,a4,a5,a6,a7,a8⟩:=N
 simp only at hk hr2 hs2
 subst hk
 clear ok hr hR e1
 by_cases h2:s2=1
 ·subst h2
  cases q2
  ·go_enter Tryz.func111,Tryz.ntmps111
   go_wp2_with (first | (go_at_call 171;(with_reducible refine (HN _).mono ?_);rintro e w2 ⟨rfl,hww⟩;subst hww) | (go_at_call 173;(with_reducible refine (HC _).mono ?_);rintro e w3 ⟨rfl,hb3⟩;have HB3:=hid' hb3;clear hb3 HC))
   go_ret
   exact ⟨by simp,below_two' w _ _⟩
  ·go_enter Tryz.func111,Tryz.ntmps111
   go_wp2_with (first | (go_at_call 171;(with_reducible refine (HN _).mono ?_);rintro e w2 ⟨rfl,hww⟩;subst hww) | (go_at_call 173;(with_reducible refine (HC _).mono ?_);rintro e w3 ⟨rfl,hb3⟩;have HB3:=hid' hb3;clear hb3 HC))
   go_ret
   exact ⟨by simp,(below_two' w _ _).trans (Joins.below_le HB3.out (by simp;try omega))⟩
 ·have b1:((s2:Int) == 1)=false:=by simp;omega
  have e2:decide (s2=1)=false:=by simpa using h2
  rw [e2]
  go_enter Tryz.func111,Tryz.ntmps111
  go_wp2_with (first | (go_at_call 171;(with_reducible refine (HN _).mono ?_);rintro e w2 ⟨rfl,hww⟩;subst hww) | (go_at_call 173;(with_reducible refine (HC _).mono ?_);rintro e w3 ⟨rfl,hb3⟩;have HB3:=hid' hb3;clear hb3 HC))
  go_ret
  exact ⟨by simp,below_two' w _ _⟩
set_option maxRecDepth 100000 in
set_option maxHeartbeats 8000000 in
theorem sound61G (N:Nv) (R:List (Int × Int)) (w:World) (ok:N.ok) (hr:N.r2=R.length) (hR:R2 w w.heap.size N.r1 R) (hk:N.k=7) :
  Calls Tryz.prog 111 #[N.v] w fun e w'=>e=.returned (.bool (nodeB N.k R N.a2 N.s2 N.a4 N.a5 N.a6 N.a7 N.a8))∧Below w.heap.size w w':=by
 have hr2:N.r2≤9223372036854775807:=by have:=ok.r;have:maxLen=9223372036854775807:=rfl;omega
 have hs2:N.s2≤9223372036854775807:=by have:=ok.s;have:maxLen=9223372036854775807:=rfl;omega
 have HC:∀ w,Calls Tryz.prog 173 #[Nv.v { N with k:=0,s1:=none,s2:=0,s3:=0,a7:=0,a8:=⟨#[]⟩ }] w fun e w'=>e=.returned (.bool (bareB N.r2 N.a2 N.s2 N.a4 N.a5 N.a6 N.a7 N.a8 false false true false true))∧Below w.heap.size w w':=fun w=>by
  have h:=zero80 { N with k:=0,s1:=none,s2:=0,s3:=0,a7:=0,a8:=⟨#[]⟩ } w rfl hr2 (by simp)
  have e:bareB ({ N with k:=0,s1:=none,s2:=0,s3:=0,a7:=0,a8:=⟨#[]⟩ }:Nv).r2 ({ N with k:=0,s1:=none,s2:=0,s3:=0,a7:=0,a8:=⟨#[]⟩ }:Nv).a2 ({ N with k:=0,s1:=none,s2:=0,s3:=0,a7:=0,a8:=⟨#[]⟩ }:Nv).s2 ({ N with k:=0,s1:=none,s2:=0,s3:=0,a7:=0,a8:=⟨#[]⟩ }:Nv).a4 ({ N with k:=0,s1:=none,s2:=0,s3:=0,a7:=0,a8:=⟨#[]⟩ }:Nv).a5 ({ N with k:=0,s1:=none,s2:=0,s3:=0,a7:=0,a8:=⟨#[]⟩ }:Nv).a6 ({ N with k:=0,s1:=none,s2:=0,s3:=0,a7:=0,a8:=⟨#[]⟩ }:Nv).a7 ({ N with k:=0,s1:=none,s2:=0,s3:=0,a7:=0,a8:=⟨#[]⟩ }:Nv).a8 false false false false false=bareB N.r2 N.a2 N.s2 N.a4 N.a5 N.a6 N.a7 N.a8 false false true false true:=by simp [bareB,empty_list]
  rw [e] at h
  exact h
 have HN:=fun w=>name79 N.a8 w (by have:=ok.a8;have:maxLen=9223372036854775807:=rfl;omega)
 have e1:nodeB N.k R N.a2 N.s2 N.a4 N.a5 N.a6 N.a7 N.a8=(decide (N.s2=1) && decide (1≤N.a7) && decide (N.a7≤500) && (N.a8.toList.isEmpty || nameB N.a8) && bareB N.r2 N.a2 N.s2 N.a4 N.a5 N.a6 N.a7 N.a8 false false true false true):=by simp [nodeB,hk,hr]
 rw [e1]
 generalize bareB N.r2 N.a2 N.s2 N.a4 N.a5 N.a6 N.a7 N.a8 false false true false true=q at HC ⊢
 generalize nameB N.a8=q2 at HN ⊢
 obtain ⟨k,r1,r2,r3,a2,s1,s2,s3,a4,a5,a6,a7,a8⟩:=N
 simp only at hk hr2 hs2
 subst hk
 clear ok hr hR e1
 go_enter Tryz.func111,Tryz.ntmps111
 go_wp2_with (first | (go_at_call 172;(with_reducible refine (HN _).mono ?_);rintro e w2 ⟨rfl,hww⟩;subst hww) | (go_at_call 173;(with_reducible refine (HC _).mono ?_);rintro e w3 ⟨rfl,hb3⟩;have HB3:=hid' hb3;clear hb3 HC))
 all_goals go_ret
 all_goals (refine ⟨ret_bool ?_,by first | exact below_two' w _ _ | exact (below_two' w _ _).trans (Joins.below_le HB3.out (by simp;try omega))⟩)
 all_goals (try clear HB3)
 all_goals (try clear HC)
 all_goals (try clear HN)
 all_goals simp_all
 all_goals (intros;omega)
set_option maxRecDepth 100000 in
set_option maxHeartbeats 8000000 in
theorem sound61O (N:Nv) (R:List (Int × Int)) (w:World) (ok:N.ok) (hr:N.r2=R.length) (hR:R2 w w.heap.size N.r1 R) (hk:N.k≠1∧N.k≠2∧N.k≠3∧N.k≠4∧N.k≠5∧N.k≠6∧N.k≠7) :
  Calls Tryz.prog 111 #[N.v] w fun e w'=>e=.returned (.bool (nodeB N.k R N.a2 N.s2 N.a4 N.a5 N.a6 N.a7 N.a8))∧Below w.heap.size w w':=by
 have hr2:N.r2≤9223372036854775807:=by have:=ok.r;have:maxLen=9223372036854775807:=rfl;omega
 have hs2:N.s2≤9223372036854775807:=by have:=ok.s;have:maxLen=9223372036854775807:=rfl;omega
 rw [nodeB_ne hk]
 obtain ⟨k1,k2,k3,k4,k5,k6,k7⟩:=hk
 have j1:(N.k == 1)=false:=by simpa using k1
 have j2:(N.k == 2)=false:=by simpa using k2
 have j3:(N.k == 3)=false:=by simpa using k3
 have j4:(N.k == 4)=false:=by simpa using k4
 have j5:(N.k == 5)=false:=by simpa using k5
 have j6:(N.k == 6)=false:=by simpa using k6
 have j7:(N.k == 7)=false:=by simpa using k7
 obtain ⟨k,r1,r2,r3,a2,s1,s2,s3,a4,a5,a6,a7,a8⟩:=N
 simp only at j1 j2 j3 j4 j5 j6 j7
 clear ok hr hR k1 k2 k3 k4 k5 k6 k7
 go_enter Tryz.func111,Tryz.ntmps111
 go_wp2
 go_ret
 exact ⟨rfl,below_two' w _ _⟩
theorem sound61 (N:Nv) (R:List (Int × Int)) (w:World) (ok:N.ok) (hr:N.r2=R.length) (hR:R2 w w.heap.size N.r1 R) :
  Calls Tryz.prog 111 #[N.v] w fun e w'=>e=.returned (.bool (nodeB N.k R N.a2 N.s2 N.a4 N.a5 N.a6 N.a7 N.a8))∧Below w.heap.size w w':=by
 by_cases k1:N.k=1
 ·exact sound61E N R w ok hr hR k1
 by_cases k2:N.k=2
 ·exact sound61C N R w ok hr hR k2
 by_cases k3:N.k=3
 ·exact sound61A N R w ok hr hR k3
 by_cases k4:N.k=4
 ·exact sound61S4 N R w ok hr hR k4
 by_cases k5:N.k=5
 ·exact sound61S5 N R w ok hr hR k5
 by_cases k6:N.k=6
 ·exact sound61R N R w ok hr hR k6
 by_cases k7:N.k=7
 ·exact sound61G N R w ok hr hR k7
 ·exact sound61O N R w ok hr hR ⟨k1,k2,k3,k4,k5,k6,k7⟩
mutual
def Tn.fine:Tn→Bool
 | .mk k R a s mn mx lz ix nm=>nodeB k R a s.length mn mx lz ix nm && fineL s
def fineL:List Tn→Bool
 | []=>true
 | t :: ts=>t.fine && fineL ts
end
def Tn.sound (t:Tn):Bool:=t.fine && decide (t.depth≤10000) && decide (t.nodes≤200000)
mutual
def Tn.tk:Tn→Int→Int→Option Int
 | .mk k R a s mn mx lz ix nm,c,d=>if c + 1≤200000∧d≤10000∧nodeB k R a s.length mn mx lz ix nm=true then tkL s (c + 1) (d + 1) else none
def tkL:List Tn→Int→Int→Option Int
 | [],c,_=>some c
 | t :: ts,c,d=>match t.tk c d with
  | none=>none
  | some c'=>tkL ts c' d
end
mutual
theorem Tn.tk_spec:∀ (t:Tn) (c d:Int),c≤200000→d≤10001→t.tk c d=if t.fine=true∧(t.depth:Int) + d≤10001∧c + t.nodes≤200000 then some (c + t.nodes) else none
 | .mk k R a s mn mx lz ix nm,c,d,hc,hd=>by
  simp only [Tn.tk,Tn.nodes,Tn.fine,Tn.depth,Bool.and_eq_true]
  by_cases hn:c + 1≤200000∧d≤10000∧nodeB k R a s.length mn mx lz ix nm=true
  ·rw [if_pos hn,tkL_spec s (c + 1) (d + 1) (by omega) (by omega)]
   by_cases hs:fineL s=true∧(depthL s:Int) + (d + 1)≤10001∧c + 1 + nodesL s≤200000
   ·rw [if_pos hs,if_pos ⟨⟨hn.2.2,hs.1⟩,by omega,by omega⟩]
    congr 1
    push_cast
    omega
   ·rw [if_neg hs,if_neg]
    rintro ⟨⟨h1,h2⟩,h3,h4⟩
    exact hs ⟨h2,by omega,by omega⟩
  ·rw [if_neg hn,if_neg]
   rintro ⟨⟨h1,h2⟩,h3,h4⟩
   exact hn ⟨by omega,by omega,h1⟩
theorem tkL_spec:∀ (ts:List Tn) (c d:Int),c≤200000→d≤10001→tkL ts c d=if fineL ts=true∧(depthL ts:Int) + d≤10001∧c + nodesL ts≤200000 then some (c + nodesL ts) else none
 | [],c,d,hc,hd=>by simp [tkL,nodesL,fineL,depthL];omega
 | t :: ts,c,d,hc,hd=>by
  simp only [tkL,nodesL,fineL,depthL,Bool.and_eq_true]
  rw [Tn.tk_spec t c d hc hd]
  by_cases h1:t.fine=true∧(t.depth:Int) + d≤10001∧c + t.nodes≤200000
  ·rw [if_pos h1]
   simp only
   rw [tkL_spec ts (c + t.nodes) d (by omega) hd]
   by_cases h2:fineL ts=true∧(depthL ts:Int) + d≤10001∧c + t.nodes + nodesL ts≤200000
   ·rw [if_pos h2,if_pos ⟨⟨h1.1,h2.1⟩,by omega,by omega⟩]
    congr 1
    push_cast
    omega
   ·rw [if_neg h2,if_neg]
    rintro ⟨⟨a1,a2⟩,a3,a4⟩
    exact h2 ⟨a2,by omega,by omega⟩
  ·rw [if_neg h1,if_neg]
   rintro ⟨⟨a1,a2⟩,a3,a4⟩
   exact h1 ⟨a1,by omega,by omega⟩
end
theorem tkL_drop (ts:List Tn) (i:Nat) (hi:i < ts.length) (c d:Int):tkL (ts.drop i) c d=(match ts[i].tk c d with | none=>none | some c'=>tkL (ts.drop (i + 1)) c' d):=by
 rw [List.drop_eq_getElem_cons hi]
 simp only [tkL]
theorem sound_tk (t:Tn):(t.tk 0 1).isSome=t.sound:=by
 rw [t.tk_spec 0 1 (by omega) (by omega)]
 simp only [Tn.sound]
 by_cases h:t.fine=true∧(t.depth:Int) + 1≤10001∧(0:Int) + t.nodes≤200000
 ·rw [if_pos h,h.1,decide_eq_true (show t.depth≤10000 by omega),decide_eq_true (show t.nodes≤200000 by omega)]
  rfl
 ·rw [if_neg h]
  cases hf:t.fine
  ·rfl
  ·by_cases h1:t.depth≤10000
   ·rw [decide_eq_false (show ¬ t.nodes≤200000 from fun h2=>h ⟨hf,by omega,by omega⟩)];simp
   ·rw [decide_eq_false h1];simp
end Go.Proofs.YtacaanhnlfpbhaaGreat
