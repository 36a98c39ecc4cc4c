/- HELPERS: texts of ours put together. -/
import Derived.Test.YtjdbnoccdefnaaaGreatK02
import Derived.Test.YtjdbnoccdefnaaaGreatK03
import Derived.Deep.RegionHeld3
import Derived.Deep.Cut
import Derived.Deep.CutRange
import Derived.Deep.QuietTactic
import Derived.BigQuiet
namespace Go.Proofs.YtjdbnoccdefnaaaGreat
open Go.RowKit
set_option linter.unusedVariables false
set_option linter.unusedSimpArgs false
def belowB (n c:Int):Bool:=decide (0 ≤ n) && decide (n < c)
def capsB (c:Int):Bool:=decide (2 ≤ c) && decide (c ≤ 1002) && (c % 2 == 0)
def hasXB (op:Int):Bool:=op == 1 || op == 2 || op == 3 || op == 4 || op == 7
def hasYB (op:Int):Bool:=op == 2
def isTargetB (too:Int) (has:Bool) (c:Int):Bool:=if has then belowB too c else too == 0
def isArgB (op arg caps:Int):Bool:=if op == 3 then belowB arg caps else if op == 4 then assertB arg else if op == 5 then belowB arg 100 else if op == 1 || op == 2 || op == 6 || op == 7 then arg == 0 else false
def isRangesB (op:Int) (R:List (Int × Int)):Bool:=if op == 1 then decide (0 < R.length) && rightB R else R.length == 0
theorem below38 (n c:Int) (w:World):Calls Tryz.prog 45 #[.int .i64 n,.int .i64 c] w fun e w' => e = .returned (.bool (belowB n c)) ∧ w' = w:=by
  go_enter Tryz.func45,Tryz.ntmps45
  go_wp2
  all_goals go_ret
  all_goals exact ⟨ret_bool (by (simp_all [belowB]) <;> (intros;omega)),rfl⟩
theorem caps39 (c:Int) (w:World):Calls Tryz.prog 46 #[.int .i64 c] w fun e w' => e = .returned (.bool (capsB c)) ∧ w' = w:=by
  go_enter Tryz.func46,Tryz.ntmps46
  go_wp2
  all_goals go_ret
  all_goals refine ⟨ret_bool ?_,rfl⟩
  all_goals first | (simp_all [capsB];done) | (simp [capsB,Int.tmod_eq_emod] <;> omega)
theorem hasX61 (op:Int) (w:World):Calls Tryz.prog 62 #[.int .i64 op] w fun e w' => e = .returned (.bool (hasXB op)) ∧ w' = w:=by
  go_enter Tryz.func62,Tryz.ntmps62
  go_wp2
  all_goals go_ret
  all_goals exact ⟨ret_bool (by simp_all [hasXB]),rfl⟩
theorem hasY62 (op:Int) (w:World):Calls Tryz.prog 63 #[.int .i64 op] w fun e w' => e = .returned (.bool (hasYB op)) ∧ w' = w:=by
  go_enter Tryz.func63,Tryz.ntmps63
  go_wp2
  all_goals go_ret
  all_goals exact ⟨ret_bool (by simp_all [hasYB]),rfl⟩
theorem target60 (too:Int) (has:Bool) (c:Int) (w:World):Calls Tryz.prog 61 #[.int .i64 too,.bool has,.int .i64 c] w fun e w' => e = .returned (.bool (isTargetB too has c)) ∧ w' = w:=by
  have HC:=below38 too c w
  cases has
  · go_enter Tryz.func61,Tryz.ntmps61
    go_wp2
    all_goals go_ret
    all_goals exact ⟨ret_bool (by simp_all [isTargetB]),rfl⟩
  · go_enter Tryz.func61,Tryz.ntmps61
    go_wp2_with (first | (go_at_call 45;(with_reducible refine HC.mono ?_);rintro e w2 ⟨rfl,rfl⟩))
    all_goals go_ret
    all_goals exact ⟨ret_bool (by simp [isTargetB]),rfl⟩
theorem assert80 (n:Int) (w:World):Calls Tryz.prog 84 #[.int .i64 n] w fun e w' => e = .returned (.bool (assertB n)) ∧ w' = w:=by
  go_enter Tryz.func84,Tryz.ntmps84
  go_wp2
  all_goals go_ret
  all_goals exact ⟨ret_bool (by simp_all [assertB]),rfl⟩
theorem arg63 (op arg caps:Int) (w:World):Calls Tryz.prog 64 #[.int .i64 op,.int .i64 arg,.int .i64 caps] w fun e w' => e = .returned (.bool (isArgB op arg caps)) ∧ w' = w:=by
  have H1:=below38 arg caps w
  have H2:=below38 arg 100 w
  have H3:=assert80 arg w
  go_enter Tryz.func64,Tryz.ntmps64
  go_wp2_with (first | (go_at_call 45;(first | (with_reducible refine H1.mono ?_) | (with_reducible refine H2.mono ?_));rintro e w2 ⟨rfl,rfl⟩) | (go_at_call 84;(with_reducible refine H3.mono ?_);rintro e w2 ⟨rfl,rfl⟩))
  all_goals go_ret
  all_goals exact ⟨ret_bool (by simp_all [isArgB]),rfl⟩
theorem ranges64 (op:Int) (R:List (Int × Int)) (ad:Option Addr) (n cap:Nat) (w:World) (hn:n = R.length) (hS:n * 16 ≤ 140737488351232) (hl:RowAt w.heap.size w (.slice ad n cap) R) :
    Calls Tryz.prog 65 #[.int .i64 op,.slice ad n cap] w fun e w' => e = .returned (.bool (isRangesB op R)) ∧ Below w.heap.size w w':=by
  have HC:=right25 R ad n cap w hn (by omega) hl
  have HN:=hid' hn
  clear hn hl
  by_cases h1:op = 1
  · subst h1
    by_cases h0:n = 0
    · subst h0
      go_enter Tryz.func65,Tryz.ntmps65
      go_wp2
      all_goals go_ret
      all_goals exact ⟨ret_bool (by simp [isRangesB,← HN.out]),Below.refl _ _⟩
    · have b1:decide ((n:Int) > 0) = true:=by simp;omega
      have b2:decide ((0:Int) < (n:Int)) = true:=by simp;omega
      go_enter Tryz.func65,Tryz.ntmps65
      go_wp2_with (first | (go_at_call 85;(with_reducible refine HC.mono ?_);rintro e w2 ⟨rfl,hb⟩;have HB:=hid' hb;clear hb HC))
      all_goals go_ret
      all_goals exact ⟨ret_bool (by simp [isRangesB,← HN.out];intro h;omega),HB.out⟩
  · have b0:(op != 1) = true:=by simpa using h1
    go_enter Tryz.func65,Tryz.ntmps65
    go_wp2
    all_goals go_ret
    all_goals exact ⟨ret_bool (by simp only [isRangesB,← HN.out];rw [if_neg (by simpa using h1),Bool.eq_iff_iff];simp),Below.refl _ _⟩
structure Iv where
  op:Int
  x:Int
  y:Int
  a:Int
  r1:Option Addr
  r2:Nat
  r3:Nat
instance:Inhabited Iv:=⟨⟨0,0,0,0,none,0,0⟩⟩
abbrev Iv.cs (N:Iv):List Value:=[.int .i64 N.op,.int .i64 N.x,.int .i64 N.y,.int .i64 N.a,.slice N.r1 N.r2 N.r3]
abbrev Iv.v (N:Iv):Value:=.agg #[.int .i64 N.op,.int .i64 N.x,.int .i64 N.y,.int .i64 N.a,.slice N.r1 N.r2 N.r3]
structure In where
  op:Int
  x:Int
  y:Int
  a:Int
  R:List (Int × Int)
instance:Inhabited In:=⟨⟨0,0,0,0,[]⟩⟩
def In.okB (I:In) (n caps:Int):Bool:=isTargetB I.x (hasXB I.op) n && isTargetB I.y (hasYB I.op) n && isArgB I.op I.a caps && isRangesB I.op I.R
theorem five {w:World} {b:Nat} {v0 v1 v2 v3 v4:Value} {t:TypeId} {fr:Nat × Nat} (h:w.heap[b]? = some (.cells #[v0,v1,v2,v3,v4] t fr)):w.cell? ⟨b,0,none⟩ = some v0 ∧ w.cell? ⟨b,1,none⟩ = some v1 ∧ w.cell? ⟨b,2,none⟩ = some v2 ∧ w.cell? ⟨b,3,none⟩ = some v3 ∧ w.cell? ⟨b,4,none⟩ = some v4:=
  ⟨Joins.cell_of_block h 0,Joins.cell_of_block h 1,Joins.cell_of_block h 2,Joins.cell_of_block h 3,Joins.cell_of_block h 4⟩
set_option maxRecDepth 100000 in
set_option maxHeartbeats 4000000 in
theorem inst40 (N:Iv) (R:List (Int × Int)) (n caps:Int) (w:World) (hn:N.r2 = R.length) (hS:N.r2 * 16 ≤ 140737488351232) (hl:RowAt w.heap.size w (.slice N.r1 N.r2 N.r3) R) :
    Calls Tryz.prog 47 #[N.v,.int .i64 n,.int .i64 caps] w fun e w' => e = .returned (.bool (In.okB ⟨N.op,N.x,N.y,N.a,R⟩ n caps)) ∧ Below w.heap.size w w':=by
  obtain ⟨op,x,y,a,r1,r2,r3⟩:=N
  dsimp only at hn hS hl ⊢
  obtain ⟨U,hU⟩:∃ U,U = w.alloc (.cells #[.int .i64 op,.int .i64 x,.int .i64 y,.int .i64 a,.slice r1 r2 r3] 43):=⟨_,rfl⟩
  have hb:Below w.heap.size w U:=by rw [hU];exact Joins.below_alloc1 w _
  have hX:U.heap[w.heap.size]? = some (.cells #[.int .i64 op,.int .i64 x,.int .i64 y,.int .i64 a,.slice r1 r2 r3] 43 (0,0)):=by rw [hU];exact heap_alloc_new w _
  obtain ⟨c0,c1,c2,c3,c4⟩:=five hX
  have HR:∀ W,W.heap = U.heap → W.os = U.os → W.tape = U.tape → W.output = U.output → Calls Tryz.prog 65 #[.int .i64 op,.slice r1 r2 r3] W fun e w' => e = .returned (.bool (isRangesB op R)) ∧ Below U.heap.size U w':=by
    intro W e1 e2 e3 e4
    have hbW:Below U.heap.size U W:=⟨e2,e3,e4,by rw [e1];exact Nat.le_refl _,fun k hk => by rw [e1]⟩
    have hbw:Below w.heap.size w W:=hb.trans (Joins.below_le hbW hb.size)
    refine (ranges64 op R r1 r2 r3 W hn hS (hl.below hbw (Nat.le_refl _) hbw.size)).mono ?_
    rintro e w' ⟨h1,h2⟩
    exact ⟨h1,hbW.trans (Joins.below_le h2 hbW.size)⟩
  have HRR:=hid' HR
  have HB:=hid' hb
  have HX:=hid' hX
  have hsz:w.heap.size < U.heap.size:=(Array.getElem?_eq_some_iff.1 hX).1
  clear HR hn hS hl hb hX
  have T1:=fun W => target60 x (hasXB op) n W
  have T2:=fun W => target60 y (hasYB op) n W
  have T3:=fun W => arg63 op a caps W
  have X1:=fun W => hasX61 op W
  have X2:=fun W => hasY62 op W
  obtain ⟨b,hbe⟩:∃ b,b = w.heap.size:=⟨_,rfl⟩
  go_enter Tryz.func47,Tryz.ntmps47
  go_upto_region 1 with fail
  rw [← hU,← hbe]
  rw [← hbe] at c0 c1 c2 c3 c4 hsz HX HB
  have HBE:=hid' hbe
  clear hU hbe
  cases g1:isTargetB x (hasXB op) n
  · simp only [g1] at T1
    go_quiet (first | (go_at_call 62;with_reducible refine Calls.quiet_of_same (X1 _)) | (go_at_call 61;first | (with_reducible refine Calls.quiet_of_same (T1 _)) | (with_reducible refine Calls.quiet_of_same (T2 _))) | (go_at_call 63;with_reducible refine Calls.quiet_of_same (X2 _)) | (go_at_call 64;with_reducible refine Calls.quiet_of_same (T3 _)))
    go_wp2
    all_goals go_ret
    all_goals refine ⟨ret_bool (by simp [In.okB,g1]),?_⟩
    all_goals rw [← HBE.out]
    all_goals exact below_drewN' HB.out _
  · simp only [g1] at T1
    cases g2:isTargetB y (hasYB op) n
    · simp only [g2] at T2
      go_quiet (first | (go_at_call 62;with_reducible refine Calls.quiet_of_same (X1 _)) | (go_at_call 61;first | (with_reducible refine Calls.quiet_of_same (T1 _)) | (with_reducible refine Calls.quiet_of_same (T2 _))) | (go_at_call 63;with_reducible refine Calls.quiet_of_same (X2 _)) | (go_at_call 64;with_reducible refine Calls.quiet_of_same (T3 _)))
      go_wp2
      all_goals go_ret
      all_goals refine ⟨ret_bool (by simp [In.okB,g1,g2]),?_⟩
      all_goals rw [← HBE.out]
      all_goals exact below_drewN' HB.out _
    · simp only [g2] at T2
      cases g3:isArgB op a caps
      · simp only [g3] at T3
        go_quiet (first | (go_at_call 62;with_reducible refine Calls.quiet_of_same (X1 _)) | (go_at_call 61;first | (with_reducible refine Calls.quiet_of_same (T1 _)) | (with_reducible refine Calls.quiet_of_same (T2 _))) | (go_at_call 63;with_reducible refine Calls.quiet_of_same (X2 _)) | (go_at_call 64;with_reducible refine Calls.quiet_of_same (T3 _)))
        go_wp2
        all_goals go_ret
        all_goals refine ⟨ret_bool (by simp [In.okB,g1,g2,g3]),?_⟩
        all_goals rw [← HBE.out]
        all_goals exact below_drewN' HB.out _
      · simp only [g3] at T3
        go_region_held3 (fun W => W.cell? ⟨b,0,none⟩ = some (.int .i64 op) ∧ W.cell? ⟨b,1,none⟩ = some (.int .i64 x) ∧ W.cell? ⟨b,2,none⟩ = some (.int .i64 y) ∧ W.cell? ⟨b,3,none⟩ = some (.int .i64 a) ∧ W.cell? ⟨b,4,none⟩ = some (.slice r1 r2 r3)) (first | (exact ⟨d0,d1,d2,d3,d4⟩) | (simp [*];done)) (first | (go_at_call 62;(with_reducible refine (X1 _).mono ?_);rintro e w2 ⟨rfl,rfl⟩) | (go_at_call 61;(first | (with_reducible refine (T1 _).mono ?_) | (with_reducible refine (T2 _).mono ?_));rintro e w2 ⟨rfl,rfl⟩) | (go_at_call 63;(with_reducible refine (X2 _).mono ?_);rintro e w2 ⟨rfl,rfl⟩) | (go_at_call 64;(with_reducible refine (T3 _).mono ?_);rintro e w2 ⟨rfl,rfl⟩) | (go_at_call 65;(with_reducible refine (HRR.out _ ?_ ?_ ?_ ?_).mono ?_);(rfl);(rfl);(rfl);(rfl);rintro e w2 ⟨rfl,hb2⟩;obtain ⟨d0,d1,d2,d3,d4⟩:=five ((hb2.block b hsz).trans HX.out);have HB2:=hid' hb2;clear hb2))
        all_goals go_wp2
        all_goals go_ret
        all_goals refine ⟨ret_bool (by simp [In.okB,g1,g2,g3]),?_⟩
        all_goals rw [← HBE.out]
        all_goals first | exact HB.out.drew | exact HB.out | exact HB.out.trans (Joins.below_le HB2.out (by omega))
end Go.Proofs.YtjdbnoccdefnaaaGreat
