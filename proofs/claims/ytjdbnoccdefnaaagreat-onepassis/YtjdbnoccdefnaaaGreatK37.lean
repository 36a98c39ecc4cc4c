/- HELPERS: texts of ours put together. -/
import Derived.Test.YtjdbnoccdefnaaaGreatK04
import Derived.Test.YtjdbnoccdefnaaaGreatK05
namespace Go.Proofs.YtjdbnoccdefnaaaGreat
open Go.RowKit
set_option linter.unusedVariables false
set_option linter.unusedSimpArgs false
theorem ok_1 (x y a:Int) (R:List (Int × Int)) (n caps:Int):In.okB ⟨1,x,y,a,R⟩ n caps = (belowB x n && (y == 0) && (a == 0) && (decide (0 < R.length) && rightB R)):=by simp [In.okB,isTargetB,hasXB,hasYB,isArgB,isRangesB]
theorem ok_2 (x y a:Int) (R:List (Int × Int)) (n caps:Int):In.okB ⟨2,x,y,a,R⟩ n caps = (belowB x n && belowB y n && (a == 0) && (R.length == 0)):=by simp [In.okB,isTargetB,hasXB,hasYB,isArgB,isRangesB]
theorem ok_3 (x y a:Int) (R:List (Int × Int)) (n caps:Int):In.okB ⟨3,x,y,a,R⟩ n caps = (belowB x n && (y == 0) && belowB a caps && (R.length == 0)):=by simp [In.okB,isTargetB,hasXB,hasYB,isArgB,isRangesB]
theorem ok_4 (x y a:Int) (R:List (Int × Int)) (n caps:Int):In.okB ⟨4,x,y,a,R⟩ n caps = (belowB x n && (y == 0) && assertB a && (R.length == 0)):=by simp [In.okB,isTargetB,hasXB,hasYB,isArgB,isRangesB]
theorem ok_5 (x y a:Int) (R:List (Int × Int)) (n caps:Int):In.okB ⟨5,x,y,a,R⟩ n caps = ((x == 0) && (y == 0) && belowB a 100 && (R.length == 0)):=by simp [In.okB,isTargetB,hasXB,hasYB,isArgB,isRangesB]
theorem ok_6 (x y a:Int) (R:List (Int × Int)) (n caps:Int):In.okB ⟨6,x,y,a,R⟩ n caps = ((x == 0) && (y == 0) && (a == 0) && (R.length == 0)):=by simp [In.okB,isTargetB,hasXB,hasYB,isArgB,isRangesB]
theorem ok_7 (x y a:Int) (R:List (Int × Int)) (n caps:Int):In.okB ⟨7,x,y,a,R⟩ n caps = (belowB x n && (y == 0) && (a == 0) && (R.length == 0)):=by simp [In.okB,isTargetB,hasXB,hasYB,isArgB,isRangesB]
theorem ok_no (op x y a:Int) (R:List (Int × Int)) (n caps:Int) (h1:op ≠ 1) (h2:op ≠ 2) (h3:op ≠ 3) (h4:op ≠ 4) (h5:op ≠ 5) (h6:op ≠ 6) (h7:op ≠ 7):In.okB ⟨op,x,y,a,R⟩ n caps = false:=by simp [In.okB,isArgB,h1,h2,h3,h4,h5,h6,h7]
set_option maxRecDepth 100000 in
set_option maxHeartbeats 8000000 in
theorem may23 (N:Iv) (R:List (Int × Int)) (n caps:Int) (w:World) (hn:N.r2 = R.length) (hS:N.r2 * 16 ≤ 140737488351232) (hl:RowAt w.heap.size w (.slice N.r1 N.r2 N.r3) R) :
    Calls Tryz.prog 31 #[N.v,.int .i64 n,.int .i64 caps] w fun e w' => e = .returned (.bool (In.okB ⟨N.op,N.x,N.y,N.a,R⟩ n caps)) ∧ Below w.heap.size w w':=by
  obtain ⟨op,x,y,a,r1,r2,r3⟩:=N
  dsimp only at hn hS hl ⊢
  obtain ⟨ok,hok⟩:∃ ok,ok = In.okB ⟨op,x,y,a,R⟩ n caps:=⟨_,rfl⟩
  rw [← hok]
  have HOK:=hid' hok
  clear hok
  obtain ⟨U,hU⟩:∃ U,U = w.alloc (.cells #[.int .i64 op,.int .i64 x,.int .i64 y,.int .i64 a,.slice r1 r2 r3] 43):=⟨_,rfl⟩
  have hb:Below w.heap.size w U:=by rw [hU];exact Joins.below_alloc1 w _
  have hX:U.heap[w.heap.size]? = some (.cells #[.int .i64 op,.int .i64 x,.int .i64 y,.int .i64 a,.slice r1 r2 r3] 43 (0,0)):=by rw [hU];exact heap_alloc_new w _
  obtain ⟨c0,c1,c2,c3,c4⟩:=five hX
  have HC:=rright33 R r1 r2 r3 U hn.symm (by omega) (hl.below hb (Nat.le_refl _) hb.size)
  have HB:=hid' hb
  have HX:=hid' hX
  have hsz:w.heap.size < U.heap.size:=(Array.getElem?_eq_some_iff.1 hX).1
  have HN:=hid' hn
  clear hl hb hX hn
  obtain ⟨b,hbe⟩:∃ b,b = w.heap.size:=⟨_,rfl⟩
  obtain ⟨rt,hrt⟩:∃ rt,rt = rightB R:=⟨_,rfl⟩
  rw [← hrt] at HC
  go_enter Tryz.func31,Tryz.ntmps31
  go_upto_region 1 with fail
  rw [← hU,← hbe]
  rw [← hbe] at c0 c1 c2 c3 c4 hsz HX HB
  have HBE:=hid' hbe
  have HRT:=hid' hrt
  clear hU hbe hrt
  go_upto_region 2 with (go_at_call 41;(with_reducible refine HC.mono ?_);rintro e w2 ⟨rfl,hb2⟩;have HB2:=hid' hb2;clear hb2 HC)
  clear c0 c1 c2 c3 c4
  obtain ⟨c0,c1,c2,c3,c4⟩:=five ((HB2.out.block b hsz).trans HX.out)
  have HF:Hid (Below b w w2):=HB.out.trans (Joins.below_le HB2.out (by omega))
  clear HB HB2 HX hsz
  have lift:∀ (bb:Bool),bb = ok → Ending.returned (.bool bb) = .returned (.bool ok) ∧ Below w.heap.size w w2:=fun bb h => ⟨ret_bool h,by rw [← HBE.out];exact HF.out⟩
  have LIFT:=hid' lift
  clear lift HBE HF
  have hr2:R.length = r2:=HN.out.symm
  have HR2:=hid' hr2
  clear hr2 HN
  by_cases h1:op = 1
  · subst h1
    by_cases hz:r2 = 0
    · subst hz
      cases rt <;> go_wp2 <;> go_ret <;> refine LIFT.out _ ?_ <;> rw [HOK.out,ok_1,HR2.out] <;> simp
    · have b1:decide ((r2:Int) > 0) = true:=by simp;omega
      have b2:decide (0 < r2) = true:=by simp;omega
      have b3:0 < r2:=by omega
      cases rt <;> go_wp2 <;> go_ret <;> refine LIFT.out _ ?_ <;> rw [HOK.out,ok_1,HR2.out,← HRT.out,belowB] <;> simp [*] <;> (intros;omega)
  by_cases h2:op = 2
  · subst h2
    clear HRT
    by_cases hz:r2 = 0
    · subst hz
      go_wp2 <;> go_ret <;> refine LIFT.out _ ?_ <;> rw [HOK.out,ok_2,HR2.out] <;> simp [*,belowB,assertB] <;> (intros;omega)
    · have b1:((r2:Int) == 0) = false:=by simp;omega
      have b2:(r2 == 0) = false:=by simp;omega
      go_wp2 <;> go_ret <;> refine LIFT.out _ ?_ <;> rw [HOK.out,ok_2,HR2.out,b2] <;> simp
  by_cases h3:op = 3
  · subst h3
    clear HRT
    by_cases hz:r2 = 0
    · subst hz
      go_wp2 <;> go_ret <;> refine LIFT.out _ ?_ <;> rw [HOK.out,ok_3,HR2.out] <;> simp [*,belowB,assertB] <;> (intros;omega)
    · have b1:((r2:Int) == 0) = false:=by simp;omega
      have b2:(r2 == 0) = false:=by simp;omega
      go_wp2 <;> go_ret <;> refine LIFT.out _ ?_ <;> rw [HOK.out,ok_3,HR2.out,b2] <;> simp
  by_cases h4:op = 4
  · subst h4
    clear HRT
    by_cases hz:r2 = 0
    · subst hz
      go_wp2 <;> go_ret <;> refine LIFT.out _ ?_ <;> rw [HOK.out,ok_4,HR2.out] <;> simp [*,belowB,assertB] <;> (intros;omega)
    · have b1:((r2:Int) == 0) = false:=by simp;omega
      have b2:(r2 == 0) = false:=by simp;omega
      go_wp2 <;> go_ret <;> refine LIFT.out _ ?_ <;> rw [HOK.out,ok_4,HR2.out,b2] <;> simp
  by_cases h5:op = 5
  · subst h5
    clear HRT
    by_cases hz:r2 = 0
    · subst hz
      go_wp2 <;> go_ret <;> refine LIFT.out _ ?_ <;> rw [HOK.out,ok_5,HR2.out] <;> simp [*,belowB,assertB] <;> (intros;omega)
    · have b1:((r2:Int) == 0) = false:=by simp;omega
      have b2:(r2 == 0) = false:=by simp;omega
      go_wp2 <;> go_ret <;> refine LIFT.out _ ?_ <;> rw [HOK.out,ok_5,HR2.out,b2] <;> simp
  by_cases h6:op = 6
  · subst h6
    clear HRT
    by_cases hz:r2 = 0
    · subst hz
      go_wp2 <;> go_ret <;> refine LIFT.out _ ?_ <;> rw [HOK.out,ok_6,HR2.out] <;> simp [*,belowB,assertB] <;> (intros;omega)
    · have b1:((r2:Int) == 0) = false:=by simp;omega
      have b2:(r2 == 0) = false:=by simp;omega
      go_wp2 <;> go_ret <;> refine LIFT.out _ ?_ <;> rw [HOK.out,ok_6,HR2.out,b2] <;> simp
  by_cases h7:op = 7
  · subst h7
    clear HRT
    by_cases hz:r2 = 0
    · subst hz
      go_wp2 <;> go_ret <;> refine LIFT.out _ ?_ <;> rw [HOK.out,ok_7,HR2.out] <;> simp [*,belowB,assertB] <;> (intros;omega)
    · have b1:((r2:Int) == 0) = false:=by simp;omega
      have b2:(r2 == 0) = false:=by simp;omega
      go_wp2 <;> go_ret <;> refine LIFT.out _ ?_ <;> rw [HOK.out,ok_7,HR2.out,b2] <;> simp
  have e1:(op == 1) = false:=by simpa using h1
  have e2:(op == 2) = false:=by simpa using h2
  have e3:(op == 3) = false:=by simpa using h3
  have e4:(op == 4) = false:=by simpa using h4
  have e5:(op == 5) = false:=by simpa using h5
  have e6:(op == 6) = false:=by simpa using h6
  have e7:(op == 7) = false:=by simpa using h7
  have hno:=ok_no op x y a R n caps h1 h2 h3 h4 h5 h6 h7
  have HNO:=hid' hno
  clear hno h1 h2 h3 h4 h5 h6 h7
  go_wp2 <;> go_ret <;> exact LIFT.out _ (by rw [HOK.out];exact HNO.out.symm)
set_option maxRecDepth 100000 in
set_option maxHeartbeats 8000000 in
theorem rcheck9_no {w:World} {ad:Option Addr} {n c:Nat} {l:List In} {s k:Int} (hl:n = l.length) (hno:(decide (l.length ≤ 20000) && belowB s l.length && capsB k) = false) :
    Calls Tryz.prog 19 #[pv ad n c s k] w fun e w' => e = .returned (.int .i64 (if mayB l s k then 0 else 90)) ∧ Below w.heap.size w w':=by
  rw [head_no hno]
  rw [← hl] at hno
  clear hl
  by_cases h0:n < 1
  · have b0:decide ((n:Int) < 1) = true:=by simp;omega
    clear hno
    go_enter Tryz.func19,Tryz.ntmps19
    go_wp2
    all_goals go_ret
    all_goals exact ⟨rfl,Joins.below_alloc1 w _⟩
  have b0:decide ((n:Int) < 1) = false:=by simp;omega
  by_cases h1:20000 < n
  · have b1:decide ((n:Int) > 20000) = true:=by simp;omega
    have b1x:decide ((20000:Int) < (n:Int)) = true:=by simp;omega
    clear hno
    go_enter Tryz.func19,Tryz.ntmps19
    go_wp2
    all_goals go_ret
    all_goals exact ⟨rfl,Joins.below_alloc1 w _⟩
  have b1:decide ((n:Int) > 20000) = false:=by simp;omega
  have b1x:decide ((20000:Int) < (n:Int)) = false:=by simp;omega
  by_cases h2:s < 0
  · have b2:decide (s < 0) = true:=by simp;omega
    clear hno
    go_enter Tryz.func19,Tryz.ntmps19
    go_wp2
    all_goals go_ret
    all_goals exact ⟨rfl,Joins.below_alloc1 w _⟩
  have b2:decide (s < 0) = false:=by simp;omega
  by_cases h3:(n:Int) ≤ s
  · have b3:decide (s ≥ (n:Int)) = true:=by simp;omega
    have b3x:decide ((n:Int) ≤ s) = true:=by simp;omega
    clear hno
    go_enter Tryz.func19,Tryz.ntmps19
    go_wp2
    all_goals go_ret
    all_goals exact ⟨rfl,Joins.below_alloc1 w _⟩
  have b3:decide (s ≥ (n:Int)) = false:=by simp;omega
  have b3x:decide ((n:Int) ≤ s) = false:=by simp;omega
  by_cases h4:k < 2
  · have b4:decide (k < 2) = true:=by simp;omega
    clear hno
    go_enter Tryz.func19,Tryz.ntmps19
    go_wp2
    all_goals go_ret
    all_goals exact ⟨rfl,Joins.below_alloc1 w _⟩
  have b4:decide (k < 2) = false:=by simp;omega
  by_cases h5:1002 < k
  · have b5:decide (k > 1002) = true:=by simp;omega
    have b5x:decide ((1002:Int) < k) = true:=by simp;omega
    clear hno
    go_enter Tryz.func19,Tryz.ntmps19
    go_wp2
    all_goals go_ret
    all_goals exact ⟨rfl,Joins.below_alloc1 w _⟩
  have b5:decide (k > 1002) = false:=by simp;omega
  have b5x:decide ((1002:Int) < k) = false:=by simp;omega
  have hm:k.tmod 2 = 1:=by
    have h6:¬ k % 2 = 0:=fun h6 => by
      have:belowB s n = true:=by simp [belowB];omega
      have:capsB k = true:=by simp [capsB];omega
      simp_all
    rw [Int.tmod_eq_emod_of_nonneg (by omega)]
    omega
  have b6:(k.tmod 2 == 1) = true:=by rw [hm];rfl
  clear hno h0 h1 h2 h3 h4 h5 hm
  go_enter Tryz.func19,Tryz.ntmps19
  go_wp2
  all_goals go_ret
  all_goals exact ⟨rfl,Joins.below_alloc1 w _⟩
set_option maxRecDepth 100000 in
set_option maxHeartbeats 8000000 in
theorem rcheck9_ok {w:World} {ad:Option Addr} {n c:Nat} {l:List In} {s k:Int} (h:PI w w.heap.size ad n l) (hyes:(decide (l.length ≤ 20000) && belowB s l.length && capsB k) = true) :
    Calls Tryz.prog 19 #[pv ad n c s k] w fun e w' => e = .returned (.int .i64 (if mayB l s k then 0 else 90)) ∧ Below w.heap.size w w':=by
  have hm:mayB l s k = l.all fun I => I.okB l.length k:=by unfold mayB;rw [hyes];rfl
  rw [hm]
  have hl:=h.len
  rw [← hl] at hyes ⊢
  simp only [Bool.and_eq_true,decide_eq_true_eq,belowB,capsB,beq_iff_eq] at hyes
  obtain ⟨⟨hA,g1,g1'⟩,⟨g2,g2'⟩,g3⟩:=hyes
  have b0:decide ((n:Int) < 1) = false:=by simp;omega
  have b1:decide ((n:Int) > 20000) = false:=by simp;omega
  have b1x:decide ((20000:Int) < (n:Int)) = false:=by simp;omega
  have b2:decide (s < 0) = false:=by simp;omega
  have b3:decide (s ≥ (n:Int)) = false:=by simp;omega
  have b3x:decide ((n:Int) ≤ s) = false:=by simp;omega
  have b4:decide (k < 2) = false:=by simp;omega
  have b5:decide (k > 1002) = false:=by simp;omega
  have b5x:decide ((1002:Int) < k) = false:=by simp;omega
  have b6:(k.tmod 2 == 1) = false:=by rw [Int.tmod_eq_emod_of_nonneg (by omega),g3];rfl
  obtain ⟨rv,hrv⟩:∃ rv:Int,rv = (if (l.all fun I => I.okB n k) = true then 0 else 90):=⟨_,rfl⟩
  rw [← hrv]
  have HRES:=hid' hrv
  clear hrv hm
  obtain ⟨U,hU⟩:∃ U,U = w.alloc (.cells #[.slice ad n c,.int .i64 s,.int .i64 k] 24):=⟨_,rfl⟩
  have hb:Below w.heap.size w U:=by rw [hU];exact Joins.below_alloc1 w _
  have hX:U.heap[w.heap.size]? = some (.cells #[.slice ad n c,.int .i64 s,.int .i64 k] 24 (0,0)):=by rw [hU];exact heap_alloc_new w _
  have hsz:w.heap.size < U.heap.size:=(Array.getElem?_eq_some_iff.1 hX).1
  have HP:=hid' (h.kept hb hb.size)
  have HB:=hid' hb
  have HX:=hid' hX
  have HL:=hid' hl
  clear h hl hb hX g1 g1' g2 g2' g3
  obtain ⟨b,hbe⟩:∃ b,b = w.heap.size:=⟨_,rfl⟩
  go_enter Tryz.func19,Tryz.ntmps19
  go_upto_region 1 with fail
  rw [← hU,← hbe]
  rw [← hbe] at hsz HX HB
  have HBE:=hid' hbe
  clear hU hbe
  obtain ⟨c0,c1,c2⟩:=three_cells HX.out
  go_wp2_with fail
  clear c0 c1 c2 b0 b1 b1x b2 b3 b3x b4 b5 b5x b6
  go_loopw [4] (fun y wq => ∃ i:Nat,y = .int .i64 (i:Int) ∧ i ≤ n ∧ Hid (Below U.heap.size U wq) ∧ Hid (∀ j (hj:j < l.length),j < i → (l[j]).okB n k = true)) (fun y _ => n - (intOf y).toNat)
  case atStart => exact ⟨0,rfl,by omega,Below.refl _ _,fun j hj h0 => by omega⟩
  case round =>
    obtain ⟨i,rfl,hi,BK,HA⟩:=hrel
    by_cases hil:i < n
    · have b1:decide ((i:Int) < (n:Int)) = true:=by simp;omega
      have b2:(i:Int) < (n:Int):=by omega
      have ad1:IntKind.i64.wrap ((i:Int) + 1) = (i:Int) + 1:=by simp [IntKind.wrap,IntKind.bits,IntKind.signed];omega
      have hlt:i < l.length:=by have:=HL.out;omega
      obtain ⟨q,o,ND,e,hq,hcs⟩:=HP.out.mem (by omega)
      subst e
      obtain ⟨m0,m1,m2,m3,m4⟩:=(hcs i hlt).1.kept (BK.out.block q hq)
      have hIM:=(hcs i hlt).2.kept BK.out BK.out.size
      obtain ⟨M,hM⟩:∃ M,M = ND i:=⟨_,rfl⟩
      rw [← hM] at m0 m1 m2 m3 m4 hIM
      have hbw:b < wr.heap.size:=by have:=BK.out.size;omega
      obtain ⟨p0,p1,p2⟩:=three_cells ((BK.out.block b hsz).trans HX.out)
      have HCw:∀ W,W.heap = wr.heap → W.os = wr.os → W.tape = wr.tape → W.output = wr.output → Calls Tryz.prog 31 #[M.v,.int .i64 n,.int .i64 k] W fun e w' => e = .returned (.bool (l[i].okB n k)) ∧ Below wr.heap.size wr w':=by
        intro W e1 e2 e3 e4
        have hbW:Below wr.heap.size wr W:=⟨e2,e3,e4,by rw [e1];exact Nat.le_refl _,fun k hk => by rw [e1]⟩
        have hIW:=hIM.kept hbW hbW.size
        have HC:=may23 M l[i].R n k W hIW.len hIW.sm hIW.row
        rw [hIW.op,hIW.x,hIW.y,hIW.a] at HC
        exact HC.mono fun e w' h => ⟨h.1,hbW.trans (Joins.below_le h.2 hbW.size)⟩
      have HCC:=hid' HCw
      clear hM hIM hcs HCw
      cases g:l[i].okB n k
      · rw [g] at HCC
        go_wp2_with fail
        go_region_held3 (fun W => W.cell? ⟨b,0,none⟩ = some (.slice (some ⟨q,o,none⟩) n c) ∧ W.cell? ⟨b,2,none⟩ = some (.int .i64 k) ∧ W.cell? ⟨q,o + i * 5,none⟩ = some (.int .i64 M.op) ∧ W.cell? ⟨q,o + i * 5 + 1,none⟩ = some (.int .i64 M.x) ∧ W.cell? ⟨q,o + i * 5 + 2,none⟩ = some (.int .i64 M.y) ∧ W.cell? ⟨q,o + i * 5 + 3,none⟩ = some (.int .i64 M.a) ∧ W.cell? ⟨q,o + i * 5 + 4,none⟩ = some (.slice M.r1 M.r2 M.r3)) (first | (exact ⟨d0,d1,d2,d3,d4,d5,d6⟩) | (simp [*];done)) (first | (go_at_call 31;(with_reducible refine (HCC.out _ ?_ ?_ ?_ ?_).mono ?_);(rfl);(rfl);(rfl);(rfl);rintro e w2 ⟨rfl,hb2⟩;have hq':q < wr.heap.size:=(by have:=BK.out.size;omega);have d0:=(cell_eq (hb2.block b hbw) 0).trans p0;have d1:=(cell_eq (hb2.block b hbw) 2).trans p2;have d2:=(cell_eq (hb2.block q hq') _).trans m0;have d3:=(cell_eq (hb2.block q hq') _).trans m1;have d4:=(cell_eq (hb2.block q hq') _).trans m2;have d5:=(cell_eq (hb2.block q hq') _).trans m3;have d6:=(cell_eq (hb2.block q hq') _).trans m4;have HB2:=hid' hb2;clear hb2))
        all_goals go_wp2
        all_goals go_ret
        all_goals have hf:rv = 90:=(by rw [HRES.out,if_neg];rw [Bool.not_eq_true,List.all_eq_false];exact ⟨l[i],List.getElem_mem hlt,by rw [g];simp⟩)
        all_goals refine ⟨by first | (rw [hf];rfl) | exact ret_int hf.symm,?_⟩
        all_goals rw [← HBE.out]
        all_goals exact HB.out.trans (Joins.below_le (BK.out.trans (Joins.below_le HB2.out BK.out.size)) (by omega))
      · rw [g] at HCC
        go_wp2_with fail
        go_region_held3 (fun W => W.cell? ⟨b,0,none⟩ = some (.slice (some ⟨q,o,none⟩) n c) ∧ W.cell? ⟨b,2,none⟩ = some (.int .i64 k) ∧ W.cell? ⟨q,o + i * 5,none⟩ = some (.int .i64 M.op) ∧ W.cell? ⟨q,o + i * 5 + 1,none⟩ = some (.int .i64 M.x) ∧ W.cell? ⟨q,o + i * 5 + 2,none⟩ = some (.int .i64 M.y) ∧ W.cell? ⟨q,o + i * 5 + 3,none⟩ = some (.int .i64 M.a) ∧ W.cell? ⟨q,o + i * 5 + 4,none⟩ = some (.slice M.r1 M.r2 M.r3)) (first | (exact ⟨d0,d1,d2,d3,d4,d5,d6⟩) | (simp [*];done)) (first | (go_at_call 31;(with_reducible refine (HCC.out _ ?_ ?_ ?_ ?_).mono ?_);(rfl);(rfl);(rfl);(rfl);rintro e w2 ⟨rfl,hb2⟩;have hq':q < wr.heap.size:=(by have:=BK.out.size;omega);have d0:=(cell_eq (hb2.block b hbw) 0).trans p0;have d1:=(cell_eq (hb2.block b hbw) 2).trans p2;have d2:=(cell_eq (hb2.block q hq') _).trans m0;have d3:=(cell_eq (hb2.block q hq') _).trans m1;have d4:=(cell_eq (hb2.block q hq') _).trans m2;have d5:=(cell_eq (hb2.block q hq') _).trans m3;have d6:=(cell_eq (hb2.block q hq') _).trans m4;have HB2:=hid' hb2;clear hb2))
        all_goals go_wp2
        all_goals refine ⟨⟨i + 1,by push_cast;rfl,by omega,BK.out.trans (Joins.below_le HB2.out BK.out.size),fun j hj h1 => ?_⟩,by simp [intOf];omega⟩
        all_goals
          by_cases e:j = i
          · subst e;exact g
          · exact HA.out j hj (by omega)
    · have b1:decide ((i:Int) < (n:Int)) = false:=by simp;omega
      go_wp2
      all_goals go_ret
      all_goals have hf:rv = 0:=(by rw [HRES.out,if_pos];rw [List.all_eq_true];intro I hI;obtain ⟨j,hj,rfl⟩:=List.getElem_of_mem hI;exact HA.out j hj (by have:=HL.out;omega))
      all_goals refine ⟨by first | (rw [hf];rfl) | exact ret_int hf.symm,?_⟩
      rw [← HBE.out]
      exact HB.out.trans (Joins.below_le BK.out (by omega))
theorem rcheck9 {w:World} {ad:Option Addr} {n c:Nat} {l:List In} {s k:Int} (h:PI w w.heap.size ad n l):Calls Tryz.prog 19 #[pv ad n c s k] w fun e w' => e = .returned (.int .i64 (if mayB l s k then 0 else 90)) ∧ Below w.heap.size w w':=by
  cases hh:decide (l.length ≤ 20000) && belowB s l.length && capsB k with
  | false => exact rcheck9_no h.len hh
  | true => exact rcheck9_ok h hh
end Go.Proofs.YtjdbnoccdefnaaaGreat
