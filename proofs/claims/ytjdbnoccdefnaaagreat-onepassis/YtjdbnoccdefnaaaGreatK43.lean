/- HELPERS: texts of ours put together. -/
import Derived.Test.YtjdbnoccdefnaaaGreatK42
import Derived.Laws.CopyOwn
namespace Go.Proofs.YtjdbnoccdefnaaaGreat
open Go.RowKit Go.Lk
set_option linter.unusedVariables false
set_option linter.unusedSimpArgs false
theorem own_all {w:World} {N g K:Nat} {xs:List Value} (h:w.ownsRow N 3 1 (.slice (some ⟨g,0,none⟩) K K) K xs):w.heap[g]? = some (.cells xs.toArray 3 (0,0)) ∧ N ≤ g ∧ xs.length = K ∧ K ≤ maxLen:=by
  have hl:=h.1
  rcases h.2 with ⟨e,_⟩ | ⟨g',cap,cur,e,h1,h2,h3,h4,h5,h6⟩
  · simp at e
  · simp only [Value.slice.injEq,Option.some.injEq,Addr.mk.injEq,and_true,true_and] at e
    obtain ⟨rfl,rfl⟩:=e
    have e2:cur.toList = xs:=by rw [← h6,List.take_of_length_le (by simp;omega)]
    rw [← e2]
    exact ⟨by simpa using h2,h1,by rw [e2];omega,h4⟩
theorem own_of {w:World} {N g K:Nat} {xs:List Value} (h:w.heap[g]? = some (.cells xs.toArray 3 (0,0))) (hN:N ≤ g) (hl:xs.length = K) (hK:K ≤ maxLen):w.ownsRow N 3 1 (.slice (some ⟨g,0,none⟩) K K) K xs:=
  ⟨by omega,.inr ⟨g,K,xs.toArray,rfl,hN,h,Nat.le_refl _,hK,by simp;omega,by simpa using List.take_of_length_le (l:=xs) (i:=K) (by omega)⟩⟩
theorem step_copy_whole {P:Program} {ops:Array Oper} {o:Oper} {a:Act} {w:World} {Kp:Act → World → Prop} {Q:Exit → Act → World → Prop} {E:Prop} (hgd:o.guard = none) (d s:Operand) (dT sT:TypeId)
    (ho:o.op = .call { callee:=.builtin .copy,args:=#[d,s],argTypes:=#[dT,sT] }) (hu:P.underlying dT = some (.slice 3)) (hsz:(P.info? 3).map (·.size) = some 1)
    (N g sb K:Nat) (xs ys:List Value) (hd:a.eval d = .slice (some ⟨g,0,none⟩) K K) (hs:a.eval s = .slice (some ⟨sb,0,none⟩) K K)
    (hg:w.ownsRow N 3 1 (.slice (some ⟨g,0,none⟩) K K) K xs) (hsrc:w.ownsRow N 3 1 (.slice (some ⟨sb,0,none⟩) K K) K ys) (h1:∀ v ∈ ys,v.oneCell' = true)
    (h:∀ w',w'.ownsRow N 3 1 (.slice (some ⟨g,0,none⟩) K K) K ys → (∀ b,b ≠ g → w'.heap[b]? = w.heap[b]?) → Below N w w' → Kp (a.put o.dst (goInt K)) w') :
    if Region.wanted o (yielded ops a.tmps) = true then Oper.wp P o a w Kp Q else E:=by
  have hw:Region.wanted o (yielded ops a.tmps) = true:=by simp [Region.wanted,hgd]
  rw [if_pos hw]
  obtain ⟨g1,g2,g3,g4⟩:=own_all hg
  obtain ⟨s1,s2,s3,-⟩:=own_all hsrc
  have hrun:=run_copy_row (P:=P) w dT sT o.type 3 g 0 K K ⟨sb,0,none⟩ K K xs.toArray 3 ys hu hsz g1 (by rw [s3];exact (Nat.min_self K).symm) (fun j v hj => by
    have e9:((⟨sb,0,none⟩:Addr).add j) = ⟨sb,j,none⟩:=by simp [Addr.add];omega
    rw [e9,Joins.cell_of_block s1 j]
    simpa using hj) (by simp;omega) h1
  unfold Oper.wp
  simp [execOp,ho,resolve,invoke,builtin,hd,hs,hrun,Result.andThen]
  rw [s3]
  have e:([] ++ ys ++ xs.drop K) = ys:=by rw [List.drop_of_length_le (by omega)];simp
  refine h _ (own_of ?_ g2 s3 g4) (fun b hb => setRow_other w g b _ hb) (below_setRow (Below.refl N w) g2 _)
  rw [setRow_heap w g _ _ 3 _ g1]
  simp
  omega
theorem oneI (l:List Int):∀ v ∈ I64 l,v.oneCell' = true:=one_cell_ints l
variable {N:Nat} {w:World} {mb:Nat} {ad:Option Addr} {n cp:Nat} {s k:Int} {tad:Option Addr} {tn tc:Nat} {l:List In} {tx:List Int} {K p:Nat} {bt:Int} {cb:Nat} {c:List Int} {S:MS} {nb:Nat} {vf:Value}
theorem size3:(Tryz.prog.info? 3).map (·.size) = some 1:=by kernel_rfl
set_option maxRecDepth 100000 in
set_option maxHeartbeats 8000000 in
theorem match60 {a:Int} (h:MM N w mb ad n cp s k tad tn tc l tx K p bt cb c S nb vf) (hN:N ≤ w.heap.size) (hK:K ≤ 1002) :
    Calls Tryz.prog 60 #[.pointer (some ⟨mb,0,none⟩),.int .i64 a] w fun e w' => e = .returned (.tuple #[]) ∧ ∃ vf',MM N w' mb ad n cp s k tad tn tc l tx K p bt cb c { S with ok:=true,fc:=c,wh:=a } nb vf' ∧ Below N w w':=by
  have k9:w.cell? ⟨mb,9,none⟩ = some (.bool S.ok):=h.cell 9
  have k6:w.cell? ⟨mb,6,none⟩ = some (.slice (some ⟨cb,0,none⟩) K K):=h.cell 6
  have f10:=h.frz 10
  have k10:w.cell? ⟨mb,10,none⟩ = some vf:=h.cell 10
  have one10:vf.oneCell' = true:=by
    cases e:S.ok
    · rw [h.nf e];rfl
    · obtain ⟨fb,e2,-⟩:=h.rf e;rw [e2];rfl
  have hmb:=h.lt
  have hmk:=run_make_row' (P:=Tryz.prog) 30 3 (.int .i64 0) 8 Tryz.underlying30 info3 rfl .i64 .i64 K (by omega) (by omega)
  have HM:=hid h
  clear h
  obtain ⟨okb,hok⟩:∃ okb,okb = S.ok:=⟨_,rfl⟩
  rw [← hok] at k9
  have HOK:=hid hok
  clear hok
  go_enter Tryz.func60,Tryz.ntmps60
  go_upto_if 9 with (fail)
  go_cut [] from 10 to 19 (fun wx => ∃ fb xs,Hid (wx.heap[mb]? = some (.cells (mac ad n cp s k tad tn tc p bt cb K S nb (.slice (some ⟨fb,0,none⟩) K K)) 62 (0,0))) ∧ Hid (wx.ownsRow N 3 1 (.slice (some ⟨cb,0,none⟩) K K) K (I64 c)) ∧ Hid (wx.ownsRow N 3 1 (.slice (some ⟨nb,0,none⟩) K K) K (I64 S.nc)) ∧ Hid (wx.ownsRow N 3 1 (.slice (some ⟨fb,0,none⟩) K K) K xs) ∧ fb ≠ mb ∧ fb ≠ cb ∧ fb ≠ nb ∧ Hid (Below N w wx))
  case first =>
    cases okb
    · obtain ⟨fb,hfb⟩:∃ fb,fb = w.heap.size:=⟨_,rfl⟩
      obtain ⟨W0,hW0⟩:∃ W0,W0 = w.setCell ⟨mb,10,none⟩ (.slice (some ⟨fb,0,none⟩) K K):=⟨_,rfl⟩
      obtain ⟨W1,hW1⟩:∃ W1,W1 = W0.alloc (.cells (madeCells #[.int .i64 0] K) 3):=⟨_,rfl⟩
      have hz0:W0.heap.size = fb:=by rw [hW0,hfb];simp
      have hR1:W1.ownsRow N 3 1 (.slice (some ⟨fb,0,none⟩) K K) K (I64 (List.replicate K 0)):=by
        have:=World.ownsRow_lit (base:=N) (e:=3) (size:=1) W0 (madeCells #[.int .i64 0] K) K (by omega) (by unfold maxLen;omega) (by rw [size_madeCells];omega)
        rw [toList_madeCells_one,hz0] at this
        rw [hW1,show I64 (List.replicate K 0) = List.replicate K (.int .i64 0) by simp [I64]]
        exact this
      have hx1:W1.heap[mb]? = some (.cells (mac ad n cp s k tad tn tc p bt cb K S nb (.slice (some ⟨fb,0,none⟩) K K)) 62 (0,0)):=by
        rw [hW1,heap_alloc_old _ _ (by omega),hW0]
        exact Joins.block_setCell (i:=10) HM.out.box _
      have ho1:∀ b,b < w.heap.size → b ≠ mb → W1.heap[b]? = w.heap[b]?:=fun b hb hn => by
        rw [hW1,heap_alloc_old _ _ (by omega),hW0]
        exact heap_setCell_other _ _ _ _ hn
      have hB1:Below N w W1:=by
        rw [hW1,hW0]
        exact ((Below.refl N w).setCell (p:=⟨mb,10,none⟩) HM.out.lo _).alloc (by simp;omega) _
      have hcl:=(HM.out.rc.lt cb rfl).2
      have hnl:=(HM.out.rn.lt nb rfl).2
      have hrc:W1.ownsRow N 3 1 (.slice (some ⟨cb,0,none⟩) K K) K (I64 c):=row_kept HM.out.rc fun b hb => by simp [Value.ownBlock] at hb;rw [← hb];exact ho1 cb hcl HM.out.d1
      have hrn:W1.ownsRow N 3 1 (.slice (some ⟨nb,0,none⟩) K K) K (I64 S.nc):=row_kept HM.out.rn fun b hb => by simp [Value.ownBlock] at hb;rw [← hb];exact ho1 nb hnl HM.out.d2
      have HR1:=hid hR1
      have HX1:=hid hx1
      have HB1:=hid hB1
      have HRC:=hid hrc
      have HRN:=hid hrn
      have HW1:=hid hW1
      have HW0:=hid hW0
      have HFB:=hid hfb
      clear hR1 hx1 hB1 hrc hrn hW1 hW0 hfb hz0 ho1
      go_wp2
      all_goals rw [← HFB.out,← HW0.out,← HW1.out]
      all_goals go_meet
      all_goals have hfe:=HFB.out
      all_goals exact ⟨fb,_,HX1.out,HRC.out,HRN.out,HR1.out,by omega,by omega,by omega,HB1.out⟩
    · obtain ⟨fb,e,h1,h2,h3,h4⟩:=HM.out.rf HOK.out.symm
      go_wp2
      go_meet
      exact ⟨fb,_,by rw [← e];exact HM.out.box,HM.out.rc,HM.out.rn,h1,h2,h3,h4,Below.refl _ _⟩
  case rest =>
    obtain ⟨fb,xs,HX,HRC,HRN,HRF,hf1,hf2,hf3,HBW⟩:=hcut
    have j10:wc.cell? ⟨mb,10,none⟩ = some (.slice (some ⟨fb,0,none⟩) K K):=Joins.cell_of_block HX.out 10
    have j6:wc.cell? ⟨mb,6,none⟩ = some (.slice (some ⟨cb,0,none⟩) K K):=Joins.cell_of_block HX.out 6
    clear hmk f10 k6
    go_upto_region 2 with fail
    refine wp_region_lexF [0,1,2,3,4,5,6,7,8] [9] (fun V => V.cell? ⟨mb,10,none⟩ = some (.slice (some ⟨fb,0,none⟩) K K) ∧ V.cell? ⟨mb,6,none⟩ = some (.slice (some ⟨cb,0,none⟩) K K)) (by decide +kernel) (by decide +kernel) rfl (by decide +kernel) (by decide +kernel) (by exact ⟨j10,j6⟩) ?_
    simp only [opsAt,opsNo,List.getElem?_toArray,List.getElem?_cons_zero,List.getElem?_cons_succ]
    iterate 9
      refine lex_cons ?_ rfl (fun V hV => ?_) (fun _ _ _ h => h) ?_
      rotate_left
      · obtain ⟨v0,v1⟩:=hV
        go_simp <;> with_reducible rfl
      simp only [Act.put,List.setIfInBounds_toArray,List.set_cons_zero,List.set_cons_succ]
    refine lex_nil (tailK_cons fun K1 hK1 => ?_)
    refine step_copy_whole rfl (.tmp 24) (.tmp 28) 30 30 rfl Tryz.underlying30 size3 N fb cb K xs (I64 c) rfl rfl HRF.out HRC.out (oneI c) (fun w3 hr3 ho3 hb3 => ?_)
    have hx3:=(ho3 mb (fun e => hf1 e.symm)).trans HX.out
    have hrc3:w3.ownsRow N 3 1 (.slice (some ⟨cb,0,none⟩) K K) K (I64 c):=row_kept HRC.out fun b hb => by simp [Value.ownBlock] at hb;rw [← hb];exact ho3 cb (fun e => hf2 e.symm)
    have hrn3:w3.ownsRow N 3 1 (.slice (some ⟨nb,0,none⟩) K K) K (I64 S.nc):=row_kept HRN.out fun b hb => by simp [Value.ownBlock] at hb;rw [← hb];exact ho3 nb (fun e => hf3 e.symm)
    have hb3':Below N w w3:=HBW.out.trans ⟨hb3.os,hb3.tape,hb3.output,hb3.size,hb3.block⟩
    refine hK1.out _ _ (fun _ => ⟨Joins.cell_of_block hx3 10,Joins.cell_of_block hx3 6⟩) (tailK_nil ?_)
    have g9:=Joins.unfrozen_of_block hx3 9
    have q9:w3.cell? ⟨mb,9,none⟩ = some (.bool S.ok):=Joins.cell_of_block hx3 9
    have q11:w3.cell? ⟨mb,11,none⟩ = some (.int .i64 S.wh):=Joins.cell_of_block hx3 11
    have g11:=Joins.unfrozen_of_block hx3 11
    have HX3:=hid hx3
    have HRC3:=hid hrc3
    have HRN3:=hid hrn3
    have HR3:=hid hr3
    have HB3:=hid hb3'
    clear hx3 hrc3 hrn3 hr3 hb3 hb3' ho3 hK1 K1 j10 j6
    go_wp2
    obtain ⟨W4,hW4⟩:∃ W4,W4 = w3.setCell ⟨mb,9,none⟩ (.bool true):=⟨_,rfl⟩
    obtain ⟨W5,hW5⟩:∃ W5,W5 = W4.setCell ⟨mb,11,none⟩ (.int .i64 a):=⟨_,rfl⟩
    have hx4:W4.heap[mb]? = some (.cells (mac ad n cp s k tad tn tc p bt cb K { S with ok:=true } nb (.slice (some ⟨fb,0,none⟩) K K)) 62 (0,0)):=by rw [hW4];exact Joins.block_setCell (i:=9) HX3.out _
    have hx5:W5.heap[mb]? = some (.cells (mac ad n cp s k tad tn tc p bt cb K { S with ok:=true,fc:=c,wh:=a } nb (.slice (some ⟨fb,0,none⟩) K K)) 62 (0,0)):=by rw [hW5];exact Joins.block_setCell (i:=11) hx4 _
    have ho5:∀ b,b ≠ mb → W5.heap[b]? = w3.heap[b]?:=fun b hb => by rw [hW5,heap_setCell_other _ _ _ _ hb,hW4,heap_setCell_other _ _ _ _ hb]
    have hB5:Below N w W5:=by rw [hW5,hW4];exact (HB3.out.setCell (p:=⟨mb,9,none⟩) HM.out.lo _).setCell (p:=⟨mb,11,none⟩) HM.out.lo _
    rw [← hW4,← hW5]
    go_end0
    refine ⟨rfl,.slice (some ⟨fb,0,none⟩) K K,⟨hx5,HM.out.lo,row_kept HRC3.out fun b hb => ho5 b ?_,row_kept HRN3.out fun b hb => ho5 b ?_,fun _ => ⟨fb,rfl,row_kept HR3.out fun b hb => ho5 b ?_,hf1,fun e => hf2 e,fun e => hf3 e⟩,fun h => (by cases h),HM.out.d1,HM.out.d2,HM.out.d3,HM.out.bt,HM.out.pi.kept hB5 (Nat.le_refl _),HM.out.tx.below hB5⟩,hB5⟩
    · simp [Value.ownBlock] at hb;rw [← hb];exact HM.out.d1
    · simp [Value.ownBlock] at hb;rw [← hb];exact HM.out.d2
    · simp [Value.ownBlock] at hb;rw [← hb];exact hf1
end Go.Proofs.YtjdbnoccdefnaaaGreat
