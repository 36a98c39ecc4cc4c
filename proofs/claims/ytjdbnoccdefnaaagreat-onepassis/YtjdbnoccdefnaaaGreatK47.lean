/- HELPERS: texts of ours put together. -/
import Derived.Test.YtjdbnoccdefnaaaGreatK46
namespace Go.Proofs.YtjdbnoccdefnaaaGreat
open Go.RowKit Go.Lk
set_option linter.unusedVariables false
set_option linter.unusedSimpArgs false
variable {N:Nat} {w:World} {mb:Nat} {ad:Option Addr} {n cp:Nat} {s k:Int} {tad:Option Addr} {tn tc:Nat} {l:List In} {tx:List Int} {K p:Nat} {bt:Int} {cb:Nat} {c:List Int} {S:MS} {nb:Nat} {vf:Value}
theorem Rn.st_le {p:Nat} {o:Option Nat} {c:List Int} {s s':MS} (h:Rn l tx p o c s s'):s.st ≤ s'.st:=by
  induction h with
  | done => exact Nat.le_refl _
  | step h1 h2 ih =>
    have:=h1.st_le
    simp only at this ih
    omega
theorem Cm.nx {p:Nat} {c:List Int} {i:Nat} {s s':MS} {b:Bool} {k:Int} (hF:∀ I ∈ l,Fit (l.length:Int) k I) (h:Cm l tx p c i s b s'):i < l.length → (∀ y,s.nx = some y → p < tx.length ∧ y < l.length) → ∀ y,s'.nx = some y → p < tx.length ∧ y < l.length:=by
  induction h with
  | @altT c i S s1 S' b hop h1 h2 ih1 ih2 =>
    intro hi hs
    obtain ⟨f1,f2,-⟩:=fit_at hF hi
    have g1:=f1 (by rw [hop];decide) (by rw [hop];decide)
    have g2:=f2 hop
    exact ih2 (by omega) (ih1 (by omega) hs)
  | @altF c i S S' hop h1 ih1 =>
    intro hi hs
    obtain ⟨f1,-,-⟩:=fit_at hF hi
    have g1:=f1 (by rw [hop];decide) (by rw [hop];decide)
    exact ih1 (by omega) hs
  | @nop c i S S' b hop h1 ih1 =>
    intro hi hs
    obtain ⟨f1,-,-⟩:=fit_at hF hi
    have g1:=f1 (by rw [hop];decide) (by rw [hop];decide)
    exact ih1 (by omega) hs
  | @cap c i S S' b hop h1 ih1 =>
    intro hi hs
    obtain ⟨f1,-,-⟩:=fit_at hF hi
    have g1:=f1 (by rw [hop];decide) (by rw [hop];decide)
    exact ih1 (by omega) hs
  | @asrt c i S S' b hop hh h1 ih1 =>
    intro hi hs
    obtain ⟨f1,-,-⟩:=fit_at hF hi
    have g1:=f1 (by rw [hop];decide) (by rw [hop];decide)
    exact ih1 (by omega) hs
  | @rune c i S hop hlt hin =>
    intro hi hs y hy
    obtain ⟨f1,-,-⟩:=fit_at hF hi
    have g1:=f1 (by rw [hop];decide) (by rw [hop];decide)
    simp at hy
    exact ⟨hlt,by omega⟩
  | asrtN _ _ => intro hi hs y hy;exact hs y hy
  | runeN _ _ => intro hi hs y hy;exact hs y hy
  | mtch _ => intro hi hs y hy;exact hs y hy
  | fail _ => intro hi hs y hy;exact hs y hy
def MO (N:Nat) (w:World) (mb:Nat) (ad:Option Addr) (n cp:Nat) (s k:Int) (tad:Option Addr) (tn tc:Nat) (l:List In) (tx:List Int) (K p cb:Nat) (c:List Int) (S:MS) (nb:Nat) (vf:Value):Prop:=
  ∃ bt,w.heap[mb]? = some (.cells (mac ad n cp s k tad tn tc p bt cb K S nb vf) 62 (0,0)) ∧ MM N (w.setCell ⟨mb,5,none⟩ (.int .i64 0)) mb ad n cp s k tad tn tc l tx K p 0 cb c S nb vf
theorem MO.mk {o:Nat → Prop} (hx:w.heap[mb]? = some (.cells (mac ad n cp s k tad tn tc p bt cb K S nb vf) 62 (0,0))) (hlo:N ≤ mb) (hrc:w.ownsRow N 3 1 (.slice (some ⟨cb,0,none⟩) K K) K (I64 c)) (hrn:w.ownsRow N 3 1 (.slice (some ⟨nb,0,none⟩) K K) K (I64 S.nc))
    (hrf:S.ok = true → ∃ fb,vf = .slice (some ⟨fb,0,none⟩) K K ∧ w.ownsRow N 3 1 (.slice (some ⟨fb,0,none⟩) K K) K (I64 S.fc) ∧ fb ≠ mb ∧ fb ≠ cb ∧ fb ≠ nb) (hnf:S.ok = false → vf = .slice none 0 0) (h1:cb ≠ mb) (h2:nb ≠ mb) (h3:cb ≠ nb) (hpi:PI w N ad n l) (htx:TxAt N w tad tn tx) :
    MO N w mb ad n cp s k tad tn tc l tx K p cb c S nb vf:=by
  have ho:∀ b,b ≠ mb → (w.setCell ⟨mb,5,none⟩ (.int .i64 0)).heap[b]? = w.heap[b]?:=fun b hb => heap_setCell_other _ _ _ _ hb
  have hB:Below N w (w.setCell ⟨mb,5,none⟩ (.int .i64 0)):=(Below.refl N w).setCell (p:=⟨mb,5,none⟩) hlo _
  refine ⟨bt,hx,?_,hlo,row_kept hrc fun b hb => ho b ?_,row_kept hrn fun b hb => ho b ?_,fun e => ?_,hnf,h1,h2,h3,.inl rfl,hpi.kept hB (Nat.le_refl _),htx.below hB⟩
  · have h9:=Joins.block_setCell (i:=5) hx (.int .i64 0)
    exact h9
  · simp [Value.ownBlock] at hb;rw [← hb];exact h1
  · simp [Value.ownBlock] at hb;rw [← hb];exact h2
  · obtain ⟨fb,e1,e2,e3,e4,e5⟩:=hrf e
    exact ⟨fb,e1,row_kept e2 fun b hb => ho b (by simp [Value.ownBlock] at hb;rw [← hb];exact e3),e3,e4,e5⟩
def placeOf (w:World) (mb:Nat):Nat:=match w.cell? ⟨mb,4,none⟩ with | some (.int _ p) => p.toNat | _ => 0
theorem MO.place (h:MO N w mb ad n cp s k tad tn tc l tx K p cb c S nb vf):placeOf w mb = p:=by
  obtain ⟨bt,hx,-⟩:=h
  unfold placeOf
  rw [Joins.cell_of_block hx 4]
  simp
def RPost (N:Nat) (w:World) (mb K:Nat) (S2:MS) (e:Ending) (w':World):Prop:=
  e = .returned (.tuple #[]) ∧ Below N w w' ∧ ∃ vf,w'.cell? ⟨mb,9,none⟩ = some (.bool S2.ok) ∧ w'.cell? ⟨mb,10,none⟩ = some vf ∧ w'.cell? ⟨mb,11,none⟩ = some (.int .i64 S2.wh) ∧ w'.cell? ⟨mb,12,none⟩ = some (.int .i64 (S2.st:Int)) ∧
    (S2.ok = true → ∃ fb,vf = .slice (some ⟨fb,0,none⟩) K K ∧ w'.ownsRow N 3 1 (.slice (some ⟨fb,0,none⟩) K K) K (I64 S2.fc)) ∧ (S2.ok = false → vf = .slice none 0 0)
set_option maxRecDepth 100000 in
set_option maxHeartbeats 16000000 in
theorem run29 {at_ si:Nat} {S2:MS} (hF:∀ I ∈ l,Fit (l.length:Int) k I) (hn:n ≤ 20000) (hnl:n = l.length) (hat:at_ ≤ tn) (hK:(K:Int) = k) (hK2:K ≤ 1002) (hs:s = (si:Int)) (hsl:si < n) (hr:Rn l tx at_ (some si) c S S2) (hst:S2.st ≤ 1000000000000) (hN:N ≤ w.heap.size)
    (h:MO N w mb ad n cp s k tad tn tc l tx K p cb c S nb vf):Calls Tryz.prog 29 #[.pointer (some ⟨mb,0,none⟩),.int .i64 (at_:Int)] w (RPost N w mb K S2):=by
  obtain ⟨bt,hx,hM⟩:=h
  have q4:w.cell? ⟨mb,4,none⟩ = some (.int .i64 (p:Int)):=Joins.cell_of_block hx 4
  have f4:=Joins.unfrozen_of_block hx 4
  have htn:=hM.tx.1
  have htn2:=hM.tx.2.1
  have hlo:=hM.lo
  obtain ⟨W1,hW1⟩:∃ W1,W1 = w.setCell ⟨mb,4,none⟩ (.int .i64 (at_:Int)):=⟨_,rfl⟩
  have ho1:∀ b,b ≠ mb → W1.heap[b]? = w.heap[b]?:=fun b hb => by rw [hW1];exact heap_setCell_other _ _ _ _ hb
  have ho0:∀ b,b ≠ mb → w.heap[b]? = (w.setCell ⟨mb,5,none⟩ (.int .i64 0)).heap[b]?:=fun b hb => (heap_setCell_other _ _ _ _ hb).symm
  have hx1:W1.heap[mb]? = some (.cells (mac ad n cp s k tad tn tc at_ bt cb K S nb vf) 62 (0,0)):=by
    rw [hW1]
    have h9:=Joins.block_setCell (i:=4) hx (.int .i64 (at_:Int))
    exact h9
  have hB1:Below N w W1:=by rw [hW1];exact (Below.refl N w).setCell (p:=⟨mb,4,none⟩) hlo _
  have hB0:Below N (w.setCell ⟨mb,5,none⟩ (.int .i64 0)) w:=⟨rfl,rfl,rfl,by simp,fun b hb => ho0 b (by omega)⟩
  have hM1:MO N W1 mb ad n cp s k tad tn tc l tx K at_ cb c S nb vf:=MO.mk (o:=fun _ => True) hx1 hlo (row_kept hM.rc fun b hb => (ho1 b (by simp [Value.ownBlock] at hb;rw [← hb];exact hM.d1)).trans (ho0 b (by simp [Value.ownBlock] at hb;rw [← hb];exact hM.d1)))
    (row_kept hM.rn fun b hb => (ho1 b (by simp [Value.ownBlock] at hb;rw [← hb];exact hM.d2)).trans (ho0 b (by simp [Value.ownBlock] at hb;rw [← hb];exact hM.d2)))
    (fun e => by
      obtain ⟨fb,e1,e2,e3,e4,e5⟩:=hM.rf e
      exact ⟨fb,e1,row_kept e2 fun b hb => (ho1 b (by simp [Value.ownBlock] at hb;rw [← hb];exact e3)).trans (ho0 b (by simp [Value.ownBlock] at hb;rw [← hb];exact e3)),e3,e4,e5⟩) hM.nf hM.d1 hM.d2 hM.d3 ((hM.pi.kept hB0 (Nat.le_refl _)).kept hB1 (Nat.le_refl _)) ((hM.tx.below hB0).below hB1)
  have q1:W1.cell? ⟨mb,1,none⟩ = some (.int .i64 (si:Int)):=by rw [← hs];exact Joins.cell_of_block hx1 1
  have HM1:=hid hM1
  have HB1:=hid hB1
  have HF:=hid hF
  have HNL:=hid hnl
  have HK:=hid hK
  have HR:=hid hr
  have HTN:=hid htn
  have hN1:N ≤ W1.heap.size:=Nat.le_trans hN hB1.size
  clear hx hM hx1 hB1 hB0 hM1 ho1 ho0 hF hnl hK hr htn hs
  go_enter Tryz.func29,Tryz.ntmps29
  go_upto_region 1 with fail
  rw [← hW1]
  clear hW1 q4 f4
  go_upto_region 2 with fail
  go_loopw [4] (fun v wq => ∃ (p:Nat) (o:Option Nat) (c:List Int) (S:MS) (cb nb:Nat) (vf:Value),v = nxV o ∧ N ≤ wq.heap.size ∧ (∀ y,o = some y → p ≤ tn ∧ y < n) ∧ Hid (MO N wq mb ad n cp s k tad tn tc l tx K p cb c S nb vf) ∧ Hid (Rn l tx p o c S S2) ∧ Hid (Below N w wq)) (fun _ wq => tn + 1 - placeOf wq mb)
  case atStart => exact ⟨at_,some si,c,S,cb,nb,vf,rfl,hN1,fun y hy => by simp at hy;omega,HM1.out,HR.out,HB1.out⟩
  case round =>
    clear HM1 HR HB1 q1
    obtain ⟨p,o,c,S,cb,nb,vf,rfl,hNr,ho,HM,HR,HB⟩:=hrel
    cases o with
    | none =>
      have e0:nxV none = .int .i64 (-1):=rfl
      rw [e0]
      obtain ⟨bt,hx,hM⟩:=HM.out
      have hr:=HR.out
      cases hr
      have HX:=hid hx
      have HMM:=hid hM
      clear hx hM HM HR e0
      go_wp2
      go_end0
      have ho0:∀ b,b ≠ mb → wr.heap[b]? = (wr.setCell ⟨mb,5,none⟩ (.int .i64 0)).heap[b]?:=fun b hb => (heap_setCell_other _ _ _ _ hb).symm
      refine ⟨rfl,HB.out,vf,Joins.cell_of_block HX.out 9,Joins.cell_of_block HX.out 10,Joins.cell_of_block HX.out 11,Joins.cell_of_block HX.out 12,fun e => ?_,HMM.out.nf⟩
      obtain ⟨fb,e1,e2,e3,-,-⟩:=HMM.out.rf e
      exact ⟨fb,e1,row_kept e2 fun b hb => ho0 b (by simp [Value.ownBlock] at hb;rw [← hb];exact e3)⟩
    | some i =>
      have e0:nxV (some i) = .int .i64 (i:Int):=rfl
      rw [e0]
      have b1:decide ((i:Int) = -1) = false:=by simp
      have b2:((i:Int) == -1) = false:=by simp
      have b3:((i:Int) != -1) = true:=by simp
      have b4:decide ((i:Int) ≠ -1) = true:=by simp
      obtain ⟨hpt,hin⟩:=ho i rfl
      obtain ⟨bt,hx,hM⟩:=HM.out
      have hpl:=HM.out.place
      have hr:=HR.out
      cases hr with
      | @step _ _ _ _ s1 _ b h1 h2 =>
        have f5:=Joins.unfrozen_of_block hx 5
        have f7:=Joins.unfrozen_of_block hx 7
        have q5:wr.cell? ⟨mb,5,none⟩ = some (.int .i64 bt):=Joins.cell_of_block hx 5
        have q7:wr.cell? ⟨mb,7,none⟩ = some (nxV S.nx):=Joins.cell_of_block hx 7
        have one7:(nxV S.nx).oneCell' = true:=by cases S.nx <;> rfl
        obtain ⟨W2,hW2⟩:∃ W2,W2 = (wr.setCell ⟨mb,5,none⟩ (.int .i64 0)).setCell ⟨mb,7,none⟩ (.int .i64 (-1)):=⟨_,rfl⟩
        have hM2:MM N W2 mb ad n cp s k tad tn tc l tx K p 0 cb c { S with nx:=none } nb vf:=by
          rw [hW2]
          refine hM.rebox (S':={ S with nx:=none }) ?_ (fun b hb => heap_setCell_other _ _ _ _ hb) ((Below.refl N _).setCell (p:=⟨mb,7,none⟩) hlo _) rfl rfl rfl (.inl rfl)
          have h9:=Joins.block_setCell (i:=7) hM.box (.int .i64 (-1))
          exact h9
        have hB2:Below N w W2:=by rw [hW2];exact (HB.out.setCell (p:=⟨mb,5,none⟩) hlo _).setCell (p:=⟨mb,7,none⟩) hlo _
        have hN2:N ≤ W2.heap.size:=by have:=hB2.size;have:=HB.out.size;rw [hW2];simp;omega
        have hs1:=h2.st_le
        have D44:=comeTo44 HF.out hn HNL.out hpt HK.out hK2 h1 (w:=W2) (bt:=0) (vf:=vf) hN2 hin (by simp only at hs1;omega) hM2
        have HH1:=hid h1
        have HH2:=hid h2
        have HB2:=hid hB2
        have HPL:=hid hpl
        clear hx hM hM2 hB2 HM HR h1 h2 e0 hpl
        go_upto_region 5 with fail
        rw [← hW2]
        clear hW2 f5 f7 q5 q7 one7
        go_upto_region 6 with (go_at_call 44;(with_reducible refine D44.mono ?_);rintro e w3 ⟨rfl,bt3,vf3,x1,x2⟩;have X1:=hid x1;have X2:=hid x2;clear x1 x2 D44)
        have q6:w3.cell? ⟨mb,6,none⟩ = some (.slice (some ⟨cb,0,none⟩) K K):=X1.out.cell 6
        have q8:w3.cell? ⟨mb,8,none⟩ = some (.slice (some ⟨nb,0,none⟩) K K):=X1.out.cell 8
        have f6:=X1.out.frz 6
        have f8:=X1.out.frz 8
        go_region_law (fail)
        all_goals
          obtain ⟨W4,hW4⟩:∃ W4,W4 = ((w3.setCell ⟨mb,6,none⟩ (.slice (some ⟨nb,0,none⟩) K K)).setCell ⟨mb,8,none⟩ (.slice (some ⟨cb,0,none⟩) K K)).drew:=⟨_,rfl⟩
          obtain ⟨U6,hU6⟩:∃ U6,U6 = w3.setCell ⟨mb,6,none⟩ (.slice (some ⟨nb,0,none⟩) K K):=⟨_,rfl⟩
          have y6:U6.heap[mb]? = some (.cells (mac ad n cp s k tad tn tc p bt3 nb K s1 nb vf3) 62 (0,0)):=by
            rw [hU6]
            have h9:=Joins.block_setCell (i:=6) X1.out.box (.slice (some ⟨nb,0,none⟩) K K)
            exact h9
          have hx4:W4.heap[mb]? = some (.cells (mac ad n cp s k tad tn tc p bt3 nb K s1 cb vf3) 62 (0,0)):=by
            rw [hW4,← hU6]
            have h9:=Joins.block_setCell (i:=8) y6 (.slice (some ⟨cb,0,none⟩) K K)
            exact h9
          have ho4:∀ b,b ≠ mb → W4.heap[b]? = w3.heap[b]?:=fun b hb => by
            rw [hW4]
            exact (heap_setCell_other _ _ _ _ hb).trans (heap_setCell_other _ _ _ _ hb)
          have hB4:Below N w W4:=by
            have h9:=((HB2.out.trans X2.out).setCell (p:=⟨mb,6,none⟩) hlo (.slice (some ⟨nb,0,none⟩) K K)).setCell (p:=⟨mb,8,none⟩) hlo (.slice (some ⟨cb,0,none⟩) K K)
            rw [hW4]
            exact ⟨h9.os,h9.tape,h9.output,h9.size,h9.block⟩
          have j4:W4.cell? ⟨mb,4,none⟩ = some (.int .i64 (p:Int)):=Joins.cell_of_block hx4 4
          have g4:=Joins.unfrozen_of_block hx4 4
          have ad1:IntKind.i64.wrap ((p:Int) + 1) = (p:Int) + 1:=by simp [IntKind.wrap,IntKind.bits,IntKind.signed];omega
          have HX4:=hid hx4
          have HO4:=hid ho4
          have hz4:W4.heap.size = w3.heap.size:=by rw [hW4];simp [World.drew]
          have HZ4:=hid hz4
          have HB4:=hid hB4
          rw [← hW4]
          clear hW4 hU6 y6 hx4 ho4 hB4 hz4 q6 q8 f6 f8
          go_upto_region 3 with fail
          obtain ⟨W5,hW5⟩:∃ W5,W5 = W4.setCell ⟨mb,4,none⟩ (.int .i64 ((p:Int) + 1)):=⟨_,rfl⟩
          have hx5:W5.heap[mb]? = some (.cells (mac ad n cp s k tad tn tc (p + 1) bt3 nb K { s1 with nc:=c } cb vf3) 62 (0,0)):=by
            rw [hW5]
            have h9:=Joins.block_setCell (i:=4) HX4.out (.int .i64 ((p:Int) + 1))
            exact h9
          have ho5:∀ b,b ≠ mb → W5.heap[b]? = w3.heap[b]?:=fun b hb => by rw [hW5];exact (heap_setCell_other _ _ _ _ hb).trans (HO4.out b hb)
          have hB5:Below N w W5:=by rw [hW5];exact HB4.out.setCell (p:=⟨mb,4,none⟩) hlo _
          have j7:W5.cell? ⟨mb,7,none⟩ = some (nxV s1.nx):=Joins.cell_of_block hx5 7
          have hB35:Below N w3 W5:=⟨hB5.os.trans (HB2.out.trans X2.out).os.symm,hB5.tape.trans (HB2.out.trans X2.out).tape.symm,hB5.output.trans (HB2.out.trans X2.out).output.symm,by rw [hW5];have:=HZ4.out;simp;omega,fun b hb => ho5 b (by omega)⟩
          have hM5:MO N W5 mb ad n cp s k tad tn tc l tx K (p + 1) nb s1.nc { s1 with nc:=c } cb vf3:=MO.mk (o:=fun _ => True) hx5 hlo (row_kept X1.out.rn fun b hb => ho5 b (by simp [Value.ownBlock] at hb;rw [← hb];exact X1.out.d2))
            (row_kept X1.out.rc fun b hb => ho5 b (by simp [Value.ownBlock] at hb;rw [← hb];exact X1.out.d1))
            (fun e => by
              obtain ⟨fb,e1,e2,e3,e4,e5⟩:=X1.out.rf e
              exact ⟨fb,e1,row_kept e2 fun b hb => ho5 b (by simp [Value.ownBlock] at hb;rw [← hb];exact e3),e3,e5,e4⟩) X1.out.nf X1.out.d2 X1.out.d1 (fun e => X1.out.d3 e.symm) (X1.out.pi.kept hB35 (Nat.le_refl _)) (X1.out.tx.below hB35)
          have HM5:=hid hM5
          have HB5:=hid hB5
          have hpl5:=hM5.place
          have HPL5:=hid hpl5
          have hN5:N ≤ W5.heap.size:=by have:=hB35.size;have:=X2.out.size;omega
          rw [← hW5]
          clear hW5 hx5 ho5 hB5 hB35 hM5 hpl5 j4 g4
          go_wp2
          refine ⟨⟨p + 1,s1.nx,s1.nc,{ s1 with nc:=c },nb,cb,vf3,rfl,hN5,fun y hy => ?_,HM5.out,HH2.out,HB5.out⟩,?_⟩
          · have h9:=HH1.out.nx HF.out (by have:=HNL.out;omega) (fun y hy => by simp at hy) y hy
            have:=HTN.out
            have:=HNL.out
            omega
          · rw [HPL5.out,HPL.out]
            omega
end Go.Proofs.YtjdbnoccdefnaaaGreat
