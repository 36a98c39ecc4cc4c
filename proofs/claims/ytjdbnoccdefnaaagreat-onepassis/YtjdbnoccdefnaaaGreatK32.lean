/- HELPERS: texts of ours put together. -/
import Derived.Test.YtjdbnoccdefnaaaGreatK31
namespace Go.Proofs.YtjdbnoccdefnaaaGreat
open Go.RowKit
set_option linter.unusedVariables false
set_option linter.unusedSimpArgs false
theorem step_callG1 {P:Program} {ops:Array Oper} {o:Oper} {a:Act} {w:World} {K:Act → World → Prop} {Q:Exit → Act → World → Prop} {E:Prop} (hw:Region.wanted o (yielded ops a.tmps) = true) (f:FuncId) (x:Operand) (t:TypeId)
    (hop:o.op = Op.call { callee:=Callee.value (.func f),args:=#[x],argTypes:=#[t] }) (hen:∀ args w,(callFunc f args).run P w = .ok (.enter f args) w)
    (hc:Calls P f #[a.eval x] w fun e w' => (∃ v,e = .returned v ∧ K (a.put o.dst v) w') ∨ (∃ ch,e = .panicked ch ∧ Q (.panic ch) a w')) :
    if Region.wanted o (yielded ops a.tmps) = true then Oper.wp P o a w K Q else E:=by
  rw [if_pos hw]
  have h2:=hen #[a.eval x] w
  unfold Oper.wp
  have ev:a.eval (.func f) = .func (.func f) #[] #[]:=rfl
  simp [execOp,hop,resolve,invoke,ev,Deferred.ofValue,h2,Result.andThen]
  show Calls P f #[a.eval x] w _
  refine hc.mono fun e w' h => ?_
  rcases h with ⟨v,rfl,hk⟩ | ⟨ch,rfl,hq⟩
  · exact hk
  · exact hq
theorem en34:∀ args w,(callFunc 34 args).run Tryz.prog w = .ok (.enter 34 args) w:=enter_of Tryz.func34 (by kernel_rfl) rfl
theorem en35:∀ args w,(callFunc 35 args).run Tryz.prog w = .ok (.enter 35 args) w:=enter_of Tryz.func35 (by kernel_rfl) rfl
variable {l:List In} {k:Int}
set_option maxRecDepth 100000 in
set_option maxHeartbeats 8000000 in
theorem oneWay23 {w:World} {ad:Option Addr} {n c:Nat} {s:Int} (hP:PI w w.heap.size ad n l) (hF:∀ I ∈ l,Fit (l.length:Int) k I) (hn:n ≤ 20000) (hs:0 ≤ s ∧ s < n) :
    Calls Tryz.prog 23 #[pv ad n c s k] w fun e w' => ∃ b,e = .returned (.bool b) ∧ Below w.heap.size w w' ∧ (b = true ↔ OneWay (pd l) (nxI l) s.toNat):=by
  obtain ⟨g,of,ND,had,hgl,-⟩:=hP.mem (by omega)
  obtain ⟨p,hp⟩:∃ p,p = w.heap.size:=⟨_,rfl⟩
  obtain ⟨W0,hW0⟩:∃ W0,W0 = w.alloc (.cells #[.slice ad n c,.int .i64 s,.int .i64 k] 24):=⟨_,rfl⟩
  have hbx:W0.heap[p]? = some (.cells #[.slice ad n c,.int .i64 s,.int .i64 k] 24 (0,0)):=by rw [hW0,hp];exact heap_alloc_new w _
  have hz0:W0.heap.size = p + 1:=by rw [hW0,hp];simp
  have hB0:Below p w W0:=by rw [hW0,hp];exact Joins.below_alloc1 w _
  have hP0:PI W0 W0.heap.size ad n l:=hP.kept (by rw [← hp];exact hB0) (by omega)
  have c0:W0.cell? ⟨p,0,none⟩ = some (.slice ad n c):=Joins.cell_of_block hbx 0
  have c1:W0.cell? ⟨p,1,none⟩ = some (.int .i64 s):=Joins.cell_of_block hbx 1
  have HBX:=hid hbx
  have HB0:=hid hB0
  have HP0:=hid hP0
  have HAD:=hid had
  have HPE:=hid hp
  clear hbx hB0 hP0 had hP hgl
  have D34:=fun W => new8 (n:Int) W
  rw [lim_small hn] at D34
  have D35:=fun W => new35 (ad:=ad) (n:=n) (c:=c) (w:=W) hn
  have hpl:p < W0.heap.size:=by omega
  have hmm:=@run_makeMap Tryz.prog
  go_enter Tryz.func23,Tryz.ntmps23
  go_upto_region 1 with fail
  rw [← hW0,← hp]
  clear hW0 hp
  go_cut [3] from 7 to 19 (fun v wx => ∃ sb kg mb mg mg2 F,v = .pointer (some ⟨sb,0,none⟩) ∧ Hid (SW W0.heap.size wx sb ad c n g of l kg mb mg mg2 [] [] F) ∧ Hid (Below W0.heap.size W0 wx))
  case first =>
    refine wp_region_lexT [1,2,3,5,6,8,9] 7 13 (fun V => V.cell? ⟨p,0,none⟩ = some (.slice ad n c)) (by kernel_rfl) (by kernel_rfl) rfl (by kernel_rfl) (by exact c0) ?_
    simp only [opsAt,opsNo,List.getElem?_toArray,List.getElem?_cons_zero,List.getElem?_cons_succ]
    iterate 7
      refine lex_cons ?_ rfl (fun V hV => ?_) (fun _ _ _ h => h) ?_
      rotate_left
      · go_simp <;> with_reducible rfl
      simp only [Act.put,List.setIfInBounds_toArray,List.set_cons_zero,List.set_cons_succ]
    refine lex_nil ?_
    obtain ⟨V0,hV0⟩:∃ V0,V0 = W0.drew:=⟨_,rfl⟩
    have PT0:Hid (Parts W0.heap.size n V0 none []):=by rw [hV0];exact (Parts.nil (Nat.le_refl _)).draw
    have PB0:Hid (Below W0.heap.size W0 V0):=by rw [hV0];exact ⟨rfl,rfl,rfl,Nat.le_refl _,fun _ _ => rfl⟩
    rw [← hV0]
    clear hV0
    refine wpAnyX_alt (i:=0) (j:=4) (by decide +kernel) rfl rfl (fun K1 hK1 => ?_) (fun K1 hK1 => ?_)
    · go_simp
      obtain ⟨mb,hmb⟩:∃ mb,mb = V0.heap.size:=⟨_,rfl⟩
      obtain ⟨V2,hV2⟩:∃ V2,V2 = V0.alloc (.map #[] 0):=⟨_,rfl⟩
      have pt2:=PT0.out.map
      have pb2:=PB0.out.alloc PT0.out.le (.map #[] 0)
      rw [← hV2,← hmb] at pt2
      rw [← hV2] at pb2
      rw [← hmb,← hV2]
      have PT2:=hid pt2
      have PB2:=hid pb2
      clear hV2 hmb pt2 pb2
      refine hK1.out _ _ (fun _ => (PB2.out.cell (p:=⟨p,0,none⟩) hpl).trans c0) ?_
      refine wpAnyX_one (i:=4) (by decide +kernel) rfl (fun K3 hK3 => ?_)
      refine step_callG1 rfl 34 (.tmp 10) 3 rfl en34 ?_
      refine (D34 V2).mono ?_
      rintro e V4 ⟨kg,Fk,rfl,z1,z2⟩
      have PT4:=hid (PT2.out.set z1 z2)
      have PB4:=hid (PB2.out.trans (z2.mono PT2.out.le))
      clear z1 z2
      refine .inl ⟨_,rfl,?_⟩
      refine hK3.out _ _ (fun _ => (PB4.out.cell (p:=⟨p,0,none⟩) hpl).trans c0) ?_
      refine wpAnyX_one (i:=7) (by decide +kernel) rfl (fun K5 hK5 => ?_)
      refine step_callG1 rfl 35 (.tmp 13) 22 rfl en35 ?_
      refine (D35 V4).mono ?_
      rintro e V6 ⟨mg,Fm,rfl,z1,z2⟩
      have PT6:=hid (PT4.out.set z1 z2)
      have PB6:=hid (PB4.out.trans (z2.mono PT4.out.le))
      clear z1 z2
      refine .inl ⟨_,rfl,?_⟩
      refine hK5.out _ _ (fun _ => (PB6.out.cell (p:=⟨p,0,none⟩) hpl).trans c0) ?_
      refine wpAnyX_one (i:=10) (by decide +kernel) rfl (fun K7 hK7 => ?_)
      refine step_callG1 rfl 35 (.tmp 16) 22 rfl en35 ?_
      refine (D35 V6).mono ?_
      rintro e V8 ⟨mg2,Fm2,rfl,z1,z2⟩
      have PT8:=hid (PT6.out.set z1 z2)
      have PB8:=hid (PB6.out.trans (z2.mono PT6.out.le))
      clear z1 z2
      refine .inl ⟨_,rfl,?_⟩
      refine hK7.out _ _ (fun _ => (PB8.out.cell (p:=⟨p,0,none⟩) hpl).trans c0) ?_
      refine wpAnyX_one (i:=11) (by decide +kernel) rfl (fun K8 hK8 => ?_)
      go_simp
      refine hK8.out _ _ (fun _ => (PB8.out.cell (p:=⟨p,0,none⟩) hpl).trans c0) ?_
      refine wpAnyX_one (i:=12) (by decide +kernel) rfl (fun K9 hK9 => ?_)
      go_simp
      have pb9:=PB8.out.alloc PT8.out.le (.cells (mkS mb kg mg mg2 ad n c) 81)
      have PB9:=hid pb9
      refine hK9.out _ _ (fun _ => (PB9.out.cell (p:=⟨p,0,none⟩) hpl).trans c0) ?_
      refine wpAnyX_one (i:=13) (by decide +kernel) rfl (fun K10 hK10 => ?_)
      go_simp
      refine hK10.out _ _ (fun h => absurd rfl h) ?_
      refine ⟨by kernel_rfl,?_⟩
      go_wp2_with fail
      go_meet
      exact ⟨V8.heap.size,kg,mb,mg,mg2,_,rfl,SW.start PT8.out (HP0.out.kept PB8.out (Nat.le_refl _)) (fun _ => HAD.out) hn,PB9.out⟩
    · refine step_callG1 rfl 34 (.tmp 10) 3 rfl en34 ?_
      refine (D34 V0).mono ?_
      rintro e V9 ⟨kg,Fk,rfl,z1,z2⟩
      have PT9:=hid (PT0.out.set z1 z2)
      have PB9:=hid (PB0.out.trans (z2.mono PT0.out.le))
      clear z1 z2
      refine .inl ⟨_,rfl,?_⟩
      refine hK1.out _ _ (fun _ => (PB9.out.cell (p:=⟨p,0,none⟩) hpl).trans c0) ?_
      refine wpAnyX_alt (i:=0) (j:=7) (by decide +kernel) rfl rfl (fun K10 hK10 => ?_) (fun K10 hK10 => ?_)
      · go_simp
        obtain ⟨mb,hmb⟩:∃ mb,mb = V9.heap.size:=⟨_,rfl⟩
        obtain ⟨V11,hV11⟩:∃ V11,V11 = V9.alloc (.map #[] 0):=⟨_,rfl⟩
        have pt11:=PT9.out.map
        have pb11:=PB9.out.alloc PT9.out.le (.map #[] 0)
        rw [← hV11,← hmb] at pt11
        rw [← hV11] at pb11
        rw [← hmb,← hV11]
        have PT11:=hid pt11
        have PB11:=hid pb11
        clear hV11 hmb pt11 pb11
        refine hK10.out _ _ (fun _ => (PB11.out.cell (p:=⟨p,0,none⟩) hpl).trans c0) ?_
        refine wpAnyX_one (i:=7) (by decide +kernel) rfl (fun K12 hK12 => ?_)
        refine step_callG1 rfl 35 (.tmp 13) 22 rfl en35 ?_
        refine (D35 V11).mono ?_
        rintro e V13 ⟨mg,Fm,rfl,z1,z2⟩
        have PT13:=hid (PT11.out.set z1 z2)
        have PB13:=hid (PB11.out.trans (z2.mono PT11.out.le))
        clear z1 z2
        refine .inl ⟨_,rfl,?_⟩
        refine hK12.out _ _ (fun _ => (PB13.out.cell (p:=⟨p,0,none⟩) hpl).trans c0) ?_
        refine wpAnyX_one (i:=10) (by decide +kernel) rfl (fun K14 hK14 => ?_)
        refine step_callG1 rfl 35 (.tmp 16) 22 rfl en35 ?_
        refine (D35 V13).mono ?_
        rintro e V15 ⟨mg2,Fm2,rfl,z1,z2⟩
        have PT15:=hid (PT13.out.set z1 z2)
        have PB15:=hid (PB13.out.trans (z2.mono PT13.out.le))
        clear z1 z2
        refine .inl ⟨_,rfl,?_⟩
        refine hK14.out _ _ (fun _ => (PB15.out.cell (p:=⟨p,0,none⟩) hpl).trans c0) ?_
        refine wpAnyX_one (i:=11) (by decide +kernel) rfl (fun K8 hK8 => ?_)
        go_simp
        refine hK8.out _ _ (fun _ => (PB15.out.cell (p:=⟨p,0,none⟩) hpl).trans c0) ?_
        refine wpAnyX_one (i:=12) (by decide +kernel) rfl (fun K9 hK9 => ?_)
        go_simp
        have pb9:=PB15.out.alloc PT15.out.le (.cells (mkS mb kg mg mg2 ad n c) 81)
        have PB9:=hid pb9
        refine hK9.out _ _ (fun _ => (PB9.out.cell (p:=⟨p,0,none⟩) hpl).trans c0) ?_
        refine wpAnyX_one (i:=13) (by decide +kernel) rfl (fun K10 hK10 => ?_)
        go_simp
        refine hK10.out _ _ (fun h => absurd rfl h) ?_
        refine ⟨by kernel_rfl,?_⟩
        go_wp2_with fail
        go_meet
        exact ⟨V15.heap.size,kg,mb,mg,mg2,_,rfl,SW.start PT15.out (HP0.out.kept PB15.out (Nat.le_refl _)) (fun _ => HAD.out) hn,PB9.out⟩
      · refine step_callG1 rfl 35 (.tmp 13) 22 rfl en35 ?_
        refine (D35 V9).mono ?_
        rintro e V16 ⟨mg,Fm,rfl,z1,z2⟩
        have PT16:=hid (PT9.out.set z1 z2)
        have PB16:=hid (PB9.out.trans (z2.mono PT9.out.le))
        clear z1 z2
        refine .inl ⟨_,rfl,?_⟩
        refine hK10.out _ _ (fun _ => (PB16.out.cell (p:=⟨p,0,none⟩) hpl).trans c0) ?_
        refine wpAnyX_alt (i:=0) (j:=10) (by decide +kernel) rfl rfl (fun K17 hK17 => ?_) (fun K17 hK17 => ?_)
        · go_simp
          obtain ⟨mb,hmb⟩:∃ mb,mb = V16.heap.size:=⟨_,rfl⟩
          obtain ⟨V18,hV18⟩:∃ V18,V18 = V16.alloc (.map #[] 0):=⟨_,rfl⟩
          have pt18:=PT16.out.map
          have pb18:=PB16.out.alloc PT16.out.le (.map #[] 0)
          rw [← hV18,← hmb] at pt18
          rw [← hV18] at pb18
          rw [← hmb,← hV18]
          have PT18:=hid pt18
          have PB18:=hid pb18
          clear hV18 hmb pt18 pb18
          refine hK17.out _ _ (fun _ => (PB18.out.cell (p:=⟨p,0,none⟩) hpl).trans c0) ?_
          refine wpAnyX_one (i:=10) (by decide +kernel) rfl (fun K19 hK19 => ?_)
          refine step_callG1 rfl 35 (.tmp 16) 22 rfl en35 ?_
          refine (D35 V18).mono ?_
          rintro e V20 ⟨mg2,Fm2,rfl,z1,z2⟩
          have PT20:=hid (PT18.out.set z1 z2)
          have PB20:=hid (PB18.out.trans (z2.mono PT18.out.le))
          clear z1 z2
          refine .inl ⟨_,rfl,?_⟩
          refine hK19.out _ _ (fun _ => (PB20.out.cell (p:=⟨p,0,none⟩) hpl).trans c0) ?_
          refine wpAnyX_one (i:=11) (by decide +kernel) rfl (fun K8 hK8 => ?_)
          go_simp
          refine hK8.out _ _ (fun _ => (PB20.out.cell (p:=⟨p,0,none⟩) hpl).trans c0) ?_
          refine wpAnyX_one (i:=12) (by decide +kernel) rfl (fun K9 hK9 => ?_)
          go_simp
          have pb9:=PB20.out.alloc PT20.out.le (.cells (mkS mb kg mg mg2 ad n c) 81)
          have PB9:=hid pb9
          refine hK9.out _ _ (fun _ => (PB9.out.cell (p:=⟨p,0,none⟩) hpl).trans c0) ?_
          refine wpAnyX_one (i:=13) (by decide +kernel) rfl (fun K10 hK10 => ?_)
          go_simp
          refine hK10.out _ _ (fun h => absurd rfl h) ?_
          refine ⟨by kernel_rfl,?_⟩
          go_wp2_with fail
          go_meet
          exact ⟨V20.heap.size,kg,mb,mg,mg2,_,rfl,SW.start PT20.out (HP0.out.kept PB20.out (Nat.le_refl _)) (fun _ => HAD.out) hn,PB9.out⟩
        · refine step_callG1 rfl 35 (.tmp 16) 22 rfl en35 ?_
          refine (D35 V16).mono ?_
          rintro e V21 ⟨mg2,Fm2,rfl,z1,z2⟩
          have PT21:=hid (PT16.out.set z1 z2)
          have PB21:=hid (PB16.out.trans (z2.mono PT16.out.le))
          clear z1 z2
          refine .inl ⟨_,rfl,?_⟩
          refine hK17.out _ _ (fun _ => (PB21.out.cell (p:=⟨p,0,none⟩) hpl).trans c0) ?_
          refine wpAnyX_one (i:=0) (by decide +kernel) rfl (fun K22 hK22 => ?_)
          go_simp
          obtain ⟨mb,hmb⟩:∃ mb,mb = V21.heap.size:=⟨_,rfl⟩
          obtain ⟨V23,hV23⟩:∃ V23,V23 = V21.alloc (.map #[] 0):=⟨_,rfl⟩
          have pt23:=PT21.out.map
          have pb23:=PB21.out.alloc PT21.out.le (.map #[] 0)
          rw [← hV23,← hmb] at pt23
          rw [← hV23] at pb23
          rw [← hmb,← hV23]
          have PT23:=hid pt23
          have PB23:=hid pb23
          clear hV23 hmb pt23 pb23
          refine hK22.out _ _ (fun _ => (PB23.out.cell (p:=⟨p,0,none⟩) hpl).trans c0) ?_
          refine wpAnyX_one (i:=11) (by decide +kernel) rfl (fun K8 hK8 => ?_)
          go_simp
          refine hK8.out _ _ (fun _ => (PB23.out.cell (p:=⟨p,0,none⟩) hpl).trans c0) ?_
          refine wpAnyX_one (i:=12) (by decide +kernel) rfl (fun K9 hK9 => ?_)
          go_simp
          have pb9:=PB23.out.alloc PT23.out.le (.cells (mkS mb kg mg mg2 ad n c) 81)
          have PB9:=hid pb9
          refine hK9.out _ _ (fun _ => (PB9.out.cell (p:=⟨p,0,none⟩) hpl).trans c0) ?_
          refine wpAnyX_one (i:=13) (by decide +kernel) rfl (fun K10 hK10 => ?_)
          go_simp
          refine hK10.out _ _ (fun h => absurd rfl h) ?_
          refine ⟨by kernel_rfl,?_⟩
          go_wp2_with fail
          go_meet
          exact ⟨V23.heap.size,kg,mb,mg,mg2,_,rfl,SW.start PT23.out (HP0.out.kept PB23.out (Nat.le_refl _)) (fun _ => HAD.out) hn,PB9.out⟩
  case rest =>
    obtain ⟨sb,kg,mb,mg,mg2,F,rfl,HSW,HBW⟩:=hcut
    have c1w:wc.cell? ⟨p,1,none⟩ = some (.int .i64 s):=(HBW.out.cell (p:=⟨p,1,none⟩) hpl).trans c1
    have D36:=reachSW (x:=s) HSW.out hs
    have hNw:=HBW.out.size
    clear D34 D35 hmm
    go_upto_region 3 with (go_at_call 36;(with_reducible refine D36.mono ?_);rintro e w2 ⟨rfl,z1,z2⟩;have Z1:=hid z1;have Z2:=hid z2;clear z1 z2 D36)
    have hB2:Below W0.heap.size W0 w2:=HBW.out.trans (Z2.out.below hNw (fun b hb => (HSW.out.low b hb).1))
    have HB2:=hid hB2
    have hI0:SI (pd l) (nxI l) s.toNat (KS []) (KS (put1 [] [] s)):=by
      have e1:KS [] = fun _ => False:=funext fun i => propext (by simp [KS])
      have e2:KS (put1 [] [] s) = fun i => i = s.toNat:=funext fun i => propext (by simp [KS,put1,ins];omega)
      rw [e1,e2]
      exact SI.start
    have HI0:=hid hI0
    clear hB2 hI0 HSW HBW c1w
    go_loopw [4] (fun _ wq => ∃ Kl Lf F',W0.heap.size ≤ wq.heap.size ∧ Hid (SW W0.heap.size wq sb ad c n g of l kg mb mg mg2 Kl Lf F') ∧ Hid (SI (pd l) (nxI l) s.toNat (KS Kl) (KS Lf)) ∧ Hid (Below W0.heap.size W0 wq)) (fun _ wq => n - setLen wq kg)
    case atStart => exact ⟨[],_,F,HB2.out.size,Z1.out,HI0.out,HB2.out⟩
    case round =>
      clear Z1 HI0 HB2 Z2
      obtain ⟨Kl,Lf,F1,hNr,HSW,HSI,HBW⟩:=hrel
      obtain ⟨k0,hMp,hLf,-,-⟩:=HSW.out.map
      obtain ⟨D0,hD⟩:=hMp
      have hown:=hD.own
      have hsz:=hD.sz
      have hln:Lf.length ≤ n:=nodup_len n _ hD.nd hLf
      obtain ⟨ln,hle⟩:∃ ln,ln = Lf.length:=⟨_,rfl⟩
      rw [← hle] at hown hsz hln
      have HLE:=hid hle
      have HDP:=hid hD.perm
      have HLF:=hid hLf
      clear hD hLf hle
      by_cases h0:ln = 0
      · subst h0
        go_wp2_with (first
          | (at_len;refine wpList_len_own _ rfl _ 73 rfl 3 86 Tryz.underlying73 _ mb _ D0 rfl hown ?_;rw [hsz])
          | go_in)
        go_ret
        have hno:Lf = []:=List.length_eq_zero_iff.1 HLE.out.symm
        exact ⟨true,rfl,by rw [← HPE.out];exact HB0.out.trans (HBW.out.mono (by omega)),fun _ => HSI.out.done (fun i hi => by rw [hno] at hi;cases hi),fun _ => rfl⟩
      · have b1:decide ((ln:Int) > 0) = true:=by simp;omega
        have b2:(0:Int) < (ln:Int):=by omega
        have b3:decide ((0:Int) < (ln:Int)) = true:=by simp;omega
        obtain ⟨q,hq⟩:∃ q,q = wr.heap.size:=⟨_,rfl⟩
        obtain ⟨V,hV⟩:∃ V,V = wr.alloc (.cells #[.map (some mb)] 73):=⟨_,rfl⟩
        have D38:=keys38 (some mb) wr
        rw [← hV,← hq] at D38
        have hVq:V.cell? ⟨q,0,none⟩ = some (.map (some mb)):=by rw [hV,hq];exact Joins.cell_of_block (heap_alloc_new wr _) 0
        have hVz:V.heap.size = q + 1:=by rw [hV,hq];simp
        have hVB:Below wr.heap.size wr V:=by rw [hV];exact Joins.below_alloc1 wr _
        have hown2:V.ownsMap Tryz.prog 3 (unitElem (H:=Unit)) mb ln D0:=by rw [hV];exact hown.alloc _
        have D37:=sorted37 (p:=q) hVq (by omega) hown2 (by omega)
        have HVB:=hid hVB
        have HQ:=hid hq
        clear hV hq hVB hown2
        go_upto_region 6 with (first
          | (at_len;refine wpList_len_own _ rfl _ 73 rfl 3 86 Tryz.underlying73 _ mb _ D0 rfl hown ?_;rw [hsz])
          | (go_at_call 38;(with_reducible refine D38.mono ?_);rintro e w3 ⟨rfl,rfl⟩)
          | (go_at_call 37;(with_reducible refine D37.mono ?_);rintro e w4 ⟨v,ss,rfl,y1,y2,y3,y4⟩;have yl:ss.length = ln:=(by rw [y1.length_eq,HDP.out.length_eq,HLE.out]);rw [yl] at y2;obtain ⟨va,vc,rfl,-,-⟩:=row_shape y2;have Y1:=hid y1;have Y2:=hid y2;have Y4:=hid y4;have YL:=hid yl;clear y1 y2 y3 y4 yl D37)
          | go_in)
        have hqe:=HQ.out
        have hY4s:=Y4.out.size
        obtain ⟨rs,hrs⟩:∃ rs,rs = ss.mergeSort (fun x y => decide (x ≤ y)):=⟨_,rfl⟩
        have hrl:rs.length = ln:=by rw [hrs,List.length_mergeSort,YL.out]
        have hrm:∀ x ∈ rs,x ∈ Lf:=fun x hx => by
          rw [hrs] at hx
          exact (Y1.out.trans HDP.out).subset ((List.mergeSort_perm ss _).subset hx)
        have hrr:∀ x ∈ rs,∃ i:Nat,x = (i:Int) ∧ i < n ∧ Rch (pd l) (nxI l) s.toNat i ∧ KS Lf i:=fun x hx => by
          have h1:=hrm x hx
          have h2:=HLF.out x h1
          have h3:KS Lf x.toNat:=by show ((x.toNat:Nat):Int) ∈ Lf;rwa [show ((x.toNat:Nat):Int) = x by omega]
          exact ⟨x.toNat,by omega,by omega,HSI.out.rl _ h3,h3⟩
        have hrow:w4.ownsRow w3.heap.size 3 1 (.slice va ln vc) ln (I64 rs):=by rw [hrs];exact Y2.out
        have hS4:=HSW.out.at_ (HVB.out.trans (Y4.out.mono (by omega)))
        have hB4:Below W0.heap.size W0 w4:=HBW.out.trans ((HVB.out.mono hNr).trans (Y4.out.mono (by omega)))
        have hvb:∀ b,(Value.slice va ln vc).ownBlock = some b → b ∉ F1:=fun b hb hm => by
          have:=(hrow.lt b hb).1
          have:=(HSW.out.low b hm).2
          omega
        have HRL:=hid hrl
        have HRR:=hid hrr
        have HRW:=hid hrow
        have HS4:=hid hS4
        have HB4:=hid hB4
        have HVN:=hid hvb
        have hlenw:=hid HSW.out.len_is
        have hz4:W0.heap.size ≤ w4.heap.size:=Nat.le_trans hNr (Nat.le_trans (by omega) Y4.out.size)
        clear hrl hrm hrr hrow hS4 hB4 hvb hown hsz D38 k0 HBW hrs Y1 Y2 Y4 YL hVq HQ hqe hY4s
        go_loopw [38] (fun y wq => ∃ (j:Nat) (Kl2 Lf2:List Int) (F2:List Nat),y = .int .i64 (j:Int) ∧ j ≤ ln ∧ W0.heap.size ≤ wq.heap.size ∧ Hid (SW W0.heap.size wq sb ad c n g of l kg mb mg mg2 Kl2 Lf2 F2) ∧ Hid (SI (pd l) (nxI l) s.toNat (KS Kl2) (KS Lf2)) ∧ Hid (wq.ownsRow w3.heap.size 3 1 (.slice va ln vc) ln (I64 rs)) ∧ Hid (∀ b,(Value.slice va ln vc).ownBlock = some b → b ∉ F2) ∧ Hid (∃ T,Kl2 = Kl ++ T ∧ ∀ x ∈ rs.take j,x ∈ Kl2) ∧ Hid (Below W0.heap.size W0 wq)) (fun y _ => ln - (intOf y).toNat)
        case atStart => exact ⟨0,Kl,Lf,F1,rfl,by omega,hz4,HS4.out,HSI.out,HRW.out,HVN.out,⟨[],by simp,by simp⟩,HB4.out⟩
        case round =>
          obtain ⟨j,Kl2,Lf2,F2,rfl,hj,hN2,HSW2,HSI2,HRW2,HVN2,HT,HBW2⟩:=hrel
          clear HS4 HRW HVN HB4 hz4
          by_cases hjn:j < ln
          · have b4:decide ((j:Int) < (ln:Int)) = true:=by simp;omega
            have b5:(j:Int) < (ln:Int):=by omega
            have ad1:IntKind.i64.wrap ((j:Int) + 1) = (j:Int) + 1:=by simp [IntKind.wrap,IntKind.bits,IntKind.signed];omega
            have hlt:j < rs.length:=by have:=HRL.out;omega
            obtain ⟨i,hi,hin,hri,hli⟩:=HRR.out _ (List.getElem_mem hlt)
            obtain ⟨vb,rfl,kf⟩:∃ vb,va = some ⟨vb,0,none⟩ ∧ wr.cell? ⟨vb,j,none⟩ = some (.int .i64 (i:Int)):=by
              have hrw:=HRW2.out
              rcases hrw.2 with ⟨e,_⟩ | ⟨g',cap,cur,e,_⟩
              · simp only [Value.slice.injEq] at e;omega
              · simp only [Value.slice.injEq] at e
                obtain ⟨rfl,-,rfl⟩:=e
                refine ⟨g',rfl,?_⟩
                rw [hrw.cellAt j (by omega)]
                simp [I64,List.getElem?_eq_getElem hlt,hi]
            have htk:rs.take (j + 1) = rs.take j ++ [(i:Int)]:=by rw [← hi];exact (List.take_append_getElem hlt).symm
            have D39:=look39 (i:=i) (k:=k) hF HSI2.out hri hN2 hin HSW2.out
            have HTK:=hid htk
            have HRI:=hid hri
            clear htk hri hi hli
            go_wp2_with (go_at_call 39;(with_reducible refine D39.mono ?_);rintro e w5 ⟨b,rfl,x1,x2,x3⟩;have X1:=hid x1;have X2:=hid x2;have X3:=hid x3;clear x1 x2 x3 D39;cases b)
            · go_ret
              exact ⟨false,rfl,by rw [← HPE.out];exact HB0.out.trans ((HBW2.out.trans X1.out).mono (by omega)),fun h => (by cases h),fun h => absurd (h i HRI.out) (X2.out (by trivial))⟩
            · obtain ⟨Kl3,Lf3,F3,h1,h2,h3,⟨T3,h4⟩,h5⟩:=X3.out (by trivial)
              obtain ⟨T,t1,t2⟩:=HT.out
              refine ⟨⟨j + 1,Kl3,Lf3,F3,by push_cast;rfl,by omega,Nat.le_trans hN2 h5.size,h1,h2,h5.row HRW2.out HVN2.out,fun b hb hm => ?_,⟨T ++ T3,by rw [h4,t1,List.append_assoc],fun x hx => ?_⟩,HBW2.out.trans X1.out⟩,by simp [intOf];omega⟩
              · rcases h5.new b hm with h6 | h6
                · exact HVN2.out b hb h6
                · have:=(HRW2.out.lt b hb).2;omega
              · rw [HTK.out] at hx
                rcases List.mem_append.1 hx with hx | hx
                · rw [h4];exact List.mem_append_left _ (t2 x hx)
                · rw [List.mem_singleton.1 hx];exact h3
          · have b4:decide ((j:Int) < (ln:Int)) = false:=by simp;omega
            go_wp2_with (fail)
            have hlt:0 < rs.length:=by have:=HRL.out;omega
            obtain ⟨i,hi,-,-,hli⟩:=HRR.out _ (List.getElem_mem hlt)
            obtain ⟨T,t1,t2⟩:=HT.out
            have h1:(i:Int) ∈ Kl2:=by
              rw [← hi]
              refine t2 _ ?_
              rw [List.take_of_length_le (by have:=HRL.out;omega)]
              exact List.getElem_mem hlt
            have h2:0 < T.length:=by
              refine List.length_pos_iff.2 fun e => ?_
              rw [t1,e,List.append_nil] at h1
              exact HSI.out.no i hli h1
            go_roundw
            case rel => exact ⟨Kl2,Lf2,F2,hN2,HSW2.out,HSI2.out,HBW2.out⟩
            have e1:=HSW2.out.len_is
            have e2:=hlenw.out
            rw [e1.1,e2.1]
            have e3:=e1.2
            rw [t1,List.length_append] at e3 ⊢
            omega
end Go.Proofs.YtjdbnoccdefnaaaGreat
