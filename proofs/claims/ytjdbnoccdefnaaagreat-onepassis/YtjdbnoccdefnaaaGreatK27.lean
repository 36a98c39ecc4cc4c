/- HELPERS: texts of ours put together. -/
import Derived.Test.YtjdbnoccdefnaaaGreatK26
namespace Go.Proofs.YtjdbnoccdefnaaaGreat
open Go.RowKit
set_option linter.unusedVariables false
set_option linter.unusedSimpArgs false
variable {N:Nat} {w:World} {sb:Nat} {A:Array Value} {ad:Option Addr} {c n g of:Nat} {l:List In} {kg:Nat} {Fk:List Nat} {nk:Nat} {Kl:List Int} {S:List Int} {R:List Nat} {G:List (Int × Int)} {m:Nat} {D:List Int} {mg:Nat} {Fm:List Nat} {vr vg vd:Value}
  {S2:List Int} {R2:List Nat} {G2:List (Int × Int)} {m2:Nat} {D2:List Int} {mg2:Nat} {Fm2:List Nat} {vr2 vg2 vd2:Value} {vb:Value} {DD:List Int} {k:Int}
def IPost (N:Nat) (w:World) (sb:Nat) (A:Array Value) (ad:Option Addr) (c n g of:Nat) (l:List In) (kg:Nat) (Fk:List Nat) (nk:Nat) (Kl:List Int) (mg:Nat) (mg2:Nat) (F:List Nat) (i:Nat) (e:Ending) (w':World):Prop:=
  ∃ b A' S R G m D Fm vr vg vd S2 R2 G2 m2 D2 Fm2 vr2 vg2 vd2 vb DD,e = .returned (.bool b) ∧ Sv N w' sb A' ad c n g of l kg Fk nk Kl S R G m D mg Fm vr vg vd S2 R2 G2 m2 D2 mg2 Fm2 vr2 vg2 vd2 vb DD ∧ A'[0]? = A[0]? ∧
    Chg w w' F (Fs sb Fm vr vg vd Fm2 vr2 vg2 vd2 vb) ∧ (b = true → (pd l).Pl i ∧ FarOK l DD S2 R2 G2 m2 ∧ ∃ q d,Uk (pd l).eps (KS Kl) [i] q d ∧ Gat l q S R G m) ∧ (b = false → ¬ (pd l).Pl i)
theorem Uk.dlen {eps:Nat → List Nat} {K:Nat → Prop} (h2:∀ i,(eps i).length ≤ 2) {a o d:List Nat} (h:Uk eps K a o d):d.length ≤ a.length + o.length:=by
  induction h with
  | nil => simp
  | door hk h ih => simp only [List.length_cons];omega
  | @go n r o d hk h ih =>
    have:=h2 n
    simp only [List.length_cons,List.length_append] at ih ⊢
    omega
theorem en75:∀ args w,(callFunc 75 args).run Tryz.prog w = .ok (.enter 75 args) w:=enter_of Tryz.func75 (by kernel_rfl) rfl
theorem Chg.on {w w' w'':World} {F F':List Nat} (h:Chg w w' F F') (hb:Below w'.heap.size w' w''):Chg w w'' F F':=
  ⟨hb.os.trans h.os,hb.tape.trans h.tape,hb.output.trans h.output,Nat.le_trans h.size hb.size,fun k hk hn => (hb.block k (Nat.lt_of_lt_of_le hk h.size)).trans (h.block k hk hn),h.new⟩
theorem en74:∀ args w,(callFunc 74 args).run Tryz.prog w = .ok (.enter 74 args) w:=enter_of Tryz.func74 (by kernel_rfl) rfl
theorem Sv.at_ {W:World} (h:Sv N w sb A ad c n g of l kg Fk nk Kl S R G m D mg Fm vr vg vd S2 R2 G2 m2 D2 mg2 Fm2 vr2 vg2 vd2 vb DD) (hW:Below w.heap.size w W):Sv N W sb A ad c n g of l kg Fk nk Kl S R G m D mg Fm vr vg vd S2 R2 G2 m2 D2 mg2 Fm2 vr2 vg2 vd2 vb DD:=
  ⟨h.near.kept (fun b hb => hW.block b (h.near.low b hb).2),h.far.kept (fun b hb => hW.block b (h.far.low b hb).2),h.env.kept (hW.mono (Nat.le_of_lt (Nat.lt_of_le_of_lt h.near.lo h.near.sblt))) (fun b hb => hW.block b (h.env.ks.low b hb).2),h.a1,h.a14,row_kept h.rb (fun b hb => hW.block b (h.rb.lt b hb).2),h.d1,h.d2,h.d3⟩
set_option maxRecDepth 100000 in
set_option maxHeartbeats 8000000 in
theorem isPlain52 {i:Nat} (hF:∀ I ∈ l,Fit (l.length:Int) k I) (hK:KI (pd l) (KS Kl)) (hN:N ≤ w.heap.size) (hi:i < n)
    (h:Sv N w sb A ad c n g of l kg Fk nk Kl S R G m D mg Fm vr vg vd S2 R2 G2 m2 D2 mg2 Fm2 vr2 vg2 vd2 vb DD) (hfar:FarOK l DD S2 R2 G2 m2) :
    Calls Tryz.prog 52 #[.pointer (some ⟨sb,0,none⟩),.int .i64 (i:Int)] w (IPost N w sb A ad c n g of l kg Fk nk Kl mg mg2 (Fs sb Fm vr vg vd Fm2 vr2 vg2 vd2 vb) i):=by
  have D71:=fun cp V hV hb => gatherNear (k:=k) (cp:=cp) (V:=V) (t:=3) hF hK hN hi h hV hb
  have c1:w.cell? ⟨sb,1,none⟩ = some (.pointer (some ⟨kg,0,none⟩)):=(h.near.cell _).trans h.a1
  have hsb:=h.near.sblt
  have c1':∀ ob,(w.alloc ob).cell? ⟨sb,1,none⟩ = some (.pointer (some ⟨kg,0,none⟩)):=fun ob => (cell_eq (heap_alloc_old w ob hsb) _).trans c1
  have BA:∀ ob m,Below w.heap.size w ((w.alloc ob).drewN m):=fun ob m => by
    have h1:=(Below.refl w.heap.size w).alloc (Nat.le_refl _) ob
    exact ⟨h1.os,h1.tape,h1.output,h1.size,h1.block⟩
  obtain ⟨F,hFs⟩:∃ F,F = Fs sb Fm vr vg vd Fm2 vr2 vg2 vd2 vb:=⟨_,rfl⟩
  rw [← hFs]
  have HFS:=hid hFs
  have HS:=hid h
  have HFA:=hid hfar
  clear h hfar hFs
  go_enter Tryz.func52,Tryz.ntmps52
  go_upto_region 1 with fail
  go_region_with (first | (go_at_call 71;(with_reducible refine (D71 _ _ ?_ ?_).mono ?_);(exact BA _ 1);(exact heap_alloc_new w _);rintro e w2 ⟨b,A',S',R',G',m',D',Fm',vr',vg',vd',rfl,x1,x2,x3,x4,x5⟩;have X1:=hid x1;have X2:=hid x2;have X3:=hid x3;have X4:=hid x4;have X5:=hid x5;clear x1 x2 x3 x4 x5))
  all_goals
    have hch:Chg w w2 F (Fs sb Fm' vr' vg' vd' Fm2 vr2 vg2 vd2 vb):=by rw [HFS.out];exact X3.out.app _
    have HCH:=hid hch
    clear hch D71 c1 c1' BA
    cases b
    · go_wp2
      go_ret
      exact ⟨false,A',S',R',G',m',D',Fm',vr',vg',vd',S2,R2,G2,m2,D2,Fm2,vr2,vg2,vd2,vb,DD,rfl,X1.out,X2.out,HCH.out,fun h => (by cases h),fun _ => X5.out trivial⟩
    · obtain ⟨q,d,u1,u2,u3⟩:=X4.out (by trivial)
      obtain ⟨da,dc,rfl,-,-⟩:=row_shape X1.out.near.rd
      obtain ⟨dn,hdn⟩:∃ dn,dn = D'.length:=⟨_,rfl⟩
      rw [← hdn] at X1 X3 HCH
      have c7:w2.cell? ⟨sb,7,none⟩ = some (.slice da dn dc):=(X1.out.near.cell _).trans X1.out.near.c5
      have U1:=hid u1
      have U2:=hid u2
      have U3:=hid u3
      have HDN:=hid hdn
      clear u1 u2 u3 hdn X4 X5
      have hdl:dn = d.length:=by rw [HDN.out,U3.out];simp [Ix]
      have hq20:q.length ≤ 20000:=by
        have h1:=X1.out.near.set.len.1
        have h2:=X1.out.env.n2
        rw [U2.out.s] at h1
        simp [Ix] at h1
        omega
      have HDL:=hid hdl
      have hdb:d.length ≤ [i].length + q.length:=U1.out.dlen (fun j => by
        show (at0 l j).eps.length ≤ 2
        unfold In.eps
        split
        · simp
        · split <;> simp)
      simp only [List.length_singleton] at hdb
      have DB:Hid (dn ≤ 1 + 20000):=by show _ ≤ _;omega
      clear hdb
      have hdlt:∀ y ∈ d.map (fol l),y < n:=fun y hy => by
        obtain ⟨j,hj,rfl⟩:=List.mem_map.1 hy
        have he:∀ i,i < n → ∀ j ∈ (pd l).eps i,j < n:=by rw [X1.out.env.pi.len];exact eps_lt hF
        have hjn:=(U1.out.lt (N:=n) he (fun x hx => by simp at hx;omega)).2 j hj
        obtain ⟨o,ho,-,-⟩:=hK.pl j (U1.out.notK.2 j hj)
        exact ho.lt (N:=n) he (fun x hx => by simp at hx;omega) _ (Fo.mem ho (ho.mem j (by simp)) (fol_fo hK (U1.out.notK.2 j hj)))
      have DLT:=hid hdlt
      clear hdlt
      clear hdl
      by_cases h0:dn = 0
      · subst h0
        go_wp2
        go_ret
        have hd:d = []:=List.length_eq_zero_iff.1 HDL.out.symm
        have hu:=U1.out
        rw [hd] at hu
        exact ⟨true,A',S',R',G',m',D',Fm',vr',vg',_,S2,R2,G2,m2,D2,Fm2,vr2,vg2,vd2,vb,DD,rfl,X1.out,X2.out,HCH.out,fun _ => ⟨by_none hK hu U2.out.nd U2.out.pl,HFA.out,q,d,U1.out,U2.out⟩,fun h => (by cases h)⟩
      · have b0:decide ((dn:Int) = 0) = false:=by simp;exact h0
        have b0':decide (dn = 0) = false:=by simpa using h0
        by_cases h1:dn = 1
        · subst h1
          obtain ⟨ra,rc,rfl,-,-⟩:=row_shape X1.out.near.rr
          obtain ⟨rn,hrn⟩:∃ rn,rn = R'.length:=⟨_,rfl⟩
          rw [← hrn] at X1 X3 HCH
          have D72:=isBlank72 (w:=w2) (sb:=sb) (o:=2) (ra:=ra) (rn:=rn) (rc:=rc) (m:=m') ((X1.out.near.cell _).trans X1.out.near.c2) ((X1.out.near.cell _).trans X1.out.near.c4)
          obtain ⟨j,hj⟩:∃ j,d = [j]:=by
            have:=HDL.out
            match d,this with
            | [j],_ => exact ⟨j,rfl⟩
          have HRN:=hid hrn
          have HJ:=hid hj
          clear hrn hj
          by_cases hbl:rn = 0 ∧ m' = 0
          · have e1:decide (rn = 0 ∧ m' = 0) = true:=decide_eq_true hbl
            rw [e1] at D72
            have HBL:=hid hbl
            clear e1 hbl
            go_wp2_with (go_at_call 72;(with_reducible refine D72.mono ?_);rintro e w3 ⟨rfl,hw3⟩;have hw4:=hw3.symm;clear hw3;subst hw4)
            go_ret
            have hu:=U1.out
            rw [HJ.out] at hu
            have hr:q.filter (pd l).rd = []:=by rw [← U2.out.r];exact List.length_eq_zero_iff.1 (by rw [← HRN.out];exact HBL.out.1)
            have hm:q.filter (pd l).mt = []:=List.length_eq_zero_iff.1 (by rw [← U2.out.m];exact HBL.out.2)
            exact ⟨true,A',S',R',G',m',D',Fm',_,vg',_,S2,R2,G2,m2,D2,Fm2,vr2,vg2,vd2,vb,DD,rfl,X1.out,X2.out,HCH.out,fun _ => ⟨hK.blank (chI_no l) hu (fol_fo hK (hu.notK.2 j (by simp))) U2.out.nd hr hm,HFA.out,q,d,U1.out,U2.out⟩,fun h => (by cases h)⟩
          · have e1:decide (rn = 0 ∧ m' = 0) = false:=decide_eq_false hbl
            rw [e1] at D72
            clear e1 hbl
            obtain ⟨q2,ds,v1,v2,v3⟩:=id HFA.out
            have D73:=goesMore73 (k:=k) (f:=fol l j) hF X1.out.env.n2 X1.out.near X1.out.far U2.out v3
            obtain ⟨db,rfl,k0⟩:∃ db,da = some ⟨db,0,none⟩ ∧ w2.cell? ⟨db,0,none⟩ = some (.int .i64 (fol l j:Int)):=by
              have hrd:=X1.out.near.rd
              have e2:D' = [(fol l j:Int)]:=by rw [U3.out,HJ.out];rfl
              rcases hrd.2 with ⟨e,_⟩ | ⟨g',cap,cur,e,_⟩
              · simp only [Value.slice.injEq] at e;omega
              · simp only [Value.slice.injEq] at e
                obtain ⟨rfl,-,rfl⟩:=e
                refine ⟨g',rfl,?_⟩
                rw [e2] at hrd
                exact hrd.cellAt 0 (by simp)
            have V1:=hid v1
            have V2:=hid v2
            have V3:=hid v3
            clear v1 v2 v3
            go_upto_region 10 with (first | (go_at_call 72;(with_reducible refine D72.mono ?_);rintro e w3 ⟨rfl,hw3⟩;have hw4:=hw3.symm;clear hw3;subst hw4) | (go_at_call 73;(with_reducible refine D73.mono ?_);rintro e w3 ⟨b3,rfl,hb3,hbw⟩;have HB3:=hid hb3;have HBW:=hid hbw;clear hb3 hbw D73;cases b3))
            · clear c7
              have c7:w3.cell? ⟨sb,7,none⟩ = some (.slice (some ⟨db,0,none⟩) 1 dc):=(HBW.out.cell (p:=⟨sb,7,none⟩) X1.out.near.sblt).trans ((X1.out.near.cell _).trans X1.out.near.c5)
              have XX:=hid (X1.out.at_ HBW.out)
              have CC:=hid (HCH.out.on HBW.out)
              have D74:=fun W (hW:Below w3.heap.size w3 W) => openNear (k:=k) (dd:=d.map (fol l)) hF (Nat.le_trans hN (Nat.le_trans CC.out.size hW.size)) U3.out HDN.out (XX.out.at_ hW) HFA.out (by omega) (by have:=DB.out;omega) (DLT.out)
              refine wp_region_lexT [0,1,2,3,4,5] 11 16 (fun V => V.cell? ⟨sb,7,none⟩ = some (.slice (some ⟨db,0,none⟩) 1 dc)) (by kernel_rfl) (by kernel_rfl) rfl (by kernel_rfl) (by exact c7) ?_
              simp only [opsAt,opsNo,List.getElem?_toArray,List.getElem?_cons_zero,List.getElem?_cons_succ]
              iterate 6
                refine lex_cons ?_ rfl (fun V hV => ?_) (fun _ _ _ h => h) ?_
                rotate_left
                · go_simp <;> with_reducible rfl
                simp only [Act.put,List.setIfInBounds_toArray,List.set_cons_zero,List.set_cons_succ]
              refine lex_nil ?_
              refine wpAnyX_one (i:=6) (by kernel_rfl) rfl (fun K1 hK1 => ?_)
              refine step_callG2 rfl 74 (.tmp 39) (.tmp 44) 72 30 rfl en74 ?_
              refine (D74 w3.drew ⟨rfl,rfl,rfl,Nat.le_refl _,fun _ _ => rfl⟩).mono ?_
              rintro e w4 ⟨b4,A4,S4,R4,G4,m4,D4,Fm4,vr4,vg4,vd4,vb4,rfl,y1,y2,y3,y4,y5⟩
              have y6:Chg w w4 F (Fs sb Fm' (.slice ra rn rc) vg' (.slice (some ⟨db,0,none⟩) 1 dc) Fm4 vr4 vg4 vd4 vb4):=CC.out.trans (Chg.pre (⟨y3.os,y3.tape,y3.output,y3.size,y3.block,y3.new⟩:Chg w3 w4 _ _) _)
              have Y1:=hid y1
              have Y2:=hid (y2.trans X2.out)
              have Y3:=hid y6
              have Y4:=hid y4
              have Y5:=hid y5
              clear y1 y2 y3 y4 y5 y6 D74
              refine .inl ⟨_,rfl,?_⟩
              have c74:w4.cell? ⟨sb,7,none⟩ = some (.slice (some ⟨db,0,none⟩) 1 dc):=(Y1.out.near.cell _).trans Y1.out.near.c5
              refine hK1.out _ _ (fun _ => c74) ?_
              refine wpAnyX_one (i:=7) (by kernel_rfl) rfl (fun K2 hK2 => ?_)
              cases b4
              · go_simp
                refine hK2.out _ _ (fun _ => c74) ?_
                all_goals first
                  | refine wpAnyX_alt (i:=8) (j:=11) (by decide +kernel) rfl rfl (fun K3 hK3 => ?_) (fun K3 hK3 => ?_)
                all_goals
                  go_simp
                  refine hK3.out _ _ (fun _ => c74) ?_
                  clear hK3 K3
                all_goals first
                  | refine wpAnyX_alt (i:=8) (j:=12) (by decide +kernel) rfl rfl (fun K3 hK3 => ?_) (fun K3 hK3 => ?_)
                  | refine wpAnyX_alt (i:=9) (j:=11) (by decide +kernel) rfl rfl (fun K3 hK3 => ?_) (fun K3 hK3 => ?_)
                all_goals
                  go_simp
                  refine hK3.out _ _ (fun _ => c74) ?_
                  clear hK3 K3
                all_goals first
                  | refine wpAnyX_alt (i:=8) (j:=13) (by decide +kernel) rfl rfl (fun K3 hK3 => ?_) (fun K3 hK3 => ?_)
                  | refine wpAnyX_alt (i:=9) (j:=12) (by decide +kernel) rfl rfl (fun K3 hK3 => ?_) (fun K3 hK3 => ?_)
                  | refine wpAnyX_alt (i:=10) (j:=11) (by decide +kernel) rfl rfl (fun K3 hK3 => ?_) (fun K3 hK3 => ?_)
                all_goals
                  go_simp
                  refine hK3.out _ _ (fun _ => c74) ?_
                  clear hK3 K3
                all_goals first
                  | refine wpAnyX_one (i:=8) (by decide +kernel) rfl (fun K3 hK3 => ?_)
                  | refine wpAnyX_alt (i:=9) (j:=13) (by decide +kernel) rfl rfl (fun K3 hK3 => ?_) (fun K3 hK3 => ?_)
                  | refine wpAnyX_alt (i:=10) (j:=12) (by decide +kernel) rfl rfl (fun K3 hK3 => ?_) (fun K3 hK3 => ?_)
                  | refine wpAnyX_one (i:=11) (by decide +kernel) rfl (fun K3 hK3 => ?_)
                all_goals
                  go_simp
                  refine hK3.out _ _ (fun _ => c74) ?_
                  clear hK3 K3
                all_goals first
                  | refine wpAnyX_one (i:=9) (by decide +kernel) rfl (fun K3 hK3 => ?_)
                  | refine wpAnyX_alt (i:=10) (j:=13) (by decide +kernel) rfl rfl (fun K3 hK3 => ?_) (fun K3 hK3 => ?_)
                  | refine wpAnyX_one (i:=12) (by decide +kernel) rfl (fun K3 hK3 => ?_)
                all_goals
                  go_simp
                  refine hK3.out _ _ (fun _ => c74) ?_
                  clear hK3 K3
                all_goals first
                  | refine wpAnyX_one (i:=10) (by decide +kernel) rfl (fun K3 hK3 => ?_)
                  | refine wpAnyX_one (i:=13) (by decide +kernel) rfl (fun K3 hK3 => ?_)
                all_goals
                  go_simp
                  refine hK3.out _ _ (fun _ => c74) ?_
                  clear hK3 K3
                all_goals
                  refine wpAnyX_one (i:=14) (by kernel_rfl) rfl (fun K3 hK3 => ?_)
                  go_simp
                  refine hK3.out _ _ (fun _ => c74) ?_
                  clear hK3 K3
                all_goals
                  refine wpAnyX_one (i:=15) (by kernel_rfl) rfl (fun K3 hK3 => ?_)
                  go_simp
                  refine hK3.out _ _ (fun _ => c74) ?_
                  clear hK3 K3
                all_goals
                  refine wpAnyX_one (i:=16) (by kernel_rfl) rfl (fun K3 hK3 => ?_)
                  go_simp
                  refine hK3.out _ _ (fun h => absurd rfl h) ?_
                  clear hK3 K3
                all_goals
                  refine ⟨by kernel_rfl,?_⟩
                  go_wp2
                  go_ret
                  exact ⟨false,A4,S',R',G',m',D',Fm',_,vg',_,S4,R4,G4,m4,D4,Fm4,vr4,vg4,vd4,vb4,_,rfl,Y1.out,Y2.out,Y3.out,fun h => (by cases h),fun _ hp => by
                    obtain ⟨q5,t1,t2,t3,t4⟩:=(by_doors hK U1.out U2.out.nd U2.out.pl).1 hp
                    exact Y5.out (by trivial) q5 t1 ⟨t2,t3⟩⟩
              · go_simp
                refine hK2.out _ _ (fun _ => c74) ?_
                refine wpAnyX_lexK (g:=3) (by kernel_rfl) c74 [8,9,10,11,12,13] _ _ (by kernel_rfl) ?_
                simp only [opsAt,opsNo,List.getElem?_toArray,List.getElem?_cons_zero,List.getElem?_cons_succ]
                iterate 6
                  refine lex_cons ?_ rfl (fun V hV => ?_) (fun _ _ _ h => h) ?_
                  rotate_left
                  · go_simp <;> with_reducible rfl
                  simp only [Act.put,List.setIfInBounds_toArray,List.set_cons_zero,List.set_cons_succ]
                refine lex_nil ?_
                refine wpAnyX_one (i:=14) (by kernel_rfl) rfl (fun K3 hK3 => ?_)
                obtain ⟨q4,v4,v5⟩:=Y4.out (by trivial)
                have D75:=goesCV (k:=k) hF Y1.out.env.n2 Y1.out.near Y1.out.far U2.out v5
                refine step_callG2 rfl 75 (.tmp 49) (.tmp 52) 78 111 rfl en75 ?_
                refine D75.mono ?_
                rintro e w5 ⟨b5,rfl,z1,z2⟩
                have Z1:=hid z1
                have Z2:=hid z2
                have V4:=hid v4
                have V5:=hid v5
                clear z1 z2 v4 v5 D75
                refine .inl ⟨_,rfl,?_⟩
                have c75:w5.cell? ⟨sb,7,none⟩ = some (.slice (some ⟨db,0,none⟩) 1 dc):=(Z2.out.cell (p:=⟨sb,7,none⟩) Y1.out.near.sblt).trans c74
                refine hK3.out _ _ (fun _ => c75) ?_
                refine wpAnyX_one (i:=15) (by kernel_rfl) rfl (fun K4 hK4 => ?_)
                go_simp
                refine hK4.out _ _ (fun _ => c75) ?_
                refine wpAnyX_one (i:=16) (by kernel_rfl) rfl (fun K5 hK5 => ?_)
                go_simp
                refine hK5.out _ _ (fun h => absurd rfl h) ?_
                refine ⟨by kernel_rfl,?_⟩
                go_wp2
                go_ret
                exact ⟨b5,A4,S',R',G',m',D',Fm',_,vg',_,S4,R4,G4,m4,D4,Fm4,vr4,vg4,vd4,vb4,_,rfl,Y1.out.at_ Z2.out,Y2.out,Y3.out.on Z2.out,fun hb => ⟨(by_doors hK U1.out U2.out.nd U2.out.pl).2 ⟨q4,V4.out,V5.out.nd,V5.out.pl,Z1.out.1 hb⟩,⟨q4,_,rfl,V4.out,V5.out⟩,q,d,U1.out,U2.out⟩,fun hb hp => by
                  obtain ⟨q5,t1,t2,t3,t4⟩:=(by_doors hK U1.out U2.out.nd U2.out.pl).1 hp
                  obtain rfl:=t1.det V4.out
                  have:=Z1.out.2 t4
                  rw [hb] at this
                  cases this⟩
            · try go_wp2
              go_ret
              have hu:=U1.out
              rw [HJ.out] at hu
              have hm:=HB3.out.1 (by trivial)
              have hmem:fol l j ∈ q2:=by
                have h1:=hm.1
                rw [V3.out.s] at h1
                obtain ⟨x,hx,e⟩:=List.mem_map.1 h1
                rwa [show fol l j = x by omega]
              exact ⟨true,A',S',R',G',m',D',Fm',_,vg',_,S2,R2,G2,m2,D2,Fm2,vr2,vg2,vd2,vb,DD,rfl,X1.out.at_ HBW.out,X2.out,HCH.out.on HBW.out,fun _ => ⟨hK.more (chI_no l) hu (fol_fo hK (hu.notK.2 j (by simp))) U2.out.nd U2.out.pl V2.out hmem V3.out.nd V3.out.pl hm.2,HFA.out,q,d,U1.out,U2.out⟩,fun h => (by cases h)⟩
        · have b1:decide ((dn:Int) = 1) = false:=by simp;omega
          have b1':decide (dn = 1) = false:=by simpa using h1
          go_upto_region 10 with fail
          have D74:=fun W (hW:Below w2.heap.size w2 W) => openNear (k:=k) (dd:=d.map (fol l)) hF (Nat.le_trans hN (Nat.le_trans HCH.out.size hW.size)) U3.out HDN.out (X1.out.at_ hW) HFA.out (by omega) (by have:=DB.out;omega) (DLT.out)
          refine wp_region_lexT [0,1,2,3,4,5] 11 16 (fun V => V.cell? ⟨sb,7,none⟩ = some (.slice da dn dc)) (by kernel_rfl) (by kernel_rfl) rfl (by kernel_rfl) (by exact c7) ?_
          simp only [opsAt,opsNo,List.getElem?_toArray,List.getElem?_cons_zero,List.getElem?_cons_succ]
          iterate 6
            refine lex_cons ?_ rfl (fun V hV => ?_) (fun _ _ _ h => h) ?_
            rotate_left
            · go_simp <;> with_reducible rfl
            simp only [Act.put,List.setIfInBounds_toArray,List.set_cons_zero,List.set_cons_succ]
          refine lex_nil ?_
          refine wpAnyX_one (i:=6) (by kernel_rfl) rfl (fun K1 hK1 => ?_)
          refine step_callG2 rfl 74 (.tmp 39) (.tmp 44) 72 30 rfl en74 ?_
          refine (D74 w2.drew ⟨rfl,rfl,rfl,Nat.le_refl _,fun _ _ => rfl⟩).mono ?_
          rintro e w4 ⟨b4,A4,S4,R4,G4,m4,D4,Fm4,vr4,vg4,vd4,vb4,rfl,y1,y2,y3,y4,y5⟩
          have y6:Chg w w4 F (Fs sb Fm' vr' vg' (.slice da dn dc) Fm4 vr4 vg4 vd4 vb4):=HCH.out.trans (Chg.pre (⟨y3.os,y3.tape,y3.output,y3.size,y3.block,y3.new⟩:Chg w2 w4 _ _) _)
          have Y1:=hid y1
          have Y2:=hid (y2.trans X2.out)
          have Y3:=hid y6
          have Y4:=hid y4
          have Y5:=hid y5
          clear y1 y2 y3 y4 y5 y6 D74
          refine .inl ⟨_,rfl,?_⟩
          have c74:w4.cell? ⟨sb,7,none⟩ = some (.slice da dn dc):=(Y1.out.near.cell _).trans Y1.out.near.c5
          refine hK1.out _ _ (fun _ => c74) ?_
          refine wpAnyX_one (i:=7) (by kernel_rfl) rfl (fun K2 hK2 => ?_)
          cases b4
          · go_simp
            refine hK2.out _ _ (fun _ => c74) ?_
            all_goals first
              | refine wpAnyX_alt (i:=8) (j:=11) (by decide +kernel) rfl rfl (fun K3 hK3 => ?_) (fun K3 hK3 => ?_)
            all_goals
              go_simp
              refine hK3.out _ _ (fun _ => c74) ?_
              clear hK3 K3
            all_goals first
              | refine wpAnyX_alt (i:=8) (j:=12) (by decide +kernel) rfl rfl (fun K3 hK3 => ?_) (fun K3 hK3 => ?_)
              | refine wpAnyX_alt (i:=9) (j:=11) (by decide +kernel) rfl rfl (fun K3 hK3 => ?_) (fun K3 hK3 => ?_)
            all_goals
              go_simp
              refine hK3.out _ _ (fun _ => c74) ?_
              clear hK3 K3
            all_goals first
              | refine wpAnyX_alt (i:=8) (j:=13) (by decide +kernel) rfl rfl (fun K3 hK3 => ?_) (fun K3 hK3 => ?_)
              | refine wpAnyX_alt (i:=9) (j:=12) (by decide +kernel) rfl rfl (fun K3 hK3 => ?_) (fun K3 hK3 => ?_)
              | refine wpAnyX_alt (i:=10) (j:=11) (by decide +kernel) rfl rfl (fun K3 hK3 => ?_) (fun K3 hK3 => ?_)
            all_goals
              go_simp
              refine hK3.out _ _ (fun _ => c74) ?_
              clear hK3 K3
            all_goals first
              | refine wpAnyX_one (i:=8) (by decide +kernel) rfl (fun K3 hK3 => ?_)
              | refine wpAnyX_alt (i:=9) (j:=13) (by decide +kernel) rfl rfl (fun K3 hK3 => ?_) (fun K3 hK3 => ?_)
              | refine wpAnyX_alt (i:=10) (j:=12) (by decide +kernel) rfl rfl (fun K3 hK3 => ?_) (fun K3 hK3 => ?_)
              | refine wpAnyX_one (i:=11) (by decide +kernel) rfl (fun K3 hK3 => ?_)
            all_goals
              go_simp
              refine hK3.out _ _ (fun _ => c74) ?_
              clear hK3 K3
            all_goals first
              | refine wpAnyX_one (i:=9) (by decide +kernel) rfl (fun K3 hK3 => ?_)
              | refine wpAnyX_alt (i:=10) (j:=13) (by decide +kernel) rfl rfl (fun K3 hK3 => ?_) (fun K3 hK3 => ?_)
              | refine wpAnyX_one (i:=12) (by decide +kernel) rfl (fun K3 hK3 => ?_)
            all_goals
              go_simp
              refine hK3.out _ _ (fun _ => c74) ?_
              clear hK3 K3
            all_goals first
              | refine wpAnyX_one (i:=10) (by decide +kernel) rfl (fun K3 hK3 => ?_)
              | refine wpAnyX_one (i:=13) (by decide +kernel) rfl (fun K3 hK3 => ?_)
            all_goals
              go_simp
              refine hK3.out _ _ (fun _ => c74) ?_
              clear hK3 K3
            all_goals
              refine wpAnyX_one (i:=14) (by kernel_rfl) rfl (fun K3 hK3 => ?_)
              go_simp
              refine hK3.out _ _ (fun _ => c74) ?_
              clear hK3 K3
            all_goals
              refine wpAnyX_one (i:=15) (by kernel_rfl) rfl (fun K3 hK3 => ?_)
              go_simp
              refine hK3.out _ _ (fun _ => c74) ?_
              clear hK3 K3
            all_goals
              refine wpAnyX_one (i:=16) (by kernel_rfl) rfl (fun K3 hK3 => ?_)
              go_simp
              refine hK3.out _ _ (fun h => absurd rfl h) ?_
              clear hK3 K3
            all_goals
              refine ⟨by kernel_rfl,?_⟩
              go_wp2
              go_ret
              exact ⟨false,A4,S',R',G',m',D',Fm',_,vg',_,S4,R4,G4,m4,D4,Fm4,vr4,vg4,vd4,vb4,_,rfl,Y1.out,Y2.out,Y3.out,fun h => (by cases h),fun _ hp => by
                obtain ⟨q5,t1,t2,t3,t4⟩:=(by_doors hK U1.out U2.out.nd U2.out.pl).1 hp
                exact Y5.out (by trivial) q5 t1 ⟨t2,t3⟩⟩
          · go_simp
            refine hK2.out _ _ (fun _ => c74) ?_
            refine wpAnyX_lexK (g:=3) (by kernel_rfl) c74 [8,9,10,11,12,13] _ _ (by kernel_rfl) ?_
            simp only [opsAt,opsNo,List.getElem?_toArray,List.getElem?_cons_zero,List.getElem?_cons_succ]
            iterate 6
              refine lex_cons ?_ rfl (fun V hV => ?_) (fun _ _ _ h => h) ?_
              rotate_left
              · go_simp <;> with_reducible rfl
              simp only [Act.put,List.setIfInBounds_toArray,List.set_cons_zero,List.set_cons_succ]
            refine lex_nil ?_
            refine wpAnyX_one (i:=14) (by kernel_rfl) rfl (fun K3 hK3 => ?_)
            obtain ⟨q4,v4,v5⟩:=Y4.out (by trivial)
            have D75:=goesCV (k:=k) hF Y1.out.env.n2 Y1.out.near Y1.out.far U2.out v5
            refine step_callG2 rfl 75 (.tmp 49) (.tmp 52) 78 111 rfl en75 ?_
            refine D75.mono ?_
            rintro e w5 ⟨b5,rfl,z1,z2⟩
            have Z1:=hid z1
            have Z2:=hid z2
            have V4:=hid v4
            have V5:=hid v5
            clear z1 z2 v4 v5 D75
            refine .inl ⟨_,rfl,?_⟩
            have c75:w5.cell? ⟨sb,7,none⟩ = some (.slice da dn dc):=(Z2.out.cell (p:=⟨sb,7,none⟩) Y1.out.near.sblt).trans c74
            refine hK3.out _ _ (fun _ => c75) ?_
            refine wpAnyX_one (i:=15) (by kernel_rfl) rfl (fun K4 hK4 => ?_)
            go_simp
            refine hK4.out _ _ (fun _ => c75) ?_
            refine wpAnyX_one (i:=16) (by kernel_rfl) rfl (fun K5 hK5 => ?_)
            go_simp
            refine hK5.out _ _ (fun h => absurd rfl h) ?_
            refine ⟨by kernel_rfl,?_⟩
            go_wp2
            go_ret
            exact ⟨b5,A4,S',R',G',m',D',Fm',_,vg',_,S4,R4,G4,m4,D4,Fm4,vr4,vg4,vd4,vb4,_,rfl,Y1.out.at_ Z2.out,Y2.out,Y3.out.on Z2.out,fun hb => ⟨(by_doors hK U1.out U2.out.nd U2.out.pl).2 ⟨q4,V4.out,V5.out.nd,V5.out.pl,Z1.out.1 hb⟩,⟨q4,_,rfl,V4.out,V5.out⟩,q,d,U1.out,U2.out⟩,fun hb hp => by
              obtain ⟨q5,t1,t2,t3,t4⟩:=(by_doors hK U1.out U2.out.nd U2.out.pl).1 hp
              obtain rfl:=t1.det V4.out
              have:=Z1.out.2 t4
              rw [hb] at this
              cases this⟩
end Go.Proofs.YtjdbnoccdefnaaaGreat
