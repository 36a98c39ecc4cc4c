/- HELPERS: texts of ours put together. -/
import Derived.Test.YtjdbnoccdefnaaaGreatK23
import Derived.Test.YtjdbnoccdefnaaaGreatK21
namespace Go.Proofs.YtjdbnoccdefnaaaGreat
open Go.RowKit
set_option linter.unusedVariables false
set_option linter.unusedSimpArgs false
variable {N:Nat} {w:World} {sb o:Nat} {A:Array Value} {iv:Value} {n g of:Nat} {S:List Int} {R:List Nat} {G:List (Int × Int)} {m:Nat} {D:List Int} {mg:Nat} {Fm:List Nat} {vr vg vd:Value} {l:List In} {k:Int}
  {iv2:Value} {S2:List Int} {R2:List Nat} {G2:List (Int × Int)} {m2:Nat} {D2:List Int} {mg2:Nat} {Fm2:List Nat} {vr2 vg2 vd2:Value}
set_option maxRecDepth 100000 in
set_option maxHeartbeats 4000000 in
theorem goesMore73 {q q2:List Nat} {f:Nat} (hF:∀ I ∈ l,Fit (l.length:Int) k I) (hn2:n ≤ 20000)
    (hC:CV N w sb 2 A iv n g of S R G m D mg Fm vr vg vd) (hC2:CV N w sb 8 A iv2 n g of S2 R2 G2 m2 D2 mg2 Fm2 vr2 vg2 vd2) (h:Gat l q S R G m) (h2:Gat l q2 S2 R2 G2 m2) :
    Calls Tryz.prog 73 #[.pointer (some ⟨sb,0,none⟩),.int .i64 (f:Int)] w fun e w' => ∃ b:Bool,e = .returned (.bool b) ∧ (b = true ↔ (f:Int) ∈ S2 ∧ (pd l).cross q q2) ∧ Below w.heap.size w w':=by
  have C48:=fun W (hW:Below w.heap.size w W) => has12 N mg2 Fm2 n S2 (f:Int) W (hid (hC2.set.kept (w':=W) (fun k hk => hW.block k (hC2.set.low k hk).2)))
  have D75:=fun W (hW:Below w.heap.size w W) => goesCV hF hn2 (hC.kept (w':=W) (fun k hk => hW.block k (hC.low k hk).2)) (hC2.kept (w':=W) (fun k hk => hW.block k (hC2.low k hk).2)) h h2
  have c9:w.cell? ⟨sb,9,none⟩ = some (.pointer (some ⟨mg2,0,none⟩)):=(hC2.cell _).trans hC2.c1
  clear hC hC2 h h2
  by_cases hin:(f:Int) ∈ S2
  · have e1:decide ((f:Int) ∈ S2) = true:=decide_eq_true hin
    rw [e1] at C48
    have HIN:=hid hin
    clear e1 hin
    go_enter Tryz.func73,Tryz.ntmps73
    go_upto_region 1 with fail
    go_region_with (first | (go_at_call 48;(with_reducible refine (C48 _ ?_).mono ?_);(exact ⟨rfl,rfl,rfl,Nat.le_refl _,fun _ _ => rfl⟩);rintro e w1 ⟨rfl,kd,rfl⟩) | (go_at_call 75;(with_reducible refine (D75 _ ?_).mono ?_);(exact ⟨rfl,rfl,rfl,Nat.le_refl _,fun _ _ => rfl⟩);rintro e w3 ⟨b,rfl,hb,hbw⟩;have HB:=hid hb;have HBW:=hid hbw;clear hb hbw))
    all_goals
      go_wp2
      go_ret
      exact ⟨b,rfl,⟨fun hb => ⟨HIN.out,HB.out.1 hb⟩,fun h => HB.out.2 h.2⟩,(drewN_below w _).trans HBW.out⟩
  · have e1:decide ((f:Int) ∈ S2) = false:=decide_eq_false hin
    rw [e1] at C48
    have HIN:=hid hin
    clear e1 hin D75
    go_enter Tryz.func73,Tryz.ntmps73
    go_upto_region 1 with fail
    go_simp
    go_big_quiet ((refine (C48 _ ?_).mono ?_;(exact ⟨rfl,rfl,rfl,Nat.le_refl _,fun _ _ => rfl⟩);(rintro e w1 ⟨rfl,kd,rfl⟩;exact ⟨rfl,_,World.drewN_drewN _ _ _⟩)))
    go_wp2
    go_ret
    exact ⟨false,rfl,⟨fun h => (by cases h),fun h => absurd h.1 HIN.out⟩,drewN_below w _⟩
end Go.Proofs.YtjdbnoccdefnaaaGreat
namespace Go.Proofs.YtjdbnoccdefnaaaGreat
open Go.RowKit
set_option linter.unusedVariables false
set_option linter.unusedSimpArgs false
variable {N:Nat} {w:World} {sb o:Nat} {A:Array Value} {iv:Value} {n g of:Nat} {S:List Int} {R:List Nat} {G:List (Int × Int)} {m:Nat} {D:List Int} {mg:Nat} {Fm:List Nat} {vr vg vd:Value} {l:List In} {k:Int}
set_option maxRecDepth 100000 in
set_option maxHeartbeats 8000000 in
theorem gather71 {ad fa:Option Addr} {c fn fc kg nk:Nat} {Fk:List Nat} {Kl:List Int} {Fr:List Nat} (hF:∀ I ∈ l,Fit (l.length:Int) k I) (hU:∀ i,KS Kl i → ∃ q,Us (pd l).eps [i] q)
    (hC:CV N w sb o A (.slice ad n c) n g of S R G m D mg Fm vr vg vd) (hE:CE N w ad n g of l kg Fk nk Kl) (hd:∀ b ∈ Fk,b ∉ FC sb Fm vr vg vd) (hN:N ≤ w.heap.size)
    (hfn:fn = Fr.length) (hfr:0 < fn → ∃ fb fo,fa = some ⟨fb,fo,none⟩ ∧ fb < w.heap.size ∧ fb ∉ FC sb Fm vr vg vd ∧ ∀ j (hj:j < Fr.length),w.cell? ⟨fb,fo + j,none⟩ = some (.int .i64 (Fr[j]:Int))) (hfi:∀ i ∈ Fr,i < n) (hfl:fn ≤ 900000) :
    Calls Tryz.prog 71 #[.pointer (some ⟨sb,o,none⟩),.slice fa fn fc,.pointer (some ⟨kg,0,none⟩)] w (GPost N w sb o A (.slice ad n c) n g of mg Fm vr vg vd l Kl Fr):=by
  obtain ⟨ra,rc,hra,-,hrm⟩:=row_shape hC.rr
  obtain ⟨ga,gc,hga,-,hgm⟩:=row_shape hC.rg
  obtain ⟨da,dc,hda,-,hdm⟩:=row_shape hC.rd
  obtain ⟨rn,hrn⟩:∃ rn,rn = R.length:=⟨_,rfl⟩
  obtain ⟨gn,hgn⟩:∃ gn,gn = G.length:=⟨_,rfl⟩
  obtain ⟨dn,hdn⟩:∃ dn,dn = D.length:=⟨_,rfl⟩
  rw [← hrn] at hra
  rw [← hgn] at hga
  rw [← hdn] at hda
  subst hra hga hda
  have C97:=clear16 N mg Fm n S w hC.set
  have h1:w.cell? ⟨sb,o + 1,none⟩ = some (.pointer (some ⟨mg,0,none⟩)):=(hC.cell _).trans hC.c1
  have HC:=hid hC
  have HE:=hid hE
  have HD:=hid hd
  have HFR:=hid hfr
  have HFI:=hid hfi
  have HFN:=hid hfn
  have HRN:=hid hrn
  have HGN:=hid hgn
  have HDN:=hid hdn
  have HU:=hid hU
  unfold maxLen at hrm hgm hdm
  clear hC hE hd hfr hfi hfn hrn hgn hdn hU
  go_enter Tryz.func71,Tryz.ntmps71
  go_upto_region 2 with (go_at_call 97;(with_reducible refine C97.mono ?_);rintro e w1 ⟨rfl,hs1,hc1⟩;obtain ⟨n1,n2⟩:=HC.out.setMet hs1 hc1;have N1:=hid n1;have N2:=hid n2;clear hs1 hc1 n1 n2 C97)
  have k2:=(N1.out.cell (o + 2)).trans N1.out.c2
  have k3:=(N1.out.cell (o + 3)).trans N1.out.c3
  have k5:=(N1.out.cell (o + 5)).trans N1.out.c5
  have k4:=(N1.out.cell (o + 4)).trans N1.out.c4
  have f2:=N1.out.frz (o + 2)
  have f3:=N1.out.frz (o + 3)
  have f4:=N1.out.frz (o + 4)
  have f5:=N1.out.frz (o + 5)
  go_region_law (fail)
  all_goals
    obtain ⟨W0,hW0⟩:∃ W0,W0 = (((w1.setCell ⟨sb,o + 2,none⟩ (.slice ra 0 rc)).setCell ⟨sb,o + 3,none⟩ (.slice ga 0 gc)).setCell ⟨sb,o + 5,none⟩ (.slice da 0 dc)).setCell ⟨sb,o + 4,none⟩ (.int .i64 0):=⟨_,rfl⟩
    rw [← hW0]
    obtain ⟨m1,m2⟩:=N1.out.reset HRN.out HGN.out HDN.out
    rw [← hW0] at m1 m2
    obtain ⟨W1,hW1⟩:∃ W1,W1 = W0.drew:=⟨_,rfl⟩
    have m3:=m1.kept (w':=W1) (fun _ _ => by rw [hW1];rfl)
    have m4:Chg w1 W1 _ _:=⟨by rw [hW1];exact m2.os,by rw [hW1];exact m2.tape,by rw [hW1];exact m2.output,by rw [hW1];exact m2.size,by rw [hW1];exact m2.block,m2.new⟩
    rw [← hW1]
    have M1:=hid m3
    have M2:=hid (N2.out.trans m4)
    clear hW0 hW1 m1 m2 m3 m4 k2 k3 k4 k5 f2 f3 f4 f5
    go_upto_region 4 with fail
    go_loopw [43] (fun y wq => ∃ (i:Nat) (A':Array Value) (R':List Nat) (m':Nat) (D':List Int) (Fm':List Nat) (vr' vd':Value) (q:List Nat),y = .int .i64 (i:Int) ∧ i ≤ fn ∧ Hid (CV N wq sb o A' (.slice ad n c) n g of (Ix q) R' [] m' D' mg Fm' vr' (.slice ga 0 gc) vd') ∧ Hid (Rest A A' o) ∧ Hid (Chg w wq (FC sb Fm (.slice ra rn rc) (.slice ga gn gc) (.slice da dn dc)) (FC sb Fm' vr' (.slice ga 0 gc) vd')) ∧ Hid (∃ d,Uk (pd l).eps (KS Kl) (Fr.take i) q d ∧ R' = q.filter (pd l).rd ∧ m' = (q.filter (pd l).mt).length ∧ D' = Ix (d.map (fol l)) ∧ D'.length ≤ q.length + i)) (fun y _ => fn - (intOf y).toNat)
    case atStart => exact ⟨0,_,[],0,[],Fm,_,_,[],rfl,by omega,M1.out,reset_rest _ _ _ _,M2.out,[],by rw [List.take_zero];exact .nil,rfl,rfl,rfl,by simp⟩
    case round =>
      clear M1 M2 N1 N2
      obtain ⟨i,A',R',m',D',Fm',vr',vd',q,rfl,hi,HCV,HRT,HCH,HQ⟩:=hrel
      have hB:Below N w wr:=HCH.out.below hN (fun k hk => (HC.out.low k hk).1)
      have hNr:N ≤ wr.heap.size:=Nat.le_trans hN hB.size
      have hEr:CE N wr ad n g of l kg Fk nk Kl:=HE.out.kept hB (fun b hb => HCH.out.block b (HE.out.ks.low b hb).2 (HD.out b hb))
      have hdr:∀ b ∈ Fk,b ∉ FC sb Fm' vr' (.slice ga 0 gc) vd':=fun b hb hm => by
        rcases HCH.out.new b hm with h | h
        · exact HD.out b hb h
        · have:=(HE.out.ks.low b hb).2;omega
      have hql:q.length ≤ n:=by have:=HCV.out.set.len.1;simpa [Ix] using this
      have hRD:R'.length ≤ q.length ∧ m' ≤ q.length ∧ D'.length ≤ q.length + i:=by
        obtain ⟨d,u1,u2,u3,u4,u5⟩:=HQ.out
        rw [u2,u3]
        exact ⟨List.length_filter_le _ _,List.length_filter_le _ _,u5⟩
      by_cases hil:i < fn
      · have b1:decide ((i:Int) < (fn:Int)) = true:=by simp;omega
        have b2:(i:Int) < (fn:Int):=by omega
        have ad1:IntKind.i64.wrap ((i:Int) + 1) = (i:Int) + 1:=by simp [IntKind.wrap,IntKind.bits,IntKind.signed];omega
        have hlt:i < Fr.length:=by have:=HFN.out;omega
        obtain ⟨fb,fo,rfl,hfb,hfbn,hfc⟩:=HFR.out (by omega)
        have kf:wr.cell? ⟨fb,fo + i,none⟩ = some (.int .i64 (Fr[i]:Int)):=(cell_eq (HCH.out.block fb hfb hfbn) _).trans (hfc i hlt)
        have hin:=HFI.out _ (List.getElem_mem hlt)
        obtain ⟨x,hx⟩:∃ x,Fr[i] = x:=⟨_,rfl⟩
        have hts:=take_snoc hlt
        have hno:=fun q0 d0 => row_no (l:=l) (Kl:=Kl) (q0:=q0) (d0:=d0) hlt
        rw [hx] at kf hin hts hno
        have D98:=comeTo98 (k:=k) hF HU.out n (by simp [Ix] <;> omega) HCV.out hEr hdr hin hNr (by have:=HE.out.n2;simp [Ix];omega) (by simp [Ix];omega) (by simp [Ix];omega)
        have HTS:=hid hts
        have HNO:=hid hno
        clear hx hts hno hfc hEr hdr hB
        go_wp2_with (go_at_call 98;(with_reducible refine D98.mono ?_);rintro e w3 hp;rcases hp.or with ⟨A2,S2,R2,m2,D2,Fm2,vr2,vd2,rfl,c1,c2⟩ | ⟨A2,S2,R2,m2,D2,Fm2,vr2,vd2,rfl,c1,c2⟩;all_goals clear hp D98)
        · go_ret
          obtain ⟨d,u1,u2,u3,u4,u5⟩:=HQ.out
          exact ⟨false,A2,S2,R2,[],m2,D2,Fm2,vr2,_,vd2,rfl,c1.out.1,HRT.out.trans c1.out.2.1,HCH.out.trans c1.out.2.2,fun h => (by cases h),fun _ q' d' hq' hpp => HNO.out _ _ u1 c2.out q' d' hq' hpp.1⟩
        · obtain ⟨d,u1,u2,u3,u4,u5⟩:=HQ.out
          obtain ⟨q2,d2,v1,v2,v3,v4,v5,v6⟩:=c2.out
          subst u2 u3 u4
          have e1:Ix q ++ Ix q2 = Ix (q ++ q2):=by simp [Ix]
          rw [e1] at v2
          subst v2 v3 v4 v5
          refine ⟨⟨i + 1,A2,_,_,_,Fm2,vr2,vd2,q ++ q2,by push_cast;rfl,by omega,c1.out.1,HRT.out.trans c1.out.2.1,HCH.out.trans c1.out.2.2,d ++ d2,by rw [HTS.out];exact u1.app v1,by simp,by simp,by simp [Ix],?_⟩,by simp [intOf];omega⟩
          simp [Ix] at v6 u5 ⊢
          omega
      · have b1:decide ((i:Int) < (fn:Int)) = false:=by simp;omega
        have hin:i = fn:=by omega
        have htk:Fr.take i = Fr:=List.take_of_length_le (by have:=HFN.out;omega)
        rw [htk] at HQ
        have k4:wr.cell? ⟨sb,o + 4,none⟩ = some (.int .i64 (m':Int)):=(HCV.out.cell _).trans HCV.out.c4
        obtain ⟨d,u1,u2,u3,u4,-⟩:=HQ.out
        have hlt:=Uk.lt (N:=n) (by rw [HE.out.pi.len];exact eps_lt hF) u1 HFI.out
        have hRr:∀ r ∈ R',r < n ∧ (at0 l r).op = 1:=fun r hr => by
          rw [u2,List.mem_filter] at hr
          exact ⟨hlt.1 r hr.1,by simpa [pd] using hr.2⟩
        have hn2:=HE.out.n2
        have D99:=areApart99 (k:=k) hF HCV.out hEr.pi HE.out.at_ hn2 hNr hRr (by omega)
        have hmn:m' ≤ 20000:=by omega
        have U1:=hid u1
        have U2:=hid u2
        have U3:=hid u3
        have U4:=hid u4
        have hqn:q.Nodup:=Ix_nodup.1 HCV.out.set.nodup
        clear HQ u1 u2 u3 u4 hlt hRr HU hEr hdr hB
        by_cases hm1:m' ≤ 1
        · have b3:decide ((m':Int) ≤ 1) = true:=by simp;omega
          have b4:(m':Int) ≤ 1:=by omega
          go_wp2_with (go_at_call 99;(with_reducible refine D99.mono ?_);rintro e w3 ⟨b,A2,G2,vg2,rfl,c1,c2,c3,c4,c5⟩)
          go_ret
          exact ⟨b,A2,_,R',G2,m',D',Fm',vr',vg2,vd',rfl,c1,HRT.out.trans c2,HCH.out.trans c3,
            fun hb => ⟨q,d,U1.out,hqn,⟨by rw [← U3.out];exact hm1,by rw [← U2.out];exact (c4 hb).1⟩,rfl,U2.out,U3.out,U4.out,(c4 hb).2⟩,
            fun hb q' d' hq' hpp => by
              obtain ⟨rfl,rfl⟩:=U1.out.det hq'
              exact c5 hb (by rw [U2.out];exact hpp.2.2)⟩
        · have b3:decide ((m':Int) ≤ 1) = false:=by simp;omega
          have b4:(1:Int) < m':=by omega
          go_wp2_with (fail)
          go_ret
          exact ⟨false,A',_,R',_,m',D',Fm',vr',_,vd',rfl,HCV.out,HRT.out,HCH.out,fun h => (by cases h),
            fun _ q' d' hq' hpp => by
              obtain ⟨rfl,rfl⟩:=U1.out.det hq'
              have:=hpp.2.1
              rw [← U3.out] at this
              omega⟩
end Go.Proofs.YtjdbnoccdefnaaaGreat
