/- HELPERS: texts of ours put together. -/
import Derived.Test.YtjdbnoccdefnaaaGreatK28
namespace Go.Proofs.YtjdbnoccdefnaaaGreat
open Go.RowKit
set_option linter.unusedVariables false
set_option linter.unusedSimpArgs false
variable {N:Nat} {w:World} {sb:Nat} {ad:Option Addr} {c n g of:Nat} {l:List In} {kg:Nat} {mg mg2 mb:Nat} {Kl Lf:List Int} {k:Int} {s:Nat}
abbrev nxI (l:List In) (i:Nat):Nat:=(at0 l i).x.toNat
def SW (N:Nat) (w:World) (sb:Nat) (ad:Option Addr) (c n g of:Nat) (l:List In) (kg mb mg mg2:Nat) (Kl Lf:List Int) (F:List Nat):Prop:=
  ∃ A Fk S R G m D Fm vr vg vd S2 R2 G2 m2 D2 Fm2 vr2 vg2 vd2 vb DD,Sv N w sb A ad c n g of l kg Fk n Kl S R G m D mg Fm vr vg vd S2 R2 G2 m2 D2 mg2 Fm2 vr2 vg2 vd2 vb DD ∧ FarOK l DD S2 R2 G2 m2 ∧ A[0]? = some (.map (some mb)) ∧ MpS w mb Lf ∧ N ≤ mb ∧ mb ∉ Fs sb Fm vr vg vd Fm2 vr2 vg2 vd2 vb ∧ mb ∉ Fk ∧ (∀ x ∈ Lf,0 ≤ x ∧ x < n) ∧ F = mb :: (Fk ++ Fs sb Fm vr vg vd Fm2 vr2 vg2 vd2 vb)
theorem MpS.nodup {w:World} {b:Nat} {L:List Int} (h:MpS w b L):L.Nodup:=by
  obtain ⟨D,h⟩:=h
  exact h.nd
theorem rune_nx (hF:∀ I ∈ l,Fit (l.length:Int) k I) {i:Nat} (hi:i < l.length) (hop:(at0 l i).op = 1):0 ≤ (at0 l i).x ∧ (at0 l i).x < (l.length:Int):=by
  have hf:=hF _ (List.getElem_mem hi)
  rw [at0_lt hi] at hop ⊢
  obtain ⟨I,hI⟩:∃ I,I = l[i]:=⟨_,rfl⟩
  rw [← hI] at hf hop ⊢
  cases hf <;> simp at hop <;> simp <;> omega
theorem reader_x {w:World} {N i:Nat} (hp:PI w N ad n l) (ha:0 < n → ad = some ⟨g,of,none⟩) (hi:i < n):w.cell? ⟨g,of + i * 5 + 1,none⟩ = some (.int .i64 (at0 l i).x):=by
  have e0:=ha (by omega)
  subst e0
  obtain ⟨g',of',ND,e,hg,hcs⟩:=hp.mem (by omega)
  simp only [Option.some.injEq,Addr.mk.injEq,and_true] at e
  obtain ⟨rfl,rfl⟩:=e
  have hl:i < l.length:=by have:=hp.len;omega
  obtain ⟨⟨m0,m1,m2,m3,m4⟩,hIM⟩:=hcs i hl
  rw [m1,hIM.x,at0_lt hl]
theorem grown_chg {w w':World} {mb:Nat} {X:List Nat} (h:w.grownBy w' (some mb)):Chg w w' (mb :: X) (mb :: X):=
  ⟨h.os,h.tape,h.output,h.size,fun b hb hn => h.block b hb (fun e => by injection e with e;exact hn (by simp [e])),fun b hb => .inl hb⟩
def LPost (N:Nat) (w:World) (sb:Nat) (ad:Option Addr) (c n g of:Nat) (l:List In) (kg mb mg mg2:Nat) (Kl Lf:List Int) (s i:Nat) (F:List Nat) (e:Ending) (w':World):Prop:=
  ∃ b,e = .returned (.bool b) ∧ Below N w w' ∧ (b = false → ¬ (pd l).Pl i) ∧ (b = true → ∃ Kl' Lf' F',SW N w' sb ad c n g of l kg mb mg mg2 Kl' Lf' F' ∧ SI (pd l) (nxI l) s (KS Kl') (KS Lf') ∧ KS Kl' i ∧ (∃ T,Kl' = Kl ++ T) ∧ Chg w w' F F')
set_option maxRecDepth 100000 in
set_option maxHeartbeats 8000000 in
theorem look39 {i:Nat} {FO:List Nat} (hF:∀ I ∈ l,Fit (l.length:Int) k I) (hI:SI (pd l) (nxI l) s (KS Kl) (KS Lf)) (hR:Rch (pd l) (nxI l) s i) (hN:N ≤ w.heap.size) (hi:i < n) (h:SW N w sb ad c n g of l kg mb mg mg2 Kl Lf FO) :
    Calls Tryz.prog 39 #[.pointer (some ⟨sb,0,none⟩),.int .i64 (i:Int)] w (LPost N w sb ad c n g of l kg mb mg mg2 Kl Lf s i FO):=by
  obtain ⟨A,Fk,S,R,G,m,D,Fm,vr,vg,vd,S2,R2,G2,m2,D2,Fm2,vr2,vg2,vd2,vb,DD,hS,hfar,h0,hM,hmN,hmF,hmK,hLf,hFO⟩:=h
  have D52:=isPlain52 (k:=k) (i:=i) hF hI.ki hN hi hS hfar
  have hFlow:=hS.low
  have hml:=hM.lt
  have HMM:=hid (show mb ∉ Fs sb Fm vr vg vd Fm2 vr2 vg2 vd2 vb from hmF)
  have HM:=hid hM
  have HLF:=hid hLf
  have HFL:=hid hFlow
  obtain ⟨F,hFs⟩:∃ F,F = Fs sb Fm vr vg vd Fm2 vr2 vg2 vd2 vb:=⟨_,rfl⟩
  rw [← hFs] at D52 HMM HFL hFO
  have HFO:=hid hFO
  have hlowO:∀ b ∈ FO,N ≤ b:=fun b hb => by
    rw [hFO] at hb
    rcases List.mem_cons.1 hb with rfl | hb
    · exact hmN
    · rcases List.mem_append.1 hb with hb | hb
      · exact (hS.env.ks.low b hb).1
      · exact (HFL.out b hb).1
  have HLO:=hid hlowO
  clear hS hfar hM hLf hmF hFlow hFs hFO hlowO
  go_enter Tryz.func39,Tryz.ntmps39
  go_upto_region 3 with (go_at_call 52;(with_reducible refine D52.mono ?_);rintro e w2 ⟨b,A',S',R',G',m',D',Fm',vr',vg',vd',S3,R3,G3,m3,D3,Fm3,vr3,vg3,vd3,vb3,DD3,rfl,x1,x2,x3,x4,x5⟩;have X1:=hid x1;have X2:=hid (x2.trans h0);have X3:=hid x3;have X4:=hid x4;have X5:=hid x5;clear x1 x2 x3 x4 x5 D52;cases b)
  · have hB:Below N w w2:=X3.out.below hN (fun b hb => (HFL.out b hb).1)
    go_wp2
    go_ret
    exact ⟨false,rfl,hB,fun _ => X5.out (by trivial),fun h => (by cases h)⟩
  · obtain ⟨hPl,hFar3,q,d,hu,hG⟩:=X4.out (by trivial)
    have hB2:Below N w w2:=X3.out.below hN (fun b hb => (HFL.out b hb).1)
    have hN2:N ≤ w2.heap.size:=Nat.le_trans hN hB2.size
    have hmF2:mb ∉ Fs sb Fm' vr' vg' vd' Fm3 vr3 vg3 vd3 vb3:=fun hm => by
      rcases X3.out.new mb hm with h1 | h1
      · exact HMM.out h1
      · omega
    have hM2:MpS w2 mb Lf:=HM.out.kept (X3.out.block mb hml HMM.out)
    have hsl:=X1.out.near.set.len
    have hn2:=X1.out.env.n2
    have c3:w2.cell? ⟨sb,3,none⟩ = some (.pointer (some ⟨mg,0,none⟩)):=(X1.out.near.cell _).trans X1.out.near.c1
    have D53:=list18 N mg Fm' n S' w2 (hid X1.out.near.set) (by omega)
    obtain ⟨ra,rc,rfl,-,-⟩:=row_shape X1.out.near.rr
    obtain ⟨rn,hrn⟩:∃ rn,rn = R'.length:=⟨_,rfl⟩
    rw [← hrn] at X1 X3 hmF2
    have HRN:=hid hrn
    obtain ⟨sn,hsn⟩:∃ sn,sn = S'.length:=⟨_,rfl⟩
    have HSN:=hid hsn
    have hrnn:rn ≤ sn:=by
      rw [hrn,hsn,hG.r,hG.s,List.length_map]
      exact List.length_filter_le _ _
    have HPL:=hid hPl
    have HFA:=hid hFar3
    have HU:=hid hu
    have HG:=hid hG
    obtain ⟨F1,hF1⟩:∃ F1,F1 = Fs sb Fm' (.slice ra rn rc) vg' vd' Fm3 vr3 vg3 vd3 vb3:=⟨_,rfl⟩
    have hC2:Chg w w2 FO (mb :: (Fk ++ F1)):=by
      rw [HFO.out,hF1]
      exact (X3.out.pre Fk).pre [mb]
    have HC2:=hid hC2
    have HF1:=hid hF1
    have HMF:=hid hmF2
    have HM2:=hid hM2
    have hml2:mb < w2.heap.size:=Nat.lt_of_lt_of_le hml hB2.size
    have hsnn:sn ≤ n:=by have:=hsl.1;omega
    clear hPl hFar3 hu hG hB2 hC2 hF1 hmF2 hM2 hsn hrn X3 X4 X5 HMM HM hsl
    go_upto_region 4 with (go_at_call 53;(with_reducible refine D53.mono ?_);rintro e w3 ⟨v,rfl,y1,y2⟩;have y3:w3.ownsRow w2.heap.size 3 1 v sn (I64 S'):=(by rw [HSN.out];exact y1);obtain ⟨va,vc,rfl,-,-⟩:=row_shape y3;have Y1:=hid y3;have Y2:=hid y2;clear y1 y2 y3 D53)
    have XX:=hid (X1.out.at_ Y2.out)
    have hM3:MpS w3 mb Lf:=HM2.out.kept (Y2.out.block mb hml2)
    have HM3:=hid hM3
    have hrow:∀ b,(Value.slice va sn vc).ownBlock = some b → w2.heap.size ≤ b ∧ b < w3.heap.size:=fun b hb => Y1.out.lt b hb
    have hfk3:∀ b,(Value.slice va sn vc).ownBlock = some b → b ∉ Fk ∧ b ≠ mb:=fun b hb => ⟨fun hm => by have:=(X1.out.env.ks.low b hm).2;have:=(hrow b hb).1;omega,fun e => by have:=(hrow b hb).1;omega⟩
    have HR3:=hid hfk3
    have hB3:Chg w w3 FO (mb :: (Fk ++ F1)):=HC2.out.on Y2.out
    have HB3:=hid hB3
    have hN3:N ≤ w3.heap.size:=Nat.le_trans hN2 Y2.out.size
    clear hM3 hfk3 hB3 hrow HM2 HC2 c3
    have HX0:=X2
    go_loopw [20] (fun y wq => ∃ (j:Nat) (Fk':List Nat),y = .int .i64 (j:Int) ∧ j ≤ sn ∧ N ≤ wq.heap.size ∧ mb < wq.heap.size ∧ Hid (Sv N wq sb A' ad c n g of l kg Fk' n (Kl ++ S'.take j) S' R' G' m' D' mg Fm' (.slice ra rn rc) vg' vd' S3 R3 G3 m3 D3 mg2 Fm3 vr3 vg3 vd3 vb3 DD3) ∧ Hid (MpS wq mb (cuts Lf (S'.take j))) ∧ Hid (mb ∉ Fk') ∧ Hid (wq.ownsRow w2.heap.size 3 1 (.slice va sn vc) sn (I64 S')) ∧ Hid (∀ b,(Value.slice va sn vc).ownBlock = some b → b ∉ Fk' ∧ b ≠ mb) ∧ Hid (Chg w wq FO (mb :: (Fk' ++ F1)))) (fun y _ => sn - (intOf y).toNat)
    case atStart => exact ⟨0,Fk,rfl,by omega,hN3,Nat.lt_of_lt_of_le hml2 Y2.out.size,by rw [List.take_zero,List.append_nil];exact XX.out,HM3.out,hmK,Y1.out,HR3.out,HB3.out⟩
    case round =>
      obtain ⟨j,Fk',rfl,hj,hNr,hmr,HSV,HMP,HMK,HRW,HRB,HBW⟩:=hrel
      clear XX HM3 HR3 HB3 X1 Y1 Y2
      by_cases hjn:j < sn
      · have b1:decide ((j:Int) < (sn:Int)) = true:=by simp;omega
        have b2:(j:Int) < (sn:Int):=by omega
        have ad1:IntKind.i64.wrap ((j:Int) + 1) = (j:Int) + 1:=by simp [IntKind.wrap,IntKind.bits,IntKind.signed];omega
        have hlt:j < S'.length:=by have:=HSN.out;omega
        obtain ⟨x,hx⟩:∃ x,x = S'[j]:=⟨_,rfl⟩
        obtain ⟨vb0,rfl,kf⟩:∃ vb0,va = some ⟨vb0,0,none⟩ ∧ wr.cell? ⟨vb0,j,none⟩ = some (.int .i64 x):=by
          have hrw:=HRW.out
          rcases hrw.2 with ⟨e,_⟩ | ⟨g',cap,cur,e,_⟩
          · simp only [Value.slice.injEq] at e;omega
          · simp only [Value.slice.injEq] at e
            obtain ⟨rfl,-,rfl⟩:=e
            refine ⟨g',rfl,?_⟩
            rw [hrw.cellAt j (by omega)]
            simp [I64,List.getElem?_eq_getElem hlt,hx]
        have hsx:S' = Ix q:=HG.out.s
        have hxq:∃ i':Nat,x = (i':Int) ∧ i' < l.length ∧ i' ∈ q:=by
          have h1:x ∈ S':=by rw [hx];exact List.getElem_mem hlt
          rw [hsx] at h1
          obtain ⟨i',h2,rfl⟩:=List.mem_map.1 h1
          exact ⟨i',rfl,HG.out.lt i' h2,h2⟩
        have htk:S'.take (j + 1) = S'.take j ++ [x]:=by rw [hx];exact (List.take_append_getElem hlt).symm
        have hxn:0 ≤ x ∧ x < (n:Int):=by
          obtain ⟨i',rfl,h2,-⟩:=hxq
          have:=HSV.out.env.pi.len
          omega
        have hxf:fresh n (Kl ++ S'.take j) x:=by
          refine ⟨hxn.1,hxn.2,fun hm => ?_⟩
          rcases List.mem_append.1 hm with hm | hm
          · obtain ⟨i',rfl,-,h3⟩:=hxq
            exact HU.out.notK.1 i' h3 hm
          · have hnd:S'.Nodup:=by rw [hsx];exact Ix_nodup.2 HG.out.nd
            rw [← List.take_append_drop (j + 1) S',htk] at hnd
            exact (List.nodup_append.1 (List.nodup_append.1 hnd).1).2.2 x hm x (by simp) rfl
        have D54:=add10 N kg Fk' n (Kl ++ S'.take j) x wr (hid HSV.out.env.ks) hxf hNr
        have c1:wr.cell? ⟨sb,1,none⟩ = some (.pointer (some ⟨kg,0,none⟩)):=(HSV.out.near.cell _).trans HSV.out.a1
        have hkey:=keyI hxn hn2
        have HTK:=hid htk
        have HXN:=hid hxn
        clear hx hsx hxq htk hxf hxn
        go_upto_region 7 with (go_at_call 54;(with_reducible refine D54.mono ?_);rintro e w4 ⟨rfl,Fk2,z1,z2⟩;have Z1:=hid z1;have Z2:=hid z2;clear z1 z2 D54)
        have hS4:=HSV.out.known hNr Z1.out Z2.out
        have c0:w4.cell? ⟨sb,0,none⟩ = some (.map (some mb)):=(hS4.near.cell _).trans X2.out
        have hM4:MpS w4 mb (cuts Lf (S'.take j)):=HMP.out.kept (Z2.out.block mb hmr HMK.out)
        obtain ⟨D0,hD⟩:=hM4
        have hmk4:mb ∉ Fk2:=fun hm => by
          rcases Z2.out.new mb hm with h1 | h1
          · exact HMK.out h1
          · omega
        have hown:=hD.own
        have HD:=hid hD
        have HS4:=hid hS4
        have HK4:=hid hmk4
        have hB4:Chg w w4 FO (mb :: (Fk2 ++ F1)):=HBW.out.trans ((Z2.out.app F1).pre [mb])
        have HB4:=hid hB4
        have hrw4:=Z2.out.row HRW.out (fun b hb => (HRB.out b hb).1)
        have hrb4:∀ b,(Value.slice (some ⟨vb0,0,none⟩) sn vc).ownBlock = some b → b ∉ Fk2 ∧ b ≠ mb:=fun b hb => ⟨fun hm => by
          rcases Z2.out.new b hm with h1 | h1
          · exact (HRB.out b hb).1 h1
          · have:=(HRW.out.lt b hb).2;omega,(HRB.out b hb).2⟩
        have HRW4:=hid hrw4
        have HRB4:=hid hrb4
        have hsz4:=Z2.out.size
        clear hD hS4 hmk4 hB4 hrw4 hrb4 HSV HMP HMK HRW HRB HBW Z1 Z2 c1 kf
        go_wp2_with (first
          | (at_delete;refine wpList_delete_own _ rfl _ _ 73 3 rfl 86 keyed3 Tryz.underlying73 (unitElem (H:=Unit)) mb _ D0 rfl hown _ _ rfl hkey ?_;intro w5 hown5 hturn5)
          | go_in)
        have hg5:=hturn5.grown
        refine ⟨⟨j + 1,Fk2,by push_cast;rfl,by omega,Nat.le_trans (Nat.le_trans hNr hsz4) hg5.size,Nat.lt_of_lt_of_le hmr (Nat.le_trans hsz4 hg5.size),?_,?_,HK4.out,HRW4.out.kept hg5 (.inr fun e => (HRB4.out _ rfl).2 (by injection e)),HRB4.out,HB4.out.trans (grown_chg hg5)⟩,by simp [intOf];omega⟩
        · show Sv N w5 sb A' ad c n g of l kg Fk2 n (Kl ++ S'.take (j + 1)) S' R' G' m' D' mg Fm' (.slice ra rn rc) vg' vd' S3 R3 G3 m3 D3 mg2 Fm3 vr3 vg3 vd3 vb3 DD3
          rw [HTK.out,← List.append_assoc]
          exact HS4.out.beside hmN hg5 HMF.out HK4.out
        · show MpS w5 mb (cuts Lf (S'.take (j + 1)))
          rw [HTK.out,cuts_snoc]
          exact MpS.cut HD.out hown5
      · have b1:decide ((j:Int) < (sn:Int)) = false:=by simp;omega
        have htk:S'.take j = S':=List.take_of_length_le (by have:=HSN.out;omega)
        rw [htk] at HSV HMP
        have c4:wr.cell? ⟨sb,4,none⟩ = some (.slice ra rn rc):=(HSV.out.near.cell _).trans HSV.out.near.c2
        have hrq:R' = q.filter (pd l).rd:=HG.out.r
        have hrune:=HG.out.rune
        have hnl:=HSV.out.env.pi.len
        have hXr:∀ y ∈ R',0 ≤ (at0 l y).x ∧ (at0 l y).x < (n:Int):=fun y hy => by
          obtain ⟨h1,h2⟩:=hrune y hy
          have:=rune_nx hF h1 h2
          omega
        obtain ⟨K2,hK2⟩:∃ K2,K2 = Kl ++ S':=⟨_,rfl⟩
        obtain ⟨L2,hL2⟩:∃ L2,L2 = cuts Lf S':=⟨_,rfl⟩
        obtain ⟨xs,hxs⟩:∃ xs:List Int,xs = R'.map fun y => (at0 l y).x:=⟨_,rfl⟩
        rw [← hK2] at HSV
        rw [← hL2] at HMP
        have hpr:∀ t,∀ y ∈ puts K2 L2 (xs.take t),0 ≤ y ∧ y < (n:Int):=fun t y hy => by
          rcases mem_puts.1 hy with h1 | h1
          · rw [hL2,mem_cuts] at h1
            exact HLF.out y h1.1
          · have h2:=List.mem_of_mem_take h1.1
            rw [hxs] at h2
            obtain ⟨z,h3,rfl⟩:=List.mem_map.1 h2
            exact hXr z h3
        have HPR:=hid hpr
        have HXR:=hid hXr
        have HK2:=hid hK2
        have HL2:=hid hL2
        have HXS:=hid hxs
        have HRQ:=hid hrq
        have hrl:∀ y ∈ R',y < n:=fun y hy => by have:=(hrune y hy).1;omega
        have HRL:=hid hrl
        clear hpr hXr hK2 hL2 hxs hrq hrl hrune htk hnl HRW HRB
        go_upto_region 10 with fail
        go_loopw [42] (fun y wq => ∃ (r:Nat),y = .int .i64 (r:Int) ∧ r ≤ rn ∧ N ≤ wq.heap.size ∧ Hid (Sv N wq sb A' ad c n g of l kg Fk' n K2 S' R' G' m' D' mg Fm' (.slice ra rn rc) vg' vd' S3 R3 G3 m3 D3 mg2 Fm3 vr3 vg3 vd3 vb3 DD3) ∧ Hid (MpS wq mb (puts K2 L2 (xs.take r))) ∧ Hid (Chg w wq FO (mb :: (Fk' ++ F1)))) (fun y _ => rn - (intOf y).toNat)
        case atStart => exact ⟨0,rfl,by omega,hNr,HSV.out,by rw [List.take_zero];exact HMP.out,HBW.out⟩
        case round =>
          clear HSV HMP HBW c4
          obtain ⟨r,rfl,hr,hNs,HSV,HMP,HBW⟩:=hrel
          by_cases hrn2:r < rn
          · have b1:decide ((r:Int) < (rn:Int)) = true:=by simp;omega
            have b2:(r:Int) < (rn:Int):=by omega
            have ad1:IntKind.i64.wrap ((r:Int) + 1) = (r:Int) + 1:=by simp [IntKind.wrap,IntKind.bits,IntKind.signed];omega
            have hlt:r < R'.length:=by have:=HRN.out;omega
            obtain ⟨i',hi'⟩:∃ i',i' = R'[r]:=⟨_,rfl⟩
            have hrr:=HSV.out.near.rr
            obtain ⟨rb,rfl⟩:∃ rb,ra = some ⟨rb,0,none⟩:=by
              rcases hrr.2 with ⟨e,_⟩ | ⟨g',cap,cur,e,_⟩
              · simp only [Value.slice.injEq] at e;omega
              · simp only [Value.slice.injEq] at e;exact ⟨g',e.1⟩
            have hrr2:wr.ownsRow N 95 1 (.slice (some ⟨rb,0,none⟩) rn rc) rn (Ptrs g of R'):=by rw [HRN.out];rw [HRN.out] at hrr;exact hrr
            have kp:wr.cell? ⟨rb,r,none⟩ = some (.pointer (some ⟨g,of + i' * 5,none⟩)):=by
              rw [hrr2.cellAt r (by omega)]
              simp [Ptrs,List.getElem?_eq_getElem hlt,hi']
            have hin:i' < n:=by rw [hi'];exact HRL.out _ (List.getElem_mem hlt)
            have kx:=reader_x HSV.out.env.pi HSV.out.env.at_ hin
            have hxr:=HXR.out i' (by rw [hi'];exact List.getElem_mem hlt)
            have D36:=reach36 (x:=(at0 l i').x) HSV.out X2.out HMP.out hxr (nodup_len n _ HMP.out.nodup (HPR.out r))
            have hxl:r < xs.length:=by rw [HXS.out];simpa using hlt
            have htk:xs.take (r + 1) = xs.take r ++ [(at0 l i').x]:=by
              have e1:xs[r] = (at0 l i').x:=by simp [HXS.out,hi']
              rw [← e1]
              exact (List.take_append_getElem hxl).symm
            have HTK:=hid htk
            clear htk hxl hrr hrr2 hi'
            go_wp2_with (go_at_call 36;(with_reducible refine D36.mono ?_);rintro e w5 ⟨rfl,z1,z2⟩)
            refine ⟨⟨r + 1,by push_cast;rfl,by omega,Nat.le_trans hNs z2.size,HSV.out.beside hmN z2 HMF.out HMK.out,?_,HBW.out.trans (grown_chg z2)⟩,by simp [intOf];omega⟩
            show MpS w5 mb (puts K2 L2 (xs.take (r + 1)))
            rw [HTK.out,puts_snoc]
            exact z1
          · have b1:decide ((r:Int) < (rn:Int)) = false:=by simp;omega
            have htk:xs.take r = xs:=List.take_of_length_le (by have:=HRN.out;rw [HXS.out];simp;omega)
            have hpr:=HPR.out r
            rw [htk] at HMP hpr
            go_wp2
            go_ret
            have hmem:∀ y:Nat,(y:Int) ∈ S' ↔ y ∈ q:=fun y => by
              rw [HG.out.s,List.mem_map]
              exact ⟨fun ⟨a,h1,h2⟩ => by rwa [show y = a by omega],fun h1 => ⟨y,h1,rfl⟩⟩
            have hKm:∀ y:Nat,KS K2 y ↔ KS Kl y ∨ y ∈ q:=fun y => by
              show (y:Int) ∈ K2 ↔ _
              rw [HK2.out,List.mem_append,hmem]
            refine ⟨true,rfl,HBW.out.below hN HLO.out,fun h => (by cases h),fun _ => ⟨K2,puts K2 L2 xs,_,⟨A',Fk',S',R',G',m',D',Fm',_,vg',vd',S3,R3,G3,m3,D3,Fm3,vr3,vg3,vd3,vb3,DD3,HSV.out,HFA.out,X2.out,HMP.out,hmN,HMF.out,HMK.out,hpr,rfl⟩,hI.step hR HPL.out HU.out hKm (fun y => ?_),(hKm i).2 ?_,⟨S',HK2.out⟩,by rw [← HF1.out];exact HBW.out⟩⟩
            · show (y:Int) ∈ puts K2 L2 xs ↔ _
              rw [mem_puts,HL2.out,mem_cuts,hmem]
              have e1:(y:Int) ∈ xs ↔ ∃ j,j ∈ q ∧ (pd l).rd j = true ∧ y = nxI l j:=by
                rw [HXS.out,List.mem_map]
                constructor
                · rintro ⟨z,h1,h2⟩
                  have h3:=h1
                  rw [HRQ.out,List.mem_filter] at h3
                  exact ⟨z,h3.1,h3.2,by show y = (at0 l z).x.toNat;omega⟩
                · rintro ⟨z,h1,h2,h3⟩
                  have h4:z ∈ R':=by rw [HRQ.out];exact List.mem_filter.2 ⟨h1,h2⟩
                  have:=HXR.out z h4
                  exact ⟨z,h4,by have h5:y = (at0 l z).x.toNat:=h3;omega⟩
              rw [e1]
            · exact (HU.out.mem i (by simp)).elim .inr (fun h1 => .inl (HU.out.notK.2 i h1))
end Go.Proofs.YtjdbnoccdefnaaaGreat
