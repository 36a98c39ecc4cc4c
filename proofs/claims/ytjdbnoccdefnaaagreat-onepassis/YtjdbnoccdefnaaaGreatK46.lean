/- HELPERS: texts of ours put together. -/
import Derived.Test.YtjdbnoccdefnaaaGreatK45
namespace Go.Proofs.YtjdbnoccdefnaaaGreat
open Go.RowKit Go.Lk
set_option linter.unusedVariables false
set_option linter.unusedSimpArgs false
theorem fit_at {l:List In} {k:Int} (hF:∀ I ∈ l,Fit (l.length:Int) k I) {i:Nat} (hi:i < l.length):((at0 l i).op ≠ 5 → (at0 l i).op ≠ 6 → 0 ≤ (at0 l i).x ∧ (at0 l i).x < (l.length:Int)) ∧ ((at0 l i).op = 2 → 0 ≤ (at0 l i).y ∧ (at0 l i).y < (l.length:Int)) ∧ ((at0 l i).op = 3 → 0 ≤ (at0 l i).a ∧ (at0 l i).a < k):=by
  have hf:=hF _ (List.getElem_mem hi)
  rw [at0_lt hi]
  obtain ⟨I,hI⟩:∃ I,I = l[i]:=⟨_,rfl⟩
  rw [← hI] at hf ⊢
  cases hf <;> refine ⟨fun h1 h2 => ?_,fun h => ?_,fun h => ?_⟩ <;> simp_all
variable {N:Nat} {mb:Nat} {ad:Option Addr} {n cp:Nat} {s k:Int} {tad:Option Addr} {tn tc:Nat} {l:List In} {tx:List Int} {K p:Nat} {cb nb:Nat} {c:List Int}
theorem MM.step {w:World} {bt:Int} {c:List Int} {S:MS} {vf:Value} (h:MM N w mb ad n cp s k tad tn tc l tx K p bt cb c S nb vf):MM N (w.setCell ⟨mb,12,none⟩ (.int .i64 ((S.st:Int) + 1))) mb ad n cp s k tad tn tc l tx K p bt cb c S.inc nb vf:=
  h.rebox (S':=S.inc) (by
    have h1:=Joins.block_setCell (i:=12) h.box (.int .i64 ((S.st:Int) + 1))
    exact h1) (fun b hb => heap_setCell_other _ _ _ _ hb) ((Below.refl N w).setCell (p:=⟨mb,12,none⟩) h.lo _) rfl rfl rfl h.bt
theorem MM.copied {w W:World} {bt:Int} {c:List Int} {S:MS} {vf:Value} (h:MM N w mb ad n cp s k tad tn tc l tx K p bt cb c S nb vf) (hr:W.ownsRow N 3 1 (.slice (some ⟨nb,0,none⟩) K K) K (I64 c)) (ho:∀ b,b ≠ nb → W.heap[b]? = w.heap[b]?) (hB:Below N w W) :
    MM N W mb ad n cp s k tad tn tc l tx K p bt cb c { S with nc:=c } nb vf:=by
  refine ⟨(ho mb (fun e => h.d2 e.symm)).trans h.box,h.lo,row_kept h.rc fun b hb => ho b ?_,hr,fun e => ?_,h.nf,h.d1,h.d2,h.d3,h.bt,h.pi.kept hB (Nat.le_refl _),h.tx.below hB⟩
  · simp [Value.ownBlock] at hb;rw [← hb];exact h.d3
  · obtain ⟨fb,h1,h2,h3,h4,h5⟩:=h.rf e
    exact ⟨fb,h1,row_kept h2 fun b hb => ho b (by simp [Value.ownBlock] at hb;rw [← hb];exact h5),h3,h4,h5⟩
set_option maxRecDepth 100000 in
set_option maxHeartbeats 16000000 in
theorem comeTo44 (hF:∀ I ∈ l,Fit (l.length:Int) k I) (hn:n ≤ 20000) (hnl:n = l.length) (hp:p ≤ tn) (hK:(K:Int) = k) (hK2:K ≤ 1002) {i:Nat} {S S':MS} {b:Bool} (h:Cm l tx p c i S b S') :
    ∀ {w:World} {bt:Int} {vf:Value},N ≤ w.heap.size → i < n → S'.st ≤ 1000000000000 → MM N w mb ad n cp s k tad tn tc l tx K p bt cb c S nb vf →
    Calls Tryz.prog 44 #[.pointer (some ⟨mb,0,none⟩),.int .i64 (i:Int)] w (CmPost N w mb ad n cp s k tad tn tc l tx K p cb c nb b S'):=by
  have HF:=hid hF
  have HNL:=hid hnl
  have HK:=hid hK
  clear hF hnl hK
  induction h with
  | @altT c i S s1 S' b hop h1 h2 ih1 ih2 =>
    intro w bt vf hN hi hst hM
    have hS0:=Nat.lt_of_lt_of_le (Cm.st_le (Cm.altT hop h1 h2:Cm l tx p c i S _ _)) hst
    obtain ⟨ft1,ft2,ft3⟩:=fit_at HF.out (i:=i) (by have:=HNL.out;omega)
    obtain ⟨g,of,r1,r2,r3,had,hg,m0,m1,m2,m3,m4,hrow,hr2,hr5⟩:=inst_at hM.pi hi
    rw [hop] at m0
    have q0:w.cell? ⟨mb,0,none⟩ = some (.slice ad n cp):=hM.cell 0
    have q12:w.cell? ⟨mb,12,none⟩ = some (.int .i64 (S.st:Int)):=hM.cell 12
    have f12:=hM.frz 12
    have ad1:IntKind.i64.wrap ((S.st:Int) + 1) = (S.st:Int) + 1:=by simp [IntKind.wrap,IntKind.bits,IntKind.signed];omega
    have b1:(i:Int) < (n:Int):=by omega
    subst had
    have HM:=hid hM
    have HROW:=hid hrow
    have HR2:=hid hr2
    have HOP:=hid hop
    have hmlo:=hM.lo
    have hM1:=hM.step
    obtain ⟨W1,hW1⟩:∃ W1,W1 = w.setCell ⟨mb,12,none⟩ (.int .i64 ((S.st:Int) + 1)):=⟨_,rfl⟩
    have hB1:Below N w W1:=by rw [hW1];exact (Below.refl N w).setCell (p:=⟨mb,12,none⟩) hmlo _
    rw [← hW1] at hM1
    have hN1:N ≤ W1.heap.size:=Nat.le_trans hN hB1.size
    obtain ⟨xx,hxx⟩:∃ xx,xx = (at0 l i).x:=⟨_,rfl⟩
    obtain ⟨yy,hyy⟩:∃ yy,yy = (at0 l i).y:=⟨_,rfl⟩
    obtain ⟨aa,haa⟩:∃ aa,aa = (at0 l i).a:=⟨_,rfl⟩
    rw [← hxx] at m1 ft1
    rw [← hyy] at m2 ft2
    rw [← haa] at m3 ft3
    have kc:∀ W,Below N w W → W.cell? ⟨g,of + i * 5 + 1,none⟩ = some (.int .i64 xx) ∧ W.cell? ⟨g,of + i * 5 + 2,none⟩ = some (.int .i64 yy) ∧ W.cell? ⟨g,of + i * 5 + 3,none⟩ = some (.int .i64 aa) ∧ W.cell? ⟨g,of + i * 5 + 4,none⟩ = some (.slice r1 r2 r3):=fun W hW =>
      ⟨(hW.cell (p:=⟨g,of + i * 5 + 1,none⟩) hg).trans m1,(hW.cell (p:=⟨g,of + i * 5 + 2,none⟩) hg).trans m2,(hW.cell (p:=⟨g,of + i * 5 + 3,none⟩) hg).trans m3,(hW.cell (p:=⟨g,of + i * 5 + 4,none⟩) hg).trans m4⟩
    have p0:W1.cell? ⟨mb,0,none⟩ = some (.slice (some ⟨g,of,none⟩) n cp):=hM1.cell 0
    have z0:=(hB1.cell (p:=⟨g,of + i * 5,none⟩) hg).trans m0
    obtain ⟨z1,z2,z3,z4⟩:=kc W1 hB1
    have HM1:=hid hM1
    have HB1:=hid hB1
    have KC:=hid kc
    have HXX:=hid hxx
    have HYY:=hid hyy
    have HAA:=hid haa
    have FT1:=hid ft1
    have FT2:=hid ft2
    have FT3:=hid ft3
    have HG:=hid hg
    have HR5:=hid hr5
    clear hM hrow hr2 hr5 hop hM1 hB1 kc hxx hyy haa ft1 ft2 ft3 m1 m2 m3 m4 hg
    have hx0:=FT1.out (by rw [HOP.out];decide) (by rw [HOP.out];decide)
    obtain ⟨xn,hxn⟩:∃ xn:Nat,xx = (xn:Int):=⟨xx.toNat,by omega⟩
    subst hxn
    have hxt:(at0 l i).x.toNat = xn:=by rw [← HXX.out];omega
    have hxl:xn < n:=by have:=HNL.out;omega
    have hy0:=FT2.out HOP.out
    obtain ⟨yn,hyn⟩:∃ yn:Nat,yy = (yn:Int):=⟨yy.toNat,by omega⟩
    subst hyn
    have hyt:(at0 l i).y.toNat = yn:=by rw [← HYY.out];omega
    have hyl:yn < n:=by have:=HNL.out;omega
    rw [hxt] at ih1 h1
    rw [hyt] at ih2 h2
    have hs2:=h2.st_le
    have D1:=ih1 hN1 hxl (by omega) HM1.out
    have D2:=fun w2 bt2 vf2 (h9:N ≤ w2.heap.size) (h8:MM N w2 mb (some ⟨g,of,none⟩) n cp s k tad tn tc l tx K p bt2 cb c s1 nb vf2) => ih2 h9 hyl hst h8
    clear ih1 ih2 h1 h2 hxt hyt
    go_enter Tryz.func44,Tryz.ntmps44
    go_upto_region 2 with fail
    rw [← hW1]
    clear hW1 q0 q12 f12 m0
    go_wp2_with (first
      | (go_at_call 44;(with_reducible refine D1.mono ?_);rintro e w2 ⟨rfl,bt2,vf2,x1,x2⟩;have X1:=hid x1;have hB2:Below N w w2:=HB1.out.trans x2;have HB2:=hid hB2;have j2:=(KC.out w2 hB2).2.1;have hN2:N ≤ w2.heap.size:=Nat.le_trans hN1 x2.size;clear x1 x2 hB2 D1)
      | (go_at_call 44;(with_reducible refine (D2 _ _ _ hN2 X1.out).mono ?_);rintro e w3 ⟨rfl,bt3,vf3,x3,x4⟩;have X3:=hid x3;have X4:=hid x4;clear x3 x4 D2)
      | go_in)
    all_goals go_ret
    all_goals exact ⟨rfl,bt3,vf3,X3.out,HB2.out.trans X4.out⟩
  | @altF c i S S' hop h1 ih1 =>
    intro w bt vf hN hi hst hM
    have hS0:=Nat.lt_of_lt_of_le (Cm.st_le (Cm.altF hop h1:Cm l tx p c i S _ _)) hst
    obtain ⟨ft1,ft2,ft3⟩:=fit_at HF.out (i:=i) (by have:=HNL.out;omega)
    obtain ⟨g,of,r1,r2,r3,had,hg,m0,m1,m2,m3,m4,hrow,hr2,hr5⟩:=inst_at hM.pi hi
    rw [hop] at m0
    have q0:w.cell? ⟨mb,0,none⟩ = some (.slice ad n cp):=hM.cell 0
    have q12:w.cell? ⟨mb,12,none⟩ = some (.int .i64 (S.st:Int)):=hM.cell 12
    have f12:=hM.frz 12
    have ad1:IntKind.i64.wrap ((S.st:Int) + 1) = (S.st:Int) + 1:=by simp [IntKind.wrap,IntKind.bits,IntKind.signed];omega
    have b1:(i:Int) < (n:Int):=by omega
    subst had
    have HM:=hid hM
    have HROW:=hid hrow
    have HR2:=hid hr2
    have HOP:=hid hop
    have hmlo:=hM.lo
    have hM1:=hM.step
    obtain ⟨W1,hW1⟩:∃ W1,W1 = w.setCell ⟨mb,12,none⟩ (.int .i64 ((S.st:Int) + 1)):=⟨_,rfl⟩
    have hB1:Below N w W1:=by rw [hW1];exact (Below.refl N w).setCell (p:=⟨mb,12,none⟩) hmlo _
    rw [← hW1] at hM1
    have hN1:N ≤ W1.heap.size:=Nat.le_trans hN hB1.size
    obtain ⟨xx,hxx⟩:∃ xx,xx = (at0 l i).x:=⟨_,rfl⟩
    obtain ⟨yy,hyy⟩:∃ yy,yy = (at0 l i).y:=⟨_,rfl⟩
    obtain ⟨aa,haa⟩:∃ aa,aa = (at0 l i).a:=⟨_,rfl⟩
    rw [← hxx] at m1 ft1
    rw [← hyy] at m2 ft2
    rw [← haa] at m3 ft3
    have kc:∀ W,Below N w W → W.cell? ⟨g,of + i * 5 + 1,none⟩ = some (.int .i64 xx) ∧ W.cell? ⟨g,of + i * 5 + 2,none⟩ = some (.int .i64 yy) ∧ W.cell? ⟨g,of + i * 5 + 3,none⟩ = some (.int .i64 aa) ∧ W.cell? ⟨g,of + i * 5 + 4,none⟩ = some (.slice r1 r2 r3):=fun W hW =>
      ⟨(hW.cell (p:=⟨g,of + i * 5 + 1,none⟩) hg).trans m1,(hW.cell (p:=⟨g,of + i * 5 + 2,none⟩) hg).trans m2,(hW.cell (p:=⟨g,of + i * 5 + 3,none⟩) hg).trans m3,(hW.cell (p:=⟨g,of + i * 5 + 4,none⟩) hg).trans m4⟩
    have p0:W1.cell? ⟨mb,0,none⟩ = some (.slice (some ⟨g,of,none⟩) n cp):=hM1.cell 0
    have z0:=(hB1.cell (p:=⟨g,of + i * 5,none⟩) hg).trans m0
    obtain ⟨z1,z2,z3,z4⟩:=kc W1 hB1
    have HM1:=hid hM1
    have HB1:=hid hB1
    have KC:=hid kc
    have HXX:=hid hxx
    have HYY:=hid hyy
    have HAA:=hid haa
    have FT1:=hid ft1
    have FT2:=hid ft2
    have FT3:=hid ft3
    have HG:=hid hg
    have HR5:=hid hr5
    clear hM hrow hr2 hr5 hop hM1 hB1 kc hxx hyy haa ft1 ft2 ft3 m1 m2 m3 m4 hg
    have hx0:=FT1.out (by rw [HOP.out];decide) (by rw [HOP.out];decide)
    obtain ⟨xn,hxn⟩:∃ xn:Nat,xx = (xn:Int):=⟨xx.toNat,by omega⟩
    subst hxn
    have hxt:(at0 l i).x.toNat = xn:=by rw [← HXX.out];omega
    have hxl:xn < n:=by have:=HNL.out;omega
    rw [hxt] at ih1 h1
    have D1:=ih1 hN1 hxl hst HM1.out
    clear ih1 h1 hxt
    go_enter Tryz.func44,Tryz.ntmps44
    go_upto_region 2 with fail
    rw [← hW1]
    clear hW1 q0 q12 f12 m0
    go_wp2_with (first
      | (go_at_call 44;(with_reducible refine D1.mono ?_);rintro e w2 ⟨rfl,bt2,vf2,x1,x2⟩;have X1:=hid x1;have X2:=hid x2;clear x1 x2 D1)
      | go_in)
    all_goals go_ret
    all_goals exact ⟨rfl,bt2,vf2,X1.out,HB1.out.trans X2.out⟩
  | @nop c i S S' b hop h1 ih1 =>
    intro w bt vf hN hi hst hM
    have hS0:=Nat.lt_of_lt_of_le (Cm.st_le (Cm.nop hop h1:Cm l tx p c i S _ _)) hst
    obtain ⟨ft1,ft2,ft3⟩:=fit_at HF.out (i:=i) (by have:=HNL.out;omega)
    obtain ⟨g,of,r1,r2,r3,had,hg,m0,m1,m2,m3,m4,hrow,hr2,hr5⟩:=inst_at hM.pi hi
    rw [hop] at m0
    have q0:w.cell? ⟨mb,0,none⟩ = some (.slice ad n cp):=hM.cell 0
    have q12:w.cell? ⟨mb,12,none⟩ = some (.int .i64 (S.st:Int)):=hM.cell 12
    have f12:=hM.frz 12
    have ad1:IntKind.i64.wrap ((S.st:Int) + 1) = (S.st:Int) + 1:=by simp [IntKind.wrap,IntKind.bits,IntKind.signed];omega
    have b1:(i:Int) < (n:Int):=by omega
    subst had
    have HM:=hid hM
    have HROW:=hid hrow
    have HR2:=hid hr2
    have HOP:=hid hop
    have hmlo:=hM.lo
    have hM1:=hM.step
    obtain ⟨W1,hW1⟩:∃ W1,W1 = w.setCell ⟨mb,12,none⟩ (.int .i64 ((S.st:Int) + 1)):=⟨_,rfl⟩
    have hB1:Below N w W1:=by rw [hW1];exact (Below.refl N w).setCell (p:=⟨mb,12,none⟩) hmlo _
    rw [← hW1] at hM1
    have hN1:N ≤ W1.heap.size:=Nat.le_trans hN hB1.size
    obtain ⟨xx,hxx⟩:∃ xx,xx = (at0 l i).x:=⟨_,rfl⟩
    obtain ⟨yy,hyy⟩:∃ yy,yy = (at0 l i).y:=⟨_,rfl⟩
    obtain ⟨aa,haa⟩:∃ aa,aa = (at0 l i).a:=⟨_,rfl⟩
    rw [← hxx] at m1 ft1
    rw [← hyy] at m2 ft2
    rw [← haa] at m3 ft3
    have kc:∀ W,Below N w W → W.cell? ⟨g,of + i * 5 + 1,none⟩ = some (.int .i64 xx) ∧ W.cell? ⟨g,of + i * 5 + 2,none⟩ = some (.int .i64 yy) ∧ W.cell? ⟨g,of + i * 5 + 3,none⟩ = some (.int .i64 aa) ∧ W.cell? ⟨g,of + i * 5 + 4,none⟩ = some (.slice r1 r2 r3):=fun W hW =>
      ⟨(hW.cell (p:=⟨g,of + i * 5 + 1,none⟩) hg).trans m1,(hW.cell (p:=⟨g,of + i * 5 + 2,none⟩) hg).trans m2,(hW.cell (p:=⟨g,of + i * 5 + 3,none⟩) hg).trans m3,(hW.cell (p:=⟨g,of + i * 5 + 4,none⟩) hg).trans m4⟩
    have p0:W1.cell? ⟨mb,0,none⟩ = some (.slice (some ⟨g,of,none⟩) n cp):=hM1.cell 0
    have z0:=(hB1.cell (p:=⟨g,of + i * 5,none⟩) hg).trans m0
    obtain ⟨z1,z2,z3,z4⟩:=kc W1 hB1
    have HM1:=hid hM1
    have HB1:=hid hB1
    have KC:=hid kc
    have HXX:=hid hxx
    have HYY:=hid hyy
    have HAA:=hid haa
    have FT1:=hid ft1
    have FT2:=hid ft2
    have FT3:=hid ft3
    have HG:=hid hg
    have HR5:=hid hr5
    clear hM hrow hr2 hr5 hop hM1 hB1 kc hxx hyy haa ft1 ft2 ft3 m1 m2 m3 m4 hg
    have hx0:=FT1.out (by rw [HOP.out];decide) (by rw [HOP.out];decide)
    obtain ⟨xn,hxn⟩:∃ xn:Nat,xx = (xn:Int):=⟨xx.toNat,by omega⟩
    subst hxn
    have hxt:(at0 l i).x.toNat = xn:=by rw [← HXX.out];omega
    have hxl:xn < n:=by have:=HNL.out;omega
    rw [hxt] at ih1 h1
    have D1:=ih1 hN1 hxl hst HM1.out
    clear ih1 h1 hxt
    go_enter Tryz.func44,Tryz.ntmps44
    go_upto_region 2 with fail
    rw [← hW1]
    clear hW1 q0 q12 f12 m0
    go_wp2_with (first
      | (go_at_call 44;(with_reducible refine D1.mono ?_);rintro e w2 ⟨rfl,bt2,vf2,x1,x2⟩;have X1:=hid x1;have X2:=hid x2;clear x1 x2 D1)
      | go_in)
    all_goals go_ret
    all_goals exact ⟨rfl,bt2,vf2,X1.out,HB1.out.trans X2.out⟩
  | @cap c i S S' b hop h1 ih1 =>
    intro w bt vf hN hi hst hM
    have hS0:=Nat.lt_of_lt_of_le (Cm.st_le (Cm.cap hop h1:Cm l tx p c i S _ _)) hst
    obtain ⟨ft1,ft2,ft3⟩:=fit_at HF.out (i:=i) (by have:=HNL.out;omega)
    obtain ⟨g,of,r1,r2,r3,had,hg,m0,m1,m2,m3,m4,hrow,hr2,hr5⟩:=inst_at hM.pi hi
    rw [hop] at m0
    have q0:w.cell? ⟨mb,0,none⟩ = some (.slice ad n cp):=hM.cell 0
    have q12:w.cell? ⟨mb,12,none⟩ = some (.int .i64 (S.st:Int)):=hM.cell 12
    have f12:=hM.frz 12
    have ad1:IntKind.i64.wrap ((S.st:Int) + 1) = (S.st:Int) + 1:=by simp [IntKind.wrap,IntKind.bits,IntKind.signed];omega
    have b1:(i:Int) < (n:Int):=by omega
    subst had
    have HM:=hid hM
    have HROW:=hid hrow
    have HR2:=hid hr2
    have HOP:=hid hop
    have hmlo:=hM.lo
    have hM1:=hM.step
    obtain ⟨W1,hW1⟩:∃ W1,W1 = w.setCell ⟨mb,12,none⟩ (.int .i64 ((S.st:Int) + 1)):=⟨_,rfl⟩
    have hB1:Below N w W1:=by rw [hW1];exact (Below.refl N w).setCell (p:=⟨mb,12,none⟩) hmlo _
    rw [← hW1] at hM1
    have hN1:N ≤ W1.heap.size:=Nat.le_trans hN hB1.size
    obtain ⟨xx,hxx⟩:∃ xx,xx = (at0 l i).x:=⟨_,rfl⟩
    obtain ⟨yy,hyy⟩:∃ yy,yy = (at0 l i).y:=⟨_,rfl⟩
    obtain ⟨aa,haa⟩:∃ aa,aa = (at0 l i).a:=⟨_,rfl⟩
    rw [← hxx] at m1 ft1
    rw [← hyy] at m2 ft2
    rw [← haa] at m3 ft3
    have kc:∀ W,Below N w W → W.cell? ⟨g,of + i * 5 + 1,none⟩ = some (.int .i64 xx) ∧ W.cell? ⟨g,of + i * 5 + 2,none⟩ = some (.int .i64 yy) ∧ W.cell? ⟨g,of + i * 5 + 3,none⟩ = some (.int .i64 aa) ∧ W.cell? ⟨g,of + i * 5 + 4,none⟩ = some (.slice r1 r2 r3):=fun W hW =>
      ⟨(hW.cell (p:=⟨g,of + i * 5 + 1,none⟩) hg).trans m1,(hW.cell (p:=⟨g,of + i * 5 + 2,none⟩) hg).trans m2,(hW.cell (p:=⟨g,of + i * 5 + 3,none⟩) hg).trans m3,(hW.cell (p:=⟨g,of + i * 5 + 4,none⟩) hg).trans m4⟩
    have p0:W1.cell? ⟨mb,0,none⟩ = some (.slice (some ⟨g,of,none⟩) n cp):=hM1.cell 0
    have z0:=(hB1.cell (p:=⟨g,of + i * 5,none⟩) hg).trans m0
    obtain ⟨z1,z2,z3,z4⟩:=kc W1 hB1
    have HM1:=hid hM1
    have HB1:=hid hB1
    have KC:=hid kc
    have HXX:=hid hxx
    have HYY:=hid hyy
    have HAA:=hid haa
    have FT1:=hid ft1
    have FT2:=hid ft2
    have FT3:=hid ft3
    have HG:=hid hg
    have HR5:=hid hr5
    clear hM hrow hr2 hr5 hop hM1 hB1 kc hxx hyy haa ft1 ft2 ft3 m1 m2 m3 m4 hg
    have hx0:=FT1.out (by rw [HOP.out];decide) (by rw [HOP.out];decide)
    obtain ⟨xn,hxn⟩:∃ xn:Nat,xx = (xn:Int):=⟨xx.toNat,by omega⟩
    subst hxn
    have hxt:(at0 l i).x.toNat = xn:=by rw [← HXX.out];omega
    have hxl:xn < n:=by have:=HNL.out;omega
    have ha0:=FT3.out HOP.out
    obtain ⟨an,han⟩:∃ an:Nat,aa = (an:Int):=⟨aa.toNat,by omega⟩
    subst han
    have hat:(at0 l i).a.toNat = an:=by rw [← HAA.out];omega
    have hak:an < K:=by have:=HK.out;omega
    rw [hxt,hat] at ih1 h1
    have D57:=note57 (i:=i) (g:=g) (of:=of) (a:=an) (xx:=xn) HM1.out hN1 HG.out hak (fun W hW => (KC.out W (HB1.out.trans hW)).1) (fun W hW => (KC.out W (HB1.out.trans hW)).2.2.1) (fun W bt vf h9 h8 => ih1 h9 hxl hst h8)
    clear ih1 h1 hxt hat
    go_enter Tryz.func44,Tryz.ntmps44
    go_upto_region 2 with fail
    rw [← hW1]
    clear hW1 q0 q12 f12 m0
    go_wp2_with (first
      | (go_at_call 57;(with_reducible refine D57.mono ?_);rintro e w2 ⟨rfl,bt2,vf2,x1,x2⟩;have X1:=hid x1;have X2:=hid x2;clear x1 x2 D57)
      | go_in)
    all_goals go_ret
    all_goals exact ⟨rfl,bt2,vf2,X1.out,HB1.out.trans X2.out⟩
  | @asrt c i S S' b hop hh h1 ih1 =>
    intro w bt vf hN hi hst hM
    have hS0:=Nat.lt_of_lt_of_le (Cm.st_le (Cm.asrt hop hh h1:Cm l tx p c i S _ _)) hst
    obtain ⟨ft1,ft2,ft3⟩:=fit_at HF.out (i:=i) (by have:=HNL.out;omega)
    obtain ⟨g,of,r1,r2,r3,had,hg,m0,m1,m2,m3,m4,hrow,hr2,hr5⟩:=inst_at hM.pi hi
    rw [hop] at m0
    have q0:w.cell? ⟨mb,0,none⟩ = some (.slice ad n cp):=hM.cell 0
    have q12:w.cell? ⟨mb,12,none⟩ = some (.int .i64 (S.st:Int)):=hM.cell 12
    have f12:=hM.frz 12
    have ad1:IntKind.i64.wrap ((S.st:Int) + 1) = (S.st:Int) + 1:=by simp [IntKind.wrap,IntKind.bits,IntKind.signed];omega
    have b1:(i:Int) < (n:Int):=by omega
    subst had
    have HM:=hid hM
    have HROW:=hid hrow
    have HR2:=hid hr2
    have HOP:=hid hop
    have hmlo:=hM.lo
    have hM1:=hM.step
    obtain ⟨W1,hW1⟩:∃ W1,W1 = w.setCell ⟨mb,12,none⟩ (.int .i64 ((S.st:Int) + 1)):=⟨_,rfl⟩
    have hB1:Below N w W1:=by rw [hW1];exact (Below.refl N w).setCell (p:=⟨mb,12,none⟩) hmlo _
    rw [← hW1] at hM1
    have hN1:N ≤ W1.heap.size:=Nat.le_trans hN hB1.size
    obtain ⟨xx,hxx⟩:∃ xx,xx = (at0 l i).x:=⟨_,rfl⟩
    obtain ⟨yy,hyy⟩:∃ yy,yy = (at0 l i).y:=⟨_,rfl⟩
    obtain ⟨aa,haa⟩:∃ aa,aa = (at0 l i).a:=⟨_,rfl⟩
    rw [← hxx] at m1 ft1
    rw [← hyy] at m2 ft2
    rw [← haa] at m3 ft3
    have kc:∀ W,Below N w W → W.cell? ⟨g,of + i * 5 + 1,none⟩ = some (.int .i64 xx) ∧ W.cell? ⟨g,of + i * 5 + 2,none⟩ = some (.int .i64 yy) ∧ W.cell? ⟨g,of + i * 5 + 3,none⟩ = some (.int .i64 aa) ∧ W.cell? ⟨g,of + i * 5 + 4,none⟩ = some (.slice r1 r2 r3):=fun W hW =>
      ⟨(hW.cell (p:=⟨g,of + i * 5 + 1,none⟩) hg).trans m1,(hW.cell (p:=⟨g,of + i * 5 + 2,none⟩) hg).trans m2,(hW.cell (p:=⟨g,of + i * 5 + 3,none⟩) hg).trans m3,(hW.cell (p:=⟨g,of + i * 5 + 4,none⟩) hg).trans m4⟩
    have p0:W1.cell? ⟨mb,0,none⟩ = some (.slice (some ⟨g,of,none⟩) n cp):=hM1.cell 0
    have z0:=(hB1.cell (p:=⟨g,of + i * 5,none⟩) hg).trans m0
    obtain ⟨z1,z2,z3,z4⟩:=kc W1 hB1
    have HM1:=hid hM1
    have HB1:=hid hB1
    have KC:=hid kc
    have HXX:=hid hxx
    have HYY:=hid hyy
    have HAA:=hid haa
    have FT1:=hid ft1
    have FT2:=hid ft2
    have FT3:=hid ft3
    have HG:=hid hg
    have HR5:=hid hr5
    clear hM hrow hr2 hr5 hop hM1 hB1 kc hxx hyy haa ft1 ft2 ft3 m1 m2 m3 m4 hg
    have hx0:=FT1.out (by rw [HOP.out];decide) (by rw [HOP.out];decide)
    obtain ⟨xn,hxn⟩:∃ xn:Nat,xx = (xn:Int):=⟨xx.toNat,by omega⟩
    subst hxn
    have hxt:(at0 l i).x.toNat = xn:=by rw [← HXX.out];omega
    have hxl:xn < n:=by have:=HNL.out;omega
    rw [hxt] at ih1 h1
    rw [← HAA.out] at hh
    have D58:=holds58 (a:=aa) HM1.out hN1
    rw [hh] at D58
    have D1:=fun w2 bt2 vf2 (h9:N ≤ w2.heap.size) (h8:MM N w2 mb (some ⟨g,of,none⟩) n cp s k tad tn tc l tx K p bt2 cb c S.inc nb vf2) => ih1 h9 hxl hst h8
    clear ih1 h1 hxt hh
    go_enter Tryz.func44,Tryz.ntmps44
    go_upto_region 2 with fail
    rw [← hW1]
    clear hW1 q0 q12 f12 m0
    go_wp2_with (first
      | (go_at_call 58;(with_reducible refine D58.mono ?_);rintro e w2 ⟨rfl,bt2,x1,x2⟩;have X1:=hid x1;have hB2:Below N w w2:=HB1.out.trans x2;have HB2:=hid hB2;have j1:=(KC.out w2 hB2).1;have hN2:N ≤ w2.heap.size:=Nat.le_trans hN1 x2.size;clear x1 x2 hB2 D58)
      | (go_at_call 44;(with_reducible refine (D1 _ _ _ hN2 X1.out).mono ?_);rintro e w3 ⟨rfl,bt3,vf3,x3,x4⟩;have X3:=hid x3;have X4:=hid x4;clear x3 x4 D1)
      | go_in)
    all_goals go_ret
    all_goals exact ⟨rfl,bt3,vf3,X3.out,HB2.out.trans X4.out⟩
  | @asrtN c i S hop hh =>
    intro w bt vf hN hi hst hM
    have hS0:=Nat.lt_of_lt_of_le (Cm.st_le (Cm.asrtN hop hh:Cm l tx p c i S _ _)) hst
    obtain ⟨ft1,ft2,ft3⟩:=fit_at HF.out (i:=i) (by have:=HNL.out;omega)
    obtain ⟨g,of,r1,r2,r3,had,hg,m0,m1,m2,m3,m4,hrow,hr2,hr5⟩:=inst_at hM.pi hi
    rw [hop] at m0
    have q0:w.cell? ⟨mb,0,none⟩ = some (.slice ad n cp):=hM.cell 0
    have q12:w.cell? ⟨mb,12,none⟩ = some (.int .i64 (S.st:Int)):=hM.cell 12
    have f12:=hM.frz 12
    have ad1:IntKind.i64.wrap ((S.st:Int) + 1) = (S.st:Int) + 1:=by simp [IntKind.wrap,IntKind.bits,IntKind.signed];omega
    have b1:(i:Int) < (n:Int):=by omega
    subst had
    have HM:=hid hM
    have HROW:=hid hrow
    have HR2:=hid hr2
    have HOP:=hid hop
    have hmlo:=hM.lo
    have hM1:=hM.step
    obtain ⟨W1,hW1⟩:∃ W1,W1 = w.setCell ⟨mb,12,none⟩ (.int .i64 ((S.st:Int) + 1)):=⟨_,rfl⟩
    have hB1:Below N w W1:=by rw [hW1];exact (Below.refl N w).setCell (p:=⟨mb,12,none⟩) hmlo _
    rw [← hW1] at hM1
    have hN1:N ≤ W1.heap.size:=Nat.le_trans hN hB1.size
    obtain ⟨xx,hxx⟩:∃ xx,xx = (at0 l i).x:=⟨_,rfl⟩
    obtain ⟨yy,hyy⟩:∃ yy,yy = (at0 l i).y:=⟨_,rfl⟩
    obtain ⟨aa,haa⟩:∃ aa,aa = (at0 l i).a:=⟨_,rfl⟩
    rw [← hxx] at m1 ft1
    rw [← hyy] at m2 ft2
    rw [← haa] at m3 ft3
    have kc:∀ W,Below N w W → W.cell? ⟨g,of + i * 5 + 1,none⟩ = some (.int .i64 xx) ∧ W.cell? ⟨g,of + i * 5 + 2,none⟩ = some (.int .i64 yy) ∧ W.cell? ⟨g,of + i * 5 + 3,none⟩ = some (.int .i64 aa) ∧ W.cell? ⟨g,of + i * 5 + 4,none⟩ = some (.slice r1 r2 r3):=fun W hW =>
      ⟨(hW.cell (p:=⟨g,of + i * 5 + 1,none⟩) hg).trans m1,(hW.cell (p:=⟨g,of + i * 5 + 2,none⟩) hg).trans m2,(hW.cell (p:=⟨g,of + i * 5 + 3,none⟩) hg).trans m3,(hW.cell (p:=⟨g,of + i * 5 + 4,none⟩) hg).trans m4⟩
    have p0:W1.cell? ⟨mb,0,none⟩ = some (.slice (some ⟨g,of,none⟩) n cp):=hM1.cell 0
    have z0:=(hB1.cell (p:=⟨g,of + i * 5,none⟩) hg).trans m0
    obtain ⟨z1,z2,z3,z4⟩:=kc W1 hB1
    have HM1:=hid hM1
    have HB1:=hid hB1
    have KC:=hid kc
    have HXX:=hid hxx
    have HYY:=hid hyy
    have HAA:=hid haa
    have FT1:=hid ft1
    have FT2:=hid ft2
    have FT3:=hid ft3
    have HG:=hid hg
    have HR5:=hid hr5
    clear hM hrow hr2 hr5 hop hM1 hB1 kc hxx hyy haa ft1 ft2 ft3 m1 m2 m3 m4 hg
    rw [← HAA.out] at hh
    have D58:=holds58 (a:=aa) HM1.out hN1
    rw [hh] at D58
    clear hh
    go_enter Tryz.func44,Tryz.ntmps44
    go_upto_region 2 with fail
    rw [← hW1]
    clear hW1 q0 q12 f12 m0
    go_wp2_with (first
      | (go_at_call 58;(with_reducible refine D58.mono ?_);rintro e w2 ⟨rfl,bt2,x1,x2⟩;have X1:=hid x1;have HB2:Hid (Below N w w2):=HB1.out.trans x2;clear x1 x2 D58)
      | go_in)
    all_goals go_ret
    all_goals exact ⟨rfl,bt2,_,X1.out,HB2.out⟩
  | @mtch c i S hop =>
    intro w bt vf hN hi hst hM
    have hS0:=Nat.lt_of_lt_of_le (Cm.st_le (Cm.mtch hop:Cm l tx p c i S _ _)) hst
    obtain ⟨ft1,ft2,ft3⟩:=fit_at HF.out (i:=i) (by have:=HNL.out;omega)
    obtain ⟨g,of,r1,r2,r3,had,hg,m0,m1,m2,m3,m4,hrow,hr2,hr5⟩:=inst_at hM.pi hi
    rw [hop] at m0
    have q0:w.cell? ⟨mb,0,none⟩ = some (.slice ad n cp):=hM.cell 0
    have q12:w.cell? ⟨mb,12,none⟩ = some (.int .i64 (S.st:Int)):=hM.cell 12
    have f12:=hM.frz 12
    have ad1:IntKind.i64.wrap ((S.st:Int) + 1) = (S.st:Int) + 1:=by simp [IntKind.wrap,IntKind.bits,IntKind.signed];omega
    have b1:(i:Int) < (n:Int):=by omega
    subst had
    have HM:=hid hM
    have HROW:=hid hrow
    have HR2:=hid hr2
    have HOP:=hid hop
    have hmlo:=hM.lo
    have hM1:=hM.step
    obtain ⟨W1,hW1⟩:∃ W1,W1 = w.setCell ⟨mb,12,none⟩ (.int .i64 ((S.st:Int) + 1)):=⟨_,rfl⟩
    have hB1:Below N w W1:=by rw [hW1];exact (Below.refl N w).setCell (p:=⟨mb,12,none⟩) hmlo _
    rw [← hW1] at hM1
    have hN1:N ≤ W1.heap.size:=Nat.le_trans hN hB1.size
    obtain ⟨xx,hxx⟩:∃ xx,xx = (at0 l i).x:=⟨_,rfl⟩
    obtain ⟨yy,hyy⟩:∃ yy,yy = (at0 l i).y:=⟨_,rfl⟩
    obtain ⟨aa,haa⟩:∃ aa,aa = (at0 l i).a:=⟨_,rfl⟩
    rw [← hxx] at m1 ft1
    rw [← hyy] at m2 ft2
    rw [← haa] at m3 ft3
    have kc:∀ W,Below N w W → W.cell? ⟨g,of + i * 5 + 1,none⟩ = some (.int .i64 xx) ∧ W.cell? ⟨g,of + i * 5 + 2,none⟩ = some (.int .i64 yy) ∧ W.cell? ⟨g,of + i * 5 + 3,none⟩ = some (.int .i64 aa) ∧ W.cell? ⟨g,of + i * 5 + 4,none⟩ = some (.slice r1 r2 r3):=fun W hW =>
      ⟨(hW.cell (p:=⟨g,of + i * 5 + 1,none⟩) hg).trans m1,(hW.cell (p:=⟨g,of + i * 5 + 2,none⟩) hg).trans m2,(hW.cell (p:=⟨g,of + i * 5 + 3,none⟩) hg).trans m3,(hW.cell (p:=⟨g,of + i * 5 + 4,none⟩) hg).trans m4⟩
    have p0:W1.cell? ⟨mb,0,none⟩ = some (.slice (some ⟨g,of,none⟩) n cp):=hM1.cell 0
    have z0:=(hB1.cell (p:=⟨g,of + i * 5,none⟩) hg).trans m0
    obtain ⟨z1,z2,z3,z4⟩:=kc W1 hB1
    have HM1:=hid hM1
    have HB1:=hid hB1
    have KC:=hid kc
    have HXX:=hid hxx
    have HYY:=hid hyy
    have HAA:=hid haa
    have FT1:=hid ft1
    have FT2:=hid ft2
    have FT3:=hid ft3
    have HG:=hid hg
    have HR5:=hid hr5
    clear hM hrow hr2 hr5 hop hM1 hB1 kc hxx hyy haa ft1 ft2 ft3 m1 m2 m3 m4 hg
    have D60:=match60 (a:=aa) HM1.out hN1 hK2
    go_enter Tryz.func44,Tryz.ntmps44
    go_upto_region 2 with fail
    rw [← hW1]
    clear hW1 q0 q12 f12 m0
    go_wp2_with (first
      | (go_at_call 60;(with_reducible refine D60.mono ?_);rintro e w2 ⟨rfl,vf2,x1,x2⟩;have X1:=hid x1;have X2:=hid x2;clear x1 x2 D60)
      | go_in)
    all_goals go_ret
    all_goals exact ⟨rfl,_,vf2,by rw [← HAA.out];exact X1.out,HB1.out.trans X2.out⟩
  | @fail c i S hop =>
    intro w bt vf hN hi hst hM
    have hS0:=Nat.lt_of_lt_of_le (Cm.st_le (Cm.fail hop:Cm l tx p c i S _ _)) hst
    obtain ⟨ft1,ft2,ft3⟩:=fit_at HF.out (i:=i) (by have:=HNL.out;omega)
    obtain ⟨g,of,r1,r2,r3,had,hg,m0,m1,m2,m3,m4,hrow,hr2,hr5⟩:=inst_at hM.pi hi
    rw [hop] at m0
    have q0:w.cell? ⟨mb,0,none⟩ = some (.slice ad n cp):=hM.cell 0
    have q12:w.cell? ⟨mb,12,none⟩ = some (.int .i64 (S.st:Int)):=hM.cell 12
    have f12:=hM.frz 12
    have ad1:IntKind.i64.wrap ((S.st:Int) + 1) = (S.st:Int) + 1:=by simp [IntKind.wrap,IntKind.bits,IntKind.signed];omega
    have b1:(i:Int) < (n:Int):=by omega
    subst had
    have HM:=hid hM
    have HROW:=hid hrow
    have HR2:=hid hr2
    have HOP:=hid hop
    have hmlo:=hM.lo
    have hM1:=hM.step
    obtain ⟨W1,hW1⟩:∃ W1,W1 = w.setCell ⟨mb,12,none⟩ (.int .i64 ((S.st:Int) + 1)):=⟨_,rfl⟩
    have hB1:Below N w W1:=by rw [hW1];exact (Below.refl N w).setCell (p:=⟨mb,12,none⟩) hmlo _
    rw [← hW1] at hM1
    have hN1:N ≤ W1.heap.size:=Nat.le_trans hN hB1.size
    obtain ⟨xx,hxx⟩:∃ xx,xx = (at0 l i).x:=⟨_,rfl⟩
    obtain ⟨yy,hyy⟩:∃ yy,yy = (at0 l i).y:=⟨_,rfl⟩
    obtain ⟨aa,haa⟩:∃ aa,aa = (at0 l i).a:=⟨_,rfl⟩
    rw [← hxx] at m1 ft1
    rw [← hyy] at m2 ft2
    rw [← haa] at m3 ft3
    have kc:∀ W,Below N w W → W.cell? ⟨g,of + i * 5 + 1,none⟩ = some (.int .i64 xx) ∧ W.cell? ⟨g,of + i * 5 + 2,none⟩ = some (.int .i64 yy) ∧ W.cell? ⟨g,of + i * 5 + 3,none⟩ = some (.int .i64 aa) ∧ W.cell? ⟨g,of + i * 5 + 4,none⟩ = some (.slice r1 r2 r3):=fun W hW =>
      ⟨(hW.cell (p:=⟨g,of + i * 5 + 1,none⟩) hg).trans m1,(hW.cell (p:=⟨g,of + i * 5 + 2,none⟩) hg).trans m2,(hW.cell (p:=⟨g,of + i * 5 + 3,none⟩) hg).trans m3,(hW.cell (p:=⟨g,of + i * 5 + 4,none⟩) hg).trans m4⟩
    have p0:W1.cell? ⟨mb,0,none⟩ = some (.slice (some ⟨g,of,none⟩) n cp):=hM1.cell 0
    have z0:=(hB1.cell (p:=⟨g,of + i * 5,none⟩) hg).trans m0
    obtain ⟨z1,z2,z3,z4⟩:=kc W1 hB1
    have HM1:=hid hM1
    have HB1:=hid hB1
    have KC:=hid kc
    have HXX:=hid hxx
    have HYY:=hid hyy
    have HAA:=hid haa
    have FT1:=hid ft1
    have FT2:=hid ft2
    have FT3:=hid ft3
    have HG:=hid hg
    have HR5:=hid hr5
    clear hM hrow hr2 hr5 hop hM1 hB1 kc hxx hyy haa ft1 ft2 ft3 m1 m2 m3 m4 hg
    go_enter Tryz.func44,Tryz.ntmps44
    go_upto_region 2 with fail
    rw [← hW1]
    clear hW1 q0 q12 f12 m0
    go_wp2_with (go_in)
    all_goals go_ret
    all_goals exact ⟨rfl,_,_,HM1.out,HB1.out⟩
  | @runeN c i S hop hh =>
    intro w bt vf hN hi hst hM
    have hS0:=Nat.lt_of_lt_of_le (Cm.st_le (Cm.runeN hop hh:Cm l tx p c i S _ _)) hst
    obtain ⟨ft1,ft2,ft3⟩:=fit_at HF.out (i:=i) (by have:=HNL.out;omega)
    obtain ⟨g,of,r1,r2,r3,had,hg,m0,m1,m2,m3,m4,hrow,hr2,hr5⟩:=inst_at hM.pi hi
    rw [hop] at m0
    have q0:w.cell? ⟨mb,0,none⟩ = some (.slice ad n cp):=hM.cell 0
    have q12:w.cell? ⟨mb,12,none⟩ = some (.int .i64 (S.st:Int)):=hM.cell 12
    have f12:=hM.frz 12
    have ad1:IntKind.i64.wrap ((S.st:Int) + 1) = (S.st:Int) + 1:=by simp [IntKind.wrap,IntKind.bits,IntKind.signed];omega
    have b1:(i:Int) < (n:Int):=by omega
    subst had
    have HM:=hid hM
    have HROW:=hid hrow
    have HR2:=hid hr2
    have HOP:=hid hop
    have hmlo:=hM.lo
    have hM1:=hM.step
    obtain ⟨W1,hW1⟩:∃ W1,W1 = w.setCell ⟨mb,12,none⟩ (.int .i64 ((S.st:Int) + 1)):=⟨_,rfl⟩
    have hB1:Below N w W1:=by rw [hW1];exact (Below.refl N w).setCell (p:=⟨mb,12,none⟩) hmlo _
    rw [← hW1] at hM1
    have hN1:N ≤ W1.heap.size:=Nat.le_trans hN hB1.size
    obtain ⟨xx,hxx⟩:∃ xx,xx = (at0 l i).x:=⟨_,rfl⟩
    obtain ⟨yy,hyy⟩:∃ yy,yy = (at0 l i).y:=⟨_,rfl⟩
    obtain ⟨aa,haa⟩:∃ aa,aa = (at0 l i).a:=⟨_,rfl⟩
    rw [← hxx] at m1 ft1
    rw [← hyy] at m2 ft2
    rw [← haa] at m3 ft3
    have kc:∀ W,Below N w W → W.cell? ⟨g,of + i * 5 + 1,none⟩ = some (.int .i64 xx) ∧ W.cell? ⟨g,of + i * 5 + 2,none⟩ = some (.int .i64 yy) ∧ W.cell? ⟨g,of + i * 5 + 3,none⟩ = some (.int .i64 aa) ∧ W.cell? ⟨g,of + i * 5 + 4,none⟩ = some (.slice r1 r2 r3):=fun W hW =>
      ⟨(hW.cell (p:=⟨g,of + i * 5 + 1,none⟩) hg).trans m1,(hW.cell (p:=⟨g,of + i * 5 + 2,none⟩) hg).trans m2,(hW.cell (p:=⟨g,of + i * 5 + 3,none⟩) hg).trans m3,(hW.cell (p:=⟨g,of + i * 5 + 4,none⟩) hg).trans m4⟩
    have p0:W1.cell? ⟨mb,0,none⟩ = some (.slice (some ⟨g,of,none⟩) n cp):=hM1.cell 0
    have z0:=(hB1.cell (p:=⟨g,of + i * 5,none⟩) hg).trans m0
    obtain ⟨z1,z2,z3,z4⟩:=kc W1 hB1
    have HM1:=hid hM1
    have HB1:=hid hB1
    have KC:=hid kc
    have HXX:=hid hxx
    have HYY:=hid hyy
    have HAA:=hid haa
    have FT1:=hid ft1
    have FT2:=hid ft2
    have FT3:=hid ft3
    have HG:=hid hg
    have HR5:=hid hr5
    clear hM hrow hr2 hr5 hop hM1 hB1 kc hxx hyy haa ft1 ft2 ft3 m1 m2 m3 m4 hg
    have hl5:=(rune_right HF.out (r:=i) (by have:=HNL.out;omega) HOP.out).1
    have ho5:=right_okr hl5
    have D59:=fits59 (r1:=r1) (r2:=r2) (r3:=r3) HM1.out hN1 hp (RowAt.below HROW.out HB1.out (Nat.le_refl _) hN1) HR2.out (by rw [HR2.out];exact ho5.2.2) hl5
    have hbf:(decide (p < tx.length) && inB (at0 l i).R (tx.getD p 0)) = false:=by
      rw [← Bool.not_eq_true]
      simp only [Bool.and_eq_true,decide_eq_true_eq]
      exact hh
    rw [hbf] at D59
    clear hl5 ho5 hbf hh
    go_enter Tryz.func44,Tryz.ntmps44
    go_upto_region 2 with fail
    rw [← hW1]
    clear hW1 q0 q12 f12 m0
    go_wp2_with (first
      | (go_at_call 59;(with_reducible refine D59.mono ?_);rintro e w2 ⟨rfl,x2⟩;have X2:=hid x2;clear x2 D59)
      | go_in)
    all_goals go_ret
    all_goals exact ⟨rfl,_,_,HM1.out.at_ X2.out,HB1.out.trans (X2.out.mono hN1)⟩
  | @rune c i S hop hlt hin =>
    intro w bt vf hN hi hst hM
    have hS0:=Nat.lt_of_lt_of_le (Cm.st_le (Cm.rune hop hlt hin:Cm l tx p c i S _ _)) hst
    obtain ⟨ft1,ft2,ft3⟩:=fit_at HF.out (i:=i) (by have:=HNL.out;omega)
    obtain ⟨g,of,r1,r2,r3,had,hg,m0,m1,m2,m3,m4,hrow,hr2,hr5⟩:=inst_at hM.pi hi
    rw [hop] at m0
    have q0:w.cell? ⟨mb,0,none⟩ = some (.slice ad n cp):=hM.cell 0
    have q12:w.cell? ⟨mb,12,none⟩ = some (.int .i64 (S.st:Int)):=hM.cell 12
    have f12:=hM.frz 12
    have ad1:IntKind.i64.wrap ((S.st:Int) + 1) = (S.st:Int) + 1:=by simp [IntKind.wrap,IntKind.bits,IntKind.signed];omega
    have b1:(i:Int) < (n:Int):=by omega
    subst had
    have HM:=hid hM
    have HROW:=hid hrow
    have HR2:=hid hr2
    have HOP:=hid hop
    have hmlo:=hM.lo
    have hM1:=hM.step
    obtain ⟨W1,hW1⟩:∃ W1,W1 = w.setCell ⟨mb,12,none⟩ (.int .i64 ((S.st:Int) + 1)):=⟨_,rfl⟩
    have hB1:Below N w W1:=by rw [hW1];exact (Below.refl N w).setCell (p:=⟨mb,12,none⟩) hmlo _
    rw [← hW1] at hM1
    have hN1:N ≤ W1.heap.size:=Nat.le_trans hN hB1.size
    obtain ⟨xx,hxx⟩:∃ xx,xx = (at0 l i).x:=⟨_,rfl⟩
    obtain ⟨yy,hyy⟩:∃ yy,yy = (at0 l i).y:=⟨_,rfl⟩
    obtain ⟨aa,haa⟩:∃ aa,aa = (at0 l i).a:=⟨_,rfl⟩
    rw [← hxx] at m1 ft1
    rw [← hyy] at m2 ft2
    rw [← haa] at m3 ft3
    have kc:∀ W,Below N w W → W.cell? ⟨g,of + i * 5 + 1,none⟩ = some (.int .i64 xx) ∧ W.cell? ⟨g,of + i * 5 + 2,none⟩ = some (.int .i64 yy) ∧ W.cell? ⟨g,of + i * 5 + 3,none⟩ = some (.int .i64 aa) ∧ W.cell? ⟨g,of + i * 5 + 4,none⟩ = some (.slice r1 r2 r3):=fun W hW =>
      ⟨(hW.cell (p:=⟨g,of + i * 5 + 1,none⟩) hg).trans m1,(hW.cell (p:=⟨g,of + i * 5 + 2,none⟩) hg).trans m2,(hW.cell (p:=⟨g,of + i * 5 + 3,none⟩) hg).trans m3,(hW.cell (p:=⟨g,of + i * 5 + 4,none⟩) hg).trans m4⟩
    have p0:W1.cell? ⟨mb,0,none⟩ = some (.slice (some ⟨g,of,none⟩) n cp):=hM1.cell 0
    have z0:=(hB1.cell (p:=⟨g,of + i * 5,none⟩) hg).trans m0
    obtain ⟨z1,z2,z3,z4⟩:=kc W1 hB1
    have HM1:=hid hM1
    have HB1:=hid hB1
    have KC:=hid kc
    have HXX:=hid hxx
    have HYY:=hid hyy
    have HAA:=hid haa
    have FT1:=hid ft1
    have FT2:=hid ft2
    have FT3:=hid ft3
    have HG:=hid hg
    have HR5:=hid hr5
    clear hM hrow hr2 hr5 hop hM1 hB1 kc hxx hyy haa ft1 ft2 ft3 m1 m2 m3 m4 hg
    have hx0:=FT1.out (by rw [HOP.out];decide) (by rw [HOP.out];decide)
    obtain ⟨xn,hxn⟩:∃ xn:Nat,xx = (xn:Int):=⟨xx.toNat,by omega⟩
    subst hxn
    have hxt:(at0 l i).x.toNat = xn:=by rw [← HXX.out];omega
    have hxl:xn < n:=by have:=HNL.out;omega
    have hl5:=(rune_right HF.out (r:=i) (by have:=HNL.out;omega) HOP.out).1
    have ho5:=right_okr hl5
    have D59:=fits59 (r1:=r1) (r2:=r2) (r3:=r3) HM1.out hN1 hp (RowAt.below HROW.out HB1.out (Nat.le_refl _) hN1) HR2.out (by rw [HR2.out];exact ho5.2.2) hl5
    have hbf:(decide (p < tx.length) && inB (at0 l i).R (tx.getD p 0)) = true:=by
      simp only [Bool.and_eq_true,decide_eq_true_eq]
      exact ⟨hlt,hin⟩
    rw [hbf] at D59
    clear hl5 ho5 hbf hlt hin
    go_enter Tryz.func44,Tryz.ntmps44
    go_upto_region 2 with fail
    rw [← hW1]
    clear hW1 q0 q12 f12 m0
    go_upto_region 14 with (first
      | (go_at_call 59;(with_reducible refine D59.mono ?_);rintro e w2 ⟨rfl,x2⟩;have X2:=hid x2;clear x2 D59)
      | go_in)
    have hB2:Below N w w2:=HB1.out.trans (X2.out.mono hN1)
    have hM2:=HM1.out.at_ X2.out
    have j1:=(KC.out w2 hB2).1
    have q7:w2.cell? ⟨mb,7,none⟩ = some (nxV S.nx):=hM2.cell 7
    have f7:=hM2.frz 7
    have one7:(nxV S.nx).oneCell' = true:=by cases S.nx <;> rfl
    have HM2:=hid hM2
    have HB2:=hid hB2
    clear hM2 hB2 X2
    go_upto_region 15 with fail
    obtain ⟨W3,hW3⟩:∃ W3,W3 = w2.setCell ⟨mb,7,none⟩ (.int .i64 (xn:Int)):=⟨_,rfl⟩
    have hM3:MM N W3 mb (some ⟨g,of,none⟩) n cp s k tad tn tc l tx K p bt cb c { S.inc with nx:=some xn } nb vf:=by
      rw [hW3]
      refine HM2.out.rebox (S':={ S.inc with nx:=some xn }) ?_ (fun b hb => heap_setCell_other _ _ _ _ hb) ((Below.refl N w2).setCell (p:=⟨mb,7,none⟩) hmlo _) rfl rfl rfl HM2.out.bt
      have h1:=Joins.block_setCell (i:=7) HM2.out.box (.int .i64 (xn:Int))
      exact h1
    have hB3:Below N w W3:=by rw [hW3];exact HB2.out.setCell (p:=⟨mb,7,none⟩) hmlo _
    have q8:W3.cell? ⟨mb,8,none⟩ = some (.slice (some ⟨nb,0,none⟩) K K):=hM3.cell 8
    have q6:W3.cell? ⟨mb,6,none⟩ = some (.slice (some ⟨cb,0,none⟩) K K):=hM3.cell 6
    have HM3:=hid hM3
    have HB3:=hid hB3
    rw [← hW3]
    clear hW3 hM3 hB3 q7 f7
    refine wp_region_lexF [0,1,2,3,4,5,6,7] [8] (fun V => V.cell? ⟨mb,8,none⟩ = some (.slice (some ⟨nb,0,none⟩) K K) ∧ V.cell? ⟨mb,6,none⟩ = some (.slice (some ⟨cb,0,none⟩) K K)) (by decide +kernel) (by decide +kernel) rfl (by decide +kernel) (by decide +kernel) (by exact ⟨q8,q6⟩) ?_
    simp only [opsAt,opsNo,List.getElem?_toArray,List.getElem?_cons_zero,List.getElem?_cons_succ]
    iterate 8
      refine lex_cons ?_ rfl (fun V hV => ?_) (fun _ _ _ h => h) ?_
      rotate_left
      · obtain ⟨v0,v1⟩:=hV
        go_simp <;> with_reducible rfl
      simp only [Act.put,List.setIfInBounds_toArray,List.set_cons_zero,List.set_cons_succ]
    refine lex_nil (tailK_cons fun K1 hK1 => ?_)
    refine step_copy_whole rfl (.tmp 90) (.tmp 94) 30 30 rfl Tryz.underlying30 size3 N nb cb K (I64 S.inc.nc) (I64 c) rfl rfl HM3.out.rn HM3.out.rc (oneI c) (fun w4 hr4 ho4 hb4 => ?_)
    have hM4:=HM3.out.copied hr4 ho4 ⟨hb4.os,hb4.tape,hb4.output,hb4.size,hb4.block⟩
    have hB4:Below N w w4:=HB3.out.trans ⟨hb4.os,hb4.tape,hb4.output,hb4.size,hb4.block⟩
    refine hK1.out _ _ (fun _ => ⟨hM4.cell 8,hM4.cell 6⟩) (tailK_nil ?_)
    have HM4:=hid hM4
    have HB4:=hid hB4
    clear hM4 hB4 hr4 ho4 hb4 hK1 K1 q8 q6
    go_wp2
    all_goals go_ret
    all_goals exact ⟨rfl,_,_,HM4.out,HB4.out⟩
end Go.Proofs.YtjdbnoccdefnaaaGreat
