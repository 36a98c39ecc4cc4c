/- HELPERS: texts of ours put together. -/
import Derived.Test.YtjdbnoccdefnaaaGreatK19
import Derived.BigQuiet
import Derived.Deep.QuietTactic
namespace Go.Proofs.YtjdbnoccdefnaaaGreat
open Go.RowKit
set_option linter.unusedVariables false
set_option linter.unusedSimpArgs false
variable {N:Nat} {w:World} {sb o:Nat} {A:Array Value} {iv:Value} {n g of:Nat} {S:List Int} {R:List Nat} {G:List (Int × Int)} {m:Nat} {D:List Int} {mg:Nat} {Fm:List Nat} {vr vg vd:Value} {l:List In} {k:Int}
theorem CV.setRanges {w1:World} {vg':Value} {G':List (Int × Int)} (h:CV N w sb o A iv n g of S R G m D mg Fm vr vg vd) (hm:Frm w w1 vg vg') (ho:w1.ownsRow N 50 2 vg' G'.length (O2 G')) :
    CV N (w1.setCell ⟨sb,o + 3,none⟩ vg') sb o (A.setIfInBounds (o + 3) vg') iv n g of S R G' m D mg Fm vr vg' vd ∧ Chg w (w1.setCell ⟨sb,o + 3,none⟩ vg') (FC sb Fm vr vg vd) (FC sb Fm vr vg' vd) ∧ w1.cell? ⟨sb,o + 3,none⟩ = some vg ∧ w1.frozen? ⟨sb,o + 3,none⟩ = false:=by
  have f:=hm
  have hk:∀ k,k < w.heap.size → vg.ownBlock ≠ some k → w1.heap[k]? = w.heap[k]?:=fun k hk hn => f.block k hk hn
  have hsz:=f.size
  have hb1:=(hk sb h.sblt (fun e => (h.rg_ne sb e).1 rfl)).trans h.box
  have hs:=h.sz
  have hoo:=h.ho
  have hne:∀ b,vg'.ownBlock = some b → b ≠ sb:=fun b hb e => own_ne ho hb1 (by decide) (by rw [hb,e])
  have hq:∀ i,i ≠ o + 3 → (A.setIfInBounds (o + 3) vg')[i]? = A[i]?:=fun i hi => Array.getElem?_setIfInBounds_ne (by omega)
  have hkk:∀ k,k < w.heap.size → k ≠ sb → vg.ownBlock ≠ some k → (w1.setCell ⟨sb,o + 3,none⟩ vg').heap[k]? = w.heap[k]?:=fun k h1 h2 h3 => (Below.heap_setCell _ _ _ _ h2).trans (hk k h1 h3)
  refine ⟨⟨Joins.block_setCell (i:=o + 3) hb1 vg',by simpa using h.sz,h.ho,h.lo,by rw [hq _ (by omega)];exact h.c0,by rw [hq _ (by omega)];exact h.c1,by rw [hq _ (by omega)];exact h.c2,by rw [Array.getElem?_setIfInBounds_self_of_lt (by omega)],by rw [hq _ (by omega)];exact h.c4,by rw [hq _ (by omega)];exact h.c5,h.set.kept (fun k hk' => hkk k (h.set.low k hk').2 (fun e => h.sb_set (e ▸ hk')) (fun e => (h.rg_ne k e).2.1 hk')),row_kept h.rr (fun b hb => hkk b (h.rr.lt b hb).2 (h.rr_ne b hb).1 (h.rr_ne b hb).2.2.1),own_setCell ho (fun e => hne sb e rfl),row_kept h.rd (fun b hb => hkk b (h.rd.lt b hb).2 (h.rd_ne b hb) (fun e => (h.rg_ne b e).2.2 hb)),h.ap⟩,⟨f.os,f.tape,f.output,by simp [World.setCell];omega,fun k h1 h2 => ?_,fun k h1 => ?_⟩,by rw [Joins.cell_of_block hb1];exact h.c3,Joins.unfrozen_of_block hb1 _⟩
  · simp only [List.mem_cons,List.mem_append,Option.mem_toList,Option.mem_def,not_or] at h2
    exact hkk k h1 h2.1 h2.2.2.2.1
  · simp only [List.mem_cons,List.mem_append,Option.mem_toList,Option.mem_def] at h1 ⊢
    rcases h1 with h1 | h1 | h1 | h1 | h1
    · exact .inl (.inl h1)
    · exact .inl (.inr (.inl h1))
    · exact .inl (.inr (.inr (.inl h1)))
    · rcases f.own k h1 with h3 | h3
      · exact .inl (.inr (.inr (.inr (.inl h3))))
      · exact .inr (by omega)
    · exact .inl (.inr (.inr (.inr (.inr h1))))
theorem CV.setSorted {w1:World} {G':List (Int × Int)} (h:CV N w sb o A iv n g of S R G m D mg Fm vr vg vd) (hk:∀ k,k < w.heap.size → vg.ownBlock ≠ some k → w1.heap[k]? = w.heap[k]?) (hs:w.heap.size ≤ w1.heap.size) (h1:w1.os = w.os) (h2:w1.tape = w.tape) (h3:w1.output = w.output) (ho:w1.ownsRow N 50 2 vg G'.length (O2 G')) :
    CV N w1 sb o A iv n g of S R G' m D mg Fm vr vg vd ∧ Chg w w1 (FC sb Fm vr vg vd) (FC sb Fm vr vg vd):=by
  refine ⟨⟨(hk sb h.sblt (fun e => (h.rg_ne sb e).1 rfl)).trans h.box,h.sz,h.ho,h.lo,h.c0,h.c1,h.c2,h.c3,h.c4,h.c5,h.set.kept (fun k hk' => hk k (h.set.low k hk').2 (fun e => (h.rg_ne k e).2.1 hk')),row_kept h.rr (fun b hb => hk b (h.rr.lt b hb).2 (h.rr_ne b hb).2.2.1),ho,row_kept h.rd (fun b hb => hk b (h.rd.lt b hb).2 (fun e => (h.rg_ne b e).2.2 hb)),h.ap⟩,⟨h1,h2,h3,hs,fun k h4 h5 => ?_,fun k h4 => .inl h4⟩⟩
  simp only [List.mem_cons,List.mem_append,Option.mem_toList,Option.mem_def,not_or] at h5
  exact hk k h4 h5.2.2.2.1
abbrev Rg (l:List In) (r:Nat):List (Int × Int):=(at0 l r).R
def APost (N:Nat) (w:World) (sb o:Nat) (A:Array Value) (iv:Value) (n g of:Nat) (S:List Int) (R:List Nat) (m:Nat) (D:List Int) (mg:Nat) (Fm:List Nat) (vr vg vd:Value) (l:List In) (e:Ending) (w':World):Prop:=
  ∃ b A' G' vg',e = .returned (.bool b) ∧ CV N w' sb o A' iv n g of S R G' m D mg Fm vr vg' vd ∧ Rest A A' o ∧ Chg w w' (FC sb Fm vr vg vd) (FC sb Fm vr vg' vd) ∧
    (b = true → R.Pairwise (pd l).ap ∧ G'.Perm (R.flatMap (Rg l)) ∧ G'.Pairwise (fun x y => x.1 ≤ y.1) ∧ G'.Pairwise Dj) ∧ (b = false → ¬ R.Pairwise (pd l).ap)
theorem rune_right {l:List In} (hF:∀ I ∈ l,Fit (l.length:Int) k I) {r:Nat} (hr:r < l.length) (h1:(at0 l r).op = 1):rightB (at0 l r).R = true ∧ 0 < (at0 l r).R.length:=by
  have hf:=hF _ (List.getElem_mem hr)
  rw [at0_lt hr] at h1 ⊢
  obtain ⟨I,hI⟩:∃ I,I = l[r]:=⟨_,rfl⟩
  rw [← hI] at hf h1 ⊢
  cases hf <;> simp at h1 ⊢
  exact ⟨by assumption,by assumption⟩
theorem right_okr {R:List (Int × Int)} (h:rightB R = true):(∀ r ∈ R,Okr r) ∧ R.Pairwise Dj ∧ R.length ≤ 5000:=by
  have h1:=right_ok h
  simp only [rightB,Bool.and_eq_true,decide_eq_true_eq] at h
  have h2:=right_apart R 0 (by omega) h.2
  exact ⟨fun r hr => (h2.1 r hr).1,h2.2,h.1⟩
theorem info50:(Tryz.prog.info? 50).map (fun i => (i.zero,i.size,i.bytes)) = some (some (.agg #[.int .i64 0,.int .i64 0]),2,16):=by kernel_rfl
theorem flat_len {l:List In}:∀ (Q:List Nat),(∀ q ∈ Q,(at0 l q).R.length ≤ 5000) → (Q.flatMap (Rg l)).length ≤ Q.length * 5000
  | [],_ => by simp
  | q :: Q,h => by
    have h1:=flat_len Q (fun x hx => h x (by simp [hx]))
    have h2:=h q (by simp)
    simp only [List.flatMap_cons,List.length_append,List.length_cons]
    change (at0 l q).R.length + _ ≤ _
    omega
theorem flat_take {α β:Type} (f:α → List β) {L:List α} {i:Nat} (h:i < L.length):(L.take (i + 1)).flatMap f = (L.take i).flatMap f ++ f L[i]:=by
  rw [List.take_succ_eq_append_getElem h,List.flatMap_append];simp
set_option maxRecDepth 100000 in
set_option maxHeartbeats 8000000 in
theorem areApart99 {ad:Option Addr} {c:Nat} (hF:∀ I ∈ l,Fit (l.length:Int) k I) (hC:CV N w sb o A (.slice ad n c) n g of S R [] m D mg Fm vr vg vd) (hP:PI w N ad n l) (hat:0 < n → ad = some ⟨g,of,none⟩) (hn2:n ≤ 20000) (hN:N ≤ w.heap.size) (hR:∀ r ∈ R,r < n ∧ (at0 l r).op = 1) (hRl:R.length ≤ 20000) :
    Calls Tryz.prog 99 #[.pointer (some ⟨sb,o,none⟩)] w (APost N w sb o A (.slice ad n c) n g of S R m D mg Fm vr vg vd l):=by
  obtain ⟨ra,rc,rfl,-,-⟩:=row_shape hC.rr
  have HP:=hid hP
  have HF:=hid hF
  have HL:=hid hP.len
  have HR:=hid hR
  have HAT:=hid hat
  have HC:=hid hC
  have h2:w.cell? ⟨sb,o + 2,none⟩ = some (.slice ra R.length rc):=(hC.cell _).trans hC.c2
  clear hP hF hR hat hC
  obtain ⟨rn,hrn⟩:∃ rn,rn = R.length:=⟨_,rfl⟩
  have HRN:=hid hrn
  rw [← hrn] at h2 hRl
  clear hrn
  go_enter Tryz.func99,Tryz.ntmps99
  go_upto_region 3 with fail
  go_loopw [3,12] (fun x y wq => ∃ (i:Nat) (A':Array Value) (vg':Value),y = .int .i64 (i:Int) ∧ i ≤ rn ∧ x = .int .i64 (cnt ((R.take i).flatMap (Rg l))) ∧ cnt ((R.take i).flatMap (Rg l)) ≤ 1114112 ∧ Hid (CV N wq sb o A' (.slice ad n c) n g of S R ((R.take i).flatMap (Rg l)) m D mg Fm (.slice ra R.length rc) vg' vd) ∧ Hid (Rest A A' o) ∧ Hid (Chg w wq (FC sb Fm (.slice ra R.length rc) vg vd) (FC sb Fm (.slice ra R.length rc) vg' vd))) (fun _ y _ => rn - (intOf y).toNat)
  case atStart => exact ⟨0,A,vg,rfl,by omega,rfl,by simp [cnt],HC.out,Rest.refl A o,Chg.refl _ _⟩
  case round =>
    obtain ⟨i,A',vg',rfl,hi,rfl,hcl,HCV,HRT,HCH⟩:=hrel
    by_cases hil:i < rn
    · have b1:decide ((i:Int) < (rn:Int)) = true:=by simp;omega
      have b2:(i:Int) < (rn:Int):=by omega
      have ad1:IntKind.i64.wrap ((i:Int) + 1) = (i:Int) + 1:=by simp [IntKind.wrap,IntKind.bits,IntKind.signed];omega
      have hlt:i < R.length:=by have:=HRN.out;omega
      obtain ⟨hr,hop⟩:=HR.out _ (List.getElem_mem hlt)
      have hft:=flat_take (Rg l) hlt
      obtain ⟨r,hre⟩:∃ r,R[i] = r:=⟨_,rfl⟩
      have hrr:=HCV.out.rr
      obtain ⟨rb,rfl⟩:∃ rb,ra = some ⟨rb,0,none⟩:=by
        rcases hrr.2 with ⟨e,_⟩ | ⟨g',cap,cur,e,_⟩
        · simp only [Value.slice.injEq] at e;omega
        · simp only [Value.slice.injEq] at e;exact ⟨g',e.1⟩
      have kp:wr.cell? ⟨rb,i,none⟩ = some (.pointer (some ⟨g,of + r * 5,none⟩)):=by
        rw [hrr.cellAt i (by omega)]
        simp [Ptrs,List.getElem?_eq_getElem hlt,hre]
      rw [hre] at hr hop hft
      have hB:Below N w wr:=HCH.out.below hN (fun k hk => (HC.out.low k hk).1)
      have hNr:N ≤ wr.heap.size:=Nat.le_trans hN hB.size
      have hPr:PI wr wr.heap.size ad n l:=HP.out.kept hB hNr
      have hadE:=HAT.out (by omega)
      subst hadE
      obtain ⟨g',of',ND,e,hg,hcs⟩:=hPr.mem (by have:=HL.out;omega)
      simp only [Option.some.injEq,Addr.mk.injEq,and_true] at e
      obtain ⟨rfl,rfl⟩:=e
      have hrl:r < l.length:=by have:=HL.out;omega
      have hI5:=(hcs r hrl).1
      have hIM:=(hcs r hrl).2
      obtain ⟨hrt,hpos⟩:=rune_right HF.out hrl hop
      obtain ⟨ok1,ok2,ok3⟩:=right_okr hrt
      have hRr:l[r].R = Rg l r:=by rw [← at0_lt hrl]
      obtain ⟨⟨op,xx,yy,aa,r1,r2,r3⟩,hM⟩:∃ M,M = ND r:=⟨_,rfl⟩
      rw [← hM] at hI5 hIM
      obtain ⟨m0,m1,m2,m3,m4⟩:=hI5
      have hlen:r2 = (Rg l r).length:=by rw [← hRr];exact hIM.len
      have hrow:RowAt wr.heap.size wr (.slice r1 r2 r3) (Rg l r):=by rw [← hRr];exact hIM.row
      simp only at m4
      have C113:=runesIn113 hrow hlen (by rw [hlen];exact ok3) (fun x hx => by have:=ok1 x hx;omega)
      have hc0:=cnt_nonneg ok1
      have hc1:=cnt_apart ok2 ok1
      have hcn:cnt ((R.take (i + 1)).flatMap (Rg l)) = cnt ((R.take i).flatMap (Rg l)) + cnt (Rg l r):=by rw [hft,cnt_app]
      have hcnn:0 ≤ cnt ((R.take i).flatMap (Rg l)):=cnt_nonneg (fun x hx => by
        obtain ⟨q,hq,hx⟩:=List.mem_flatMap.1 hx
        obtain ⟨u1,u2⟩:=HR.out q (List.mem_of_mem_take hq)
        exact (right_okr (rune_right HF.out (by have:=HL.out;omega) u2).1).1 x hx)
      have HFT:=hid hft
      have HCN:=hid hcn
      have HRW:=hid hrow
      have HLEN:=hid hlen
      have HOP:=hid hpos
      obtain ⟨c0,hc0e⟩:∃ c0,cnt ((R.take i).flatMap (Rg l)) = c0:=⟨_,rfl⟩
      obtain ⟨c1,hc1e⟩:∃ c1,cnt (Rg l r) = c1:=⟨_,rfl⟩
      rw [hc0e] at hcl hcnn HCN ⊢
      rw [hc1e] at hc0 hc1 C113 HCN
      have ad2:IntKind.i64.wrap (c0 + c1) = c0 + c1:=by simp [IntKind.wrap,IntKind.bits,IntKind.signed];omega
      have HCE:=hid hc0e
      have M4:=hid m4
      have HHG:=hid hg
      have HBW:=hid hB
      have HNR:=hid hNr
      clear hPr hcs hIM hrt ok1 ok2 ok3 hRr hM hlen hrow hcn hft hc0e hc1e hrr hre hB hg hNr hpos
      by_cases hbig:1114112 < c0 + c1
      · have b3:decide (1114112 < c0 + c1) = true:=by simpa using hbig
        have hno:¬ R.Pairwise (pd l).ap:=by
          intro hp
          have h1:=(flat_apart (Rg l) R (fun x hx => (right_okr (rune_right HF.out (by have:=HL.out;have:=(HR.out x hx).1;omega) (HR.out x hx).2).1).2.1)).2 hp
          have h3:((R.take (i + 1)).flatMap (Rg l)).Pairwise Dj:=h1.sublist (by
            have:R = R.take (i + 1) ++ R.drop (i + 1):=(List.take_append_drop _ _).symm
            conv => rhs;rw [this]
            rw [List.flatMap_append]
            exact List.sublist_append_left _ _)
          have h4:=cnt_apart h3 (fun x hx => by
            obtain ⟨q,hq,hx⟩:=List.mem_flatMap.1 hx
            obtain ⟨u1,u2⟩:=HR.out q (List.mem_of_mem_take hq)
            exact (right_okr (rune_right HF.out (by have:=HL.out;omega) u2).1).1 x hx)
          rw [HCN.out] at h4
          omega
        have HNO:=hid hno
        clear hno
        go_wp2_with (go_at_call 113;(with_reducible refine C113.mono ?_);rintro e w1 ⟨rfl,hb⟩;have HB1:=hid hb;clear hb C113)
        all_goals go_ret
        all_goals
          have hk:=HCV.out.kept (w':=w1) (fun q hq => HB1.out.block q (HCV.out.low q hq).2)
          exact ⟨false,A',_,vg',rfl,hk,HRT.out,HCH.out.trans (Chg.of_below HB1.out),fun h => (by cases h),fun _ => HNO.out⟩
      · have b3:decide (1114112 < c0 + c1) = false:=by simpa using hbig
        go_upto_region 8 with (go_at_call 113;(with_reducible refine C113.mono ?_);rintro e w1 ⟨rfl,hb⟩;have HB1:=hid hb;clear hb C113)
        have hCV1:=HCV.out.kept (w':=w1) (fun q hq => HB1.out.block q (HCV.out.low q hq).2)
        have h3:w1.drew.cell? ⟨sb,o + 3,none⟩ = some vg':=(hCV1.cell _).trans hCV1.c3
        have h4:w1.drew.cell? ⟨g,of + r * 5 + 4,none⟩ = some (.slice r1 r2 r3):=(HB1.out.cell (p:=⟨g,of + r * 5 + 4,none⟩) HHG.out).trans M4.out
        have HCV1:=hid hCV1
        obtain ⟨va,vc,hva,-,-⟩:=row_shape hCV1.rg
        obtain ⟨gn,hgn⟩:∃ gn,gn = ((R.take i).flatMap (Rg l)).length:=⟨_,rfl⟩
        rw [← hgn] at hva
        subst hva
        have HGN:=hid hgn
        clear hgn
        obtain ⟨b0,f0,hr1,hsrc⟩:∃ b0 f0,r1 = some ⟨b0,f0,none⟩ ∧ ∀ j u,(O2 (Rg l r))[j]? = some u → w1.drew.cell? ((⟨b0,f0,none⟩:Addr).add j) = some u:=by
          obtain ⟨a',cap',he,h1⟩:=HRW.out
          simp only [Value.slice.injEq] at he
          obtain ⟨rfl,hnl,rfl⟩:=he
          rcases h1 with h1 | ⟨b,off,rfl,hb,k0,k1⟩
          · exfalso;have h8:=HOP.out;change (at0 l r).R.length = 0 at h1;omega
          refine ⟨b,off,rfl,fun j u hj => ?_⟩
          have hjl:j < (Rg l r).length * 2:=by
            have:=(List.getElem?_eq_some_iff.1 hj).1
            rw [O2_len] at this;exact this
          have hk:j / 2 < (Rg l r).length:=by omega
          have hat2:=O2_at (Rg l r) (j / 2) hk
          have hg2:(Rg l r).getD (j / 2) (0,0) = (Rg l r)[j / 2]:=by simp [List.getD_eq_getElem?_getD,List.getElem?_eq_getElem hk]
          rw [Addr.add_mid]
          refine (HB1.out.cell (p:=⟨b,off + j,none⟩) hb).trans ?_
          rcases (show j = j / 2 * 2 ∨ j = j / 2 * 2 + 1 by omega) with e | e
          · have q:=k0 (j / 2) hk
            rw [hg2] at q
            rw [e] at hj ⊢
            rw [hat2.1] at hj
            rw [q,← hj]
          · have q:=k1 (j / 2) hk
            rw [hg2] at q
            rw [e] at hj ⊢
            rw [hat2.2] at hj
            rw [← Nat.add_assoc,q,← hj]
        subst hr1
        have HSRC:=hid hsrc
        have HGL:Hid (((R.take i).flatMap (Rg l)).length ≤ 100000000):=by
          have h5:=flat_len (R.take i) (fun q hq => by
            obtain ⟨u1,u2⟩:=HR.out q (List.mem_of_mem_take hq)
            exact (right_okr (rune_right HF.out (by have:=HL.out;omega) u2).1).2.2)
          have h6:(R.take i).length ≤ 20000:=by rw [List.length_take];have:=HRN.out;omega
          show _ ≤ _
          omega
        have hr25:r2 ≤ 5000:=by
          have h5:=(right_okr (rune_right HF.out (by have:=HL.out;omega) hop).1).2.2
          rw [HLEN.out];exact h5
        have hr20:0 < r2:=by rw [HLEN.out];exact HOP.out
        clear hCV1 hsrc
        obtain ⟨i5,hi5,hz50,hz51,hz52⟩:=iparts info50
        refine wp_region_lexK [0,1,2,3,4,5,6,7,8] [9,10,11,12] 12 (fun V => V.cell? ⟨sb,o + 3,none⟩ = some (.slice va gn vc) ∧ V.cell? ⟨g,of + r * 5 + 4,none⟩ = some (.slice (some ⟨b0,f0,none⟩) r2 r3)) (by kernel_rfl) (by kernel_rfl) rfl (by kernel_rfl) (by kernel_rfl) ⟨h3,h4⟩ ?_
        simp only [opsAt,opsNo,List.getElem?_toArray,List.getElem?_cons_zero,List.getElem?_cons_succ]
        iterate 9
          refine lex_cons ?_ rfl (fun V hV => ?_) (fun _ _ _ h => h) ?_
          rotate_left
          · obtain ⟨s0,s1⟩:=hV
            go_simp <;> with_reducible rfl
          simp only [Act.put,List.setIfInBounds_toArray,List.set_cons_zero,List.set_cons_succ]
        refine lex_nil (tailK_cons fun K1 hK1 => ?_)
        have hO2:(O2 (Rg l r)).length = r2 * 2:=by rw [O2_len,HLEN.out]
        refine step_append_moveN rfl (.tmp 29) (.tmp 33) 41 rfl N 50 i5 (.agg #[.int .i64 0,.int .i64 0]) 2 16 Tryz.underlying41 hi5 hz50 hz51 hz52 rfl (by decide) (.slice va gn vc) gn (O2 ((R.take i).flatMap (Rg l))) (by simp [Act.eval,Act.put]) (by have q:=HCV1.out.rg;rw [← HGN.out] at q;exact q) ⟨b0,f0,none⟩ r2 r3 (O2 (Rg l r)) (by simp [Act.eval,Act.put]) hO2 hr20 (by exact HSRC.out) (O2_one _) (by have:=HGL.out;have:=HGN.out;unfold maxLen;omega) (by have:=HGL.out;have:=HGN.out;omega) (by have:=HNR.out;have:=HB1.out.size;show N ≤ w1.heap.size;omega) ?_
        intro v5 w5 ho5 hm5
        have ho6:w5.ownsRow N 50 2 v5 ((R.take (i + 1)).flatMap (Rg l)).length (O2 ((R.take (i + 1)).flatMap (Rg l))):=by
          rw [HFT.out,List.length_append]
          have e:O2 ((R.take i).flatMap (Rg l) ++ Rg l r) = O2 ((R.take i).flatMap (Rg l)) ++ O2 (Rg l r):=by simp [O2]
          rw [e,← HLEN.out,← HGN.out];exact ho5
        obtain ⟨C1,C2,k5,f5⟩:=(HCV1.out.kept (w':=w1.drew) (fun _ _ => rfl)).setRanges hm5.frm ho6
        obtain ⟨ya,yc,rfl,-,-⟩:=row_shape ho5
        have HC1:=hid C1
        have HC2:Hid (Chg w1 _ _ _):=⟨C2.os,C2.tape,C2.output,C2.size,C2.block,C2.new⟩
        have k6:w5.cell? ⟨g,of + r * 5 + 4,none⟩ = some (.slice (some ⟨b0,f0,none⟩) r2 r3):=by
          have hgl:=HHG.out
          have hgN:g < N:=by
            obtain ⟨g2,of2,ND2,e2,hg2,_⟩:=HP.out.mem (by have:=HL.out;omega)
            simp only [Option.some.injEq,Addr.mk.injEq,and_true] at e2
            rw [e2.1];exact hg2
          exact (cell_eq (hm5.frm.block g (show g < w1.heap.size by have:=HB1.out.size;omega) (fun e => by have:=(HCV1.out.rg.lt g e).1;omega)) _).trans h4
        clear C1 C2 ho5 ho6 hm5 hO2
        refine hK1.out _ _ (fun _ => ⟨k5,k6⟩) (tailK_cons fun K4 hK4 => ?_)
        simp only [Act.put,List.setIfInBounds_toArray,List.set_cons_zero,List.set_cons_succ]
        go_simp
        refine hK4.out _ _ (fun _ => ⟨k5,k6⟩) (tailK_cons fun K5 hK5 => ?_)
        go_simp
        refine hK5.out _ _ (fun _ => ⟨k5,k6⟩) (tailK_cons fun K6 hK6 => ?_)
        go_simp
        refine hK6.out _ _ (fun h => absurd rfl h) (tailK_nil ?_)
        go_wp2
        exact ⟨⟨i + 1,_,_,by push_cast;rfl,by omega,by rw [HCN.out],by rw [HCN.out];omega,HC1.out,HRT.out.set (by omega) _,HCH.out.trans ((Chg.of_below HB1.out).trans HC2.out)⟩,by simp [intOf];omega⟩
    · have b1:decide ((i:Int) < (rn:Int)) = false:=by simp;omega
      have hin:i = rn:=by omega
      have htk:R.take i = R:=List.take_of_length_le (by have:=HRN.out;omega)
      rw [htk] at HCV hcl ⊢
      have hB:Below N w wr:=HCH.out.below hN (fun k hk => (HC.out.low k hk).1)
      obtain ⟨va,vc,hva,-,-⟩:=row_shape HCV.out.rg
      obtain ⟨gn,hgn⟩:∃ gn,gn = (R.flatMap (Rg l)).length:=⟨_,rfl⟩
      rw [← hgn] at hva
      subst hva
      have hgl:gn ≤ 100000000:=by
        rw [hgn]
        have h5:=flat_len R (fun q hq => by
          obtain ⟨u1,u2⟩:=HR.out q hq
          exact (right_okr (rune_right HF.out (by have:=HL.out;omega) u2).1).2.2)
        have:=HRN.out
        omega
      have D114:=sortAny (v:=.slice va gn vc) hgn (by have q:=HCV.out.rg;rw [← hgn] at q;exact q) (by omega)
      have h3:wr.cell? ⟨sb,o + 3,none⟩ = some (.slice va gn vc):=(HCV.out.cell _).trans HCV.out.c3
      have HGN:=hid hgn
      have hokr:∀ x ∈ R.flatMap (Rg l),Okr x:=fun x hx => by
        obtain ⟨q,hq,hx⟩:=List.mem_flatMap.1 hx
        obtain ⟨u1,u2⟩:=HR.out q hq
        exact (right_okr (rune_right HF.out (by have:=HL.out;omega) u2).1).1 x hx
      have hfa:=flat_apart (Rg l) R (fun x hx => (right_okr (rune_right HF.out (by have:=HL.out;have:=(HR.out x hx).1;omega) (HR.out x hx).2).1).2.1)
      have HOK:=hid hokr
      have HFA:=hid hfa
      clear hgn hB htk hokr hfa b1
      have b1:decide ((i:Int) < (rn:Int)) = false:=by simp;omega
      go_upto_region 12 with (go_at_call 114;(with_reducible refine D114.mono ?_);rintro e w2 ⟨rfl,D2,s1,s2,s3,s4,s5,s6,s7,s8⟩;have S1:=hid s1;have S2:=hid s2;have S3:=hid s3;have S4:=hid s4;have S5:=hid (show _ ∧ _ ∧ _ ∧ _ from ⟨s5,s6,s7,s8⟩);clear s1 s2 s3 s4 s5 s6 s7 s8 D114)
      have hDl:D2.length = gn:=by rw [S1.out.length_eq,HGN.out]
      obtain ⟨n1,n2⟩:=HCV.out.setSorted (G':=D2) S4.out S5.out.1 S5.out.2.1 S5.out.2.2.1 S5.out.2.2.2 (by rw [hDl];exact S3.out)
      have hokd:∀ x ∈ D2,Okr x:=fun x hx => HOK.out x (S1.out.mem_iff.1 hx)
      have hpd:D2.Pairwise Dj ↔ R.Pairwise (pd l).ap:=(S1.out.pairwise_iff Dj.symm).trans HFA.out
      have N1:=hid n1
      have N2:=hid n2
      have OKD:=hid hokd
      have HPD:=hid hpd
      have HDL:=hid hDl
      have k3:w2.cell? ⟨sb,o + 3,none⟩ = some (.slice va gn vc):=(n1.cell _).trans n1.c3
      have FT:Hid (∀ V,V.heap = w2.heap → V.os = w2.os → V.tape = w2.tape → V.output = w2.output → (D2.Pairwise Dj → APost N w sb o A (.slice ad n c) n g of S R m D mg Fm (.slice ra R.length rc) vg vd l (.returned (.bool true)) V) ∧ (¬ D2.Pairwise Dj → APost N w sb o A (.slice ad n c) n g of S R m D mg Fm (.slice ra R.length rc) vg vd l (.returned (.bool false)) V)):=by
        intro V hv1 hv2 hv3 hv4
        have hcv:=n1.kept (w':=V) (fun _ _ => by rw [hv1])
        have hch:Chg w V (FC sb Fm (.slice ra R.length rc) vg vd) (FC sb Fm (.slice ra R.length rc) (.slice va gn vc) vd):=(HCH.out.trans n2).trans ⟨hv2,hv3,hv4,by rw [hv1];exact Nat.le_refl _,fun k _ _ => by rw [hv1],fun k hk => .inl hk⟩
        exact ⟨fun hd => ⟨true,A',D2,_,rfl,hcv,HRT.out,hch,fun _ => ⟨hpd.1 hd,S1.out,S2.out,hd⟩,fun h => (by cases h)⟩,fun hd => ⟨false,A',D2,_,rfl,hcv,HRT.out,hch,fun h => (by cases h),fun _ hp => hd (hpd.2 hp)⟩⟩
      clear n1 n2 hokd hpd HCV HCH HRT S4 S5 h3
      go_loopw [6] (fun y wq => ∃ j:Nat,y = .int .i64 (j:Int) ∧ 1 ≤ j ∧ j ≤ gn + 1 ∧ Hid (∀ q (hq:q + 1 < D2.length),q + 1 < j → D2[q].2 < D2[q + 1].1) ∧ Hid (∃ m,wq = w2.drewN m)) (fun y _ => gn + 1 - (intOf y).toNat)
      case atStart => exact ⟨1,rfl,by omega,by omega,fun q _ h => by omega,0,rfl⟩
      case round =>
        obtain ⟨j,rfl,hj1,hj2,HADJ,HDR⟩:=hrel
        obtain ⟨dm,rfl⟩:=HDR.out
        have k3':(w2.drewN dm).cell? ⟨sb,o + 3,none⟩ = some (.slice va gn vc):=k3
        by_cases hjl:j < gn
        · have b3:decide ((j:Int) < (gn:Int)) = true:=by simp;omega
          have b4:(j:Int) < (gn:Int):=by omega
          have ad1:IntKind.i64.wrap ((j:Int) + 1) = (j:Int) + 1:=by simp [IntKind.wrap,IntKind.bits,IntKind.signed];omega
          obtain ⟨p,hp⟩:∃ p,j = p + 1:=⟨j - 1,by omega⟩
          have ad2:IntKind.i64.wrap ((j:Int) - 1) = (p:Int):=by simp [IntKind.wrap,IntKind.bits,IntKind.signed];omega
          have b5:(p:Int) < (gn:Int):=by omega
          have b6:(0:Int) ≤ (p:Int):=by omega
          have hgr:=N1.out.rg
          obtain ⟨gb,rfl⟩:∃ gb,va = some ⟨gb,0,none⟩:=by
            rcases hgr.2 with ⟨e,_⟩ | ⟨g',cap,cur,e,_⟩
            · simp only [Value.slice.injEq] at e;omega
            · simp only [Value.slice.injEq] at e;exact ⟨g',e.1⟩
          rw [HDL.out] at hgr
          have hp1:p + 1 < D2.length:=by have:=HDL.out;omega
          have hp0:p < D2.length:=Nat.lt_of_succ_lt hp1
          have q0:w2.cell? ⟨gb,j * 2,none⟩ = some (.int .i64 D2[p + 1].1):=by rw [hp];exact (hgr.cellAt ((p + 1) * 2) (by omega)).trans (O2_at D2 (p + 1) hp1).1
          have q1:w2.cell? ⟨gb,p * 2 + 1,none⟩ = some (.int .i64 (D2[p]'hp0).2):=(hgr.cellAt (p * 2 + 1) (by omega)).trans (O2_at D2 p hp0).2
          obtain ⟨lo,hlo⟩:∃ lo,D2[p + 1].1 = lo:=⟨_,rfl⟩
          obtain ⟨hh,hhi⟩:∃ hh,(D2[p]'hp0).2 = hh:=⟨_,rfl⟩
          rw [hlo] at q0
          rw [hhi] at q1
          have HLO:=hid hlo
          have HHI:=hid hhi
          have HPJ:=hid hp
          clear hgr hlo hhi hp
          by_cases hov:lo ≤ hh
          · have b7:decide (lo ≤ hh) = true:=by simpa using hov
            go_wp2
            go_quiet (fail)
            go_wp2
            all_goals go_ret
            all_goals exact ((FT.out _ (by rfl) (by rfl) (by rfl) (by rfl)).2 (not_adj S2.out OKD.out hp1 (by rw [HLO.out,HHI.out];exact hov)))
          · have b7:decide (lo ≤ hh) = false:=by simpa using hov
            go_wp2
            go_quiet (fail)
            go_wp2
            exact ⟨⟨j + 1,by push_cast;rfl,by omega,by omega,fun q hq hq2 => by
              by_cases e:q = p
              · subst e;rw [HLO.out,HHI.out];omega
              · exact HADJ.out q hq (by have:=HPJ.out;omega),_,rfl⟩,by simp [intOf];omega⟩
        · have b3:decide ((j:Int) < (gn:Int)) = false:=by simp;omega
          go_wp2
          all_goals go_ret
          all_goals exact ((FT.out _ (by rfl) (by rfl) (by rfl) (by rfl)).1 (chain_adj S2.out OKD.out (fun q hq => by have:=HADJ.out q hq (by have:=HDL.out;omega);omega)))
end Go.Proofs.YtjdbnoccdefnaaaGreat
