/- HELPERS: texts of ours put together. -/
import Derived.Test.YtjdbnoccdefnaaaGreatK42
namespace Go.Proofs.YtjdbnoccdefnaaaGreat
open Go.RowKit Go.Lk
set_option linter.unusedVariables false
set_option linter.unusedSimpArgs false
theorem cmp82 (lo hi x:Int) (W:World):Calls Tryz.prog 82 #[.agg #[.int .i64 lo,.int .i64 hi],.int .i64 x] W fun e w' => e = .returned (.int .i64 (Lib.compareInt hi x)) ∧ Below W.heap.size W w':=by
  have hcon:=fun W' => AnyG.cmp_Compare_int Tryz.cmpInt hi x W'
  change ∀ W',Calls Tryz.prog 83 _ _ _ at hcon
  generalize Lib.compareInt hi x = r at hcon ⊢
  go_enter Tryz.func82,Tryz.ntmps82
  go_wp2_with (go_at_call 83;refine (hcon _).mono ?_;rintro e w' ⟨rfl,rfl⟩)
  go_ret
  exact ⟨rfl,(Below.refl _ _).alloc (Nat.le_refl _) _⟩
set_option maxRecDepth 100000 in
set_option maxHeartbeats 4000000 in
theorem search82 {w:World} {ad:Option Addr} {n c:Nat} {G:List (Int × Int)} {x:Int} (hG:RowAt w.heap.size w (.slice ad n c) G) (hn:n = G.length) (hn2:n ≤ 100000000) (hm:∀ a b (hb:b < G.length) (hab:a ≤ b),G[b].2 < x → (G[a]'(by omega)).2 < x) :
    Calls Tryz.prog 81 #[.slice ad n c,.int .i64 x,.func (.func 82) #[] #[]] w fun e w' => ∃ (j:Nat) (bb:Bool),e = .returned (.tuple #[.int .i64 (j:Int),.bool bb]) ∧ j ≤ n ∧ (∀ q (hq:q < G.length),q < j → G[q].2 < x) ∧ (∀ q (hq:q < G.length),j ≤ q → x ≤ G[q].2) ∧ Below w.heap.size w w':=by
  have HG:=hid hG
  have HN:=hid hn
  have HM:=hid hm
  clear hG hn hm
  go_enter Tryz.func81,Tryz.ntmps81
  go_upto_region 3 with fail
  go_loopw [9,10] (fun y z wq => ∃ i j:Nat,y = .int .i64 (i:Int) ∧ z = .int .i64 (j:Int) ∧ i ≤ j ∧ j ≤ n ∧ Hid (∀ q (hq:q < G.length),q < i → G[q].2 < x) ∧ Hid (∀ q (hq:q < G.length),j ≤ q → x ≤ G[q].2) ∧ Hid (Below w.heap.size w wq)) (fun y z _ => (intOf z).toNat - (intOf y).toNat)
  case atStart => exact ⟨0,n,rfl,rfl,by omega,by omega,fun q _ h => by omega,fun q hq h => by have:=HN.out;omega,Below.refl _ _⟩
  case round =>
    obtain ⟨i,j,rfl,rfl,hij,hjn,HI,HJ,HB⟩:=hrel
    by_cases hlt:i < j
    · have b1:decide ((i:Int) < (j:Int)) = true:=by simp;omega
      have b2:(i:Int) < (j:Int):=by omega
      have ad1:IntKind.i64.wrap ((i:Int) + (j:Int)) = ((i + j:Nat):Int):=by simp [IntKind.wrap,IntKind.bits,IntKind.signed];omega
      have hq:((i + j:Nat):Int) ≤ 200000000:=by omega
      obtain ⟨hh,hhd⟩:∃ hh,hh = (i + j) / 2:=⟨_,rfl⟩
      obtain ⟨b,off,rfl,hb,hgl,q0,q1⟩:=row_at HG.out (show hh < n by omega)
      have b5:(hh:Int) < (n:Int):=by omega
      have b6:(0:Int) ≤ (hh:Int):=by omega
      have ad2:IntKind.i64.wrap ((hh:Int) + 1) = ((hh:Int) + 1):=by simp [IntKind.wrap,IntKind.bits,IntKind.signed];omega
      have p0:=(HB.out.cell (p:=⟨b,off + hh * 2,none⟩) hb).trans q0
      have p1:=(HB.out.cell (p:=⟨b,off + hh * 2 + 1,none⟩) hb).trans q1
      obtain ⟨lo,hlo⟩:∃ lo,G[hh].1 = lo:=⟨_,rfl⟩
      obtain ⟨hi,hhi⟩:∃ hi,G[hh].2 = hi:=⟨_,rfl⟩
      rw [hlo] at p0
      rw [hhi] at p1
      have HHI:=hid hhi
      clear q0 q1 hlo hhi
      have D82:=fun W => cmp82 lo hi x W
      have hcmp:Lib.compareInt hi x < 0 ↔ hi < x:=by
        unfold Lib.compareInt
        by_cases h1:hi < x
        · simp [h1]
        · by_cases h2:x < hi <;> simp [h1,h2]
      obtain ⟨cc,hcc⟩:∃ cc,Lib.compareInt hi x = cc:=⟨_,rfl⟩
      rw [hcc] at D82 hcmp
      have HCM:=hid hcmp
      clear hcc hcmp
      go_upto_region 5 with fail
      have e9:((i:Int) + (j:Int)) / 2 = (hh:Int):=by omega
      rw [e9]
      have HHD:=hid hhd
      clear e9 ad1 hhd hq
      by_cases hcl:cc < 0
      · have b7:decide (cc < 0) = true:=by simpa using hcl
        go_wp2_with (go_at_call 82;refine (D82 _).mono ?_;rintro e w' ⟨rfl,hbw⟩)
        have hhd:=HHD.out
        exact ⟨⟨hh + 1,j,by push_cast;rfl,rfl,by omega,hjn,fun q hq hqi => by
          have hx:=HCM.out.1 hcl
          exact HM.out q hh hgl (by omega) (by rw [HHI.out];exact hx),HJ.out,HB.out.trans (hbw.mono HB.out.size)⟩,by simp [intOf];omega⟩
      · have b7:decide (cc < 0) = false:=by simpa using hcl
        go_wp2_with (go_at_call 82;refine (D82 _).mono ?_;rintro e w' ⟨rfl,hbw⟩)
        have hhd:=HHD.out
        exact ⟨⟨i,hh,rfl,rfl,by omega,by omega,HI.out,fun q hq hqi => by
          have hx:¬ G[hh].2 < x:=by rw [HHI.out];exact fun h => by have:=HCM.out.2 h;omega
          have h9:¬ G[q].2 < x:=fun h => hx (HM.out hh q hq hqi h)
          omega,HB.out.trans (hbw.mono HB.out.size)⟩,by simp [intOf];omega⟩
    · have b1:decide ((i:Int) < (j:Int)) = false:=by simp;omega
      have hij2:i = j:=by omega
      subst hij2
      by_cases hin:i < n
      · have b3:decide ((i:Int) < (n:Int)) = true:=by simp;omega
        have b5:(i:Int) < (n:Int):=by omega
        have b6:(0:Int) ≤ (i:Int):=by omega
        obtain ⟨b,off,rfl,hb,hgl,q0,q1⟩:=row_at HG.out hin
        have p0:=(HB.out.cell (p:=⟨b,off + i * 2,none⟩) hb).trans q0
        have p1:=(HB.out.cell (p:=⟨b,off + i * 2 + 1,none⟩) hb).trans q1
        obtain ⟨lo,hlo⟩:∃ lo,G[i].1 = lo:=⟨_,rfl⟩
        obtain ⟨hi,hhi⟩:∃ hi,G[i].2 = hi:=⟨_,rfl⟩
        rw [hlo] at p0
        rw [hhi] at p1
        clear q0 q1 hlo hhi
        have D82:=fun W => cmp82 lo hi x W
        obtain ⟨cc,hcc⟩:∃ cc,Lib.compareInt hi x = cc:=⟨_,rfl⟩
        rw [hcc] at D82
        clear hcc
        go_wp2_with (go_at_call 82;refine (D82 _).mono ?_;rintro e w' ⟨rfl,hbw⟩)
        refine bodyPost_ret (results_tmp2 rfl _ _ _) rfl ?_
        exact ⟨i,_,rfl,hjn,HI.out,HJ.out,HB.out.trans (hbw.mono HB.out.size)⟩
      · have b3:decide ((i:Int) < (n:Int)) = false:=by simp;omega
        go_wp2_with fail
        refine bodyPost_ret (results_tmp2 rfl _ _ _) rfl ?_
        exact ⟨i,_,rfl,hjn,HI.out,HJ.out,HB.out⟩
theorem right_chain:∀ (R:List (Int × Int)) (m:Int),0 ≤ m → rightFrom m R = true → R.Pairwise fun x y => x.2 < y.1
  | [],_,_,_ => .nil
  | g :: t,m,hm,h => by
    simp only [rightFrom,Bool.and_eq_true] at h
    have h1:=(right_apart (g :: t) m hm (by simp only [rightFrom,Bool.and_eq_true];exact h)).1 g (by simp)
    have h2:0 ≤ g.2 + 2:=by have:=h1.1;simp only [Okr] at this;omega
    refine List.pairwise_cons.2 ⟨fun y hy => ?_,right_chain t _ h2 h.2⟩
    have h3:=((right_apart t _ h2 h.2).1 y hy).2
    omega
theorem right_sorted {R:List (Int × Int)} (h:rightB R = true):R.Pairwise fun x y => x.2 < y.1:=by
  simp only [rightB,Bool.and_eq_true,decide_eq_true_eq] at h
  exact right_chain R 0 (by omega) h.2
theorem in_search {R:List (Int × Int)} {r:Int} {j:Nat} (hr:rightB R = true) (h1:∀ q (hq:q < R.length),q < j → R[q].2 < r) (h2:∀ q (hq:q < R.length),j ≤ q → r ≤ R[q].2) :
    inB R r = true ↔ ∃ hj:j < R.length,R[j].1 ≤ r:=by
  obtain ⟨o1,-,-⟩:=right_okr hr
  have o2:=right_sorted hr
  unfold inB
  rw [List.any_eq_true]
  constructor
  · rintro ⟨x,hx,h3⟩
    obtain ⟨q,hq,rfl⟩:=List.getElem_of_mem hx
    simp at h3
    by_cases hqj:q < j
    · have:=h1 q hq hqj;omega
    · refine ⟨by omega,?_⟩
      by_cases e:j = q
      · subst e;exact h3.1
      · have h4:=List.pairwise_iff_getElem.1 o2 j q (by omega) hq (by omega)
        have h5:=o1 _ (List.getElem_mem (show j < R.length by omega))
        simp only [Okr] at h4 h5
        omega
  · rintro ⟨hj,h3⟩
    exact ⟨_,List.getElem_mem hj,by simp;exact ⟨h3,h2 j hj (Nat.le_refl _)⟩⟩
variable {N:Nat} {w:World} {mb:Nat} {ad:Option Addr} {n cp:Nat} {s k:Int} {tad:Option Addr} {tn tc:Nat} {l:List In} {tx:List Int} {K p:Nat} {bt:Int} {cb:Nat} {c:List Int} {S:MS} {nb:Nat} {vf:Value}
set_option maxRecDepth 100000 in
set_option maxHeartbeats 8000000 in
theorem fits59 {r1:Option Addr} {r2 r3:Nat} {R:List (Int × Int)} (h:MM N w mb ad n cp s k tad tn tc l tx K p bt cb c S nb vf) (hNw:N ≤ w.heap.size) (hp:p ≤ tn) (hR:RowAt w.heap.size w (.slice r1 r2 r3) R) (hl:r2 = R.length) (h5:r2 ≤ 5000) (hr:rightB R = true) :
    Calls Tryz.prog 59 #[.pointer (some ⟨mb,0,none⟩),.slice r1 r2 r3] w fun e w' => e = .returned (.bool (decide (p < tx.length) && inB R (tx.getD p 0))) ∧ Below w.heap.size w w':=by
  have k3:w.cell? ⟨mb,3,none⟩ = some (.slice tad tn tc):=Joins.cell_of_block h.box 3
  have k4:w.cell? ⟨mb,4,none⟩ = some (.int .i64 (p:Int)):=Joins.cell_of_block h.box 4
  have hmb:mb < w.heap.size:=(Array.getElem?_eq_some_iff.1 h.box).1
  obtain ⟨ht1,ht2,ht3⟩:=h.tx
  have htn:(tn:Int) ≤ 35184372088832:=by omega
  have HT1:=hid ht1
  have HR:=hid hR
  have HL:=hid hl
  have HRB:=hid hr
  clear h hR hl hr
  go_enter Tryz.func59,Tryz.ntmps59
  by_cases hpe:p = tn
  · have b1:decide ((p:Int) = (tn:Int)) = true:=by simp;omega
    have b2:((p:Int) == (tn:Int)) = true:=by simp;omega
    have e1:decide (p < tx.length) = false:=by have:=HT1.out;simp;omega
    rw [e1]
    clear ht3 ht1
    go_upto_region 1 with fail
    go_simp
    go_big_quiet (fail)
    go_wp2
    all_goals go_ret
    all_goals exact ⟨rfl,Below.draws _ _ _⟩
  · have b1:decide ((p:Int) = (tn:Int)) = false:=by simp;omega
    have b2:((p:Int) == (tn:Int)) = false:=by simp;omega
    have e1:decide (p < tx.length) = true:=by have:=HT1.out;simp;omega
    rw [e1]
    rcases ht3 with h0 | ⟨b,off,rfl,hbN,hc⟩
    · omega
    have kt:=hc p (by omega)
    have b3:(p:Int) < (tn:Int):=by omega
    obtain ⟨r,hr⟩:∃ r,r = tx.getD p 0:=⟨_,rfl⟩
    rw [← hr] at kt ⊢
    have HRR:=hid hr
    clear hc ht1 hr
    go_upto_region 1 with fail
    go_simp
    go_big_quiet (fail)
    go_upto_region 3 with fail
    go_simp
    go_big_quiet (fail)
    have D81:=fun W (hW:Below w.heap.size w W) => search82 (w:=W) (x:=r) (RowAt.below HR.out hW (Nat.le_refl _) hW.size) HL.out (by omega) (fun a b hb hab h => by
      obtain ⟨o1,-,-⟩:=right_okr HRB.out
      have o2:=right_sorted HRB.out
      by_cases e:a = b
      · subst e;exact h
      · have h4:=List.pairwise_iff_getElem.1 o2 a b (by omega) hb (by omega)
        have h5:=o1 _ (List.getElem_mem hb)
        simp only [Okr] at h4 h5
        omega)
    go_upto_region 5 with (go_at_call 81;(with_reducible refine (D81 _ ?_).mono ?_);(exact ⟨rfl,rfl,rfl,Nat.le_refl _,fun _ _ => rfl⟩);rintro e w1 ⟨j,bb,rfl,hj,z1,z2,z3⟩;have Z1:=hid z1;have Z2:=hid z2;have Z3:=hid z3;clear z1 z2 z3 D81)
    have hiff:=in_search HRB.out Z1.out Z2.out
    have HIF:=hid hiff
    clear hiff
    by_cases hin:j < r2
    · obtain ⟨b2,off2,rfl,hb2,hgl,q0,q1⟩:=row_at HR.out hin
      have b4:decide ((j:Int) < (r2:Int)) = true:=by simp;omega
      have b5:(j:Int) < (r2:Int):=by omega
      have p0:=(Z3.out.cell (p:=⟨b2,off2 + j * 2,none⟩) hb2).trans q0
      obtain ⟨l2,hl2⟩:∃ l2,R[j].1 = l2:=⟨_,rfl⟩
      rw [hl2] at p0
      have HL2:=hid hl2
      clear q0 q1 hl2
      by_cases hle:l2 ≤ r
      · have b7:decide (l2 ≤ r) = true:=by simpa using hle
        have b8:inB R r = true:=HIF.out.2 ⟨hgl,by rw [HL2.out];exact hle⟩
        have B8:=hid b8
        clear b8
        go_wp2
        all_goals go_ret
        all_goals exact ⟨by rw [B8.out];rfl,Z3.out.os,Z3.out.tape,Z3.out.output,Z3.out.size,Z3.out.block⟩
      · have b7:decide (l2 ≤ r) = false:=by simpa using hle
        have b8:inB R r = false:=by
          rw [← Bool.not_eq_true]
          exact fun h => by
            obtain ⟨h1,h2⟩:=HIF.out.1 h
            rw [HL2.out] at h2
            exact hle h2
        have B8:=hid b8
        clear b8
        go_wp2
        all_goals go_ret
        all_goals exact ⟨by rw [B8.out];rfl,Z3.out.os,Z3.out.tape,Z3.out.output,Z3.out.size,Z3.out.block⟩
    · have b4:decide ((j:Int) < (r2:Int)) = false:=by simp;omega
      have b8:inB R r = false:=by
        rw [← Bool.not_eq_true]
        exact fun h => by
          obtain ⟨h1,h2⟩:=HIF.out.1 h
          have:=HL.out
          omega
      have B8:=hid b8
      clear b8
      go_wp2
      all_goals go_ret
      all_goals exact ⟨by rw [B8.out];rfl,Z3.out.os,Z3.out.tape,Z3.out.output,Z3.out.size,Z3.out.block⟩
end Go.Proofs.YtjdbnoccdefnaaaGreat
