/- HELPERS: texts of ours put together. -/
import Derived.Test.YtjdbnoccdefnaaaGreatK34
namespace Go.Proofs.YtjdbnoccdefnaaaGreat
open Go.RowKit
set_option linter.unusedVariables false
set_option linter.unusedSimpArgs false
set_option maxRecDepth 100000 in
set_option maxHeartbeats 8000000 in
theorem apart32 {w:World} {aa ab:Option Addr} {na ca nb cb:Nat} {A B:List (Int × Int)} (hA:RowAt w.heap.size w (.slice aa na ca) A) (hB:RowAt w.heap.size w (.slice ab nb cb) B) (hna:na = A.length) (hnb:nb = B.length) (h5:na ≤ 100000000000000 ∧ nb ≤ 100000000000000) :
    Calls Tryz.prog 32 #[.slice aa na ca,.slice ab nb cb] w fun e w' => ∃ r,e = .returned (.bool r) ∧ Below w.heap.size w w' ∧ (r = true ↔ apartR A B):=by
  have HA:=hid hA
  have HB:=hid hB
  have HNA:=hid hna
  have HNB:=hid hnb
  clear hA hB hna hnb
  go_enter Tryz.func32,Tryz.ntmps32
  go_upto_region 2 with fail
  go_loopw [5] (fun y wq => ∃ i:Nat,y = .int .i64 (i:Int) ∧ i ≤ na ∧ Hid (Below w.heap.size w wq) ∧ Hid (∀ t (ht:t < A.length),t < i → ∀ b ∈ B,¬ (A[t].1 ≤ b.2 ∧ b.1 ≤ A[t].2))) (fun y _ => na - (intOf y).toNat)
  case atStart => exact ⟨0,rfl,by omega,Below.refl _ _,fun t ht h => (by omega)⟩
  case round =>
    obtain ⟨i,rfl,hi,HW,HQ⟩:=hrel
    by_cases hil:i < na
    · have b1:decide ((i:Int) < (na:Int)) = true:=by simp;omega
      have b2:(i:Int) < (na:Int):=by omega
      have ad1:IntKind.i64.wrap ((i:Int) + 1) = (i:Int) + 1:=by simp [IntKind.wrap,IntKind.bits,IntKind.signed];omega
      obtain ⟨b,off,rfl,hb,hgl,q0,q1⟩:=row_at HA.out hil
      obtain ⟨lo,hlo⟩:∃ lo,A[i].1 = lo:=⟨_,rfl⟩
      obtain ⟨hh,hhi⟩:∃ hh,A[i].2 = hh:=⟨_,rfl⟩
      rw [hlo] at q0
      rw [hhi] at q1
      have HLO:=hid hlo
      have HHI:=hid hhi
      clear hlo hhi
      go_upto_region 5 with fail
      go_loopw [6] (fun y wq => ∃ j:Nat,y = .int .i64 (j:Int) ∧ j ≤ nb ∧ Hid (Below w.heap.size w wq) ∧ Hid (∀ t (ht:t < B.length),t < j → ¬ (lo ≤ B[t].2 ∧ B[t].1 ≤ hh))) (fun y _ => nb - (intOf y).toNat)
      case atStart => exact ⟨0,rfl,by omega,HW.out,fun t ht h => (by omega)⟩
      case round =>
        clear HW
        obtain ⟨j,rfl,hj,HW,HR⟩:=hrel
        by_cases hjl:j < nb
        · have b3:decide ((j:Int) < (nb:Int)) = true:=by simp;omega
          have b4:(j:Int) < (nb:Int):=by omega
          have ad2:IntKind.i64.wrap ((j:Int) + 1) = (j:Int) + 1:=by simp [IntKind.wrap,IntKind.bits,IntKind.signed];omega
          obtain ⟨d,off2,rfl,hd,hdl,r0,r1⟩:=row_at HB.out hjl
          obtain ⟨lo2,hlo2⟩:∃ lo2,B[j].1 = lo2:=⟨_,rfl⟩
          obtain ⟨hh2,hhi2⟩:∃ hh2,B[j].2 = hh2:=⟨_,rfl⟩
          rw [hlo2] at r0
          rw [hhi2] at r1
          have p0:=(HW.out.cell (p:=⟨b,off + i * 2,none⟩) hb).trans q0
          have p1:=(HW.out.cell (p:=⟨b,off + i * 2 + 1,none⟩) hb).trans q1
          have s0:=(HW.out.cell (p:=⟨d,off2 + j * 2,none⟩) hd).trans r0
          have s1:=(HW.out.cell (p:=⟨d,off2 + j * 2 + 1,none⟩) hd).trans r1
          have HLO2:=hid hlo2
          have HHI2:=hid hhi2
          clear hlo2 hhi2 r0 r1
          have BQ:∀ m,RowKit.Below w.heap.size w (wr.drewN m):=fun m => ⟨HW.out.os,HW.out.tape,HW.out.output,HW.out.size,HW.out.block⟩
          by_cases c1:lo ≤ hh2
          · have e1:decide (lo ≤ hh2) = true:=by simpa using c1
            by_cases c2:lo2 ≤ hh
            · have e2:decide (lo2 ≤ hh) = true:=by simpa using c2
              go_upto_region 7 with fail
              go_simp
              go_big_quiet (fail)
              go_wp2
              go_ret
              exact ⟨false,rfl,BQ _,fun h => (by cases h),fun h => absurd ⟨by rw [HLO.out,HHI2.out];exact c1,by rw [HLO2.out,HHI.out];exact c2⟩ (h _ (List.getElem_mem hgl) _ (List.getElem_mem hdl))⟩
            · have e2:decide (lo2 ≤ hh) = false:=by simpa using c2
              go_upto_region 7 with fail
              go_simp
              go_big_quiet (fail)
              go_wp2
              refine ⟨⟨j + 1,by push_cast;rfl,by omega,BQ _,fun t ht h => ?_⟩,by simp [intOf];omega⟩
              by_cases e:t = j
              · subst e
                rw [HLO2.out]
                exact fun h => c2 h.2
              · exact HR.out t ht (by omega)
          · have e1:decide (lo ≤ hh2) = false:=by simpa using c1
            go_upto_region 7 with fail
            go_simp
            go_big_quiet (fail)
            go_wp2
            refine ⟨⟨j + 1,by push_cast;rfl,by omega,BQ _,fun t ht h => ?_⟩,by simp [intOf];omega⟩
            by_cases e:t = j
            · subst e
              rw [HHI2.out]
              exact fun h => c1 h.1
            · exact HR.out t ht (by omega)
        · have b3:decide ((j:Int) < (nb:Int)) = false:=by simp;omega
          go_wp2
          go_roundw
          case rel =>
            refine ⟨i + 1,by push_cast;rfl,by omega,HW.out,fun t ht h x hx => ?_⟩
            by_cases e:t = i
            · subst e
              obtain ⟨u,hu,rfl⟩:=List.getElem_of_mem hx
              rw [HLO.out,HHI.out]
              exact HR.out u hu (by have:=HNB.out;omega)
            · exact HQ.out t ht (by omega) x hx
          case measure => simp [intOf];omega
    · have b1:decide ((i:Int) < (na:Int)) = false:=by simp;omega
      go_wp2
      go_ret
      refine ⟨true,rfl,HW.out,fun _ x hx => ?_,fun _ => rfl⟩
      obtain ⟨t,ht,rfl⟩:=List.getElem_of_mem hx
      exact HQ.out t ht (by have:=HNA.out;omega)
end Go.Proofs.YtjdbnoccdefnaaaGreat
