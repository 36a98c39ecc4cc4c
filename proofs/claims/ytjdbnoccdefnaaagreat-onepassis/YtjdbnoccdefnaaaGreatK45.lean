/- HELPERS: texts of ours put together. -/
import Derived.Test.YtjdbnoccdefnaaaGreatK43
import Derived.Test.YtjdbnoccdefnaaaGreatK44
namespace Go.Proofs.YtjdbnoccdefnaaaGreat
open Go.RowKit Go.Lk
set_option linter.unusedVariables false
set_option linter.unusedSimpArgs false
variable {N:Nat} {w:World} {mb:Nat} {ad:Option Addr} {n cp:Nat} {s k:Int} {tad:Option Addr} {tn tc:Nat} {l:List In} {tx:List Int} {K p:Nat} {bt:Int} {cb:Nat} {c:List Int} {S:MS} {nb:Nat} {vf:Value}
def CmPost (N:Nat) (w:World) (mb:Nat) (ad:Option Addr) (n cp:Nat) (s k:Int) (tad:Option Addr) (tn tc:Nat) (l:List In) (tx:List Int) (K p cb:Nat) (c:List Int) (nb:Nat) (b:Bool) (S':MS) (e:Ending) (w':World):Prop:=
  e = .returned (.bool b) ∧ ∃ bt' vf',MM N w' mb ad n cp s k tad tn tc l tx K p bt' cb c S' nb vf' ∧ Below N w w'
theorem MM.clen (h:MM N w mb ad n cp s k tad tn tc l tx K p bt cb c S nb vf):c.length = K:=by have:=h.rc.1;simpa [I64] using this
theorem MM.setCap {a:Nat} {v:Int} (h:MM N w mb ad n cp s k tad tn tc l tx K p bt cb c S nb vf) (ha:a < K):MM N (w.setCell ⟨cb,a,none⟩ (.int .i64 v)) mb ad n cp s k tad tn tc l tx K p bt cb (c.set a v) S nb vf:=by
  have ho:∀ b,b ≠ cb → (w.setCell ⟨cb,a,none⟩ (.int .i64 v)).heap[b]? = w.heap[b]?:=fun b hb => heap_setCell_other _ _ _ _ hb
  have hcl:=(h.rc.lt cb rfl).1
  have hB:Below N w (w.setCell ⟨cb,a,none⟩ (.int .i64 v)):=(Below.refl N w).setCell (p:=⟨cb,a,none⟩) hcl _
  refine ⟨(ho mb (fun e => h.d1 e.symm)).trans h.box,h.lo,?_,row_kept h.rn fun b hb => ho b ?_,fun e => ?_,h.nf,h.d1,h.d2,h.d3,h.bt,h.pi.kept hB (Nat.le_refl _),h.tx.below hB⟩
  · have h1:=row_setC h.rc a (.int .i64 v)
    rw [show I64 (c.set a v) = (I64 c).set a (.int .i64 v) by simp [I64,List.map_set]]
    exact h1
  · simp [Value.ownBlock] at hb;rw [← hb];exact fun e => h.d3 e.symm
  · obtain ⟨fb,h1,h2,h3,h4,h5⟩:=h.rf e
    exact ⟨fb,h1,row_kept h2 fun b hb => ho b (by simp [Value.ownBlock] at hb;rw [← hb];exact h4),h3,h4,h5⟩
theorem MM.capAt {a:Nat} (h:MM N w mb ad n cp s k tad tn tc l tx K p bt cb c S nb vf) (ha:a < K):w.cell? ⟨cb,a,none⟩ = some (.int .i64 (c.getD a 0)) ∧ w.frozen? ⟨cb,a,none⟩ = false:=by
  have hl:=h.clen
  refine ⟨?_,?_⟩
  · rw [h.rc.cellAt a (by omega)]
    simp [I64,List.getD_eq_getElem?_getD,List.getElem?_eq_getElem (show a < c.length by omega)]
  · obtain ⟨g1,-,-,-⟩:=own_all h.rc
    exact Joins.unfrozen_of_block g1 a
theorem set_same (c:List Int) (a:Nat):c.set a (c.getD a 0) = c:=by
  apply List.ext_getElem?
  intro j
  rw [List.getElem?_set]
  split
  · rename_i e
    subst e
    split
    · rename_i h9
      simp [List.getD_eq_getElem?_getD,List.getElem?_eq_getElem h9]
    · rename_i h9
      rw [List.getElem?_eq_none (by omega)]
  · rfl
theorem en44:∀ args w,(callFunc 44 args).run Tryz.prog w = .ok (.enter 44 args) w:=enter_of Tryz.func44 (by kernel_rfl) rfl
set_option maxRecDepth 100000 in
set_option maxHeartbeats 8000000 in
theorem note57 {i g of a:Nat} {xx:Nat} {b:Bool} {S':MS} (h:MM N w mb ad n cp s k tad tn tc l tx K p bt cb c S nb vf) (hN:N ≤ w.heap.size) (hg:g < N) (ha:a < K)
    (k1:∀ W,Below N w W → W.cell? ⟨g,of + i * 5 + 1,none⟩ = some (.int .i64 (xx:Int))) (k3:∀ W,Below N w W → W.cell? ⟨g,of + i * 5 + 3,none⟩ = some (.int .i64 (a:Int)))
    (IH:∀ W bt vf,N ≤ W.heap.size → MM N W mb ad n cp s k tad tn tc l tx K p bt cb (c.set a (p:Int)) S nb vf → Calls Tryz.prog 44 #[.pointer (some ⟨mb,0,none⟩),.int .i64 (xx:Int)] W (CmPost N W mb ad n cp s k tad tn tc l tx K p cb (c.set a (p:Int)) nb b S')) :
    Calls Tryz.prog 57 #[.pointer (some ⟨mb,0,none⟩),.pointer (some ⟨g,of + i * 5,none⟩)] w (CmPost N w mb ad n cp s k tad tn tc l tx K p cb c nb b S'):=by
  obtain ⟨q1,f1⟩:=h.capAt ha
  obtain ⟨old,hold⟩:∃ old,old = c.getD a 0:=⟨_,rfl⟩
  rw [← hold] at q1
  have m4:w.cell? ⟨mb,4,none⟩ = some (.int .i64 (p:Int)):=h.cell 4
  have m6:w.cell? ⟨mb,6,none⟩ = some (.slice (some ⟨cb,0,none⟩) K K):=h.cell 6
  have n1:=k1 w (Below.refl _ _)
  have n3:=k3 w (Below.refl _ _)
  have b1:(a:Int) < (K:Int):=by omega
  have HM:=hid h
  have HK1:=hid k1
  have HK3:=hid k3
  have HOLD:=hid hold
  clear h hold k1 k3
  go_enter Tryz.func57,Tryz.ntmps57
  go_upto_region 1 with fail
  go_simp
  go_big_quiet (fail)
  go_upto_region 2 with fail
  refine wp_region_lexT [0,1,2,3,4,5,6,7,8,9,10,11,12] 1 13 (fun V => V.cell? ⟨mb,4,none⟩ = some (.int .i64 (p:Int)) ∧ V.cell? ⟨mb,6,none⟩ = some (.slice (some ⟨cb,0,none⟩) K K) ∧ V.cell? ⟨g,of + i * 5 + 3,none⟩ = some (.int .i64 (a:Int))) (by decide +kernel) (by decide +kernel) rfl (by decide +kernel) (by exact ⟨m4,m6,n3⟩) ?_
  simp only [opsAt,opsNo,List.getElem?_toArray,List.getElem?_cons_zero,List.getElem?_cons_succ]
  iterate 13
    refine lex_cons ?_ rfl (fun V hV => ?_) (fun _ _ _ h => h) ?_
    rotate_left
    · obtain ⟨v0,v1,v2⟩:=hV
      go_simp <;> with_reducible rfl
    simp only [Act.put,List.setIfInBounds_toArray,List.set_cons_zero,List.set_cons_succ]
  refine lex_nil ?_
  refine wpAnyX_one (i:=13) (by decide +kernel) rfl (fun K1 hK1 => ?_)
  go_simp
  refine hK1.out _ _ (fun h => absurd rfl h) ?_
  refine ⟨by decide +kernel,?_⟩
  clear hK1 K1
  obtain ⟨W2,hW2⟩:∃ W2,W2 = (w.drewN (nq + 1)).setCell ⟨cb,a,none⟩ (.int .i64 (p:Int)):=⟨_,rfl⟩
  have hM2:MM N W2 mb ad n cp s k tad tn tc l tx K p bt cb (c.set a (p:Int)) S nb vf:=by rw [hW2];exact (HM.out.at_ (Below.draws w w.heap.size (nq + 1))).setCap ha
  have hB2:Below N w W2:=by rw [hW2];exact (Below.draws w N (nq + 1)).setCell (p:=⟨cb,a,none⟩) (HM.out.rc.lt cb rfl).1 _
  have hN2:N ≤ W2.heap.size:=Nat.le_trans hN hB2.size
  have j1:=HK1.out W2 hB2
  have D44:=IH W2 bt vf hN2 hM2
  have HB2:=hid hB2
  rw [← hW2]
  clear hW2 hM2 hB2 hN2 q1 f1 m4 m6 n1 n3
  go_upto_region 4 with (go_at_call 44;(with_reducible refine D44.mono ?_);rintro e w3 ⟨rfl,bt3,vf3,x1,x2⟩;have X1:=hid x1;have X2:=hid x2;clear x1 x2 D44)
  have m6:w3.cell? ⟨mb,6,none⟩ = some (.slice (some ⟨cb,0,none⟩) K K):=X1.out.cell 6
  obtain ⟨q1,f1⟩:=X1.out.capAt ha
  have hB3:Below N w w3:=HB2.out.trans X2.out
  have n3:=HK3.out w3 hB3
  have HB3:=hid hB3
  clear hB3
  refine wp_region_lexT [0,1,2,3,4,5,6,7,8,9] 1 10 (fun V => V.cell? ⟨mb,6,none⟩ = some (.slice (some ⟨cb,0,none⟩) K K) ∧ V.cell? ⟨g,of + i * 5 + 3,none⟩ = some (.int .i64 (a:Int))) (by decide +kernel) (by decide +kernel) rfl (by decide +kernel) (by exact ⟨m6,n3⟩) ?_
  simp only [opsAt,opsNo,List.getElem?_toArray,List.getElem?_cons_zero,List.getElem?_cons_succ]
  iterate 10
    refine lex_cons ?_ rfl (fun V hV => ?_) (fun _ _ _ h => h) ?_
    rotate_left
    · obtain ⟨v0,v1⟩:=hV
      go_simp <;> with_reducible rfl
    simp only [Act.put,List.setIfInBounds_toArray,List.set_cons_zero,List.set_cons_succ]
  refine lex_nil ?_
  refine wpAnyX_one (i:=10) (by decide +kernel) rfl (fun K1 hK1 => ?_)
  go_simp
  refine hK1.out _ _ (fun h => absurd rfl h) ?_
  refine ⟨by decide +kernel,?_⟩
  clear hK1 K1
  obtain ⟨W4,hW4⟩:∃ W4,W4 = (w3.setCell ⟨cb,a,none⟩ (.int .i64 old)).drew:=⟨_,rfl⟩
  have hM4:MM N W4 mb ad n cp s k tad tn tc l tx K p bt3 cb c S' nb vf3:=by
    have h1:=(X1.out.setCap (v:=old) ha).at_ (Below.draws _ _ 1)
    rw [List.set_set,show c.set a old = c by rw [HOLD.out];exact set_same c a] at h1
    rw [hW4]
    exact h1
  have hB4:Below N w W4:=by rw [hW4];exact (HB3.out.setCell (p:=⟨cb,a,none⟩) (HM.out.rc.lt cb rfl).1 _).trans (Below.draws _ N 1)
  have HM4:=hid hM4
  have HB4:=hid hB4
  rw [← hW4]
  clear hW4 hM4 hB4
  go_wp2
  go_ret
  exact ⟨rfl,bt3,vf3,HM4.out,HB4.out⟩
end Go.Proofs.YtjdbnoccdefnaaaGreat
