/- HELPERS: texts of ours put together. -/
import Derived.Test.YtjdbnoccdefnaaaGreatK47
import Derived.Test.YtjdbnoccdefnaaaGreatK48
namespace Go.Proofs.YtjdbnoccdefnaaaGreat
open Go.RowKit Go.Lk
set_option linter.unusedVariables false
set_option linter.unusedSimpArgs false
def S00 (K:Nat):MS:=⟨some 0,List.replicate K 0,false,[],0,0⟩
theorem own_rep {W:World} {N b K:Nat} (h:RI b K K W) (hN:N ≤ b) (hK:K ≤ 1002):W.ownsRow N 3 1 (.slice (some ⟨b,0,none⟩) K K) K (I64 (List.replicate K (-1))):=by
  obtain ⟨arr,h1,h2,h3⟩:=h
  have e:arr = (I64 (List.replicate K (-1))).toArray:=by
    apply Array.ext_getElem?
    intro i
    by_cases hi:i < K
    · rw [h3 i hi];simp [I64,hi]
    · rw [Array.getElem?_eq_none (by omega),Array.getElem?_eq_none (by simp [I64];omega)]
  rw [e] at h1
  exact own_of h1 hN (by simp [I64]) (by unfold maxLen;omega)
theorem own_zero {w:World} {N K:Nat} (hN:N ≤ w.heap.size) (hK:K ≤ 1002):(w.alloc (.cells (madeCells #[.int .i64 0] K) 3)).ownsRow N 3 1 (.slice (some ⟨w.heap.size,0,none⟩) K K) K (I64 (List.replicate K 0)):=by
  have:=World.ownsRow_lit (base:=N) (e:=3) (size:=1) w (madeCells #[.int .i64 0] K) K hN (by unfold maxLen;omega) (by rw [size_madeCells];omega)
  rw [toList_madeCells_one] at this
  rw [show I64 (List.replicate K 0) = List.replicate K (.int .i64 0) by simp [I64]]
  exact this
theorem en43:∀ args w,(callFunc 43 args).run Tryz.prog w = .ok (.enter 43 args) w:=enter_of Tryz.func43 (by kernel_rfl) rfl
set_option maxRecDepth 100000 in
set_option maxHeartbeats 16000000 in
theorem new28 {w:World} {ad tad:Option Addr} {n c tn tc K:Nat} {s:Int} {l:List In} {tx:List Int} (hP:PI w w.heap.size ad n l) (hT:TxAt w.heap.size w tad tn tx) (hKa:1 ≤ K) (hKb:K ≤ 1002) :
    Calls Tryz.prog 28 #[pv ad n c s (K:Int),.slice tad tn tc] w fun e w' => ∃ mb cb nb,e = .returned (.pointer (some ⟨mb,0,none⟩)) ∧ Below w.heap.size w w' ∧ MO w.heap.size w' mb ad n c s (K:Int) tad tn tc l tx K 0 cb (List.replicate K (-1)) (S00 K) nb (.slice none 0 0):=by
  obtain ⟨p,hp⟩:∃ p,p = w.heap.size:=⟨_,rfl⟩
  obtain ⟨W0,hW0⟩:∃ W0,W0 = w.alloc (.cells #[.slice ad n c,.int .i64 s,.int .i64 (K:Int)] 24):=⟨_,rfl⟩
  have hbx:W0.heap[p]? = some (.cells #[.slice ad n c,.int .i64 s,.int .i64 (K:Int)] 24 (0,0)):=by rw [hW0,hp];exact heap_alloc_new w _
  have hz0:W0.heap.size = p + 1:=by rw [hW0,hp];simp
  have hw0:w.heap.size ≤ W0.heap.size:=by omega
  have hB0:Below w.heap.size w W0:=by rw [hW0];exact Joins.below_alloc1 w _
  have c0:W0.cell? ⟨p,0,none⟩ = some (.slice ad n c):=Joins.cell_of_block hbx 0
  have c1:W0.cell? ⟨p,1,none⟩ = some (.int .i64 s):=Joins.cell_of_block hbx 1
  have c2:W0.cell? ⟨p,2,none⟩ = some (.int .i64 (K:Int)):=Joins.cell_of_block hbx 2
  have hpl:p < W0.heap.size:=by omega
  have hmk:=run_make_row' (P:=Tryz.prog) 30 3 (.int .i64 0) 8 Tryz.underlying30 info3 rfl .i64 .i64 K (by omega) (by omega)
  have HB0:=hid hB0
  have HP:=hid hP
  have HT:=hid hT
  have HPE:=hid hp
  clear hbx hB0 hP hT hz0
  go_enter Tryz.func28,Tryz.ntmps28
  go_upto_region 1 with fail
  rw [← hW0,← hp]
  clear hW0 hp
  refine wp_region_lexT [0,1,3,4,6,7] 6 11 (fun V => V.cell? ⟨p,0,none⟩ = some (.slice ad n c) ∧ V.cell? ⟨p,1,none⟩ = some (.int .i64 s) ∧ V.cell? ⟨p,2,none⟩ = some (.int .i64 (K:Int))) (by decide +kernel) (by decide +kernel) rfl (by decide +kernel) (by exact ⟨c0,c1,c2⟩) ?_
  simp only [opsAt,opsNo,List.getElem?_toArray,List.getElem?_cons_zero,List.getElem?_cons_succ]
  iterate 6
    refine lex_cons ?_ rfl (fun V hV => ?_) (fun _ _ _ h => h) ?_
    rotate_left
    · obtain ⟨v0,v1,v2⟩:=hV
      go_simp <;> with_reducible rfl
    simp only [Act.put,List.setIfInBounds_toArray,List.set_cons_zero,List.set_cons_succ]
  refine lex_nil ?_
  obtain ⟨V0,hV0⟩:∃ V0,V0 = W0.drew:=⟨_,rfl⟩
  have PB0:Hid (Below W0.heap.size W0 V0):=by rw [hV0];exact ⟨rfl,rfl,rfl,Nat.le_refl _,fun _ _ => rfl⟩
  have hs0:W0.heap.size ≤ V0.heap.size:=PB0.out.size
  rw [← hV0]
  clear hV0
  refine wpAnyX_alt (i:=2) (j:=8) (by decide +kernel) rfl rfl (fun K1 hK1 => ?_) (fun K1 hK1 => ?_)
  · go_simp
    obtain ⟨xb,hxb⟩:∃ xb,xb = V0.heap.size:=⟨_,rfl⟩
    obtain ⟨V2,hV2⟩:∃ V2,V2 = V0.alloc (.cells #[.int .i64 (-1)] 3):=⟨_,rfl⟩
    have bl:Below V0.heap.size V0 V2:=by rw [hV2];exact Joins.below_alloc1 _ _
    have x2:V2.cell? ⟨xb,0,none⟩ = some (.int .i64 (-1)):=by rw [hV2,hxb];exact Joins.cell_of_block (heap_alloc_new _ _) 0
    have xl2:xb < V2.heap.size:=by rw [hV2,hxb];simp
    have hs2:=bl.size
    have PB2:=hid (PB0.out.trans (bl.mono hs0))
    have hs2:W0.heap.size ≤ V2.heap.size:=Nat.le_trans hs0 bl.size
    rw [← hxb,← hV2]
    clear hxb hV2 bl
    refine hK1.out _ _ (fun _ => ⟨(PB2.out.cell (p:=⟨p,0,none⟩) hpl).trans c0,(PB2.out.cell (p:=⟨p,1,none⟩) hpl).trans c1,(PB2.out.cell (p:=⟨p,2,none⟩) hpl).trans c2⟩) ?_
    refine wpAnyX_alt (i:=5) (j:=8) (by decide +kernel) rfl rfl (fun K3 hK3 => ?_) (fun K3 hK3 => ?_)
    · refine step_callG2 rfl 43 (.tmp 7) (.tmp 9) 30 3 rfl en43 ?_
      refine (repeat51g xb 1 K hKa (by omega) V2 x2 xl2).mono ?_
      rintro e V4 ⟨rfl,bl,z2⟩
      obtain ⟨cb,hcb⟩:∃ cb,cb = V2.heap.size:=⟨_,rfl⟩
      have RC4:=hid (own_rep (N:=w.heap.size) z2 (by omega) (by omega))
      rw [← hcb] at RC4
      have PB4:=hid (PB2.out.trans (bl.mono hs2))
      have hs4:W0.heap.size ≤ V4.heap.size:=Nat.le_trans hs2 bl.size
      rw [← hcb]
      clear bl z2 hcb x2 xl2
      refine .inl ⟨_,rfl,?_⟩
      refine hK3.out _ _ (fun _ => ⟨(PB4.out.cell (p:=⟨p,0,none⟩) hpl).trans c0,(PB4.out.cell (p:=⟨p,1,none⟩) hpl).trans c1,(PB4.out.cell (p:=⟨p,2,none⟩) hpl).trans c2⟩) ?_
      refine wpAnyX_one (i:=8) (by decide +kernel) rfl (fun K5 hK5 => ?_)
      go_simp
      obtain ⟨nb,hnb⟩:∃ nb,nb = V4.heap.size:=⟨_,rfl⟩
      obtain ⟨V6,hV6⟩:∃ V6,V6 = V4.alloc (.cells (madeCells #[.int .i64 0] K) 3):=⟨_,rfl⟩
      have bl:Below V4.heap.size V4 V6:=by rw [hV6];exact Joins.below_alloc1 _ _
      have RN6:=hid (own_zero (N:=w.heap.size) (w:=V4) (K:=K) (by omega) (by omega))
      rw [← hnb,← hV6] at RN6
      have RC6:=hid (row_kept RC4.out fun b hb => bl.block b (RC4.out.lt b hb).2)
      have hcn:cb ≠ nb:=fun e => by have:=(RC4.out.lt cb rfl).2;omega
      have PB6:=hid (PB4.out.trans (bl.mono hs4))
      have hs6:W0.heap.size ≤ V6.heap.size:=Nat.le_trans hs4 bl.size
      rw [← hnb,← hV6]
      clear hnb hV6 bl RC4
      refine hK5.out _ _ (fun _ => ⟨(PB6.out.cell (p:=⟨p,0,none⟩) hpl).trans c0,(PB6.out.cell (p:=⟨p,1,none⟩) hpl).trans c1,(PB6.out.cell (p:=⟨p,2,none⟩) hpl).trans c2⟩) ?_
      refine wpAnyX_one (i:=9) (by decide +kernel) rfl (fun K8 hK8 => ?_)
      go_simp
      refine hK8.out _ _ (fun _ => ⟨(PB6.out.cell (p:=⟨p,0,none⟩) hpl).trans c0,(PB6.out.cell (p:=⟨p,1,none⟩) hpl).trans c1,(PB6.out.cell (p:=⟨p,2,none⟩) hpl).trans c2⟩) ?_
      refine wpAnyX_one (i:=10) (by decide +kernel) rfl (fun K9 hK9 => ?_)
      go_simp
      obtain ⟨mb,hmb⟩:∃ mb,mb = V6.heap.size:=⟨_,rfl⟩
      obtain ⟨V7,hV7⟩:∃ V7,V7 = V6.alloc (.cells (mac ad n c s (K:Int) tad tn tc 0 0 cb K (S00 K) nb (.slice none 0 0)) 62):=⟨_,rfl⟩
      have bl:Below V6.heap.size V6 V7:=by rw [hV7];exact Joins.below_alloc1 _ _
      have PB7:=hid (PB6.out.trans (bl.mono hs6))
      have hx:V7.heap[mb]? = some (.cells (mac ad n c s (K:Int) tad tn tc 0 0 cb K (S00 K) nb (.slice none 0 0)) 62 (0,0)):=by rw [hV7,hmb];exact heap_alloc_new _ _
      have RC7:=hid (row_kept RC6.out fun b hb => bl.block b (RC6.out.lt b hb).2)
      have RN7:=hid (row_kept RN6.out fun b hb => bl.block b (RN6.out.lt b hb).2)
      have hcl:=(RC6.out.lt cb rfl).2
      have hnl2:=(RN6.out.lt nb rfl).2
      have hMO:MO w.heap.size V7 mb ad n c s (K:Int) tad tn tc l tx K 0 cb (List.replicate K (-1)) (S00 K) nb (.slice none 0 0):=MO.mk (bt:=0) (o:=fun _ => True) hx (by omega) RC7.out RN7.out (fun e => by cases e) (fun _ => rfl) (by omega) (by omega) hcn ((HP.out.kept HB0.out (Nat.le_refl _)).kept (PB7.out.mono hw0) (Nat.le_refl _)) ((HT.out.below HB0.out).below (PB7.out.mono hw0))
      have HMO:=hid hMO
      have hK:V6.alloc (.cells #[.slice ad n c,.int .i64 s,.int .i64 (K:Int),.slice tad tn tc,.int .i64 0,.int .i64 0,.slice (some ⟨cb,0,none⟩) K K,.int .i64 0,.slice (some ⟨nb,0,none⟩) K K,.bool false,.slice none 0 0,.int .i64 0,.int .i64 0] 62) = V7:=by rw [hV7];rfl
      rw [hK,← hmb]
      clear hK hV7 hmb hx bl hMO RC6 RC7 RN6 RN7
      refine hK9.out _ _ (fun _ => ⟨(PB7.out.cell (p:=⟨p,0,none⟩) hpl).trans c0,(PB7.out.cell (p:=⟨p,1,none⟩) hpl).trans c1,(PB7.out.cell (p:=⟨p,2,none⟩) hpl).trans c2⟩) ?_
      refine wpAnyX_one (i:=11) (by decide +kernel) rfl (fun K10 hK10 => ?_)
      go_simp
      refine hK10.out _ _ (fun h => absurd rfl h) ?_
      refine ⟨by kernel_rfl,?_⟩
      clear hK8 K8 hK9 K9 hK10 K10
      go_wp2
      go_ret
      exact ⟨mb,cb,nb,rfl,HB0.out.trans (PB7.out.mono hw0),HMO.out⟩
    · go_simp
      obtain ⟨nb,hnb⟩:∃ nb,nb = V2.heap.size:=⟨_,rfl⟩
      obtain ⟨V8,hV8⟩:∃ V8,V8 = V2.alloc (.cells (madeCells #[.int .i64 0] K) 3):=⟨_,rfl⟩
      have bl:Below V2.heap.size V2 V8:=by rw [hV8];exact Joins.below_alloc1 _ _
      have RN8:=hid (own_zero (N:=w.heap.size) (w:=V2) (K:=K) (by omega) (by omega))
      rw [← hnb,← hV8] at RN8
      have x8:=(bl.cell (p:=⟨xb,0,none⟩) xl2).trans x2
      have xl8:=Nat.lt_of_lt_of_le xl2 bl.size
      have PB8:=hid (PB2.out.trans (bl.mono hs2))
      have hs8:W0.heap.size ≤ V8.heap.size:=Nat.le_trans hs2 bl.size
      rw [← hnb,← hV8]
      clear hnb hV8 bl x2 xl2
      refine hK3.out _ _ (fun _ => ⟨(PB8.out.cell (p:=⟨p,0,none⟩) hpl).trans c0,(PB8.out.cell (p:=⟨p,1,none⟩) hpl).trans c1,(PB8.out.cell (p:=⟨p,2,none⟩) hpl).trans c2⟩) ?_
      refine wpAnyX_one (i:=5) (by decide +kernel) rfl (fun K9 hK9 => ?_)
      refine step_callG2 rfl 43 (.tmp 7) (.tmp 9) 30 3 rfl en43 ?_
      refine (repeat51g xb 1 K hKa (by omega) V8 x8 xl8).mono ?_
      rintro e V10 ⟨rfl,bl,z2⟩
      obtain ⟨cb,hcb⟩:∃ cb,cb = V8.heap.size:=⟨_,rfl⟩
      have RC10:=hid (own_rep (N:=w.heap.size) z2 (by omega) (by omega))
      rw [← hcb] at RC10
      have RN10:=hid (row_kept RN8.out fun b hb => bl.block b (RN8.out.lt b hb).2)
      have hcn:cb ≠ nb:=fun e => by have:=(RN8.out.lt nb rfl).2;omega
      have PB10:=hid (PB8.out.trans (bl.mono hs8))
      have hs10:W0.heap.size ≤ V10.heap.size:=Nat.le_trans hs8 bl.size
      rw [← hcb]
      clear bl z2 hcb x8 xl8 RN8
      refine .inl ⟨_,rfl,?_⟩
      refine hK9.out _ _ (fun _ => ⟨(PB10.out.cell (p:=⟨p,0,none⟩) hpl).trans c0,(PB10.out.cell (p:=⟨p,1,none⟩) hpl).trans c1,(PB10.out.cell (p:=⟨p,2,none⟩) hpl).trans c2⟩) ?_
      refine wpAnyX_one (i:=9) (by decide +kernel) rfl (fun K8 hK8 => ?_)
      go_simp
      refine hK8.out _ _ (fun _ => ⟨(PB10.out.cell (p:=⟨p,0,none⟩) hpl).trans c0,(PB10.out.cell (p:=⟨p,1,none⟩) hpl).trans c1,(PB10.out.cell (p:=⟨p,2,none⟩) hpl).trans c2⟩) ?_
      refine wpAnyX_one (i:=10) (by decide +kernel) rfl (fun K9 hK9 => ?_)
      go_simp
      obtain ⟨mb,hmb⟩:∃ mb,mb = V10.heap.size:=⟨_,rfl⟩
      obtain ⟨V11,hV11⟩:∃ V11,V11 = V10.alloc (.cells (mac ad n c s (K:Int) tad tn tc 0 0 cb K (S00 K) nb (.slice none 0 0)) 62):=⟨_,rfl⟩
      have bl:Below V10.heap.size V10 V11:=by rw [hV11];exact Joins.below_alloc1 _ _
      have PB11:=hid (PB10.out.trans (bl.mono hs10))
      have hx:V11.heap[mb]? = some (.cells (mac ad n c s (K:Int) tad tn tc 0 0 cb K (S00 K) nb (.slice none 0 0)) 62 (0,0)):=by rw [hV11,hmb];exact heap_alloc_new _ _
      have RC11:=hid (row_kept RC10.out fun b hb => bl.block b (RC10.out.lt b hb).2)
      have RN11:=hid (row_kept RN10.out fun b hb => bl.block b (RN10.out.lt b hb).2)
      have hcl:=(RC10.out.lt cb rfl).2
      have hnl2:=(RN10.out.lt nb rfl).2
      have hMO:MO w.heap.size V11 mb ad n c s (K:Int) tad tn tc l tx K 0 cb (List.replicate K (-1)) (S00 K) nb (.slice none 0 0):=MO.mk (bt:=0) (o:=fun _ => True) hx (by omega) RC11.out RN11.out (fun e => by cases e) (fun _ => rfl) (by omega) (by omega) hcn ((HP.out.kept HB0.out (Nat.le_refl _)).kept (PB11.out.mono hw0) (Nat.le_refl _)) ((HT.out.below HB0.out).below (PB11.out.mono hw0))
      have HMO:=hid hMO
      have hK:V10.alloc (.cells #[.slice ad n c,.int .i64 s,.int .i64 (K:Int),.slice tad tn tc,.int .i64 0,.int .i64 0,.slice (some ⟨cb,0,none⟩) K K,.int .i64 0,.slice (some ⟨nb,0,none⟩) K K,.bool false,.slice none 0 0,.int .i64 0,.int .i64 0] 62) = V11:=by rw [hV11];rfl
      rw [hK,← hmb]
      clear hK hV11 hmb hx bl hMO RC10 RC11 RN10 RN11
      refine hK9.out _ _ (fun _ => ⟨(PB11.out.cell (p:=⟨p,0,none⟩) hpl).trans c0,(PB11.out.cell (p:=⟨p,1,none⟩) hpl).trans c1,(PB11.out.cell (p:=⟨p,2,none⟩) hpl).trans c2⟩) ?_
      refine wpAnyX_one (i:=11) (by decide +kernel) rfl (fun K10 hK10 => ?_)
      go_simp
      refine hK10.out _ _ (fun h => absurd rfl h) ?_
      refine ⟨by kernel_rfl,?_⟩
      clear hK8 K8 hK9 K9 hK10 K10
      go_wp2
      go_ret
      exact ⟨mb,cb,nb,rfl,HB0.out.trans (PB11.out.mono hw0),HMO.out⟩
  · go_simp
    obtain ⟨nb,hnb⟩:∃ nb,nb = V0.heap.size:=⟨_,rfl⟩
    obtain ⟨V12,hV12⟩:∃ V12,V12 = V0.alloc (.cells (madeCells #[.int .i64 0] K) 3):=⟨_,rfl⟩
    have bl:Below V0.heap.size V0 V12:=by rw [hV12];exact Joins.below_alloc1 _ _
    have RN12:=hid (own_zero (N:=w.heap.size) (w:=V0) (K:=K) (by omega) (by omega))
    rw [← hnb,← hV12] at RN12
    have PB12:=hid (PB0.out.trans (bl.mono hs0))
    have hs12:W0.heap.size ≤ V12.heap.size:=Nat.le_trans hs0 bl.size
    rw [← hnb,← hV12]
    clear hnb hV12 bl
    refine hK1.out _ _ (fun _ => ⟨(PB12.out.cell (p:=⟨p,0,none⟩) hpl).trans c0,(PB12.out.cell (p:=⟨p,1,none⟩) hpl).trans c1,(PB12.out.cell (p:=⟨p,2,none⟩) hpl).trans c2⟩) ?_
    refine wpAnyX_one (i:=2) (by decide +kernel) rfl (fun K13 hK13 => ?_)
    go_simp
    obtain ⟨xb,hxb⟩:∃ xb,xb = V12.heap.size:=⟨_,rfl⟩
    obtain ⟨V14,hV14⟩:∃ V14,V14 = V12.alloc (.cells #[.int .i64 (-1)] 3):=⟨_,rfl⟩
    have bl:Below V12.heap.size V12 V14:=by rw [hV14];exact Joins.below_alloc1 _ _
    have x14:V14.cell? ⟨xb,0,none⟩ = some (.int .i64 (-1)):=by rw [hV14,hxb];exact Joins.cell_of_block (heap_alloc_new _ _) 0
    have xl14:xb < V14.heap.size:=by rw [hV14,hxb];simp
    have hs14:=bl.size
    have RN14:=hid (row_kept RN12.out fun b hb => bl.block b (RN12.out.lt b hb).2)
    have PB14:=hid (PB12.out.trans (bl.mono hs12))
    have hs14:W0.heap.size ≤ V14.heap.size:=Nat.le_trans hs12 bl.size
    rw [← hxb,← hV14]
    clear hxb hV14 bl RN12
    refine hK13.out _ _ (fun _ => ⟨(PB14.out.cell (p:=⟨p,0,none⟩) hpl).trans c0,(PB14.out.cell (p:=⟨p,1,none⟩) hpl).trans c1,(PB14.out.cell (p:=⟨p,2,none⟩) hpl).trans c2⟩) ?_
    refine wpAnyX_one (i:=5) (by decide +kernel) rfl (fun K15 hK15 => ?_)
    refine step_callG2 rfl 43 (.tmp 7) (.tmp 9) 30 3 rfl en43 ?_
    refine (repeat51g xb 1 K hKa (by omega) V14 x14 xl14).mono ?_
    rintro e V16 ⟨rfl,bl,z2⟩
    obtain ⟨cb,hcb⟩:∃ cb,cb = V14.heap.size:=⟨_,rfl⟩
    have RC16:=hid (own_rep (N:=w.heap.size) z2 (by omega) (by omega))
    rw [← hcb] at RC16
    have RN16:=hid (row_kept RN14.out fun b hb => bl.block b (RN14.out.lt b hb).2)
    have hcn:cb ≠ nb:=fun e => by have:=(RN14.out.lt nb rfl).2;omega
    have PB16:=hid (PB14.out.trans (bl.mono hs14))
    have hs16:W0.heap.size ≤ V16.heap.size:=Nat.le_trans hs14 bl.size
    rw [← hcb]
    clear bl z2 hcb x14 xl14 RN14
    refine .inl ⟨_,rfl,?_⟩
    refine hK15.out _ _ (fun _ => ⟨(PB16.out.cell (p:=⟨p,0,none⟩) hpl).trans c0,(PB16.out.cell (p:=⟨p,1,none⟩) hpl).trans c1,(PB16.out.cell (p:=⟨p,2,none⟩) hpl).trans c2⟩) ?_
    refine wpAnyX_one (i:=9) (by decide +kernel) rfl (fun K8 hK8 => ?_)
    go_simp
    refine hK8.out _ _ (fun _ => ⟨(PB16.out.cell (p:=⟨p,0,none⟩) hpl).trans c0,(PB16.out.cell (p:=⟨p,1,none⟩) hpl).trans c1,(PB16.out.cell (p:=⟨p,2,none⟩) hpl).trans c2⟩) ?_
    refine wpAnyX_one (i:=10) (by decide +kernel) rfl (fun K9 hK9 => ?_)
    go_simp
    obtain ⟨mb,hmb⟩:∃ mb,mb = V16.heap.size:=⟨_,rfl⟩
    obtain ⟨V17,hV17⟩:∃ V17,V17 = V16.alloc (.cells (mac ad n c s (K:Int) tad tn tc 0 0 cb K (S00 K) nb (.slice none 0 0)) 62):=⟨_,rfl⟩
    have bl:Below V16.heap.size V16 V17:=by rw [hV17];exact Joins.below_alloc1 _ _
    have PB17:=hid (PB16.out.trans (bl.mono hs16))
    have hx:V17.heap[mb]? = some (.cells (mac ad n c s (K:Int) tad tn tc 0 0 cb K (S00 K) nb (.slice none 0 0)) 62 (0,0)):=by rw [hV17,hmb];exact heap_alloc_new _ _
    have RC17:=hid (row_kept RC16.out fun b hb => bl.block b (RC16.out.lt b hb).2)
    have RN17:=hid (row_kept RN16.out fun b hb => bl.block b (RN16.out.lt b hb).2)
    have hcl:=(RC16.out.lt cb rfl).2
    have hnl2:=(RN16.out.lt nb rfl).2
    have hMO:MO w.heap.size V17 mb ad n c s (K:Int) tad tn tc l tx K 0 cb (List.replicate K (-1)) (S00 K) nb (.slice none 0 0):=MO.mk (bt:=0) (o:=fun _ => True) hx (by omega) RC17.out RN17.out (fun e => by cases e) (fun _ => rfl) (by omega) (by omega) hcn ((HP.out.kept HB0.out (Nat.le_refl _)).kept (PB17.out.mono hw0) (Nat.le_refl _)) ((HT.out.below HB0.out).below (PB17.out.mono hw0))
    have HMO:=hid hMO
    have hK:V16.alloc (.cells #[.slice ad n c,.int .i64 s,.int .i64 (K:Int),.slice tad tn tc,.int .i64 0,.int .i64 0,.slice (some ⟨cb,0,none⟩) K K,.int .i64 0,.slice (some ⟨nb,0,none⟩) K K,.bool false,.slice none 0 0,.int .i64 0,.int .i64 0] 62) = V17:=by rw [hV17];rfl
    rw [hK,← hmb]
    clear hK hV17 hmb hx bl hMO RC16 RC17 RN16 RN17
    refine hK9.out _ _ (fun _ => ⟨(PB17.out.cell (p:=⟨p,0,none⟩) hpl).trans c0,(PB17.out.cell (p:=⟨p,1,none⟩) hpl).trans c1,(PB17.out.cell (p:=⟨p,2,none⟩) hpl).trans c2⟩) ?_
    refine wpAnyX_one (i:=11) (by decide +kernel) rfl (fun K10 hK10 => ?_)
    go_simp
    refine hK10.out _ _ (fun h => absurd rfl h) ?_
    refine ⟨by kernel_rfl,?_⟩
    clear hK8 K8 hK9 K9 hK10 K10
    go_wp2
    go_ret
    exact ⟨mb,cb,nb,rfl,HB0.out.trans (PB17.out.mono hw0),HMO.out⟩
end Go.Proofs.YtjdbnoccdefnaaaGreat
