/- HELPERS: texts of ours put together. -/
import Derived.Test.YtjdbnoccdefnaaaGreatK51
namespace Go.Proofs.YtjdbnoccdefnaaaGreat
open Go.RowKit
set_option linter.unusedVariables false
set_option linter.unusedSimpArgs false
abbrev mkI (k:Int):Iv:=⟨k,0,0,0,none,0,0⟩
structure LO (w:World) (base:Nat) (z:Value) (N:Iv) (I:In):Prop where
  op:N.op = I.op
  x:N.x = I.x
  y:N.y = I.y
  a:N.a = I.a
  len:N.r2 = I.R.length
  sm:N.r2 * 16 ≤ 140737488351232
  rr:w.ownsRow base 50 2 (.slice N.r1 (I.R.length + 2) N.r3) (I.R.length + 2) (O2 (I.R ++ M2))
  ne:∀ b,N.rv.ownBlock = some b → z.ownBlock ≠ some b
structure PL (w:World) (base:Nat) (ad:Option Addr) (n c:Nat) (l:List In) (MS:List Iv):Prop where
  len:n = l.length
  lms:MS.length = n
  row:w.ownsRow base 43 5 (.slice ad (n + 2) c) (n + 2) ((MS ++ [mkI (-77),mkI (-78)]).flatMap Iv.cs)
  lo:∀ j (hj:j < l.length),LO w base (.slice ad (n + 2) c) (MS.getD j default) l[j]
  pw:∀ j j' b,j < n → j' < n → j ≠ j' → (MS.getD j default).rv.ownBlock = some b → (MS.getD j' default).rv.ownBlock ≠ some b
theorem RowAt.kept {w w':World} {N:Nat} {v:Value} {L:List (Int × Int)} (h:RowAt N w v L) (hk:∀ b,b < N → w'.heap[b]? = w.heap[b]?):RowAt N w' v L:=by
  obtain ⟨ad,cap,e,h1⟩:=h
  refine ⟨ad,cap,e,h1.imp id ?_⟩
  rintro ⟨b,off,e1,h2,h3,h4⟩
  exact ⟨b,off,e1,h2,fun k hk' => (cell_eq (hk b h2) _).trans (h3 k hk'),fun k hk' => (cell_eq (hk b h2) _).trans (h4 k hk')⟩
theorem make49 (c:Nat) (hc:c * 16 ≤ 140737488355328) (w:World):(Instr.makeSlice 41 (.int .i64 0) (.int .i64 (c:Int))).run Tryz.prog w = .ok (.slice (some ⟨w.heap.size,0,none⟩) 0 c) (w.alloc (.cells (madeCells (Value.agg #[.int .i64 0,.int .i64 0]).cells (c * 2)) 50)):=by
  obtain ⟨i0,hi0,hz0,hz1,hz2⟩:=info_parts info49
  have h:=run_make (P:=Tryz.prog) w 41 50 i0 (.agg #[.int .i64 0,.int .i64 0]) Tryz.underlying41 hi0 hz0 .i64 .i64 0 c (by omega) (by omega) (by rw [hz2];omega) (by omega)
  simp only [Int.toNat_natCast,hz1,Int.toNat_zero] at h
  exact h
theorem made_own49 (c:Nat) (hc:c ≤ maxLen) (base:Nat) (w:World) (hb:base ≤ w.heap.size):(w.alloc (.cells (madeCells (Value.agg #[.int .i64 0,.int .i64 0]).cells (c * 2)) 50)).ownsRow base 50 2 (.slice (some ⟨w.heap.size,0,none⟩) 0 c) 0 []:=
  ⟨rfl,.inr ⟨w.heap.size,c,_,rfl,hb,heap_alloc_new w _,Nat.zero_le _,hc,size_madeCells _ _,by simp⟩⟩
theorem make51 (c:Nat) (hc:c * 56 ≤ 140737488355328) (w:World):(Instr.makeSlice 22 (.int .i64 0) (.int .i64 (c:Int))).run Tryz.prog w = .ok (.slice (some ⟨w.heap.size,0,none⟩) 0 c) (w.alloc (.cells (madeCells Z5.cells (c * 5)) 43)):=by
  obtain ⟨i0,hi0,hz0,hz1,hz2⟩:=info_parts info51
  have h:=run_make (P:=Tryz.prog) w 22 43 i0 Z5 Tryz.underlying22 hi0 hz0 .i64 .i64 0 c (by omega) (by omega) (by rw [hz2];omega) (by omega)
  simp only [Int.toNat_natCast,hz1,Int.toNat_zero] at h
  exact h
theorem made_own51 (c:Nat) (hc:c ≤ maxLen) (base:Nat) (w:World) (hb:base ≤ w.heap.size):(w.alloc (.cells (madeCells Z5.cells (c * 5)) 43)).ownsRow base 43 5 (.slice (some ⟨w.heap.size,0,none⟩) 0 c) 0 []:=
  ⟨rfl,.inr ⟨w.heap.size,c,_,rfl,hb,heap_alloc_new w _,Nat.zero_le _,hc,size_madeCells _ _,by simp⟩⟩
set_option maxRecDepth 100000 in
set_option maxHeartbeats 16000000 in
theorem lent8 {w:World} {ad:Option Addr} {n c:Nat} {l:List In} {s k:Int} (h:PI w w.heap.size ad n l) (hn:n * 56 ≤ 140737488351232) :
    Calls Tryz.prog 8 #[pv ad n c s k] w fun e w' => ∃ ad' c' MS,e = .returned (pv ad' n c' s k) ∧ PL w' w.heap.size ad' n c' l MS ∧ Below w.heap.size w w':=by
  have HL:=hid h.len
  obtain ⟨i5,hi5,hz50,hz51,hz52⟩:=info_parts info49
  obtain ⟨i2,hi2,hz20,hz21,hz22⟩:=info_parts info51
  go_enter Tryz.func8,Tryz.ntmps8
  go_upto_region 1 with fail
  obtain ⟨W,hW⟩:∃ W,W = (w.alloc (.cells #[.slice ad n c,.int .i64 s,.int .i64 k] 24)).alloc (.cells #[.slice none 0 0,.int .i64 0,.int .i64 0] 24):=⟨_,rfl⟩
  rw [← hW]
  have hX:W.heap[w.heap.size]? = some (.cells #[.slice ad n c,.int .i64 s,.int .i64 k] 24 (0,0)):=by rw [hW];exact (heap_alloc_old _ _ (by simp)).trans (heap_alloc_new w _)
  have hY:W.heap[w.heap.size + 1]? = some (.cells #[.slice none 0 0,.int .i64 0,.int .i64 0] 24 (0,0)):=by rw [hW];exact two_new w _ _ _
  have hb:Below w.heap.size w W:=by rw [hW];exact below_two' w _ _
  have HP:=hid (h.kept hb hb.size)
  have l1:w.heap.size < W.heap.size:=(Array.getElem?_eq_some_iff.1 hX).1
  have l2:w.heap.size + 1 < W.heap.size:=(Array.getElem?_eq_some_iff.1 hY).1
  obtain ⟨y,hy⟩:∃ y,y = w.heap.size + 1:=⟨_,rfl⟩
  rw [← hy] at hY l2 ⊢
  obtain ⟨x,hx⟩:∃ x,x = w.heap.size:=⟨_,rfl⟩
  rw [← hx] at hX hb l1 ⊢
  have hxy:x < y:=by omega
  have HX:=hid hX
  have HY:=hid hY
  have HB:=hid hb
  have HXE:=hid hx
  obtain ⟨p0,p1,p2⟩:=three_cells hX
  clear hX hY hb hW hx hy h
  have hmk:=make51 (n + 2) (by omega) W
  rw [show ((n + 2:Nat):Int) = (n:Int) + 2 by push_cast;rfl] at hmk
  have ad3:IntKind.i64.wrap ((n:Int) + 2) = (n:Int) + 2:=by simp [IntKind.wrap,IntKind.bits,IntKind.signed];omega
  have hown0:=made_own51 (n + 2) (by unfold maxLen;omega) W.heap.size W (Nat.le_refl _)
  have hbV0:=Joins.below_alloc1 W (.cells (madeCells Z5.cells ((n + 2) * 5)) 43)
  obtain ⟨V0,hV0⟩:∃ V,V = W.alloc (.cells (madeCells Z5.cells ((n + 2) * 5)) 43):=⟨_,rfl⟩
  rw [← hV0] at hmk hown0 hbV0
  have HOWN0:=hid hown0
  have HBV0:=hid hbV0
  clear hV0 hown0 hbV0
  go_wp2_with fail
  clear p0 p1 p2 hmk ad3
  go_loopw [3,4] (fun u y wq => ∃ (i:Nat) (z1:Option Addr) (z3:Nat),u = .slice z1 i z3 ∧ y = .int .i64 (i:Int) ∧ i ≤ n ∧ Hid (∃ MS:List Iv,MS.length = i ∧ wq.ownsRow W.heap.size 43 5 (.slice z1 i z3) i (MS.flatMap Iv.cs) ∧ (∀ j (hj:j < l.length),j < i → LO wq W.heap.size (.slice z1 i z3) (MS.getD j default) l[j]) ∧ (∀ j j' b,j < i → j' < i → j ≠ j' → (MS.getD j default).rv.ownBlock = some b → (MS.getD j' default).rv.ownBlock ≠ some b)) ∧ Hid (Below W.heap.size W wq)) (fun _ y _ => n - (intOf y).toNat)
  case atStart => exact ⟨0,_,_,rfl,rfl,by omega,⟨[],rfl,HOWN0.out,fun j hj h0 => by omega,fun j j' b h0 => by omega⟩,HBV0.out⟩
  case round =>
    obtain ⟨i,z1,z3,rfl,rfl,hi,HST,BK⟩:=hrel
    have hWw:W.heap.size ≤ wr.heap.size:=BK.out.size
    have l1w:x < wr.heap.size:=by omega
    obtain ⟨p0,p1,p2⟩:=three_cells ((BK.out.block x l1).trans HX.out)
    by_cases hil:i < n
    · have b1:decide ((i:Int) < (n:Int)) = true:=by simp;omega
      have b2:(i:Int) < (n:Int):=by omega
      have ad1:IntKind.i64.wrap ((i:Int) + 1) = (i:Int) + 1:=by simp [IntKind.wrap,IntKind.bits,IntKind.signed];omega
      have hlt:i < l.length:=by have:=HL.out;omega
      obtain ⟨g,o,ND,e,hg,hcs⟩:=HP.out.mem (by omega)
      subst e
      have lg:g < wr.heap.size:=by omega
      obtain ⟨m0,m1,m2,m3,m4⟩:=(hcs i hlt).1.kept (BK.out.block g hg)
      have hI:=(hcs i hlt).2.kept BK.out BK.out.size
      obtain ⟨M,hM⟩:∃ M,M = ND i:=⟨_,rfl⟩
      rw [← hM] at m0 m1 m2 m3 m4 hI
      clear hM hcs
      obtain ⟨op,xx,yy,aa,r1,r2,r3⟩:=M
      dsimp only at m0 m1 m2 m3 m4
      have hsm:r2 * 16 ≤ 140737488351232:=hI.sm
      have hlen:r2 = l[i].R.length:=hI.len
      have HI:=hid hI
      have HLEN:=hid hlen
      clear hI hlen
      go_upto_region 6 with fail
      obtain ⟨V1,hV1⟩:∃ V,V = wr.alloc (.cells #[.int .i64 op,.int .i64 xx,.int .i64 yy,.int .i64 aa,.slice r1 r2 r3] 43):=⟨_,rfl⟩
      rw [← hV1]
      have HBV1:Hid (Below wr.heap.size wr V1):=by rw [hV1];exact Joins.below_alloc1 wr _
      have hQ1:V1.heap[wr.heap.size]? = some (.cells #[.int .i64 op,.int .i64 xx,.int .i64 yy,.int .i64 aa,.slice r1 r2 r3] 43 (0,0)):=by rw [hV1];exact heap_alloc_new wr _
      have hpl:wr.heap.size < V1.heap.size:=(Array.getElem?_eq_some_iff.1 hQ1).1
      obtain ⟨p,hp⟩:∃ p,p = wr.heap.size:=⟨_,rfl⟩
      rw [← hp] at hQ1 hpl ⊢
      have HQ1:=hid hQ1
      have HPE:=hid hp
      have HIV:=hid (HI.out.kept HBV1.out HBV1.out.size)
      have HSRC:Hid (∀ V:World,(∀ b,b < V1.heap.size → V.heap[b]? = V1.heap[b]?) → 0 < r2 → ∃ b f,r1 = some ⟨b,f,none⟩ ∧ ∀ j u,(O2 l[i].R)[j]? = some u → V.cell? ⟨b,f + j,none⟩ = some u):=fun V hV hp => (HIV.out.row.kept hV).src hp HLEN.out
      have HO2:Hid ((O2 l[i].R).length = r2 * 2):=(O2_len _).trans (by rw [HLEN.out])
      have hmk:=fun W => make49 (r2 + 2) (by omega) W
      rw [show ((r2 + 2:Nat):Int) = (r2:Int) + 2 by push_cast;rfl] at hmk
      have hmo:=fun base W hb => made_own49 (r2 + 2) (by unfold maxLen;omega) base W hb
      have ad2:IntKind.i64.wrap ((r2:Int) + 2) = (r2:Int) + 2:=by simp [IntKind.wrap,IntKind.bits,IntKind.signed];omega
      have HMO:=hid hmo
      clear hmo
      generalize hmc:madeCells (Value.agg #[.int .i64 0,.int .i64 0]).cells ((r2 + 2) * 2) = mc at *
      clear hmc hV1 hQ1 hp p0 p1 p2 m0 m1 m2 m3 m4 HI
      go_cut [6] from 12 to 45 (fun s6 wx => ∃ c1 c3,s6 = .slice c1 (r2 + 2) c3 ∧ Hid (wx.ownsRow V1.heap.size 50 2 (.slice c1 (r2 + 2) c3) (r2 + 2) (O2 (l[i].R ++ M2))) ∧ Hid (Below V1.heap.size V1 wx))
      case first =>
        obtain ⟨d0,d1,d2,d3,d4⟩:=five HQ1.out
        have HA:Hid ((V1.drew.alloc (.cells mc 50)).ownsRow V1.heap.size 50 2 (.slice (some ⟨V1.heap.size,0,none⟩) 0 (r2 + 2)) 0 []):=HMO.out V1.heap.size V1.drew (Nat.le_refl _)
        have HBo:Hid (((V1.drew.alloc (.cells #[.int .i64 (-77),.int .i64 0,.int .i64 (-78),.int .i64 0] 50)).alloc (.cells mc 50)).ownsRow V1.heap.size 50 2 (.slice (some ⟨V1.heap.size + 1,0,none⟩) 0 (r2 + 2)) 0 []):=by
          have:=HMO.out V1.heap.size (V1.drew.alloc (.cells #[.int .i64 (-77),.int .i64 0,.int .i64 (-78),.int .i64 0] 50)) (by simp)
          have e:(V1.drew.alloc (.cells #[.int .i64 (-77),.int .i64 0,.int .i64 (-78),.int .i64 0] 50)).heap.size = V1.heap.size + 1:=by simp
          rw [e] at this
          exact this
        have HCo:Hid (((V1.drew.alloc (.cells mc 50)).alloc (.cells #[.int .i64 (-77),.int .i64 0,.int .i64 (-78),.int .i64 0] 50)).ownsRow V1.heap.size 50 2 (.slice (some ⟨V1.heap.size,0,none⟩) 0 (r2 + 2)) 0 []):=HA.out.alloc _
        have HS1:=hid (HSRC.out (V1.drew.alloc (.cells mc 50)) (fun b hb => heap_alloc_old _ _ (by (try simp) <;> omega)))
        have HS2:=hid (HSRC.out ((V1.drew.alloc (.cells #[.int .i64 (-77),.int .i64 0,.int .i64 (-78),.int .i64 0] 50)).alloc (.cells mc 50)) (fun b hb => (heap_alloc_old _ _ (by (try simp) <;> omega)).trans (heap_alloc_old _ _ (by (try simp) <;> omega))))
        have HS3:=hid (HSRC.out ((V1.drew.alloc (.cells mc 50)).alloc (.cells #[.int .i64 (-77),.int .i64 0,.int .i64 (-78),.int .i64 0] 50)) (fun b hb => (heap_alloc_old _ _ (by (try simp) <;> omega)).trans (heap_alloc_old _ _ (by (try simp) <;> omega))))
        have HLB:Hid (((V1.drew.alloc (.cells #[.int .i64 (-77),.int .i64 0,.int .i64 (-78),.int .i64 0] 50)).alloc (.cells mc 50)).heap[V1.heap.size]? = some (.cells #[.int .i64 (-77),.int .i64 0,.int .i64 (-78),.int .i64 0] 50 (0,0))):=(heap_alloc_old _ _ (by simp)).trans (heap_alloc_new V1.drew _)
        have HLC:Hid (((V1.drew.alloc (.cells mc 50)).alloc (.cells #[.int .i64 (-77),.int .i64 0,.int .i64 (-78),.int .i64 0] 50)).heap[V1.heap.size + 1]? = some (.cells #[.int .i64 (-77),.int .i64 0,.int .i64 (-78),.int .i64 0] 50 (0,0))):=two_new V1.drew _ _ _
        go_region_law (first
          | (refine step_append_any rfl (.tmp 28) (.tmp 30) 41 rfl V1.heap.size 50 i5 (.agg #[.int .i64 0,.int .i64 0]) 2 16 Tryz.underlying41 hi5 hz50 hz51 hz52 rfl (by decide) ⟨V1.heap.size,0,none⟩ 0 (r2 + 2) [] (by simp [Act.eval,Act.put]) (by exact HA.out) r1 r2 r3 (O2 l[i].R) (by simp [Act.eval,Act.put]) HO2.out (by exact HS1.out) (O2_one _) (by unfold maxLen;omega) (by omega) (by (try simp) <;> omega) ?_;intro v3 w3 ho3 hf3;obtain ⟨p1,p3,e3,_⟩:=row_shape ho3;rw [Nat.zero_add] at e3;subst e3;have hz3:V1.heap.size + 1 ≤ w3.heap.size:=(by have:=hf3.size;simp at this;omega))
          | (refine step_append_any rfl (.tmp 28) (.tmp 30) 41 rfl V1.heap.size 50 i5 (.agg #[.int .i64 0,.int .i64 0]) 2 16 Tryz.underlying41 hi5 hz50 hz51 hz52 rfl (by decide) ⟨V1.heap.size + 1,0,none⟩ 0 (r2 + 2) [] (by simp [Act.eval,Act.put]) (by exact HBo.out) r1 r2 r3 (O2 l[i].R) (by simp [Act.eval,Act.put]) HO2.out (by exact HS2.out) (O2_one _) (by unfold maxLen;omega) (by omega) (by (try simp) <;> omega) ?_;intro v3 w3 ho3 hf3;obtain ⟨p1,p3,e3,_⟩:=row_shape ho3;rw [Nat.zero_add] at e3;subst e3;have hz3:V1.heap.size + 1 ≤ w3.heap.size:=(by have:=hf3.size;simp at this;omega);have HL3:Hid (w3.heap[V1.heap.size]? = some (.cells #[.int .i64 (-77),.int .i64 0,.int .i64 (-78),.int .i64 0] 50 (0,0))):=(hf3.block _ (by (try simp) <;> omega) (by simp [Value.ownBlock])).trans HLB.out)
          | (refine step_append_any rfl (.tmp 28) (.tmp 30) 41 rfl V1.heap.size 50 i5 (.agg #[.int .i64 0,.int .i64 0]) 2 16 Tryz.underlying41 hi5 hz50 hz51 hz52 rfl (by decide) ⟨V1.heap.size,0,none⟩ 0 (r2 + 2) [] (by simp [Act.eval,Act.put]) (by exact HCo.out) r1 r2 r3 (O2 l[i].R) (by simp [Act.eval,Act.put]) HO2.out (by exact HS3.out) (O2_one _) (by unfold maxLen;omega) (by omega) (by (try simp) <;> omega) ?_;intro v3 w3 ho3 hf3;obtain ⟨p1,p3,e3,_⟩:=row_shape ho3;rw [Nat.zero_add] at e3;subst e3;have hz3:V1.heap.size + 1 ≤ w3.heap.size:=(by have:=hf3.size;simp at this;omega);have HL3:Hid (w3.heap[V1.heap.size + 1]? = some (.cells #[.int .i64 (-77),.int .i64 0,.int .i64 (-78),.int .i64 0] 50 (0,0))):=(hf3.block _ (by (try simp) <;> omega) (by simp [Value.ownBlock])).trans HLC.out)
          | (refine step_append_moveN rfl (.tmp 31) (.tmp 34) 41 rfl V1.heap.size 50 i5 (.agg #[.int .i64 0,.int .i64 0]) 2 16 Tryz.underlying41 hi5 hz50 hz51 hz52 rfl (by decide) (.slice p1 r2 p3) r2 (O2 l[i].R) (by simp [Act.eval,Act.put]) (by have t:=ho3.alloc (.cells #[.int .i64 (-77),.int .i64 0,.int .i64 (-78),.int .i64 0] 50);rw [Nat.zero_add] at t;exact t) ⟨w3.heap.size,0,none⟩ 2 2 [.int .i64 (-77),.int .i64 0,.int .i64 (-78),.int .i64 0] (by simp [Act.eval,Act.put]) rfl (by decide) (by exact lit_cells (heap_alloc_new w3 _)) (by simp [Value.oneCell']) (by unfold maxLen;omega) (by omega) (by (try simp) <;> omega) ?_;intro v5 w5 ho5 hm5)
          | (refine step_append_moveN rfl (.tmp 31) (.tmp 34) 41 rfl V1.heap.size 50 i5 (.agg #[.int .i64 0,.int .i64 0]) 2 16 Tryz.underlying41 hi5 hz50 hz51 hz52 rfl (by decide) (.slice p1 r2 p3) r2 (O2 l[i].R) (by simp [Act.eval,Act.put]) (by have t:=ho3;rw [Nat.zero_add] at t;exact t) ⟨V1.heap.size,0,none⟩ 2 2 [.int .i64 (-77),.int .i64 0,.int .i64 (-78),.int .i64 0] (by simp [Act.eval,Act.put]) rfl (by decide) (by exact lit_cells HL3.out) (by simp [Value.oneCell']) (by unfold maxLen;omega) (by omega) (by (try simp) <;> omega) ?_;intro v5 w5 ho5 hm5)
          | (refine step_append_moveN rfl (.tmp 31) (.tmp 34) 41 rfl V1.heap.size 50 i5 (.agg #[.int .i64 0,.int .i64 0]) 2 16 Tryz.underlying41 hi5 hz50 hz51 hz52 rfl (by decide) (.slice p1 r2 p3) r2 (O2 l[i].R) (by simp [Act.eval,Act.put]) (by have t:=ho3;rw [Nat.zero_add] at t;exact t) ⟨V1.heap.size + 1,0,none⟩ 2 2 [.int .i64 (-77),.int .i64 0,.int .i64 (-78),.int .i64 0] (by simp [Act.eval,Act.put]) rfl (by decide) (by exact lit_cells HL3.out) (by simp [Value.oneCell']) (by unfold maxLen;omega) (by omega) (by (try simp) <;> omega) ?_;intro v5 w5 ho5 hm5))
        all_goals go_wp2_with fail
        all_goals go_meet
        all_goals
          have hb3:Below V1.heap.size V1 w3:=⟨hf3.os,hf3.tape,hf3.output,by omega,fun b hb => (hf3.block b (by (try simp) <;> omega) (fun h => by simp [Value.ownBlock] at h;omega)).trans (by first | exact heap_alloc_old _ _ (by (try simp) <;> omega) | exact (heap_alloc_old _ _ (by (try simp) <;> omega)).trans (heap_alloc_old _ _ (by (try simp) <;> omega)))⟩
          have hf5:=hm5.frm
          have hb5:Below V1.heap.size V1 w5:=⟨hf5.os.trans hb3.os,hf5.tape.trans hb3.tape,hf5.output.trans hb3.output,by have:=hf5.size;(try simp at this);omega,fun b hb => (hf5.block b (by (try simp) <;> omega) (fun h => by have:=(ho3.lt b h).1;omega)).trans (by first | exact (heap_alloc_old _ _ (by omega)).trans (hb3.block b hb) | exact hb3.block b hb)⟩
          obtain ⟨c1,c3,rfl,_⟩:=row_shape ho5
          refine ⟨c1,c3,rfl,?_,hb5⟩
          show w5.ownsRow _ _ _ _ _ _
          rw [show O2 (l[i].R ++ M2) = O2 l[i].R ++ [.int .i64 (-77),.int .i64 0,.int .i64 (-78),.int .i64 0] by simp [O2,M2]]
          exact ho5
      case rest =>
        obtain ⟨c1,c3,rfl,HR4,HB4⟩:=hcut
        obtain ⟨w4,rfl⟩:∃ w4,w4 = wc:=⟨_,rfl⟩
        obtain ⟨c3b1,c3b2⟩:r2 + 2 ≤ c3 ∧ c3 ≤ maxLen:=by
          obtain ⟨_,_,e,h1,h2⟩:=row_shape HR4.out
          simp only [Value.slice.injEq] at e
          obtain ⟨_,_,rfl⟩:=e
          exact ⟨h1,h2⟩
        obtain ⟨g1,hg1⟩:∃ g1,c1 = some ⟨g1,0,none⟩:=by
          rcases HR4.out.2 with ⟨_,e⟩ | ⟨g,cap,cur,e,_⟩
          · omega
          · simp only [Value.slice.injEq] at e;exact ⟨g,e.1⟩
        subst hg1
        have hQ4:=(HB4.out.block p hpl).trans HQ1.out
        have f4:=Joins.unfrozen_of_block hQ4 4
        have k4:=Joins.cell_of_block hQ4 4
        have u1:(0:Int) ≤ (r2:Int):=by omega
        have u2:(r2:Int) ≤ (c3:Int):=by omega
        have u3:¬ c3 < r2:=by omega
        have HQ4:=hid hQ4
        clear hQ4 hmk ad2
        go_upto_region 8 with fail
        obtain ⟨V5,hV5⟩:∃ V,V = w4.setCell ⟨p,4,none⟩ (.slice (some ⟨g1,0,none⟩) r2 c3):=⟨_,rfl⟩
        rw [← hV5]
        have hz4:V1.heap.size ≤ w4.heap.size:=HB4.out.size
        have hz5:V5.heap.size = w4.heap.size:=by rw [hV5];simp [World.setCell]
        have hQ5:V5.heap[p]? = some (.cells #[.int .i64 op,.int .i64 xx,.int .i64 yy,.int .i64 aa,.slice (some ⟨g1,0,none⟩) r2 c3] 43 (0,0)):=by rw [hV5];exact Joins.block_setCell (i:=4) HQ4.out _
        have hgl:V1.heap.size ≤ g1 ∧ g1 < w4.heap.size:=HR4.out.lt g1 rfl
        have HR5:Hid (V5.ownsRow V1.heap.size 50 2 (.slice (some ⟨g1,0,none⟩) (r2 + 2) c3) (r2 + 2) (O2 (l[i].R ++ M2))):=by rw [hV5];exact own_setCell HR4.out (fun e => by cases e;omega)
        have HK5:Hid (∀ b,b < wr.heap.size → V5.heap[b]? = wr.heap[b]?):=fun b hb => by
          rw [hV5]
          exact (Below.heap_setCell _ _ _ _ (fun e => by have:=HPE.out;simp only at e;omega)).trans ((HB4.out.block b (by have:=HPE.out;omega)).trans (HBV1.out.block b hb))
        have HB5:Hid (Below W.heap.size W V5):=by
          refine ⟨?_,?_,?_,by have:=BK.out.size;have:=HPE.out;omega,fun b hb => (HK5.out b (by omega)).trans (BK.out.block b hb)⟩
          · rw [hV5];exact HB4.out.os.trans (HBV1.out.os.trans BK.out.os)
          · rw [hV5];exact HB4.out.tape.trans (HBV1.out.tape.trans BK.out.tape)
          · rw [hV5];exact HB4.out.output.trans (HBV1.out.output.trans BK.out.output)
        obtain ⟨e0,e1,e2,e3,e4⟩:=five hQ5
        obtain ⟨MS,hS0,hS1,hS2,hS3⟩:=HST.out
        have HO6:Hid ((V5.alloc (.cells #[.int .i64 op,.int .i64 xx,.int .i64 yy,.int .i64 aa,.slice (some ⟨g1,0,none⟩) r2 c3] 43)).ownsRow W.heap.size 43 5 (.slice z1 i z3) i (MS.flatMap Iv.cs)):=(row_kept hS1 (fun b hb => HK5.out b (hS1.lt b hb).2)).alloc _
        have HL6:Hid ((V5.alloc (.cells #[.int .i64 op,.int .i64 xx,.int .i64 yy,.int .i64 aa,.slice (some ⟨g1,0,none⟩) r2 c3] 43)).ownsRow 0 43 5 (.slice (some ⟨V5.heap.size,0,none⟩) 1 1) 1 (Iv.cs ⟨op,xx,yy,aa,some ⟨g1,0,none⟩,r2,c3⟩)):=World.ownsRow_lit (base:=0) (e:=43) (size:=5) V5 #[.int .i64 op,.int .i64 xx,.int .i64 yy,.int .i64 aa,.slice (some ⟨g1,0,none⟩) r2 c3] 1 (Nat.zero_le _) (by unfold maxLen;omega) rfl
        have HS0:=hid hS0
        have HS1:=hid hS1
        have HS2:=hid hS2
        have HS3:=hid hS3
        have hpw:p = wr.heap.size:=HPE.out
        have HPW:Hid (wr.heap.size < V5.heap.size):=by show _ < _;omega
        have hz45:V1.heap.size ≤ V5.heap.size:=by omega
        have hg5:V1.heap.size ≤ g1 ∧ g1 < V5.heap.size:=by omega
        have hp1:wr.heap.size < V1.heap.size:=by omega
        clear hV5 hQ5 HST hS0 hS1 hS2 hS3 f4 k4 HQ4 hpw hz5 hgl
        go_wp2_with (first | (at_builtin;refine wpList_append_row rfl (.tmp 42) (.tmp 44) 22 rfl W.heap.size 43 i2 Z5 5 56 Tryz.underlying22 hi2 hz20 hz21 hz22 rfl (by decide) (.slice z1 i z3) i (MS.flatMap Iv.cs) rfl HO6.out (.slice (some ⟨V5.heap.size,0,none⟩) 1 1) 1 0 (Iv.cs ⟨op,xx,yy,aa,some ⟨g1,0,none⟩,r2,c3⟩) rfl HL6.out (by intro h;omega) (one5 _) (by unfold maxLen;omega) (by omega) (by have:=HPW.out;(try simp) <;> omega) ?_;intro v7 w7 ho7 hf7 hn7;obtain ⟨y1,y3,rfl,hy3⟩:=row_shape ho7.out;have HY3:=hid hy3;clear hy3 hn7))
        have hW7:V5.heap.size + 1 ≤ w7.heap.size:=by have:=hf7.out.size;simpa using this
        have hz1:∀ b,(Value.slice z1 i z3).ownBlock = some b → b < wr.heap.size:=fun b hb => (HS1.out.lt b hb).2
        have hkeep:∀ b,b < V5.heap.size → (Value.slice z1 i z3).ownBlock ≠ some b → w7.heap[b]? = V5.heap[b]?:=fun b hb hne => (hf7.out.block b (by simp;omega) hne).trans (heap_alloc_old _ _ hb)
        have hy1:∀ b,(Value.slice y1 (i + 1) y3).ownBlock = some b → (Value.slice z1 i z3).ownBlock = some b ∨ V5.heap.size ≤ b:=fun b hb => (hf7.out.own b hb).imp id (fun h => by simp at h;omega)
        have hrvl:∀ j (hj:j < l.length),j < i → ∀ b,(MS.getD j default).rv.ownBlock = some b → b < wr.heap.size:=fun j hj hji b hb => ((HS2.out j hj hji).rr.lt b ((ob_len _ _ _ _ _).trans hb)).2
        refine ⟨⟨i + 1,y1,y3,rfl,by push_cast;rfl,by omega,⟨MS ++ [⟨op,xx,yy,aa,some ⟨g1,0,none⟩,r2,c3⟩],by simp [HS0.out],?_,fun j hj hji => ?_,fun j j' b hj hj' hne h1 h2 => ?_⟩,?_⟩,by simp [intOf];omega⟩
        · rw [List.flatMap_append]
          simpa using ho7.out
        · rw [snoc_getD MS _ j i HS0.out hji]
          by_cases e:j = i
          · subst e
            rw [if_pos rfl]
            have hcz:(Value.slice z1 j z3).ownBlock ≠ some g1:=fun h => by have:=hz1 g1 h;omega
            refine ⟨HIV.out.op,HIV.out.x,HIV.out.y,HIV.out.a,HLEN.out,hsm,?_,fun b hb h => ?_⟩
            · have:=row_kept (HR5.out) (w':=w7) (fun b hb => by cases hb;exact hkeep g1 hg5.2 hcz)
              have h2:=this.mono (base':=W.heap.size) (by omega)
              rw [← HLEN.out]
              exact h2
            · cases hb
              rcases hy1 g1 h with h1 | h1
              · exact hcz h1
              · omega
          · rw [if_neg e]
            have hO:=HS2.out j hj (by omega)
            refine ⟨hO.op,hO.x,hO.y,hO.a,hO.len,hO.sm,row_kept hO.rr (fun b hb => (hkeep b (by have:=(hO.rr.lt b hb).2;have:=HPW.out;omega) (hO.ne b ((ob_len _ _ _ _ _).trans hb))).trans (HK5.out b (hO.rr.lt b hb).2)),fun b hb h => ?_⟩
            rcases hy1 b h with h1 | h1
            · exact hO.ne b hb h1
            · have:=hrvl j hj (by omega) b hb;have:=HPW.out;omega
        · rw [snoc_getD MS _ j i HS0.out hj] at h1
          rw [snoc_getD MS _ j' i HS0.out hj'] at h2
          have hL:=HL.out
          by_cases e:j = i
          · by_cases e':j' = i
            · omega
            · rw [if_pos e] at h1
              rw [if_neg e'] at h2
              cases h1
              have:=hrvl j' (by omega) (by omega) g1 h2
              omega
          · rw [if_neg e] at h1
            by_cases e':j' = i
            · rw [if_pos e'] at h2
              cases h2
              have:=hrvl j (by omega) (by omega) g1 h1
              omega
            · rw [if_neg e'] at h2
              exact HS3.out j j' b (by omega) (by omega) hne h1 h2
        · refine ⟨hf7.out.os.trans HB5.out.os,hf7.out.tape.trans HB5.out.tape,hf7.out.output.trans HB5.out.output,by have:=HB5.out.size;omega,fun b hb => (hkeep b (by have:=HB5.out.size;omega) (fun h => by have:=(HS1.out.lt b h).1;omega)).trans (HB5.out.block b hb)⟩
    · have b1:decide ((i:Int) < (n:Int)) = false:=by simp;omega
      obtain rfl:i = n:=by omega
      obtain ⟨MS,hS0,hS1,hS2,hS3⟩:=HST.out
      have HO6:Hid ((wr.alloc (.cells #[.int .i64 (-77),.int .i64 0,.int .i64 0,.int .i64 0,.slice none 0 0,.int .i64 (-78),.int .i64 0,.int .i64 0,.int .i64 0,.slice none 0 0] 43)).ownsRow W.heap.size 43 5 (.slice z1 i z3) i (MS.flatMap Iv.cs)):=hS1.alloc _
      have HL6:Hid ((wr.alloc (.cells #[.int .i64 (-77),.int .i64 0,.int .i64 0,.int .i64 0,.slice none 0 0,.int .i64 (-78),.int .i64 0,.int .i64 0,.int .i64 0,.slice none 0 0] 43)).ownsRow 0 43 5 (.slice (some ⟨wr.heap.size,0,none⟩) 2 2) 2 (Iv.cs (mkI (-77)) ++ Iv.cs (mkI (-78)))):=World.ownsRow_lit (base:=0) (e:=43) (size:=5) wr #[.int .i64 (-77),.int .i64 0,.int .i64 0,.int .i64 0,.slice none 0 0,.int .i64 (-78),.int .i64 0,.int .i64 0,.int .i64 0,.slice none 0 0] 2 (Nat.zero_le _) (by unfold maxLen;omega) rfl
      have HS0:=hid hS0
      have HS1:=hid hS1
      have HS2:=hid hS2
      have HS3:=hid hS3
      clear hS0 hS1 hS2 hS3 HST
      go_upto_region 10 with (at_builtin;refine wpList_append_row rfl (.tmp 46) (.tmp 49) 22 rfl W.heap.size 43 i2 Z5 5 56 Tryz.underlying22 hi2 hz20 hz21 hz22 rfl (by decide) (.slice z1 i z3) i (MS.flatMap Iv.cs) rfl HO6.out (.slice (some ⟨wr.heap.size,0,none⟩) 2 2) 2 0 (Iv.cs (mkI (-77)) ++ Iv.cs (mkI (-78))) rfl HL6.out (by intro h;omega) (fun u hu => (List.mem_append.1 hu).elim (one5 _ u) (one5 _ u)) (by unfold maxLen;omega) (by omega) (by (try simp) <;> omega) ?_;intro v7 w7 ho7 hf7 hn7;obtain ⟨y1,y3,rfl,hy3⟩:=row_shape ho7.out;have HY3:=hid hy3;clear hy3 hn7)
      obtain ⟨gz,hgz⟩:∃ gz,y1 = some ⟨gz,0,none⟩:=by
        rcases ho7.out.2 with ⟨_,e⟩ | ⟨g,cap,cur,e,_⟩
        · omega
        · simp only [Value.slice.injEq] at e;exact ⟨g,e.1⟩
      subst hgz
      have hw7:wr.heap.size + 1 ≤ w7.heap.size:=by have:=hf7.out.size;simpa using this
      have hKx:∀ b,b < W.heap.size → w7.heap[b]? = W.heap[b]?:=fun b hb => (hf7.out.block b (by simp;omega) (fun h => by have:=(HS1.out.lt b h).1;omega)).trans ((heap_alloc_old _ _ (by omega)).trans (BK.out.block b hb))
      have hQx:=(hKx x l1).trans HX.out
      have hQy:=(hKx y l2).trans HY.out
      have f0:=Joins.unfrozen_of_block hQx 0
      have g0:=Joins.unfrozen_of_block hQy 0
      have g1:=Joins.unfrozen_of_block hQy 1
      have g2:=Joins.unfrozen_of_block hQy 2
      have lx7:x < w7.heap.size:=by omega
      have ly7:y < w7.heap.size:=by omega
      clear p0 p1 p2
      obtain ⟨p0,p1,p2⟩:=three_cells hQx
      obtain ⟨s0,s1,s2⟩:=three_cells hQy
      have hyc:=HY3.out
      have c54:IntKind.i64.wrap (((i + 2:Nat):Int) - 2) = (i:Int):=by simp [IntKind.wrap,IntKind.bits,IntKind.signed];omega
      have c55:IntKind.i64.wrap ((i:Int) + 2 - 2) = (i:Int):=by simp [IntKind.wrap,IntKind.bits,IntKind.signed];omega
      have u1:(0:Int) ≤ (i:Int):=by omega
      have u2:(i:Int) ≤ (y3:Int):=by omega
      have HQX:=hid hQx
      have HQY:=hid hQy
      have HKX:=hid hKx
      clear hQx hQy hKx
      go_wp2_with fail
      obtain ⟨E,hE⟩:∃ E,E = (((w7.setCell ⟨x,0,none⟩ (.slice (some ⟨gz,0,none⟩) i y3)).setCell ⟨y,0,none⟩ (.slice (some ⟨gz,0,none⟩) i y3)).setCell ⟨y,1,none⟩ (.int .i64 s)).setCell ⟨y,2,none⟩ (.int .i64 k):=⟨_,rfl⟩
      rw [← hE]
      have hQ0:(w7.setCell ⟨x,0,none⟩ (.slice (some ⟨gz,0,none⟩) i y3)).heap[y]? = some (.cells #[.slice none 0 0,.int .i64 0,.int .i64 0] 24 (0,0)):=(Below.heap_setCell _ _ _ _ (fun e => by simp only at e;omega)).trans HQY.out
      have hQE:E.heap[y]? = some (.cells #[.slice (some ⟨gz,0,none⟩) i y3,.int .i64 s,.int .i64 k] 24 (0,0)):=by
        rw [hE]
        exact Joins.block_setCell (i:=2) (Joins.block_setCell (i:=1) (Joins.block_setCell (i:=0) hQ0 _) _) _
      have hK:∀ b,b ≠ x → b ≠ y → E.heap[b]? = w7.heap[b]?:=fun b h1 h2 => by
        rw [hE]
        exact (Below.heap_setCell _ _ _ _ h2).trans ((Below.heap_setCell _ _ _ _ h2).trans ((Below.heap_setCell _ _ _ _ h2).trans (Below.heap_setCell _ _ _ _ h1)))
      have hEs:E.heap.size = w7.heap.size:=by rw [hE];simp [World.setCell]
      have hbE:Below x w E:=by
        refine ⟨?_,?_,?_,by have:=HB.out.size;omega,fun b hb => (hK b (by omega) (by omega)).trans ((HKX.out b (by omega)).trans (HB.out.block b hb))⟩
        · rw [hE];exact hf7.out.os.trans (BK.out.os.trans HB.out.os)
        · rw [hE];exact hf7.out.tape.trans (BK.out.tape.trans HB.out.tape)
        · rw [hE];exact hf7.out.output.trans (BK.out.output.trans HB.out.output)
      refine bodyPost_ret (results_cell_row rfl _ _ y 24 _ (0,0) _ rfl hQE Tryz.underlying24 rfl (by kernel_rfl)) rfl ?_
      have hxW:x ≤ W.heap.size:=by omega
      refine ⟨some ⟨gz,0,none⟩,y3,MS,rfl,?_,by rw [← HXE.out];exact hbE⟩
      rw [← HXE.out]
      refine ⟨HL.out,HS0.out,?_,fun j hj => ?_,HS3.out⟩
      · have h1:=row_kept ho7.out (w':=E) (fun b' hb' => hK b' (by have:=(ho7.out.lt b' hb').1;omega) (by have:=(ho7.out.lt b' hb').1;omega))
        have h2:=h1.mono (base':=x) hxW
        rw [List.flatMap_append]
        simpa using h2
      · have hO:=HS2.out j hj (by have:=HL.out;omega)
        have hkj:∀ b,(Value.slice (MS.getD j default).r1 (l[j].R.length + 2) (MS.getD j default).r3).ownBlock = some b → E.heap[b]? = wr.heap[b]?:=fun b hb => by
          have hlt:=hO.rr.lt b hb
          exact (hK b (by omega) (by omega)).trans ((hf7.out.block b (by simp;omega) (hO.ne b ((ob_len _ _ _ _ _).trans hb))).trans (heap_alloc_old _ _ hlt.2))
        refine ⟨hO.op,hO.x,hO.y,hO.a,hO.len,hO.sm,(row_kept hO.rr hkj).mono (base':=x) hxW,fun b hb h => ?_⟩
        rcases hf7.out.own b h with h1 | h1
        · exact hO.ne b hb h1
        · have:=(hO.rr.lt b ((ob_len _ _ _ _ _).trans hb)).2
          simp at h1
          omega
end Go.Proofs.YtjdbnoccdefnaaaGreat
