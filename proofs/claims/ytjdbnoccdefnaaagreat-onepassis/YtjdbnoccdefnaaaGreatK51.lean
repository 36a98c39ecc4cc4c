/- HELPERS: texts of ours put together. -/
import Derived.Test.YtjdbnoccdefnaaaGreatK13
import Derived.Deep.Onto
namespace Go.Proofs.YtjdbnoccdefnaaaGreat
open Go.RowKit
set_option linter.unusedVariables false
set_option linter.unusedSimpArgs false
abbrev Iv.rv (N:Iv):Value:=.slice N.r1 N.r2 N.r3
structure IO (w:World) (base:Nat) (z:Value) (N:Iv) (I:In):Prop where
  op:N.op = I.op
  x:N.x = I.x
  y:N.y = I.y
  a:N.a = I.a
  len:N.r2 = I.R.length
  sm:N.r2 * 16 ≤ 140737488351232
  rr:w.ownsRow base 50 2 N.rv I.R.length (O2 I.R)
  ne:∀ b,N.rv.ownBlock = some b → z.ownBlock ≠ some b
theorem rowAt_own {w:World} {base n:Nat} {ad:Option Addr} {c:Nat} {R:List (Int × Int)} (h:w.ownsRow base 50 2 (.slice ad n c) R.length (O2 R)) (hn:n = R.length):RowAt w.heap.size w (.slice ad n c) R:=by
  subst hn
  refine ⟨ad,c,rfl,?_⟩
  rcases h.2 with ⟨_,h0⟩ | ⟨b,cap,cur,e,_⟩
  · exact .inl h0
  · right
    simp only [Value.slice.injEq] at e
    have hb:=(h.lt b (by rw [e.1];rfl)).2
    rw [e.1] at h
    refine ⟨b,0,e.1,hb,fun k hk => ?_,fun k hk => ?_⟩
    · rw [Nat.zero_add,h.cellAt (k * 2) (by omega),(O2_at R k hk).1]
      simp [List.getD_eq_getElem?_getD,List.getElem?_eq_getElem hk]
    · rw [Nat.zero_add,h.cellAt (k * 2 + 1) (by omega),(O2_at R k hk).2]
      simp [List.getD_eq_getElem?_getD,List.getElem?_eq_getElem hk]
theorem IO.im {w:World} {base:Nat} {z:Value} {N:Iv} {I:In} (h:IO w base z N I):IM w w.heap.size N I:=⟨h.op,h.x,h.y,h.a,h.len,h.sm,rowAt_own h.rr h.len⟩
theorem RowAt.src {w:World} {B:Nat} {ad:Option Addr} {n c:Nat} {R:List (Int × Int)} (h:RowAt B w (.slice ad n c) R) (hp:0 < n) (hn:n = R.length):∃ b f,ad = some ⟨b,f,none⟩ ∧ ∀ j u,(O2 R)[j]? = some u → w.cell? ⟨b,f + j,none⟩ = some u:=by
  obtain ⟨ad',cap,e,h1⟩:=h
  simp only [Value.slice.injEq] at e
  obtain ⟨rfl,_,rfl⟩:=e
  rcases h1 with h0 | ⟨b,off,rfl,_,h2,h3⟩
  · omega
  · refine ⟨b,off,rfl,fun j u hj => ?_⟩
    have hjl:j < (O2 R).length:=(List.getElem?_eq_some_iff.1 hj).1
    rw [O2_len] at hjl
    have hk:j / 2 < R.length:=by omega
    obtain ⟨o1,o2⟩:=O2_at R (j / 2) hk
    have g:R.getD (j / 2) (0,0) = R[j / 2]:=by simp [List.getD_eq_getElem?_getD,List.getElem?_eq_getElem hk]
    rcases Nat.mod_two_eq_zero_or_one j with h0 | h0
    · have e:j = j / 2 * 2:=by omega
      rw [e] at hj ⊢
      rw [o1] at hj
      rw [h2 (j / 2) hk,g]
      exact hj
    · have e:j = j / 2 * 2 + 1:=by omega
      rw [e] at hj ⊢
      rw [o2] at hj
      rw [← Nat.add_assoc,h3 (j / 2) hk,g]
      exact hj
theorem snoc_getD (MS:List Iv) (M:Iv) (j i:Nat) (hl:MS.length = i) (hj:j < i + 1):(MS ++ [M]).getD j default = if j = i then M else MS.getD j default:=by
  by_cases e:j = i
  · subst e;subst hl;simp [List.getD_eq_getElem?_getD]
  · rw [if_neg e,List.getD_eq_getElem?_getD,List.getElem?_append_left (by omega),List.getD_eq_getElem?_getD]
abbrev Z5:Value:=.agg #[.int .i64 0,.int .i64 0,.int .i64 0,.int .i64 0,.slice none 0 0]
set_option maxRecDepth 100000 in
set_option maxHeartbeats 16000000 in
theorem copy14 {w:World} {ad:Option Addr} {n c:Nat} {l:List In} {s k:Int} (h:PI w w.heap.size ad n l) (hn:n * 56 ≤ 140737488351232) :
    Calls Tryz.prog 13 #[pv ad n c s k] w fun e w' => ∃ ad' c',e = .returned (pv ad' n c' s k) ∧ PI w' w'.heap.size ad' n l ∧ Below w.heap.size w w':=by
  have HL:=hid h.len
  obtain ⟨i5,hi5,hz50,hz51,hz52⟩:=info_parts info49
  obtain ⟨i2,hi2,hz20,hz21,hz22⟩:=info_parts info51
  go_enter Tryz.func13,Tryz.ntmps13
  go_upto_region 1 with fail
  obtain ⟨W,hW⟩:∃ W,W = (w.alloc (.cells #[.slice ad n c,.int .i64 s,.int .i64 k] 24)).alloc (.cells #[.slice none 0 0,.int .i64 0,.int .i64 0] 24):=⟨_,rfl⟩
  rw [← hW]
  have hX:W.heap[w.heap.size]? = some (.cells #[.slice ad n c,.int .i64 s,.int .i64 k] 24 (0,0)):=by rw [hW];exact (heap_alloc_old _ _ (by simp)).trans (heap_alloc_new w _)
  have hY:W.heap[w.heap.size + 1]? = some (.cells #[.slice none 0 0,.int .i64 0,.int .i64 0] 24 (0,0)):=by rw [hW];exact two_new w _ _ _
  have hb:Below w.heap.size w W:=by rw [hW];exact below_two' w _ _
  have HP:=hid (h.kept hb hb.size)
  have l1:w.heap.size < W.heap.size:=(Array.getElem?_eq_some_iff.1 hX).1
  have l2:w.heap.size + 1 < W.heap.size:=(Array.getElem?_eq_some_iff.1 hY).1
  obtain ⟨y,hy⟩:∃ y,y = w.heap.size + 1:=⟨_,rfl⟩
  rw [← hy] at hY l2 ⊢
  obtain ⟨x,hx⟩:∃ x,x = w.heap.size:=⟨_,rfl⟩
  rw [← hx] at hX hb l1 ⊢
  have hxy:x < y:=by omega
  have HX:=hid hX
  have HY:=hid hY
  have HB:=hid hb
  have HXE:=hid hx
  clear hX hY hb hW hx hy h
  go_wp2_with fail
  go_loopw [3,4] (fun u y wq => ∃ (i:Nat) (z1:Option Addr) (z3:Nat),u = .slice z1 i z3 ∧ y = .int .i64 (i:Int) ∧ i ≤ n ∧ Hid (∃ MS:List Iv,MS.length = i ∧ wq.ownsRow W.heap.size 43 5 (.slice z1 i z3) i (MS.flatMap Iv.cs) ∧ ∀ j (hj:j < l.length),j < i → IO wq W.heap.size (.slice z1 i z3) (MS.getD j default) l[j]) ∧ Hid (Below W.heap.size W wq)) (fun _ y _ => n - (intOf y).toNat)
  case atStart => exact ⟨0,none,0,rfl,rfl,by omega,⟨[],rfl,World.ownsRow_nil _ _ _ _,fun j hj h0 => by omega⟩,Below.refl _ _⟩
  case round =>
    obtain ⟨i,z1,z3,rfl,rfl,hi,HST,BK⟩:=hrel
    have hWw:W.heap.size ≤ wr.heap.size:=BK.out.size
    have l1w:x < wr.heap.size:=by omega
    obtain ⟨p0,p1,p2⟩:=three_cells ((BK.out.block x l1).trans HX.out)
    by_cases hil:i < n
    · have b1:decide ((i:Int) < (n:Int)) = true:=by simp;omega
      have b2:(i:Int) < (n:Int):=by omega
      have ad1:IntKind.i64.wrap ((i:Int) + 1) = (i:Int) + 1:=by simp [IntKind.wrap,IntKind.bits,IntKind.signed];omega
      have hlt:i < l.length:=by have:=HL.out;omega
      obtain ⟨g,o,ND,e,hg,hcs⟩:=HP.out.mem (by omega)
      subst e
      have lg:g < wr.heap.size:=by omega
      obtain ⟨m0,m1,m2,m3,m4⟩:=(hcs i hlt).1.kept (BK.out.block g hg)
      have hI:=(hcs i hlt).2.kept BK.out BK.out.size
      obtain ⟨M,hM⟩:∃ M,M = ND i:=⟨_,rfl⟩
      rw [← hM] at m0 m1 m2 m3 m4 hI
      clear hM hcs
      obtain ⟨op,xx,yy,aa,r1,r2,r3⟩:=M
      dsimp only at m0 m1 m2 m3 m4
      have hsm:r2 * 16 ≤ 140737488351232:=hI.sm
      have hlen:r2 = l[i].R.length:=hI.len
      have HI:=hid hI
      have HLEN:=hid hlen
      clear hI hlen
      go_upto_region 7 with fail
      obtain ⟨V1,hV1⟩:∃ V,V = wr.alloc (.cells #[.int .i64 op,.int .i64 xx,.int .i64 yy,.int .i64 aa,.slice r1 r2 r3] 43):=⟨_,rfl⟩
      rw [← hV1]
      have HBV1:Hid (Below wr.heap.size wr V1):=by rw [hV1];exact Joins.below_alloc1 wr _
      have hQ1:V1.heap[wr.heap.size]? = some (.cells #[.int .i64 op,.int .i64 xx,.int .i64 yy,.int .i64 aa,.slice r1 r2 r3] 43 (0,0)):=by rw [hV1];exact heap_alloc_new wr _
      have hpl:wr.heap.size < V1.heap.size:=(Array.getElem?_eq_some_iff.1 hQ1).1
      obtain ⟨p,hp⟩:∃ p,p = wr.heap.size:=⟨_,rfl⟩
      rw [← hp] at hQ1 hpl ⊢
      have HQ1:=hid hQ1
      have HPE:=hid hp
      have HIV:=hid (HI.out.kept HBV1.out HBV1.out.size)
      have HSR:Hid (0 < r2 → ∃ b f,r1 = some ⟨b,f,none⟩ ∧ ∀ j u,(O2 l[i].R)[j]? = some u → V1.cell? ⟨b,f + j,none⟩ = some u):=fun hp => HIV.out.row.src hp HLEN.out
      have HO2:Hid ((O2 l[i].R).length = r2 * 2):=(O2_len _).trans (by rw [HLEN.out])
      obtain ⟨d0,d1,d2,d3,d4⟩:=five hQ1
      clear hV1 hQ1 hp p0 p1 p2 m0 m1 m2 m3 m4 HI
      go_upto_region 8 with (at_builtin;refine wpList_append_nil rfl (.tmp 19) (.tmp 21) 41 rfl 50 i5 (.agg #[.int .i64 0,.int .i64 0]) 2 16 Tryz.underlying41 hi5 hz50 hz51 hz52 rfl (by decide) rfl r1 r2 r3 (O2 l[i].R) rfl HO2.out HSR.out (O2_one _) (by unfold maxLen;omega) (by omega) ?_;intro v4 w4 ho4 hb4 hl4;obtain ⟨c1,c3,rfl,hc3⟩:=row_shape ho4.out;have HC3:=hid hc3;clear hc3;have hQ4:=(hb4.out.block p hpl).trans HQ1.out;have f4:=Joins.unfrozen_of_block hQ4 4;have k4:=Joins.cell_of_block hQ4 4;have HQ4:=hid hQ4;clear hQ4)
      obtain ⟨V5,hV5⟩:∃ V,V = w4.setCell ⟨p,4,none⟩ (.slice c1 r2 c3):=⟨_,rfl⟩
      rw [← hV5]
      have hz4:V1.heap.size ≤ w4.heap.size:=hb4.out.size
      have hz5:V5.heap.size = w4.heap.size:=by rw [hV5];simp [World.setCell]
      have hQ5:V5.heap[p]? = some (.cells #[.int .i64 op,.int .i64 xx,.int .i64 yy,.int .i64 aa,.slice c1 r2 c3] 43 (0,0)):=by rw [hV5];exact Joins.block_setCell (i:=4) HQ4.out _
      have hcne:(Value.slice c1 r2 c3).ownBlock ≠ some p:=fun e => by have:=(ho4.out.lt p e).1;omega
      have HR5:Hid (V5.ownsRow V1.heap.size 50 2 (.slice c1 r2 c3) r2 (O2 l[i].R)):=by rw [hV5];exact own_setCell ho4.out hcne
      have HK5:Hid (∀ b,b < wr.heap.size → V5.heap[b]? = wr.heap[b]?):=fun b hb => by
        rw [hV5]
        exact (Below.heap_setCell _ _ _ _ (fun e => by have:=HPE.out;simp only at e;omega)).trans ((hb4.out.block b (by have:=HPE.out;omega)).trans (HBV1.out.block b hb))
      have HB5:Hid (Below W.heap.size W V5):=by
        refine ⟨?_,?_,?_,by have:=BK.out.size;have:=HPE.out;omega,fun b hb => (HK5.out b (by omega)).trans (BK.out.block b hb)⟩
        · rw [hV5];exact hb4.out.os.trans (HBV1.out.os.trans BK.out.os)
        · rw [hV5];exact hb4.out.tape.trans (HBV1.out.tape.trans BK.out.tape)
        · rw [hV5];exact hb4.out.output.trans (HBV1.out.output.trans BK.out.output)
      obtain ⟨e0,e1,e2,e3,e4⟩:=five hQ5
      obtain ⟨MS,hS0,hS1,hS2⟩:=HST.out
      have HO6:Hid ((V5.alloc (.cells #[.int .i64 op,.int .i64 xx,.int .i64 yy,.int .i64 aa,.slice c1 r2 c3] 43)).ownsRow W.heap.size 43 5 (.slice z1 i z3) i (MS.flatMap Iv.cs)):=(row_kept hS1 (fun b hb => HK5.out b (hS1.lt b hb).2)).alloc _
      have HL6:Hid ((V5.alloc (.cells #[.int .i64 op,.int .i64 xx,.int .i64 yy,.int .i64 aa,.slice c1 r2 c3] 43)).ownsRow 0 43 5 (.slice (some ⟨V5.heap.size,0,none⟩) 1 1) 1 (Iv.cs ⟨op,xx,yy,aa,c1,r2,c3⟩)):=World.ownsRow_lit (base:=0) (e:=43) (size:=5) V5 #[.int .i64 op,.int .i64 xx,.int .i64 yy,.int .i64 aa,.slice c1 r2 c3] 1 (Nat.zero_le _) (by unfold maxLen;omega) rfl
      have HS0:=hid hS0
      have HS1:=hid hS1
      have HS2:=hid hS2
      have hpw:p = wr.heap.size:=HPE.out
      have HPW:Hid (wr.heap.size < V5.heap.size):=by show _ < _;omega
      have hz45:V1.heap.size ≤ V5.heap.size:=by omega
      clear hV5 hQ5 HST hS0 hS1 hS2 d0 d1 d2 d3 d4 f4 k4 HQ4 hpw hz5
      go_wp2_with (first | (at_builtin;refine wpList_append_row rfl (.tmp 24) (.tmp 26) 22 rfl W.heap.size 43 i2 Z5 5 56 Tryz.underlying22 hi2 hz20 hz21 hz22 rfl (by decide) (.slice z1 i z3) i (MS.flatMap Iv.cs) rfl HO6.out (.slice (some ⟨V5.heap.size,0,none⟩) 1 1) 1 0 (Iv.cs ⟨op,xx,yy,aa,c1,r2,c3⟩) rfl HL6.out (by intro h;omega) (one5 _) (by unfold maxLen;omega) (by omega) (by have:=HPW.out;(try simp) <;> omega) ?_;intro v7 w7 ho7 hf7 hn7;obtain ⟨y1,y3,rfl,hy3⟩:=row_shape ho7.out;have HY3:=hid hy3;clear hy3 hn7))
      have hW7:V5.heap.size + 1 ≤ w7.heap.size:=by have:=hf7.out.size;simpa using this
      have hz1:∀ b,(Value.slice z1 i z3).ownBlock = some b → b < wr.heap.size:=fun b hb => (HS1.out.lt b hb).2
      have hkeep:∀ b,b < V5.heap.size → (Value.slice z1 i z3).ownBlock ≠ some b → w7.heap[b]? = V5.heap[b]?:=fun b hb hne => (hf7.out.block b (by simp;omega) hne).trans (heap_alloc_old _ _ hb)
      have hy1:∀ b,(Value.slice y1 (i + 1) y3).ownBlock = some b → (Value.slice z1 i z3).ownBlock = some b ∨ V5.heap.size ≤ b:=fun b hb => (hf7.out.own b hb).imp id (fun h => by simp at h;omega)
      refine ⟨⟨i + 1,y1,y3,rfl,by push_cast;rfl,by omega,⟨MS ++ [⟨op,xx,yy,aa,c1,r2,c3⟩],by simp [HS0.out],?_,fun j hj hji => ?_⟩,?_⟩,by simp [intOf];omega⟩
      · rw [List.flatMap_append]
        simpa using ho7.out
      · rw [snoc_getD MS _ j i HS0.out hji]
        by_cases e:j = i
        · subst e
          rw [if_pos rfl]
          have hcl:∀ b,(Value.slice c1 r2 c3).ownBlock = some b → V1.heap.size ≤ b ∧ b < V5.heap.size:=fun b hb => HR5.out.lt b hb
          have hcz:∀ b,(Value.slice c1 r2 c3).ownBlock = some b → (Value.slice z1 j z3).ownBlock ≠ some b:=fun b hb h => by have:=hcl b hb;have:=hz1 b h;have:=HBV1.out.size;omega
          refine ⟨HIV.out.op,HIV.out.x,HIV.out.y,HIV.out.a,HLEN.out,hsm,?_,fun b hb h => ?_⟩
          · have:=row_kept (HR5.out) (w':=w7) (fun b hb => hkeep b (hcl b hb).2 (hcz b hb))
            have h2:=this.mono (base':=W.heap.size) (by have:=HBV1.out.size;omega)
            rw [← HLEN.out]
            exact h2
          · rcases hy1 b h with h1 | h1
            · exact hcz b hb h1
            · have:=hcl b hb;omega
        · rw [if_neg e]
          have hO:=HS2.out j hj (by omega)
          refine ⟨hO.op,hO.x,hO.y,hO.a,hO.len,hO.sm,row_kept hO.rr (fun b hb => (hkeep b (by have:=(hO.rr.lt b hb).2;have:=HPW.out;omega) (hO.ne b hb)).trans (HK5.out b (hO.rr.lt b hb).2)),fun b hb h => ?_⟩
          rcases hy1 b h with h1 | h1
          · exact hO.ne b hb h1
          · have:=(hO.rr.lt b hb).2;have:=HPW.out;omega
      · refine ⟨hf7.out.os.trans HB5.out.os,hf7.out.tape.trans HB5.out.tape,hf7.out.output.trans HB5.out.output,by have:=HB5.out.size;omega,fun b hb => (hkeep b (by have:=HB5.out.size;omega) (fun h => by have:=(HS1.out.lt b h).1;omega)).trans (HB5.out.block b hb)⟩
    · have b1:decide ((i:Int) < (n:Int)) = false:=by simp;omega
      obtain rfl:i = n:=by omega
      have hQx:=(BK.out.block x l1).trans HX.out
      have hQy:=(BK.out.block y l2).trans HY.out
      have f0:=Joins.unfrozen_of_block hQx 0
      have hyw:y < wr.heap.size:=by omega
      have g0:=Joins.unfrozen_of_block hQy 0
      have g1:=Joins.unfrozen_of_block hQy 1
      have g2:=Joins.unfrozen_of_block hQy 2
      obtain ⟨s0,s1,s2⟩:=three_cells hQy
      have HQX:=hid hQx
      have HQY:=hid hQy
      clear hQx hQy
      go_wp2_with fail
      obtain ⟨MS,hS0,hS1,hS2⟩:=HST.out
      obtain ⟨E,hE⟩:∃ E,E = (((wr.setCell ⟨x,0,none⟩ (.slice z1 i z3)).setCell ⟨y,0,none⟩ (.slice z1 i z3)).setCell ⟨y,1,none⟩ (.int .i64 s)).setCell ⟨y,2,none⟩ (.int .i64 k):=⟨_,rfl⟩
      rw [← hE]
      have hQ0:(wr.setCell ⟨x,0,none⟩ (.slice z1 i z3)).heap[y]? = some (.cells #[.slice none 0 0,.int .i64 0,.int .i64 0] 24 (0,0)):=(Below.heap_setCell _ _ _ _ (fun e => by simp only at e;omega)).trans HQY.out
      have hQE:E.heap[y]? = some (.cells #[.slice z1 i z3,.int .i64 s,.int .i64 k] 24 (0,0)):=by
        rw [hE]
        exact Joins.block_setCell (i:=2) (Joins.block_setCell (i:=1) (Joins.block_setCell (i:=0) hQ0 _) _) _
      have hK:∀ b,b ≠ x → b ≠ y → E.heap[b]? = wr.heap[b]?:=fun b h1 h2 => by
        rw [hE]
        exact (Below.heap_setCell _ _ _ _ h2).trans ((Below.heap_setCell _ _ _ _ h2).trans ((Below.heap_setCell _ _ _ _ h2).trans (Below.heap_setCell _ _ _ _ h1)))
      have hEs:E.heap.size = wr.heap.size:=by rw [hE];simp [World.setCell]
      have hbE:Below x w E:=by
        refine ⟨?_,?_,?_,by have:=HB.out.size;omega,fun b hb => (hK b (by omega) (by omega)).trans ((BK.out.block b (by omega)).trans (HB.out.block b hb))⟩
        · rw [hE];exact BK.out.os.trans HB.out.os
        · rw [hE];exact BK.out.tape.trans HB.out.tape
        · rw [hE];exact BK.out.output.trans HB.out.output
      refine bodyPost_ret (results_cell_row rfl _ _ y 24 _ (0,0) _ rfl hQE Tryz.underlying24 rfl (by kernel_rfl)) rfl ?_
      refine ⟨z1,z3,rfl,⟨HL.out,fun hp => ?_⟩,by rw [← HXE.out];exact hbE⟩
      rcases hS1.2 with ⟨_,h0⟩ | ⟨b,cap,cur,e,_⟩
      · omega
      · simp only [Value.slice.injEq] at e
        have hbl:=hS1.lt b (by rw [e.1];rfl)
        have hrow:=row_kept hS1 (w':=E) (fun b' hb' => hK b' (by have:=(hS1.lt b' hb').1;omega) (by have:=(hS1.lt b' hb').1;omega))
        rw [e.1] at hrow
        refine ⟨b,0,fun j => MS.getD j default,e.1,by omega,fun j hj => ⟨?_,?_⟩⟩
        · have hjl:j < MS.length:=by have:=HL.out;omega
          have hg:MS.getD j default = MS[j]:=by simp [List.getD_eq_getElem?_getD,List.getElem?_eq_getElem hjl]
          show I5 E b 0 j (MS.getD j default)
          rw [hg]
          have f:∀ q,q < 5 → E.cell? ⟨b,j * 5 + q,none⟩ = (Iv.cs MS[j])[q]?:=fun q hq => by
            rw [hrow.cellAt (j * 5 + q) (by omega),flat5 MS j q hjl hq]
          have f0:=f 0 (by omega)
          rw [Nat.add_zero] at f0
          unfold I5
          rw [Nat.zero_add]
          exact ⟨f0,f 1 (by omega),f 2 (by omega),f 3 (by omega),f 4 (by omega)⟩
        · have hO:=hS2 j hj (by have:=HL.out;omega)
          have hO2:IO E W.heap.size (.slice z1 i z3) (MS.getD j default) l[j]:=⟨hO.op,hO.x,hO.y,hO.a,hO.len,hO.sm,row_kept hO.rr (fun b' hb' => hK b' (by have:=(hO.rr.lt b' hb').1;omega) (by have:=(hO.rr.lt b' hb').1;omega)),hO.ne⟩
          exact hO2.im
end Go.Proofs.YtjdbnoccdefnaaaGreat
