/- HELPERS: texts of ours put together. -/
import Derived.Test.YtacaanhnlfpbhaaGreatK29
import Derived.Test.YtacaanhnlfpbhaaGreatK26
import Derived.Lib.AppendZerosOnto
namespace Go.Proofs.YtacaanhnlfpbhaaGreat
open Go.RowKit Go.Lk
set_option linter.unusedVariables false
set_option linter.unusedSimpArgs false
theorem results_cell_tmp' {P:Program} {fn:Func} {p u:Tmp} {ty:TypeId} (h:fn.results = #[.cell p ty,.tmp u]) (tmps:Array Value) (w:World) (g:Nat) (t:TypeId) (cs:Array Value) (fr:Nat × Nat) (d:TypeDesc)
  (hp:tmps.getD p undef = .pointer (some ⟨g,0,none⟩)) (hg:w.heap[g]? = some (.cells cs t fr))
  (hu:P.underlying ty = some d) (hd:(match d with | .struct _ | .array _ _ => true | _ => false) = true) (hi:(P.info? ty).map (·.size) = some cs.size) :
  (results fn tmps).run P w = .ok (.tuple #[.agg cs,tmps.getD u undef]) w:=by
 have hp':tmps[p]?.getD undef = .pointer (some ⟨g,0,none⟩):=by simpa using hp
 simp [results,h,hp',asAddr,run_loadVar_row w g t ty cs fr d hg hu hd hi]
set_option maxRecDepth 100000 in
set_option maxHeartbeats 4000000 in
theorem pop49_none {w:World} {B b:Nat} {l:List In} {tx:List Int} {C:Bk} {V:Bv} {m:List Pt} {cp:List Int} {W:List Nat} (h:BI w B b l tx C V [] m cp W) :
  Calls Tryz.prog 160 #[.pointer (some ⟨b,8,none⟩)] w fun e w' => e = .returned (.tuple #[.agg #[.int .i32 0,.int .i32 0],.bool false]) ∧ Below w.heap.size w w':=by
 have hz:V.z2 = 0:=h.zl
 obtain ⟨U,hU⟩:∃ U,U = (w.alloc (.cells #[.int .i32 0,.int .i32 0] 222)).alloc (.cells #[.int .i32 0,.int .i32 0] 222):=⟨_,rfl⟩
 have hb:Below w.heap.size w U:=by rw [hU];exact below_two' w _ _
 have hX:U.heap[w.heap.size]? = some (.cells #[.int .i32 0,.int .i32 0] 222 (0,0)):=by rw [hU];exact (heap_alloc_old _ _ (by simp)).trans (heap_alloc_new w _)
 have hY:U.heap[w.heap.size + 1]? = some (.cells #[.int .i32 0,.int .i32 0] 222 (0,0)):=by rw [hU];exact two_new w _ _ _
 obtain ⟨x,hx⟩:∃ x,x = w.heap.size:=⟨_,rfl⟩
 obtain ⟨y,hy⟩:∃ y,y = w.heap.size + 1:=⟨_,rfl⟩
 have c8:=(h.below hb).mb.c 8
 simp at c8
 rw [hz] at c8
 rw [← hx] at hX hb
 rw [← hy] at hY
 have x0:=Joins.cell_of_block hX 0
 have x1:=Joins.cell_of_block hX 1
 have s0:=Joins.unfrozen_of_block hX 0
 have s1:=Joins.unfrozen_of_block hX 1
 have y0:=Joins.cell_of_block hY 0
 have y1:=Joins.cell_of_block hY 1
 simp at x0 x1 y0 y1
 have HX:=hid hX
 have HB:=hid hb
 have HXE:=hid hx
 have hxy:x ≠ y:=by omega
 clear h hX hY hb hz
 go_enter Tryz.func160,Tryz.ntmps160
 go_upto_region 2 with fail
 rw [← hU,← hy,← hx]
 clear hU hx hy
 go_wp2
 refine bodyPost_ret (results_cell_tmp' rfl _ _ x 222 _ (0,0) _ rfl (Joins.block_setCell (i:=1) (Joins.block_setCell (i:=0) HX.out _) _) Tryz.underlying222 rfl (by kernel_rfl)) rfl ?_
 refine ⟨rfl,?_⟩
 rw [← HXE.out]
 exact (HB.out.setCell (p:=⟨x,0,none⟩) (Nat.le_refl _) _).setCell (p:=⟨x,1,none⟩) (Nat.le_refl _) _
theorem own_pop {w:World} {bs e size n c:Nat} {z:Option Addr} {xs ys:List Value} (h:w.ownsRow bs e size (.slice z (n + 1) c) (n + 1) (xs ++ ys)) (hx:xs.length = n * size):w.ownsRow bs e size (.slice z n c) n xs:=by
 refine ⟨hx,?_⟩
 rcases h.2 with ⟨_,h0⟩ | ⟨g,cap,cur,e1,h1,h2,h3,h4,h5,h6⟩
 ·omega
 ·simp only [Value.slice.injEq] at e1
  obtain ⟨rfl,_,rfl⟩:=e1
  refine .inr ⟨g,c,cur,rfl,h1,h2,by omega,h4,h5,?_⟩
  have:(cur.toList.take ((n + 1) * size)).take (n * size) = (xs ++ ys).take (n * size):=by rw [h6]
  rw [List.take_take,Nat.min_eq_left (Nat.mul_le_mul_right _ (by omega)),← hx,List.take_left] at this
  rw [← hx]
  exact this
theorem BI.popped {w:World} {B b:Nat} {l:List In} {tx:List Int} {C:Bk} {V:Bv} {t:Tk} {st:List Tk} {m:List Pt} {cp:List Int} {W:List Nat} {zb:Nat} (h:BI w B b l tx C V (t :: st) m cp W) (hz:V.z1 = some ⟨zb,0,none⟩) (u0 u1:Value) :
  BI (((w.setCell ⟨zb,st.length * 2,none⟩ u0).setCell ⟨zb,st.length * 2 + 1,none⟩ u1).drew.setCell ⟨b,8,none⟩ (.slice (some ⟨zb,0,none⟩) st.length V.z3)) B b l tx C { V with z2:=st.length } st m cp W ∧ Below B w (((w.setCell ⟨zb,st.length * 2,none⟩ u0).setCell ⟨zb,st.length * 2 + 1,none⟩ u1).drew.setCell ⟨b,8,none⟩ (.slice (some ⟨zb,0,none⟩) st.length V.z3)):=by
 have hrow:=h.row
 have hz2:V.z2 = st.length + 1:=h.zl
 rw [hz,hz2] at hrow
 have hlt:=hrow.lt zb rfl
 have hzb:zb ≠ b:=fun e => own_ne hrow h.mb (by decide) (by rw [e];rfl)
 have hzu:zb ≠ C.ub:=fun e => h.row_ub (by rw [hz,e];rfl)
 obtain ⟨W1,hW1⟩:∃ W1,W1 = (w.setCell ⟨zb,st.length * 2,none⟩ u0).setCell ⟨zb,st.length * 2 + 1,none⟩ u1:=⟨_,rfl⟩
 have r1:=row_setC (row_setC hrow (st.length * 2) u0) (st.length * 2 + 1) u1
 rw [← hW1] at r1 ⊢
 have hl:=stk_len st
 rw [stk,List.set_append_right _ _ (by omega),List.set_append_right _ _ (by omega)] at r1
 have r2:=own_pop r1 hl
 have ho1:∀ k,k ≠ zb → W1.heap[k]? = w.heap[k]?:=fun k hk => by rw [hW1];exact (Below.heap_setCell _ _ _ _ hk).trans (Below.heap_setCell _ _ _ _ hk)
 have hb1:Below B w W1:=by rw [hW1];exact ((Below.refl B w).setCell (p:=⟨zb,_,none⟩) hlt.1 _).setCell (p:=⟨zb,_,none⟩) hlt.1 _
 have hb2:Below B w (W1.drew.setCell ⟨b,8,none⟩ (.slice (some ⟨zb,0,none⟩) st.length V.z3)):=(hb1.trans ((Eqw.drew W1).below _)).setCell (p:=⟨b,8,none⟩) h.lo _
 have ho2:∀ k,k ≠ b → (W1.drew.setCell ⟨b,8,none⟩ (.slice (some ⟨zb,0,none⟩) st.length V.z3)).heap[k]? = W1.heap[k]?:=fun k hk => Below.heap_setCell _ _ _ _ hk
 have hbm:BM W1.drew b C V:=h.mb.kept (ho1 b (fun e => hzb e.symm))
 refine ⟨⟨hbm.upd 8 _ ?_,h.lo,h.pi.kept hb2 (Nat.le_refl _),h.tx.below hb2,row_kept h.cap (fun k hk => ?_),?_,row_kept h.wd (fun k hk => ?_),h.bit,rfl,h.wl,h.okm,fun u hu => h.okt u (List.mem_cons_of_mem _ hu),h.okc,?_⟩,hb2⟩
 ·simp [bcs,hz]
 ·simp [Value.ownBlock] at hk
  subst hk
  exact (ho2 _ h.ub_ne).trans (ho1 _ (fun e => hzu e.symm))
 ·show World.ownsRow _ B 222 2 (.slice V.z1 st.length V.z3) st.length (stk st)
  rw [hz]
  exact own_setCell (a:=⟨b,8,none⟩) (show W1.drew.ownsRow B 222 2 _ _ _ from r2) (by simp [Value.ownBlock];exact hzb)
 ·exact (ho2 _ (fun e => h.wd_b (by rw [← e];exact hk))).trans (ho1 _ (fun e => own_apart h.wd h.row (by decide) hk (by rw [hz,e];rfl)))
 ·have:=h.stl
  simp only [List.length_cons] at this
  omega
set_option maxRecDepth 100000 in
set_option maxHeartbeats 4000000 in
theorem pop49_some {w:World} {B b:Nat} {l:List In} {tx:List Int} {C:Bk} {V:Bv} {t:Tk} {st:List Tk} {m:List Pt} {cp:List Int} {W:List Nat} (p q':Int) (hcs:t.cs = [.int .i32 p,.int .i32 q']) (h:BI w B b l tx C V (t :: st) m cp W) (hm:m.length ≤ 16777216) :
  Calls Tryz.prog 160 #[.pointer (some ⟨b,8,none⟩)] w fun e w' => e = .returned (.tuple #[.agg #[.int .i32 p,.int .i32 q'],.bool true]) ∧ BI w' B b l tx C { V with z2:=st.length } st m cp W ∧ Below B w w':=by
 have hz:V.z2 = st.length + 1:=h.zl
 have hsl:=h.stl
 simp only [List.length_cons] at hsl
 obtain ⟨U,hU⟩:∃ U,U = (w.alloc (.cells #[.int .i32 0,.int .i32 0] 222)).alloc (.cells #[.int .i32 0,.int .i32 0] 222):=⟨_,rfl⟩
 have hb:Below w.heap.size w U:=by rw [hU];exact below_two' w _ _
 have hX:U.heap[w.heap.size]? = some (.cells #[.int .i32 0,.int .i32 0] 222 (0,0)):=by rw [hU];exact (heap_alloc_old _ _ (by simp)).trans (heap_alloc_new w _)
 have hY:U.heap[w.heap.size + 1]? = some (.cells #[.int .i32 0,.int .i32 0] 222 (0,0)):=by rw [hU];exact two_new w _ _ _
 have hBU:=h.below hb
 obtain ⟨zb,hzb⟩:∃ zb,V.z1 = some ⟨zb,0,none⟩:=by
  rcases h.row.2 with ⟨_,e⟩ | ⟨g,cap,cur,e,_⟩
  ·omega
  ·simp only [Value.slice.injEq] at e;exact ⟨g,e.1⟩
 obtain ⟨x,hx⟩:∃ x,x = w.heap.size:=⟨_,rfl⟩
 obtain ⟨y,hy⟩:∃ y,y = w.heap.size + 1:=⟨_,rfl⟩
 obtain ⟨k,hk⟩:∃ k,k = st.length:=⟨_,rfl⟩
 have c8:=hBU.mb.c 8
 have u8:=hBU.mb.u 8
 simp at c8
 have hrow:=hBU.row
 rw [hzb,hz,← hk] at c8 hrow
 have hzlt:=(hrow.lt zb rfl)
 have k0:=(hrow.cellAt (k * 2) (by omega)).trans (show (stk (t :: st))[k * 2]? = t.cs[0]? from by have:=stk_top t st 0 (by omega);rw [hk];simpa using this)
 have k1:=(hrow.cellAt (k * 2 + 1) (by omega)).trans (show (stk (t :: st))[k * 2 + 1]? = t.cs[1]? from by have:=stk_top t st 1 (by omega);rw [hk];simpa using this)
 rw [hcs] at k0 k1
 simp at k0 k1
 have f0:=hrow.frozenAt (k * 2)
 have f1:=hrow.frozenAt (k * 2 + 1)
 rw [← hx] at hX hb
 rw [← hy] at hY
 have x0:=Joins.cell_of_block hX 0
 have x1:=Joins.cell_of_block hX 1
 have s0:=Joins.unfrozen_of_block hX 0
 have s1:=Joins.unfrozen_of_block hX 1
 have y0:=Joins.cell_of_block hY 0
 have y1:=Joins.cell_of_block hY 1
 simp at x0 x1 y0 y1
 have a1:IntKind.i64.wrap (((k + 1:Nat):Int) - 1) = (k:Int):=by rw [wrap_ok _ (by omega) (by omega)];omega
 have a2:IntKind.i64.wrap (k:Int) = (k:Int):=wrap_ok _ (by omega) (by omega)
 have hk2:k < 9223372036854775807:=by omega
 have b1:decide ((k:Int) < 0) = false:=by simp
 have b2:(k:Int) < ((k + 1:Nat):Int):=by omega
 have b3:(k:Int) < (k:Int) + 1:=by omega
 have hcap:=row_shape hrow
 have hc2:k + 1 ≤ V.z3:=by
  obtain ⟨a,c,e,h1,_⟩:=hcap
  simp only [Value.slice.injEq] at e
  omega
 have b4:(k:Int) ≤ (V.z3:Int):=by omega
 have HX:=hid hX
 have HY:=hid hY
 have HB:=hid hb
 have HXE:=hid hx
 have HYE:=hid hy
 have HBU:=hid hBU
 have HK:=hid hk
 have HZB:=hid hzb
 have HZ:=hid hz
 have hxy:x ≠ y:=by omega
 have hzx:zb ≠ x:=fun e => by have h1:=(h.row.lt zb (by rw [hzb];rfl)).2;omega
 have hzy:zb ≠ y:=fun e => by have h1:=(h.row.lt zb (by rw [hzb];rfl)).2;omega
 have hbx:b ≠ x:=fun e => by have h1:=h.mb.lt;omega
 have H0:=hid h
 clear h hX hY hb hz hrow hBU hcap hcs hsl
 go_enter Tryz.func160,Tryz.ntmps160
 go_upto_region 2 with fail
 rw [← hU,← hy,← hx]
 clear hU hx hy hk hzb
 go_upto_region 6 with fail
 obtain ⟨U2,hU2⟩:∃ U2,U2 = U.alloc (.cells #[.int .i32 p,.int .i32 q'] 222):=⟨_,rfl⟩
 obtain ⟨v,hv⟩:∃ v,v = U.heap.size:=⟨_,rfl⟩
 rw [← hU2,← hv]
 have hb2:Below U.heap.size U U2:=by rw [hU2];exact Joins.below_alloc1 U _
 have hV:U2.heap[v]? = some (.cells #[.int .i32 p,.int .i32 q'] 222 (0,0)):=by rw [hU2,hv];exact heap_alloc_new U _
 clear hU2
 have HB2:=hid hb2
 have hxU:x < U.heap.size:=(Array.getElem?_eq_some_iff.1 HX.out).1
 have hyU:y < U.heap.size:=(Array.getElem?_eq_some_iff.1 HY.out).1
 have hBU2:=HBU.out.below hb2
 have HX2:Hid (U2.heap[x]? = some (.cells #[.int .i32 0,.int .i32 0] 222 (0,0))):=(hb2.block x hxU).trans HX.out
 replace c8:=(hb2.cell (p:=⟨b,8,none⟩) HBU.out.mb.lt).trans c8
 replace u8:=hBU2.mb.u 8
 replace k0:=(hb2.cell (p:=⟨zb,k * 2,none⟩) hzlt.2).trans k0
 replace k1:=(hb2.cell (p:=⟨zb,k * 2 + 1,none⟩) hzlt.2).trans k1
 replace x0:=(hb2.cell (p:=⟨x,0,none⟩) hxU).trans x0
 replace x1:=(hb2.cell (p:=⟨x,1,none⟩) hxU).trans x1
 replace y0:=(hb2.cell (p:=⟨y,0,none⟩) hyU).trans y0
 replace y1:=(hb2.cell (p:=⟨y,1,none⟩) hyU).trans y1
 replace s0:=Joins.unfrozen_of_block HX2.out 0
 replace s1:=Joins.unfrozen_of_block HX2.out 1
 have hrow:=hBU2.row
 rw [HZB.out,HZ.out,← HK.out] at hrow
 replace f0:=hrow.frozenAt (k * 2)
 replace f1:=hrow.frozenAt (k * 2 + 1)
 have v0:=Joins.cell_of_block hV 0
 have v1:=Joins.cell_of_block hV 1
 simp at v0 v1
 have HROW:=hid hrow
 have HBU2:=hid hBU2
 have hzv:zb ≠ v:=by omega
 have hbv:b ≠ v:=by have:=HBU.out.mb.lt;omega
 have hxv:x ≠ v:=by omega
 have HV:=hid hV
 clear hb2 hV hrow hBU2 hv
 obtain ⟨z0,hz0⟩:∃ z0,z0 = (((U2.setCell ⟨zb,k * 2,none⟩ (.int .i32 0)).setCell ⟨zb,k * 2 + 1,none⟩ (.int .i32 0)).drew.setCell ⟨b,8,none⟩ (.slice (some ⟨zb,0,none⟩) k V.z3)):=⟨_,rfl⟩
 have HPO:=hid (HBU2.out.popped HZB.out (.int .i32 0) (.int .i32 0))
 rw [← HK.out,← hz0] at HPO
 have HZ0:=hid hz0
 clear hz0
 go_region
 go_upto_region 7 with fail
 obtain ⟨W1,hW1⟩:∃ W1,W1 = ((U2.setCell ⟨zb,k * 2,none⟩ (.int .i32 0)).setCell ⟨zb,k * 2 + 1,none⟩ (.int .i32 0)).drew:=⟨_,rfl⟩
 rw [← hW1]
 rw [← hW1] at HZ0
 have ho1:∀ q,q ≠ zb → W1.heap[q]? = U2.heap[q]?:=fun q hq => by rw [hW1];exact (Below.heap_setCell _ _ _ _ hq).trans (Below.heap_setCell _ _ _ _ hq)
 have hbz:b ≠ zb:=fun e => HBU2.out.row_b (by rw [HZB.out,e];rfl)
 replace c8:=(cell_eq (ho1 b hbz) 8).trans c8
 replace u8:=(frz_eq (ho1 b hbz) 8).trans u8
 replace v0:=(cell_eq (ho1 v (fun e => hzv e.symm)) 0).trans v0
 replace v1:=(cell_eq (ho1 v (fun e => hzv e.symm)) 1).trans v1
 replace x0:=(cell_eq (ho1 x (fun e => hzx e.symm)) 0).trans x0
 replace x1:=(cell_eq (ho1 x (fun e => hzx e.symm)) 1).trans x1
 replace s0:=(frz_eq (ho1 x (fun e => hzx e.symm)) 0).trans s0
 replace s1:=(frz_eq (ho1 x (fun e => hzx e.symm)) 1).trans s1
 have HX3:Hid (W1.heap[x]? = some (.cells #[.int .i32 0,.int .i32 0] 222 (0,0))):=(ho1 x (fun e => hzx e.symm)).trans HX2.out
 clear hW1 ho1 k0 k1 f0 f1 y0 y1
 have hbx':x ≠ b:=fun e => hbx e.symm
 have hvb:v ≠ b:=fun e => hbv e.symm
 have hvx:v ≠ x:=fun e => hxv e.symm
 go_wp2
 have hx4:(W1.setCell ⟨b,8,none⟩ (.slice (some ⟨zb,0,none⟩) k V.z3)).heap[x]? = some (.cells #[.int .i32 0,.int .i32 0] 222 (0,0)):=(Below.heap_setCell _ _ _ _ hbx').trans HX3.out
 refine bodyPost_ret (results_cell_tmp' rfl _ _ x 222 _ (0,0) _ rfl (Joins.block_setCell (i:=1) (Joins.block_setCell (i:=0) hx4 _) _) Tryz.underlying222 rfl (by kernel_rfl)) rfl ?_
 have hBx:B ≤ x:=by rw [HXE.out];exact H0.out.size
 have hPO:=HPO.out
 rw [HZ0.out] at hPO
 have hlast:∀ q,q ≠ x → (((W1.setCell ⟨b,8,none⟩ (.slice (some ⟨zb,0,none⟩) k V.z3)).setCell ⟨x,0,none⟩ (.int .i32 p)).setCell ⟨x,1,none⟩ (.int .i32 q')).heap[q]? = (W1.setCell ⟨b,8,none⟩ (.slice (some ⟨zb,0,none⟩) k V.z3)).heap[q]?:=fun q hq => (Below.heap_setCell _ _ _ _ hq).trans (Below.heap_setCell _ _ _ _ hq)
 have hbl:Below B (W1.setCell ⟨b,8,none⟩ (.slice (some ⟨zb,0,none⟩) k V.z3)) (((W1.setCell ⟨b,8,none⟩ (.slice (some ⟨zb,0,none⟩) k V.z3)).setCell ⟨x,0,none⟩ (.int .i32 p)).setCell ⟨x,1,none⟩ (.int .i32 q')):=((Below.refl B _).setCell (p:=⟨x,0,none⟩) hBx _).setCell (p:=⟨x,1,none⟩) hBx _
 refine ⟨rfl,?_,?_⟩
 ·rw [← HK.out]
  refine hPO.1.keep hbl (hlast b hbx) (hlast _ (fun e => by have h1:=(H0.out.cap.lt C.ub rfl).2;have h2:=HXE.out;rw [e] at h1;omega)) (fun j hj => hlast j (fun e => ?_)) (fun j hj => hlast j (fun e => ?_))
  ·have hj':(Value.slice V.z1 k V.z3).ownBlock = some j:=hj
   rw [HZB.out] at hj'
   simp [Value.ownBlock] at hj'
   omega
  ·have:=(H0.out.wd.lt j hj).2;have:=HXE.out;omega
 ·refine (Joins.below_le HB.out hBx).trans ((Joins.below_le HB2.out (by have:=hzlt;omega)).trans (hPO.2.trans hbl))
theorem zeroCells_one (z:Value) (hz:z.cells = #[z]) (n:Nat):Builtin.zeroCells z.cells n = (List.replicate n z).toArray:=by
 rw [hz]
 unfold Builtin.zeroCells
 apply Array.ext
 ·simp
 ·intro i h1 h2
  simp [Nat.mod_one]
theorem run_append_room_zeros {P:Program} (w:World) (t tn ty e:TypeId) (i:TypeInfo) (z:Value) (kq kn:IntKind) (ht:P.underlying t = some (.slice e)) (htn:P.underlying tn = some (.int kn)) (hi:P.info? e = some i) (hz:i.zero = some z) (hzc:z.cells = #[z]) (hs:i.size = 1) (h1:z.oneCell' = true)
  (g sLen sCap:Nat) (cur:Array Value) (hg:w.heap[g]? = some (.cells cur e (0,0))) (k:Nat) (h0:0 < k) (hroom:sLen + k ≤ sCap) (hfit:sLen + k ≤ cur.size) (h63:(k:Int) ≤ 9223372036854775807) (h48:k * i.bytes ≤ 281474976710656) :
  (Builtin.append_ #[t,tn] ty #[.slice (some ⟨g,0,none⟩) sLen sCap,.int kq k]).run P w =
   .ok (.slice (some ⟨g,0,none⟩) (sLen + k) sCap) (w.setRow g (cur.toList.take sLen ++ List.replicate k z ++ cur.toList.drop (sLen + k)).toArray):=by
 have hk:k ≠ 0:=by omega
 have hw:IntKind.i64.wrap (k:Int) = k:=by rw [IntKind.wrap_i64];omega
 have h48i:¬ (281474976710656 < (k:Int) * (i.bytes:Int)):=by
  rw [← Int.natCast_mul]
  omega
 have hneg:¬ ((k:Int) < 0):=by omega
 have hst:=run_storeCells_at P g (sLen * i.size) e (List.replicate k z) 0 cur w hg (by simp [hs];omega) (fun u hu => by rw [List.eq_of_mem_replicate hu];exact h1)
 simp only [Nat.add_zero,hs,Nat.mul_one,List.length_replicate] at hst
 have hzz:=zeroCells_one z hzc k
 simp [Builtin.append_,run_underlying ht,run_underlying htn,sizeOf,typeInfo,zeroValue,hi,hz,asInt,asIntOf,hw,hk,hneg,h48i,hs,hroom,Addr.add_lit,hst,hzz]
theorem run_append_zeros_own {P:Program} (w:World) (base:Nat) (t tn ty e:TypeId) (i:TypeInfo) (z:Value) (bytes:Nat) (kq kn:IntKind) (ht:P.underlying t = some (.slice e)) (htn:P.underlying tn = some (.int kn)) (hi:P.info? e = some i) (hz:i.zero = some z) (hzc:z.cells = #[z]) (hs:i.size = 1) (hby:i.bytes = bytes) (h1:z.oneCell' = true)
  (v:Value) (n:Nat) (xs:List Value) (hown:w.ownsRow base e 1 v n xs) (k:Nat) (h0:0 < k) (h63:n + k ≤ maxLen) (hbytes:(n + k) * bytes ≤ 140737488355328) (hbase:base ≤ w.heap.size) :
  ∃ v' w',(Builtin.append_ #[t,tn] ty #[v,.int kq k]).run P w = .ok v' w' ∧ w'.ownsRow base e 1 v' (n + k) (xs ++ List.replicate k z) ∧ Moved w w' v v':=by
 subst hby
 have hkb:k * i.bytes ≤ 140737488355328:=Nat.le_trans (Nat.mul_le_mul_right _ (by omega)) hbytes
 have hsmall:n + k ≤ 9223372036854775807:=by simp only [maxLen] at h63;omega
 have hlen:(xs ++ List.replicate k z).length = (n + k) * 1:=by rw [List.length_append,hown.1,List.length_replicate];omega
 have grown:∀ (old:Nat),old < n + k →
   (w.drew.alloc (.cells (xs.toArray ++ Builtin.zeroCells z.cells k ++ Builtin.zeroCells z.cells (grownCap w (n + k) old e - (n + k))) e)).ownsRow base e 1
    (.slice (some ⟨w.heap.size,0,none⟩) (n + k) (grownCap w (n + k) old e)) (n + k) (xs ++ List.replicate k z) ∧
   w.grownBy (w.drew.alloc (.cells (xs.toArray ++ Builtin.zeroCells z.cells k ++ Builtin.zeroCells z.cells (grownCap w (n + k) old e - (n + k))) e)) none:=by
  intro old ho
  have hge:=grownCap_ge w (n + k) old e
  have hcm:grownCap w (n + k) old e ≤ maxLen:=grownCap_le_maxLen w (n + k) old e h63
  refine ⟨⟨hlen,.inr ⟨w.heap.size,_,_,rfl,hbase,heap_alloc_new w.drew _,hge,hcm,?_,?_⟩⟩,⟨rfl,rfl,rfl,by simp,fun q hq _ => heap_alloc_old w.drew _ hq⟩⟩
  ·simp only [zeroCells_one z hzc,Array.size_append,List.size_toArray,List.length_replicate,hown.1]
   omega
  ·simp only [zeroCells_one z hzc,Array.toList_append,← hlen]
   exact List.take_left
 rcases hown.2 with ⟨rfl,rfl⟩ | ⟨g,cap,cur,rfl,hbg,hg,hnc,hcm,hcs,htake⟩
 ·have hx:xs = []:=List.eq_nil_of_length_eq_zero (by simpa using hown.1)
  subst hx
  have hr:=Lib.run_append_nil_zeros (P:=P) w t tn ty e i z kq kn ht htn hi hz k h0 (by omega) (by omega) (by omega)
  have hgr:=grown 0 (by omega)
  simp only [Nat.zero_add,List.nil_append,Array.empty_append] at hgr ⊢
  exact ⟨_,_,hr,hgr.1,.inr ⟨rfl,hgr.2⟩⟩
 ·by_cases hroom:n + k ≤ cap
  ·have hr:=run_append_room_zeros (P:=P) w t tn ty e i z kq kn ht htn hi hz hzc hs h1 g n cap cur hg k h0 hroom (by omega) (by omega) (by omega)
   refine ⟨_,_,hr,⟨hlen,.inr ⟨g,cap,_,rfl,hbg,setRow_heap w g cur _ e _ hg,hroom,hcm,?_,?_⟩⟩,.inl ⟨rfl,⟨rfl,rfl,rfl,by simp,fun q _ hq => setRow_other w g q _ (fun e => hq (by simp [Value.ownBlock,e]))⟩⟩⟩
   ·simp only [List.size_toArray,List.length_append,List.length_take,List.length_drop,Array.length_toList,List.length_replicate]
    omega
   ·have htk:cur.toList.take n = xs:=by simpa using htake
    rw [htk,← hlen]
    exact List.take_left
  ·have holds:∀ j u,xs[j]? = some u → w.cell? ((⟨g,0,none⟩:Addr).add j) = some u:=hown.cells (g:=g) rfl
   have hf:=run_firstCells_some (P:=P) w.drew i.size n ⟨g,0,none⟩ n cap xs (by rw [hs];exact hown.1) holds
   have hr:=Lib.run_append_grow_zeros (P:=P) w t tn ty e i z kq kn ht htn hi hz (some ⟨g,0,none⟩) n cap xs hf k h0 (by omega) (by omega) (by omega) (by omega) (growslice_fits (by omega) hbytes)
   have hgr:=grown cap (by omega)
   exact ⟨_,_,hr,hgr.1,.inr ⟨rfl,hgr.2⟩⟩
theorem BI.reached {w w3:World} {B b:Nat} {l:List In} {tx:List Int} {C:Bk} {V:Bv} {st:List Tk} {m:List Pt} {cp:List Int} {W:List Nat} {k y2 y3:Nat} {y1:Option Addr} (h:BI w B b l tx C V st m cp W) (hk:W.length + k ≤ 300000) (hy:y2 = V.w2 + k)
  (ho:w3.ownsRow B 233 1 (.slice y1 y2 y3) y2 (U64 (W ++ List.replicate k 0))) (hf:Frm w w3 (.slice V.w1 V.w2 V.w3) (.slice y1 y2 y3)) :
  BI (w3.setCell ⟨b,7,none⟩ (.slice y1 y2 y3)) B b l tx C { V with w1:=y1,w2:=y2,w3:=y3 } st m cp (W ++ List.replicate k 0) ∧ Below B w (w3.setCell ⟨b,7,none⟩ (.slice y1 y2 y3)) ∧ BM w3 b C V:=by
 have hkk:∀ k,k < w.heap.size → (Value.slice V.w1 V.w2 V.w3).ownBlock ≠ some k → w3.heap[k]? = w.heap[k]?:=fun k hk hn => hf.block k hk hn
 have hbz:(Value.slice y1 y2 y3).ownBlock ≠ some b:=fun e => by
  rcases hf.own b e with h' | h'
  ·exact h.wd_b h'
  ·have:=h.mb.lt;omega
 have hb3:w3.heap[b]? = w.heap[b]?:=hkk b h.mb.lt h.wd_b
 have hB3:Below B w w3:=⟨hf.os,hf.tape,hf.output,hf.size,fun k hk => hkk k (by have:=h.size;omega) (fun e => by have:=(h.wd.lt k e).1;omega)⟩
 have hB4:Below B w (w3.setCell ⟨b,7,none⟩ (.slice y1 y2 y3)):=hB3.setCell (p:=⟨b,7,none⟩) h.lo _
 have ho4:∀ k,k ≠ b → (w3.setCell ⟨b,7,none⟩ (.slice y1 y2 y3)).heap[k]? = w3.heap[k]?:=fun k hk => Below.heap_setCell _ _ _ _ hk
 refine ⟨⟨(h.mb.kept hb3).upd 7 _ rfl,h.lo,h.pi.kept hB4 (Nat.le_refl _),h.tx.below hB4,row_kept h.cap (fun k hk => ?_),row_kept h.row (fun k hk => ?_),own_setCell ho hbz,h.bit.more k hk,h.zl,by show y2 = _;rw [hy,h.wl];simp,h.okm,h.okt,h.okc,h.stl⟩,hB4,h.mb.kept hb3⟩
 ·simp [Value.ownBlock] at hk
  subst hk
  exact (ho4 _ h.ub_ne).trans (hkk _ (h.cap.lt _ rfl).2 h.wd_ub)
 ·exact (ho4 _ (fun e => h.row_b (by rw [← e];exact hk))).trans (hkk _ (h.row.lt _ hk).2 (own_apart h.row h.wd (by decide) hk))
set_option maxRecDepth 100000 in
set_option maxHeartbeats 4000000 in
theorem reach77 {w:World} {B b:Nat} {l:List In} {tx:List Int} {C:Bk} {V:Bv} {st:List Tk} {m:List Pt} {cp:List Int} {W:List Nat} (k:Nat) (h:BI w B b l tx C V st m cp W) (hk:k < 300000) :
  Calls Tryz.prog 219 #[.pointer (some ⟨b,5,none⟩),.int .i64 (k:Int)] w fun e w' => e = .returned (.tuple #[]) ∧ ∃ y1 y2 y3 W',BI w' B b l tx C { V with w1:=y1,w2:=y2,w3:=y3 } st m cp W' ∧ k < W'.length ∧ Below B w w':=by
 have hsm:=h.bit.sml
 have hwl:=h.wl
 have c7:=h.mb.c 7
 have u7:=h.mb.u 7
 simp at c7
 obtain ⟨i2,hi2,hz20,hz21,hz22⟩:=info_parts info68
 by_cases hd:k < W.length
 ·have a0:=wrap_ok ((k:Int) + 1) (by omega) (by omega)
  obtain ⟨d,hdd⟩:∃ d:Int,d = (k:Int) + 1 - (V.w2:Int):=⟨_,rfl⟩
  have a1:IntKind.i64.wrap ((k:Int) + 1 - (V.w2:Int)) = d:=by rw [wrap_ok _ (by omega) (by omega)];omega
  have b1:decide (d > 0) = false:=by simp;omega
  have b1':decide (0 < d) = false:=by simp;omega
  have H0:=hid h
  clear h hwl hdd
  go_enter Tryz.func219,Tryz.ntmps219
  go_wp2
  all_goals go_end0
  all_goals exact ⟨rfl,V.w1,V.w2,V.w3,W,H0.out,hd,Below.refl _ _⟩
 ·obtain ⟨j,hj⟩:∃ j,j = k + 1 - W.length:=⟨_,rfl⟩
  have hj1:0 < j:=by omega
  have a0:=wrap_ok ((k:Int) + 1) (by omega) (by omega)
  have a1:IntKind.i64.wrap ((k:Int) + 1 - (V.w2:Int)) = (j:Int):=by rw [wrap_ok _ (by omega) (by omega)];omega
  have b1:decide ((j:Int) > 0) = true:=by simp;omega
  have b1':decide (0 < (j:Int)) = true:=by simp;omega
  obtain ⟨v',w3,hrun,ho3,hm3⟩:=run_append_zeros_own (P:=Tryz.prog) w B 119 3 0 233 i2 (.int .u64 0) 8 .i64 .i64 Tryz.underlying119 Tryz.underlying3 hi2 hz20 rfl hz21 hz22 rfl (.slice V.w1 V.w2 V.w3) V.w2 (U64 W) h.wd j hj1 (by unfold maxLen;omega) (by omega) h.size
  obtain ⟨y1,y3,rfl,_⟩:=row_shape ho3
  rw [show U64 W ++ List.replicate j (.int .u64 0) = U64 (W ++ List.replicate j 0) by simp [U64]] at ho3
  obtain ⟨p1,p2,p3⟩:=h.reached (k:=j) (by omega) rfl ho3 hm3.frm
  have q7:=p3.c 7
  have v7:=p3.u 7
  simp at q7
  have HP1:=hid p1
  have HP2:=hid p2
  have HJ:=hid hj
  have hlen:k < (W ++ List.replicate j 0).length:=by simp;omega
  clear h hwl p1 p2 p3 ho3 hm3 hj
  go_enter Tryz.func219,Tryz.ntmps219
  go_wp2_with (at_builtin;refine Lib.wpList_append_run _ rfl _ _ _ _ rfl _ _ rfl rfl _ _ hrun ?_)
  all_goals go_end0
  all_goals exact ⟨rfl,y1,V.w2 + j,y3,_,HP1.out,hlen,HP2.out⟩
theorem enc_bound {n a tn i j:Nat} (hi:i < n) (ha:a ≤ j) (hj:j ≤ tn) (hb:n * (tn - a + 1) ≤ 16777216):(j - a) * n + i < 16777216:=by
 have:=enc_lt (n:=n) (i:=i) (d:=j - a) (q:=tn - a + 1) hi (by omega)
 omega
theorem BI.marked {w:World} {B b:Nat} {l:List In} {tx:List Int} {C:Bk} {V:Bv} {st:List Tk} {m:List Pt} {cp:List Int} {W:List Nat} {i j k g:Nat} (h:BI w B b l tx C V st m cp W) (hw:V.w1 = some ⟨g,0,none⟩) (hi:i < C.n) (ha:C.a ≤ j) (hj:j ≤ C.tn) (hm:(i,j) ∉ m) (hk:k = (j - C.a) * C.n + i) (hq:k / 64 < W.length) :
  BI (w.setCell ⟨g,k / 64,none⟩ (.int .u64 ((W.getD (k / 64) 0 ||| 2 ^ (k % 64):Nat):Int))) B b l tx C V st (m ++ [(i,j)]) cp (W.set (k / 64) (W.getD (k / 64) 0 ||| 2 ^ (k % 64))) ∧ Below B w (w.setCell ⟨g,k / 64,none⟩ (.int .u64 ((W.getD (k / 64) 0 ||| 2 ^ (k % 64):Nat):Int))):=by
 have hwd:=h.wd
 rw [hw] at hwd
 have hlt:=hwd.lt g rfl
 obtain ⟨W1,hW1⟩:∃ W1,W1 = w.setCell ⟨g,k / 64,none⟩ (.int .u64 ((W.getD (k / 64) 0 ||| 2 ^ (k % 64):Nat):Int)):=⟨_,rfl⟩
 have r1:=row_setC hwd (k / 64) (.int .u64 ((W.getD (k / 64) 0 ||| 2 ^ (k % 64):Nat):Int))
 rw [show (U64 W).set (k / 64) (.int .u64 ((W.getD (k / 64) 0 ||| 2 ^ (k % 64):Nat):Int)) = U64 (W.set (k / 64) (W.getD (k / 64) 0 ||| 2 ^ (k % 64))) by simp [U64,List.map_set]] at r1
 rw [← hW1] at r1 ⊢
 have ho:∀ q,q ≠ g → W1.heap[q]? = w.heap[q]?:=fun q hq => by rw [hW1];exact Below.heap_setCell _ _ _ _ hq
 have hb:Below B w W1:=by rw [hW1];exact (Below.refl B w).setCell (p:=⟨g,_,none⟩) hlt.1 _
 refine ⟨⟨h.mb.kept (ho b (fun e => h.wd_b (by rw [hw,e];rfl))),h.lo,h.pi.kept hb (Nat.le_refl _),h.tx.below hb,row_kept h.cap (fun q hq' => ho q (fun e => h.wd_ub (by rw [hw,← e];simpa [Value.ownBlock] using hq'.symm))),row_kept h.row (fun q hq' => ho q (fun e => own_apart h.row h.wd (by decide) hq' (by rw [hw,e];rfl))),by rw [hw];exact r1,h.bit.add hi ha hj hk hq,h.zl,by rw [List.length_set];exact h.wl,h.okm.add hm hi ha hj,h.okt,h.okc,by have:=h.stl;simp;omega⟩,hb⟩
set_option maxRecDepth 100000 in
set_option maxHeartbeats 4000000 in
theorem add53_core {w:World} {B b i j:Nat} {l:List In} {tx:List Int} {C:Bk} {V:Bv} {st:List Tk} {m:List Pt} {cp:List Int} {W:List Nat} (h:BI w B b l tx C V st m cp W) (hi:i < C.n) (ha:C.a ≤ j) (hj:j ≤ C.tn) (hb:C.n * (C.tn - C.a + 1) ≤ 16777216) (hn:C.n ≤ 20000) (ht:C.tn ≤ 4194304) (bb:Bool) (m2:List Pt) (h1:bb = true → (i,j) ∈ m ∧ m2 = m) (h2:bb = false → (i,j) ∉ m ∧ m2 = m ++ [(i,j)]) :
  Calls Tryz.prog 164 #[.pointer (some ⟨b,5,none⟩),.int .i64 (i:Int),.int .i64 (j:Int)] w fun e w' => e = .returned (.bool (!bb)) ∧ ∃ y1 y2 y3 W',BI w' B b l tx C { V with w1:=y1,w2:=y2,w3:=y3 } st m2 cp W' ∧ Below B w w':=by
 have H1:=hid h1
 have H2:=hid h2
 clear h1 h2
 obtain ⟨k,hk⟩:∃ k,k = (j - C.a) * C.n + i:=⟨_,rfl⟩
 have hkb:k < 16777216:=by rw [hk];exact enc_bound hi ha hj hb
 have c5:=h.mb.c 5
 have c6:=h.mb.c 6
 simp at c5 c6
 obtain ⟨d,hd⟩:∃ d,d = j - C.a:=⟨_,rfl⟩
 obtain ⟨e,he⟩:∃ e,e = (j - C.a) * C.n:=⟨_,rfl⟩
 have a0:IntKind.i64.wrap ((j:Int) - (C.a:Int)) = (d:Int):=by rw [wrap_ok _ (by omega) (by omega)];omega
 have a1:IntKind.i64.wrap ((d:Int) * (C.n:Int)) = (e:Int):=by
  have:(d:Int) * (C.n:Int) = (e:Int):=by rw [he,hd];push_cast;rfl
  rw [this];exact wrap_ok _ (by omega) (by omega)
 have a2:IntKind.i64.wrap ((e:Int) + (i:Int)) = (k:Int):=by rw [wrap_ok _ (by omega) (by omega)];omega
 have a2':(e:Int) + (i:Int) = (k:Int):=by omega
 have H0:=hid h
 have HK:=hid hk
 have HD:=hid hd
 have HE:=hid he
 clear h hk hd he
 go_enter Tryz.func164,Tryz.ntmps164
 go_upto_region 1 with fail
 go_quiet (fail)
 obtain ⟨W0,hW0⟩:∃ W0,W0 = w.drewN nq:=⟨_,rfl⟩
 rw [← hW0]
 have HB0:Hid (Below w.heap.size w W0):=by rw [hW0];exact (Eqw.drewN w nq).below _
 clear hW0 c5 c6 a0 a1 a2 a2'
 obtain ⟨q,hq⟩:∃ q,q = k / 64:=⟨_,rfl⟩
 obtain ⟨pw,hpw⟩:∃ pw,pw = 2 ^ (k % 64):=⟨_,rfl⟩
 have e1:IntKind.u64.wrap ((2:Int) ^ (k % 64)) = (pw:Int):=by
  have:=u64_in (2 ^ (k % 64)) (pow_lt k)
  rw [hpw]
  simpa using this
 have e2:(k:Int) / 64 = (q:Int):=by omega
 have hq2:q < 300000:=by omega
 have HQ:=hid hq
 have HPW:=hid hpw
 clear hq hpw
 go_upto_region 2 with fail
 go_quiet (fail)
 rw [e1]
 obtain ⟨W1,hW1⟩:∃ W1,W1 = W0.drewN nq:=⟨_,rfl⟩
 rw [← hW1]
 have HB1:Hid (Below w.heap.size w W1):=by rw [hW1];exact HB0.out.trans ((Eqw.drewN W0 nq).below _)
 clear hW1 e1 e2
 have HR:=reach77 q (H0.out.below HB1.out) hq2
 go_upto_region 4 with (go_at_call 219;(with_reducible refine HR.mono ?_);rintro e w2 ⟨rfl,y1,y2,y3,W',hbi,hlen,hbl⟩;have HBI:=hid hbi;have HLEN:=hid hlen;have HBL:=hid hbl;clear hbi hlen hbl HR)
 obtain ⟨g,hg⟩:∃ g,y1 = some ⟨g,0,none⟩:=by
  rcases HBI.out.wd.2 with ⟨_,e⟩ | ⟨g,cap,cur,e,_⟩
  ·have h1:=HBI.out.wl;have h2:=HLEN.out;dsimp only at h1 e;omega
  ·simp only [Value.slice.injEq] at e;exact ⟨g,e.1⟩
 subst hg
 have hw2:=HBI.out.wl
 dsimp only at hw2
 have c7:=HBI.out.mb.c 7
 simp at c7
 have hrow:=HBI.out.wd
 dsimp only at hrow
 have hlen:=HLEN.out
 have d0:w2.cell? ⟨g,q,none⟩ = some (.int .u64 ((W'.getD q 0:Nat):Int)):=by
  rw [hrow.cellAt q (by omega)]
  simp [U64,List.getD_eq_getElem?_getD,hlen]
 have f0:=hrow.frozenAt q
 have b2:(q:Int) < (y2:Int):=by omega
 have hhas:=HBI.out.bit.has hi ha hj HK.out
 rw [← HQ.out,← HPW.out] at hhas
 have hor:=(bits_nat .u64 64 (by decide) u64_in' _ _ (getD_fit HBI.out.bit.fits q) (pow_lt k)).2
 rw [← HPW.out] at hor
 obtain ⟨x,hx⟩:∃ x,x = W'.getD q 0:=⟨_,rfl⟩
 obtain ⟨z,hz⟩:∃ z,z = x ||| pw:=⟨_,rfl⟩
 rw [← hx] at d0 hhas hor
 rw [← hz] at hor
 have HX:=hid hx
 have HZ:=hid hz
 have HBW:=hid (Joins.below_le HB1.out H0.out.size |>.trans HBL.out)
 clear hrow hlen hx hz hw2
 cases bb with
 | true =>
  obtain ⟨hm,rfl⟩:=H1.out rfl
  rw [show decide ((i,j) ∈ m2) = true by simp [hm]] at hhas
  have HM:=hid hm
  clear hm H1 H2
  go_wp2
  all_goals go_ret
  all_goals exact ⟨rfl,_,_,_,_,HBI.out,HBW.out⟩
 | false =>
  obtain ⟨hm,hm2⟩:=H2.out rfl
  rw [show decide ((i,j) ∈ m) = false by simp [hm]] at hhas
  have HMK:=hid (HBI.out.marked rfl hi ha hj hm HK.out (by rw [← HQ.out];exact HLEN.out))
  rw [← HQ.out,← HPW.out,← HX.out,← HZ.out,← hm2] at HMK
  clear hm hm2 H1 H2
  go_wp2
  all_goals go_ret
  all_goals exact ⟨rfl,_,_,_,_,HMK.out.1,HBW.out.trans HMK.out.2⟩
theorem add53_old {w:World} {B b i j:Nat} {l:List In} {tx:List Int} {C:Bk} {V:Bv} {st:List Tk} {m:List Pt} {cp:List Int} {W:List Nat} (h:BI w B b l tx C V st m cp W) (hc:BC l tx C) (hi:i < C.n) (ha:C.a ≤ j) (hj:j ≤ C.tn) (hm:(i,j) ∈ m) :
  Calls Tryz.prog 164 #[.pointer (some ⟨b,5,none⟩),.int .i64 (i:Int),.int .i64 (j:Int)] w fun e w' => e = .returned (.bool false) ∧ ∃ y1 y2 y3 W',BI w' B b l tx C { V with w1:=y1,w2:=y2,w3:=y3 } st m cp W' ∧ Below B w w':=
 add53_core h hi ha hj hc.big (by have:=(may_ok hc.may).1;have:=hc.len;omega) hc.tl true m (fun _ => ⟨hm,rfl⟩) (fun h => by cases h)
theorem add53_new {w:World} {B b i j:Nat} {l:List In} {tx:List Int} {C:Bk} {V:Bv} {st:List Tk} {m:List Pt} {cp:List Int} {W:List Nat} (h:BI w B b l tx C V st m cp W) (hc:BC l tx C) (hi:i < C.n) (ha:C.a ≤ j) (hj:j ≤ C.tn) (hm:(i,j) ∉ m) :
  Calls Tryz.prog 164 #[.pointer (some ⟨b,5,none⟩),.int .i64 (i:Int),.int .i64 (j:Int)] w fun e w' => e = .returned (.bool true) ∧ ∃ y1 y2 y3 W',BI w' B b l tx C { V with w1:=y1,w2:=y2,w3:=y3 } st (m ++ [(i,j)]) cp W' ∧ Below B w w':=
 add53_core h hi ha hj hc.big (by have:=(may_ok hc.may).1;have:=hc.len;omega) hc.tl false (m ++ [(i,j)]) (fun h => by cases h) (fun _ => ⟨hm,rfl⟩)
end Go.Proofs.YtacaanhnlfpbhaaGreat
