/- HELPERS: texts of ours put together. -/
import Derived.Test.YtacaanhnlfpbhaaGreatK24
import Derived.Laws.Rows
import Derived.Test.YtacaanhnlfpbhaaGreatK03
import Derived.Test.YtacaanhnlfpbhaaGreatK20
import Derived.Test.YtacaanhnlfpbhaaGreatK02
import Derived.Test.YtacaanhnlfpbhaaGreatK19
import Derived.Test.YtacaanhnlfpbhaaGreatK01
import Derived.Test.YtacaanhnlfpbhaaGreatK18
import Derived.Deep.SlicePairs
import Derived.RowKit
import Derived.Test.YtacaanhnlfpbhaaGreatProg
import Derived.WalkKit
import Derived.ProofKit
import Derived.BigQuiet
import Derived.WalkSmall
import Derived.Deep.QuietTactic
import Derived.Deep.RegionWith
import Derived.Lib.SmallJoins
import Derived.Lib.MinMax
import Derived.Maps.AppendAt
import Derived.Laws.AppendOwnNone
import Derived.Lib.Small
import Derived.Test.YtacaanhnlfpbhaaGreatK17
import Derived.Deep.Cut
import Derived.Deep.CutRange
import Derived.Laws.EntriesVeiled
import Derived.WalkLawsBesides
import Derived.Lib.LazyBuf
import Derived.Deep.MidRow
import Derived.Deep.OwnRows
import Derived.Test.YtacaanhnlfpbhaaGreatK04
import Derived.Test.YtacaanhnlfpbhaaGreatK08
import Derived.Test.YtacaanhnlfpbhaaGreatK07
import Derived.Test.YtacaanhnlfpbhaaGreatK06
import Derived.Test.YtacaanhnlfpbhaaGreatK05
import Derived.Laws.BitsLemmas
import Derived.Deep.RegionHeld2
import Derived.Test.YtacaanhnlfpbhaaGreatK09
import Derived.Laws.StructEq
import Derived.Deep.DrawnRows
namespace Go.Proofs.YtacaanhnlfpbhaaGreat
open Go.RowKit
set_option linter.unusedVariables false
set_option linter.unusedSimpArgs false
theorem leaf93 (v:Value) (w:World):Calls Tryz.prog 203 #[v] w fun e w'=>e=.returned (.tuple #[])∧w'=w:=by
 go_enter Tryz.func203,Tryz.ntmps203
 go_wp2
 all_goals go_end0
 all_goals exact ⟨rfl,rfl⟩
theorem nineSet (X:World) (b:Nat) {c0 c1 c2 c3 c4 c5 c6 c7 c8:Value} {t:TypeId} (v0 v1 v2 v3 v4 v5 v6 v7 v8:Value) (h:X.heap[b]?=some (.cells #[c0,c1,c2,c3,c4,c5,c6,c7,c8] t (0,0))):(((((((((X.setCell ⟨b,0,none⟩ v0).setCell ⟨b,1,none⟩ v1).setCell ⟨b,2,none⟩ v2).setCell ⟨b,3,none⟩ v3).setCell ⟨b,4,none⟩ v4).setCell ⟨b,5,none⟩ v5).setCell ⟨b,6,none⟩ v6).setCell ⟨b,7,none⟩ v7).setCell ⟨b,8,none⟩ v8).heap[b]?=some (.cells #[v0,v1,v2,v3,v4,v5,v6,v7,v8] t (0,0)):=by
 have h0:(X.setCell ⟨b,0,none⟩ v0).heap[b]?=some (.cells #[v0,c1,c2,c3,c4,c5,c6,c7,c8] t (0,0)):=Joins.block_setCell (i:=0) h v0
 have h1:((X.setCell ⟨b,0,none⟩ v0).setCell ⟨b,1,none⟩ v1).heap[b]?=some (.cells #[v0,v1,c2,c3,c4,c5,c6,c7,c8] t (0,0)):=Joins.block_setCell (i:=1) h0 v1
 have h2:(((X.setCell ⟨b,0,none⟩ v0).setCell ⟨b,1,none⟩ v1).setCell ⟨b,2,none⟩ v2).heap[b]?=some (.cells #[v0,v1,v2,c3,c4,c5,c6,c7,c8] t (0,0)):=Joins.block_setCell (i:=2) h1 v2
 have h3:((((X.setCell ⟨b,0,none⟩ v0).setCell ⟨b,1,none⟩ v1).setCell ⟨b,2,none⟩ v2).setCell ⟨b,3,none⟩ v3).heap[b]?=some (.cells #[v0,v1,v2,v3,c4,c5,c6,c7,c8] t (0,0)):=Joins.block_setCell (i:=3) h2 v3
 have h4:(((((X.setCell ⟨b,0,none⟩ v0).setCell ⟨b,1,none⟩ v1).setCell ⟨b,2,none⟩ v2).setCell ⟨b,3,none⟩ v3).setCell ⟨b,4,none⟩ v4).heap[b]?=some (.cells #[v0,v1,v2,v3,v4,c5,c6,c7,c8] t (0,0)):=Joins.block_setCell (i:=4) h3 v4
 have h5:((((((X.setCell ⟨b,0,none⟩ v0).setCell ⟨b,1,none⟩ v1).setCell ⟨b,2,none⟩ v2).setCell ⟨b,3,none⟩ v3).setCell ⟨b,4,none⟩ v4).setCell ⟨b,5,none⟩ v5).heap[b]?=some (.cells #[v0,v1,v2,v3,v4,v5,c6,c7,c8] t (0,0)):=Joins.block_setCell (i:=5) h4 v5
 have h6:(((((((X.setCell ⟨b,0,none⟩ v0).setCell ⟨b,1,none⟩ v1).setCell ⟨b,2,none⟩ v2).setCell ⟨b,3,none⟩ v3).setCell ⟨b,4,none⟩ v4).setCell ⟨b,5,none⟩ v5).setCell ⟨b,6,none⟩ v6).heap[b]?=some (.cells #[v0,v1,v2,v3,v4,v5,v6,c7,c8] t (0,0)):=Joins.block_setCell (i:=6) h5 v6
 have h7:((((((((X.setCell ⟨b,0,none⟩ v0).setCell ⟨b,1,none⟩ v1).setCell ⟨b,2,none⟩ v2).setCell ⟨b,3,none⟩ v3).setCell ⟨b,4,none⟩ v4).setCell ⟨b,5,none⟩ v5).setCell ⟨b,6,none⟩ v6).setCell ⟨b,7,none⟩ v7).heap[b]?=some (.cells #[v0,v1,v2,v3,v4,v5,v6,v7,c8] t (0,0)):=Joins.block_setCell (i:=7) h6 v7
 exact Joins.block_setCell (i:=8) h7 v8
set_option maxRecDepth 100000 in
set_option maxHeartbeats 8000000 in
theorem built47 {w:World} {f:Nat} {r1:Option Addr} {r3:Nat} (hf:w.heap[f]?=some (.cells (Fc r1 1 r3) 151 (0,0))) (hr:RowAt w.heap.size w (.slice r1 1 r3) [(97,97)]) :
  Calls Tryz.prog 92 #[pt f] w fun e w'=>∃ c1 c3,e=.returned (CN c1 1 c3).v∧w'.ownsRow w.heap.size 70 2 (.slice c1 1 c3) 1 (O2 [(97,97)])∧Below w.heap.size w w':=by
 obtain ⟨i5,hi5,hz50,hz51,hz52⟩:=info_parts info49
 have hfl:f < w.heap.size:=(Array.getElem?_eq_some_iff.1 hf).1
 have k0:w.cell? ⟨f,0,none⟩=some (.int .i64 2):=Joins.cell_of_block hf 0
 have k1:w.cell? ⟨f,1,none⟩=some (.slice r1 1 r3):=Joins.cell_of_block hf 1
 have k2:w.cell? ⟨f,2,none⟩=some (.int .i64 0):=Joins.cell_of_block hf 2
 have k3:w.cell? ⟨f,3,none⟩=some (.slice none 0 0):=Joins.cell_of_block hf 3
 have k4:w.cell? ⟨f,4,none⟩=some (.int .i64 0):=Joins.cell_of_block hf 4
 have k5:w.cell? ⟨f,5,none⟩=some (.int .i64 0):=Joins.cell_of_block hf 5
 have k6:w.cell? ⟨f,6,none⟩=some (.bool false):=Joins.cell_of_block hf 6
 have k7:w.cell? ⟨f,7,none⟩=some (.int .i64 0):=Joins.cell_of_block hf 7
 have k8:w.cell? ⟨f,8,none⟩=some (.string ⟨#[]⟩):=Joins.cell_of_block hf 8
 have HFF:=hid hf
 have HR:=hid hr
 clear hf hr
 go_enter Tryz.func92,Tryz.ntmps92
 go_upto_region 2 with fail
 obtain ⟨U,hU⟩:∃ U,U=(w.alloc (.cells #[.int .i64 0,.slice none 0 0,.int .i64 0,.slice none 0 0,.int .i64 0,.int .i64 0,.bool false,.int .i64 0,.string ⟨#[]⟩] 25)).alloc (.cells #[.int .i64 2,.slice r1 1 r3,.int .i64 0,.slice none 0 0,.int .i64 0,.int .i64 0,.bool false,.int .i64 0,.string ⟨#[]⟩] 25):=⟨_,rfl⟩
 rw [← hU]
 have hbU:Below w.heap.size w U:=by rw [hU];exact below_two' w _ _
 have hY:U.heap[w.heap.size]?=some (.cells #[.int .i64 0,.slice none 0 0,.int .i64 0,.slice none 0 0,.int .i64 0,.int .i64 0,.bool false,.int .i64 0,.string ⟨#[]⟩] 25 (0,0)):=by rw [hU];exact (heap_alloc_old _ _ (by simp)).trans (heap_alloc_new w _)
 have hX:BxC U (w.heap.size + 1) r1 1 r3:=by rw [hU];exact two_new w _ _ _
 have hsU:w.heap.size + 1 < U.heap.size:=(Array.getElem?_eq_some_iff.1 hX).1
 obtain ⟨x,hx⟩:∃ x,x=w.heap.size + 1:=⟨_,rfl⟩
 rw [← hx] at hX hsU ⊢
 obtain ⟨y,hy⟩:∃ y,y=w.heap.size:=⟨_,rfl⟩
 rw [← hy] at hY hx ⊢
 have hyx:y < x:=by omega
 have hfU:=(hbU.block f hfl).trans HFF.out
 have g1:U.cell? ⟨f,1,none⟩=some (.slice r1 1 r3):=Joins.cell_of_block hfU 1
 have HSR:Hid (0 < 1→∃ b o,r1=some ⟨b,o,none⟩∧∀ j u,(O2 [(97,97)])[j]?=some u→U.cell? ⟨b,o + j,none⟩=some u):=fun hp=>(HR.out.below hbU (Nat.le_refl _) hbU.size).src hp rfl
 have HFU:=hid hfU
 have HX:=hid hX
 have HY:=hid hY
 have HBU:=hid hbU
 have HYE:=hid hy
 have hfU2:f < U.heap.size:=by omega
 clear hU hbU hX hY hx hy hfU k0 k1 k2 k3 k4 k5 k6 k7 k8
 go_upto_region 3 with (at_builtin;refine wpList_append_nil rfl (.const (.slice none 0 0)) (.tmp 13) 22 rfl 70 i5 (.agg #[.int .i64 0,.int .i64 0]) 2 16 Tryz.underlying22 hi5 hz50 hz51 hz52 rfl (by decide) rfl r1 1 r3 (O2 [(97,97)]) rfl rfl HSR.out (O2_one _) (by unfold maxLen;omega) (by omega) ?_;intro v4 w4 ho4 hb4 hl4;obtain ⟨c1,c3,rfl,hc3⟩:=row_shape ho4.out;clear hc3;have hX4:=(hb4.out.block x hsU).trans HX.out;have f1:=Joins.unfrozen_of_block hX4 1;have HX4:=hid hX4;have j1:=Joins.cell_of_block hX4 1;clear hX4)
 obtain ⟨V,hV⟩:∃ V,V=w4.setCell ⟨x,1,none⟩ (.slice c1 1 c3):=⟨_,rfl⟩
 rw [← hV]
 have hz4:U.heap.size≤w4.heap.size:=hb4.out.size
 have hzV:V.heap.size=w4.heap.size:=by rw [hV];simp [World.setCell]
 have hXV:V.heap[x]?=some (.cells #[.int .i64 2,.slice c1 1 c3,.int .i64 0,.slice none 0 0,.int .i64 0,.int .i64 0,.bool false,.int .i64 0,.string ⟨#[]⟩] 25 (0,0)):=by rw [hV];exact Joins.block_setCell (i:=1) HX4.out _
 have hYV:V.heap[y]?=some (.cells #[.int .i64 0,.slice none 0 0,.int .i64 0,.slice none 0 0,.int .i64 0,.int .i64 0,.bool false,.int .i64 0,.string ⟨#[]⟩] 25 (0,0)):=by
  rw [hV];exact (Below.heap_setCell _ _ _ _ (fun e=>by simp only at e;omega)).trans ((hb4.out.block y (by omega)).trans HY.out)
 have hFV:V.heap[f]?=some (.cells (Fc r1 1 r3) 151 (0,0)):=by
  rw [hV];exact (Below.heap_setCell _ _ _ _ (fun e=>by have:=HYE.out;simp only at e;omega)).trans ((hb4.out.block f hfU2).trans HFU.out)
 have HRV:Hid (V.ownsRow U.heap.size 70 2 (.slice c1 1 c3) 1 (O2 [(97,97)])):=by rw [hV];exact own_setCell ho4.out (fun e=>by have:=(ho4.out.lt x e).1;omega)
 have HBV:Hid (Below y w V):=by
  rw [hV]
  have h1:Below y w w4:=by have:=HBU.out;rw [← HYE.out] at this;exact this.trans (Joins.below_le hb4.out (by omega))
  exact h1.setCell (p:=⟨x,1,none⟩) (by show y≤x;omega) _
 have hxV:x < V.heap.size:=by omega
 have hyV:y < V.heap.size:=by omega
 have hfV:f < V.heap.size:=by omega
 have a9:V.cell? ⟨f,9,none⟩=some (.func (.func 203) #[] #[]):=Joins.cell_of_block hFV 9
 obtain ⟨e0,e1,e2,e3,e4,e5,e6,e7,e8⟩:V.cell? ⟨x,0,none⟩=some (.int .i64 2)∧V.cell? ⟨x,1,none⟩=some (.slice c1 1 c3)∧V.cell? ⟨x,2,none⟩=some (.int .i64 0)∧V.cell? ⟨x,3,none⟩=some (.slice none 0 0)∧V.cell? ⟨x,4,none⟩=some (.int .i64 0)∧V.cell? ⟨x,5,none⟩=some (.int .i64 0)∧V.cell? ⟨x,6,none⟩=some (.bool false)∧V.cell? ⟨x,7,none⟩=some (.int .i64 0)∧V.cell? ⟨x,8,none⟩=some (.string ⟨#[]⟩):=ninec hXV
 obtain ⟨V6,hV6⟩:∃ V6,V6=V.alloc (.cells #[.slice none 0 0] 23):=⟨_,rfl⟩
 have hX6:V6.heap[x]?=some (.cells #[.int .i64 2,.slice c1 1 c3,.int .i64 0,.slice none 0 0,.int .i64 0,.int .i64 0,.bool false,.int .i64 0,.string ⟨#[]⟩] 25 (0,0)):=by rw [hV6];exact (heap_alloc_old _ _ hxV).trans hXV
 have hY6:V6.heap[y]?=some (.cells #[.int .i64 0,.slice none 0 0,.int .i64 0,.slice none 0 0,.int .i64 0,.int .i64 0,.bool false,.int .i64 0,.string ⟨#[]⟩] 25 (0,0)):=by rw [hV6];exact (heap_alloc_old _ _ hyV).trans hYV
 have hv6:V6.heap[V.heap.size]?=some (.cells #[.slice none 0 0] 23 (0,0)):=by rw [hV6];exact heap_alloc_new V _
 have hF6:V6.heap[f]?=some (.cells (Fc r1 1 r3) 151 (0,0)):=by rw [hV6];exact (heap_alloc_old _ _ hfV).trans hFV
 have HR6:Hid (V6.ownsRow U.heap.size 70 2 (.slice c1 1 c3) 1 (O2 [(97,97)])):=by rw [hV6];exact HRV.out.alloc _
 have HB6:Hid (Below y w V6):=by rw [hV6];exact HBV.out.alloc (by omega) _
 have HCW:=fun v W=>leaf93 v W
 clear a9 e0 e1 e2 e3 e4 e5 e6 e7 e8 f1 j1 g1
 have HV6:=hid hV6
 clear hV hzV hV6
 go_upto_region 4 with fail
 rw [← HV6.out]
 have b0:V6.cell? ⟨V.heap.size,0,none⟩=some (.slice none 0 0):=Joins.cell_of_block hv6 0
 have b9:V6.cell? ⟨f,9,none⟩=some (.func (.func 203) #[] #[]):=Joins.cell_of_block hF6 9
 obtain ⟨e0,e1,e2,e3,e4,e5,e6,e7,e8⟩:=ninec hX6
 have x3:=Joins.unfrozen_of_block hX6 3
 have y0:=Joins.unfrozen_of_block hY6 0
 have y1:=Joins.unfrozen_of_block hY6 1
 have y2:=Joins.unfrozen_of_block hY6 2
 have y3:=Joins.unfrozen_of_block hY6 3
 have y4:=Joins.unfrozen_of_block hY6 4
 have y5:=Joins.unfrozen_of_block hY6 5
 have y6:=Joins.unfrozen_of_block hY6 6
 have y7:=Joins.unfrozen_of_block hY6 7
 have y8:=Joins.unfrozen_of_block hY6 8
 obtain ⟨s0,s1,s2,s3,s4,s5,s6,s7,s8⟩:V6.cell? ⟨y,0,none⟩=some (.int .i64 0)∧V6.cell? ⟨y,1,none⟩=some (.slice none 0 0)∧V6.cell? ⟨y,2,none⟩=some (.int .i64 0)∧V6.cell? ⟨y,3,none⟩=some (.slice none 0 0)∧V6.cell? ⟨y,4,none⟩=some (.int .i64 0)∧V6.cell? ⟨y,5,none⟩=some (.int .i64 0)∧V6.cell? ⟨y,6,none⟩=some (.bool false)∧V6.cell? ⟨y,7,none⟩=some (.int .i64 0)∧V6.cell? ⟨y,8,none⟩=some (.string ⟨#[]⟩):=⟨Joins.cell_of_block hY6 0,Joins.cell_of_block hY6 1,Joins.cell_of_block hY6 2,Joins.cell_of_block hY6 3,Joins.cell_of_block hY6 4,Joins.cell_of_block hY6 5,Joins.cell_of_block hY6 6,Joins.cell_of_block hY6 7,Joins.cell_of_block hY6 8⟩
 have HY6:=hid hY6
 obtain ⟨q,hq⟩:∃ q,q=V.heap.size:=⟨_,rfl⟩
 rw [← hq] at b0 ⊢
 have hqx:x < q:=by omega
 have hqy:y < q:=by omega
 clear HV6 hX6 hY6 hv6 hF6 hXV hYV hFV hq
 go_wp2_with (first | (go_at_call 203;(with_reducible refine (HCW _ _).mono ?_);rintro e w9 ⟨rfl,hw⟩;have hw':=hw.symm;clear hw;subst hw'))
 have hy3:(V6.setCell ⟨x,3,none⟩ (.slice none 0 0)).heap[y]?=some (.cells #[.int .i64 0,.slice none 0 0,.int .i64 0,.slice none 0 0,.int .i64 0,.int .i64 0,.bool false,.int .i64 0,.string ⟨#[]⟩] 25 (0,0)):=(Below.heap_setCell _ _ _ _ (fun e=>by simp only at e;omega)).trans HY6.out
 have hfin:=nineSet _ y (.int .i64 2) (.slice c1 1 c3) (.int .i64 0) (.slice none 0 0) (.int .i64 0) (.int .i64 0) (.bool false) (.int .i64 0) (.string ⟨#[]⟩) hy3
 refine bodyPost_ret (results_cell_row rfl _ _ y 25 _ (0,0) _ rfl hfin Tryz.underlying25 rfl (by kernel_rfl)) rfl ?_
 have hcy:(Value.slice c1 1 c3).ownBlock≠some y:=fun e=>by have:=(HR6.out.lt y e).1;omega
 have hcx:(Value.slice c1 1 c3).ownBlock≠some x:=fun e=>by have:=(HR6.out.lt x e).1;omega
 refine ⟨c1,c3,rfl,?_,?_⟩
 ·rw [← HYE.out]
  iterate 9 refine own_setCell ?_ hcy
  refine own_setCell ?_ hcx
  exact HR6.out.mono (base':=y) (by omega)
 ·rw [← HYE.out]
  iterate 9 refine Below.setCell ?_ (by show y≤y;omega) _
  refine Below.setCell ?_ (by show y≤x;omega) _
  exact HB6.out
theorem nine_cases {k:Nat} (hk:k < 9):k=0∨k=1∨k=2∨k=3∨k=4∨k=5∨k=6∨k=7∨k=8:=by omega
theorem tail_nineW {w3:World} {y:Nat} (M:Nv) (hY:BN w3 y Zn):(set9 w3 y 0 M).heap[y]?=some (.cells #[.int .i64 M.k,.slice M.r1 M.r2 M.r3,.int .i64 M.a2,.slice M.s1 M.s2 M.s3,.int .i64 M.a4,.int .i64 M.a5,.bool M.a6,.int .i64 M.a7,.string M.a8] 25 (0,0))∧(∀ c,c≠y→(set9 w3 y 0 M).heap[c]?=w3.heap[c]?)∧∀ B0 W0,Below B0 W0 w3→B0≤y→Below B0 W0 (set9 w3 y 0 M):=by
 refine ⟨nineSet _ y _ _ _ _ _ _ _ _ _ hY,fun c hc=>?_,fun B0 W0 h h1=>?_⟩
 ·rw [set9_eq];exact setCells_old y _ _ _ c hc
 ·rw [set9_eq];exact Below.setCells h1 _ _ _ _ h
theorem ok0:I64ok 0:=by decide
theorem ok6:I64ok 6:=by decide
end Go.Proofs.YtacaanhnlfpbhaaGreat
