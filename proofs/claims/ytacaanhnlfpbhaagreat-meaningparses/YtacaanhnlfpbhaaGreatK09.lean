/- HELPERS: texts of ours put together. -/
import Derived.Test.YtacaanhnlfpbhaaGreatK08
import Derived.Laws.EntriesVeiled
import Derived.Test.YtacaanhnlfpbhaaGreatK03
import Derived.Test.YtacaanhnlfpbhaaGreatK06
import Derived.Deep.Cut
import Derived.Deep.RegionHeld2
import Derived.Test.YtacaanhnlfpbhaaGreatK01
import Derived.Deep.SlicePairs
import Derived.RowKit
import Derived.Test.YtacaanhnlfpbhaaGreatK04
namespace Go.Proofs.YtacaanhnlfpbhaaGreat
open Go.RowKit
set_option linter.unusedVariables false
set_option linter.unusedSimpArgs false
structure Six where
 a0:Value
 a1:Value
 a2:Value
 a4:Value
 a5:Value
 a6:Value
abbrev O7 (w:World) (g:Nat) (A:Six) (n:Int):Prop:=w.heap[g]?=some (.cells #[A.a0,A.a1,A.a2,.int .i64 n,A.a4,A.a5,A.a6] 135 (0,0))
structure Mk (g K:Nat) (L:Nat→Prop) (w w':World) (A:Six) (n':Int) (v:Value) (W:Way) (F0 F:List Nat):Prop where
 rep:Rep g K L w' v W F
 ob:O7 w' g A n'
 chg:Chg w w' [g] [g]
 new:∀ k ∈ F,k ∈ F0∨w.heap.size≤k
theorem Rep.form {g K:Nat} {L:Nat→Prop} {w:World} {v:Value} {d:Way} {F:List Nat} (h:Rep g K L w v d F):∃ f fi ca,v=.func (.func f) fi ca:=by
 cases h <;> exact ⟨_,_,_,rfl⟩
theorem hmf:∀ (fn:Fn) (first cap:Array Value) (w:World),(Instr.makeFunc fn first cap).run Tryz.prog w=.ok (.func fn first cap) w:=fun _ _ _ _=>rfl
set_option maxRecDepth 100000 in
set_option maxHeartbeats 2000000 in
theorem once54 (g K:Nat) (L:Nat→Prop) (A:Six) (n:Int) (vb:Value) (B:Way) (F0:List Nat) (w:World) (hO:O7 w g A n) (hR:Rep g K L w vb B F0) (hgF:g ∉ F0) (hn:0≤n∧n < 1000000000) :
  Calls Tryz.prog 78 #[pt g,vb] w fun e w'=>∃ v F,e=.returned v∧Mk g K L w w' A (n + 1) v (.once (n + 1) B) F0 F:=by
 obtain ⟨f,fi,ca,rfl⟩:=hR.form
 have hm:=hmf
 have g3:w.cell? ⟨g,3,none⟩=some (.int .i64 n):=Joins.cell_of_block hO 3
 have f3:=Joins.unfrozen_of_block hO 3
 have hgl:=(Array.getElem?_eq_some_iff.1 hO).1
 have HO:=hid hO
 have HR:=hid hR
 clear hO hR
 go_enter Tryz.func78,Tryz.ntmps78
 go_wp2
 go_ret
 obtain ⟨h1,h2,h3,h4⟩:=three_new (w.setCell ⟨g,3,none⟩ (.int .i64 (n + 1))) (.cells #[pt g] 71) (.cells #[.func (.func f) fi ca] 133) (.cells #[.int .i64 (n + 1)] 3)
 have hs:(w.setCell ⟨g,3,none⟩ (.int .i64 (n + 1))).heap.size=w.heap.size:=by simp [World.setCell]
 rw [hs] at h1 h2 h3 h4
 have hc:Chg w ((((w.setCell ⟨g,3,none⟩ (.int .i64 (n + 1))).alloc (.cells #[pt g] 71)).alloc (.cells #[.func (.func f) fi ca] 133)).alloc (.cells #[.int .i64 (n + 1)] 3)) [g] [g]:=
  ((((Chg.refl w [g]).set (a:=⟨g,3,none⟩) (.int .i64 (n + 1)) (by simp)).alloc _).alloc _).alloc _
 refine ⟨_,_,rfl,.once h3 h1 h2 ⟨by omega,by omega⟩ (HR.out.kept fun k hk=>?_),?_,hc,?_⟩
 ·exact hc.block k (HR.out.low k hk) (by simp;intro e;exact hgF (e ▸ hk))
 ·exact (h4 g hgl).trans (Joins.block_setCell (i:=3) HO.out _)
 ·intro k hk
  simp only [List.mem_cons] at hk
  rcases hk with rfl | rfl | rfl | hk
  ·right;omega
  ·right;omega
  ·right;omega
  ·exact .inl hk
set_option maxRecDepth 100000 in
set_option maxHeartbeats 2000000 in
theorem noted68 (g K c:Nat) (L:Nat→Prop) (A:Six) (n:Int) (vb:Value) (B:Way) (F0:List Nat) (w:World) (hO:O7 w g A n) (hR:Rep g K L w vb B F0) (hgF:g ∉ F0) (hc:c < K) :
  Calls Tryz.prog 118 #[pt g,.int .i64 (c:Int),vb] w fun e w'=>∃ v F,e=.returned v∧Mk g K L w w' A n v (.noted c B) F0 F:=by
 obtain ⟨f,fi,ca,rfl⟩:=hR.form
 have hm:=hmf
 have hgl:=(Array.getElem?_eq_some_iff.1 hO).1
 have HO:=hid hO
 have HR:=hid hR
 clear hO hR
 go_enter Tryz.func118,Tryz.ntmps118
 go_wp2
 go_ret
 obtain ⟨h1,h2,h3,h4⟩:=three_new w (.cells #[pt g] 71) (.cells #[.int .i64 (c:Int)] 3) (.cells #[.func (.func f) fi ca] 133)
 have hch:Chg w (((w.alloc (.cells #[pt g] 71)).alloc (.cells #[.int .i64 (c:Int)] 3)).alloc (.cells #[.func (.func f) fi ca] 133)) [g] [g]:=(((Chg.refl w [g]).alloc _).alloc _).alloc _
 refine ⟨_,_,rfl,.noted h1 h2 h3 hc (HR.out.kept fun k hk=>?_),(h4 g hgl).trans HO.out,hch,?_⟩
 ·exact hch.block k (HR.out.low k hk) (by simp;intro e;exact hgF (e ▸ hk))
 ·intro k hk
  simp only [List.mem_cons] at hk
  rcases hk with rfl | rfl | rfl | hk
  ·right;omega
  ·right;omega
  ·right;omega
  ·exact .inl hk
set_option maxRecDepth 100000 in
set_option maxHeartbeats 2000000 in
theorem runeOf64 (g K:Nat) (L:Nat→Prop) (GR:List Nat) (A:Six) (n:Int) (vb rv:Value) (R:Rng) (B:Way) (F0:List Nat) (w:World) (hO:O7 w g A n) (hR:Rep g K L w vb B F0) (hgF:g ∉ F0) (hr:RowIn w rv R GR) :
  Calls Tryz.prog 114 #[pt g,rv,vb] w fun e w'=>∃ v F,e=.returned v∧Mk g K L w w' A n v (.runeOf R B) (GR ++ F0) F:=by
 obtain ⟨f,fi,ca,rfl⟩:=hR.form
 obtain ⟨s1,s2,s3,rfl⟩:∃ s1 s2 s3,rv=.slice s1 s2 s3:=by
  obtain ⟨s1,s3,h⟩:=hr.form
  exact ⟨_,_,_,h⟩
 have hm:=hmf
 have hgl:=(Array.getElem?_eq_some_iff.1 hO).1
 have HO:=hid hO
 have HR:=hid hR
 have Hr:=hid hr
 clear hO hR hr
 go_enter Tryz.func114,Tryz.ntmps114
 go_wp2
 go_ret
 obtain ⟨h1,h2,h3,h4⟩:=three_new w (.cells #[pt g] 71) (.cells #[.slice s1 s2 s3] 22) (.cells #[.func (.func f) fi ca] 133)
 have hch:Chg w (((w.alloc (.cells #[pt g] 71)).alloc (.cells #[.slice s1 s2 s3] 22)).alloc (.cells #[.func (.func f) fi ca] 133)) [g] [g]:=(((Chg.refl w [g]).alloc _).alloc _).alloc _
 refine ⟨_,_,rfl,.runeOf h1 h2 h3 (Hr.out.kept fun b hb=>h4 b (Hr.out.low b hb)) (HR.out.kept fun k hk=>?_),(h4 g hgl).trans HO.out,hch,?_⟩
 ·exact hch.block k (HR.out.low k hk) (by simp;intro e;exact hgF (e ▸ hk))
 ·intro k hk
  simp only [List.mem_cons,List.mem_append] at hk ⊢
  rcases hk with rfl | rfl | rfl | hk | hk
  ·right;omega
  ·right;omega
  ·right;omega
  ·exact .inl (.inl hk)
  ·exact .inl (.inr hk)
set_option maxRecDepth 100000 in
set_option maxHeartbeats 2000000 in
theorem ifHolds65 (g K:Nat) (L:Nat→Prop) (A:Six) (n a:Int) (vb:Value) (B:Way) (F0:List Nat) (w:World) (hO:O7 w g A n) (hR:Rep g K L w vb B F0) (hgF:g ∉ F0) :
  Calls Tryz.prog 115 #[pt g,.int .i64 a,vb] w fun e w'=>∃ v F,e=.returned v∧Mk g K L w w' A n v (.ifHolds a B) F0 F:=by
 obtain ⟨f,fi,ca,rfl⟩:=hR.form
 have hm:=hmf
 have hgl:=(Array.getElem?_eq_some_iff.1 hO).1
 have HO:=hid hO
 have HR:=hid hR
 clear hO hR
 go_enter Tryz.func115,Tryz.ntmps115
 go_wp2
 go_ret
 obtain ⟨h1,h2,h3,h4⟩:=three_new w (.cells #[pt g] 71) (.cells #[.int .i64 a] 3) (.cells #[.func (.func f) fi ca] 133)
 have hch:Chg w (((w.alloc (.cells #[pt g] 71)).alloc (.cells #[.int .i64 a] 3)).alloc (.cells #[.func (.func f) fi ca] 133)) [g] [g]:=(((Chg.refl w [g]).alloc _).alloc _).alloc _
 refine ⟨_,_,rfl,.ifHolds h2 h1 h3 (HR.out.kept fun k hk=>?_),(h4 g hgl).trans HO.out,hch,?_⟩
 ·exact hch.block k (HR.out.low k hk) (by simp;intro e;exact hgF (e ▸ hk))
 ·intro k hk
  simp only [List.mem_cons] at hk
  rcases hk with rfl | rfl | rfl | hk
  ·right;omega
  ·right;omega
  ·right;omega
  ·exact .inl hk
set_option maxRecDepth 100000 in
set_option maxHeartbeats 2000000 in
theorem inOrder94 (g K N0 m:Nat) (L:Nat→Prop) (sv:Value) (l:List Way) (vs:List Value) (F1:List Nat) (w:World) (hs:w.ownsRow N0 133 1 sv l.length vs) (hR:Reps g K L w vs l F1) :
  Calls Tryz.prog 186 #[sv] w fun e w'=>∃ v F,e=.returned v∧Rep g K L w' v (.inOrder l) F∧Below w.heap.size w w'∧(∀ k ∈ F,k ∈ sv.ownBlock.toList ++ F1∨w.heap.size≤k):=by
 obtain ⟨s1,s2,s3,rfl⟩:∃ s1 s2 s3,sv=.slice s1 s2 s3:=by
  rcases Joins.ownsRow_forms hs with ⟨rfl,h⟩ | ⟨b,cap,rfl⟩
  ·exact ⟨none,0,0,rfl⟩
  ·exact ⟨_,_,_,rfl⟩
 have hm:=hmf
 have HS:=hid hs
 have HR:=hid hR
 clear hs hR
 go_enter Tryz.func186,Tryz.ntmps186
 go_wp2
 go_ret
 have hb:Below w.heap.size w (w.alloc (.cells #[.slice s1 s2 s3] 237)):=Joins.below_alloc1 w _
 refine ⟨_,_,rfl,.inOrder (heap_alloc_new w _) (row_kept HS.out fun b hb2=>hb.block b (HS.out.lt b hb2).2) (HR.out.kept fun k hk=>hb.block k (HR.out.low k hk)),hb,?_⟩
 intro k hk
 simp only [List.mem_cons,List.mem_append] at hk ⊢
 rcases hk with rfl | hk | hk
 ·right;omega
 ·exact .inl (.inl hk)
 ·exact .inl (.inr hk)
structure Nd where
 r1:Option Addr
 r2:Nat
 r3:Nat
 a2:Int
 s1:Option Addr
 s2:Nat
 s3:Nat
 a4:Int
 a5:Int
 a6:Bool
 a7:Int
 a8:ByteArray
abbrev Nd.v (N:Nd) (k:Int):Value:=.agg #[.int .i64 k,.slice N.r1 N.r2 N.r3,.int .i64 N.a2,.slice N.s1 N.s2 N.s3,.int .i64 N.a4,.int .i64 N.a5,.bool N.a6,.int .i64 N.a7,.string N.a8]
abbrev Nd.o (N:Nd) (k:Int):Obj:=.cells #[.int .i64 k,.slice N.r1 N.r2 N.r3,.int .i64 N.a2,.slice N.s1 N.s2 N.s3,.int .i64 N.a4,.int .i64 N.a5,.bool N.a6,.int .i64 N.a7,.string N.a8] 25
theorem Mk.from {g K:Nat} {L:Nat→Prop} {w w1 w':World} {A:Six} {n':Int} {v:Value} {W:Way} {F0 F:List Nat} (hc:Chg w w1 [g] [g]) (h:Mk g K L w1 w' A n' v W F0 F):Mk g K L w w' A n' v W F0 F:=
 ⟨h.rep,h.ob,hc.trans h.chg,fun k hk=>by rcases h.new k hk with h | h;exact .inl h;right;have:=hc.size;omega⟩
theorem Mk.away {g K:Nat} {L:Nat→Prop} {w w':World} {A:Six} {n':Int} {v:Value} {W:Way} {F0 F:List Nat} (h:Mk g K L w w' A n' v W F0 F) (hg:g ∉ F0) (hl:g < w.heap.size):g ∉ F:=fun hm=>by
 rcases h.new g hm with h | h
 ·exact hg h
 ·omega
theorem Mk.trans {g K:Nat} {L:Nat→Prop} {w w1 w2:World} {A:Six} {n1 n2:Int} {v1 v2:Value} {W1 W2:Way} {F0 F1 F2:List Nat} (h:Mk g K L w w1 A n1 v1 W1 F0 F1) (h2:Mk g K L w1 w2 A n2 v2 W2 F1 F2):Mk g K L w w2 A n2 v2 W2 F0 F2:=
 ⟨h2.rep,h2.ob,h.chg.trans h2.chg,fun k hk=>by
  rcases h2.new k hk with h3 | h3
  ·exact h.new k h3
  ·right;have:=h.chg.size;omega⟩
set_option maxRecDepth 100000 in
set_option maxHeartbeats 2000000 in
theorem begin_empty (g K:Nat) (L:Nat→Prop) (A:Six) (n:Int) (N:Nd) (vb:Value) (B:Way) (F0:List Nat) (w:World) (hO:O7 w g A n) (hR:Rep g K L w vb B F0) (hgF:g ∉ F0) (hn:0≤n∧n < 1000000000) :
  Calls Tryz.prog 77 #[pt g,N.v 1,vb] w fun e w'=>∃ v F,e=.returned v∧Mk g K L w w' A (n + 1) v (.once (n + 1) B) F0 F:=by
 obtain ⟨f,fi,ca,rfl⟩:=hR.form
 have hgl:=(Array.getElem?_eq_some_iff.1 hO).1
 obtain ⟨h1,h2,h3,h4⟩:=three_new w (.cells #[pt g] 71) (N.o 1) (.cells #[.func (.func f) fi ca] 133)
 have hch:Chg w (((w.alloc (.cells #[pt g] 71)).alloc (N.o 1)).alloc (.cells #[.func (.func f) fi ca] 133)) [g] [g]:=(((Chg.refl w [g]).alloc _).alloc _).alloc _
 have HC:=once54 g K L A n (.func (.func f) fi ca) B F0 _ ((h4 g hgl).trans hO) (hR.kept fun k hk=>hch.block k (hR.low k hk) (by simp;intro e;exact hgF (e ▸ hk))) hgF hn
 have HCH:=hid hch
 clear hO hR hch h1 h2 h3 h4
 go_enter Tryz.func77,Tryz.ntmps77
 go_wp2_with (go_at_call 78;(with_reducible refine HC.mono ?_);rintro e w' ⟨v,F,rfl,M⟩;obtain ⟨f2,fi2,ca2,rfl⟩:=M.rep.form;have HM:=hid M;clear M)
 go_ret
 exact ⟨_,F,rfl,HM.out.from HCH.out⟩
set_option maxRecDepth 100000 in
set_option maxHeartbeats 2000000 in
theorem begin_class (g K:Nat) (L:Nat→Prop) (GR:List Nat) (A:Six) (n:Int) (N:Nd) (R:Rng) (vb:Value) (B:Way) (F0:List Nat) (w:World) (hO:O7 w g A n) (hR:Rep g K L w vb B F0) (hgF:g ∉ F0) (hn:0≤n∧n < 1000000000)
  (hr:RowIn w (.slice N.r1 N.r2 N.r3) R GR) (hgr:g ∉ GR) :
  Calls Tryz.prog 77 #[pt g,N.v 2,vb] w fun e w'=>∃ v F,e=.returned v∧Mk g K L w w' A (n + 1) v (.once (n + 1) (.runeOf R B)) (GR ++ F0) F:=by
 obtain ⟨f,fi,ca,rfl⟩:=hR.form
 have hgl:=(Array.getElem?_eq_some_iff.1 hO).1
 obtain ⟨h1,h2,h3,h4⟩:=three_new w (.cells #[pt g] 71) (N.o 2) (.cells #[.func (.func f) fi ca] 133)
 have hch:Chg w (((w.alloc (.cells #[pt g] 71)).alloc (N.o 2)).alloc (.cells #[.func (.func f) fi ca] 133)) [g] [g]:=(((Chg.refl w [g]).alloc _).alloc _).alloc _
 obtain ⟨W,hW⟩:∃ W,W=(((w.alloc (.cells #[pt g] 71)).alloc (N.o 2)).alloc (.cells #[.func (.func f) fi ca] 133)):=⟨_,rfl⟩
 rw [← hW] at h1 h2 h3 h4 hch
 have HC:=runeOf64 g K L GR A n (.func (.func f) fi ca) (.slice N.r1 N.r2 N.r3) R B F0 W.drew ((h4 g hgl).trans hO) ((hR.kept fun k hk=>hch.block k (hR.low k hk) (by simp;intro e;exact hgF (e ▸ hk))).kept fun k hk=>rfl) hgF ((hr.kept fun b hb=>h4 b (hr.low b hb)).kept (w':=W.drew) fun _ _=>rfl)
 have x3:W.cell? ⟨w.heap.size,0,none⟩=some (pt g):=bx0 h1
 have x5:W.cell? ⟨w.heap.size + 1 + 1,0,none⟩=some (.func (.func f) fi ca):=bx0 h3
 have x41:W.cell? ⟨w.heap.size + 1,1,none⟩=some (.slice N.r1 N.r2 N.r3):=Joins.cell_of_block h2 1
 have hsW:W.heap.size=w.heap.size + 1 + 1 + 1:=by rw [hW];simp
 obtain ⟨z,hz⟩:∃ z,z=w.heap.size:=⟨_,rfl⟩
 have HCH:=hid hch
 have HW:=hid hW
 have H1:=hid h1
 have HS:=hid hsW
 have HG:=hid hgr
 have HHG:=hid hgF
 have HZ:=hid hz
 clear hO hR hch h1 h2 h3 h4 hr hgF hgr hsW
 go_enter Tryz.func77,Tryz.ntmps77
 go_wp2_with fail
 rw [← hW,← hz]
 rw [← hz] at x3 x5 x41
 clear hW hz
 have hb1:∀ w1,Chg W.drew w1 [g] [g]→w1.cell? ⟨z,0,none⟩=some (pt g)∧w1.cell? ⟨z + 1,1,none⟩=some (.slice N.r1 N.r2 N.r3)∧w1.cell? ⟨z + 1 + 1,0,none⟩=some (.func (.func f) fi ca):=fun w1 hc1=>by
  have hz:=HZ.out
  have hs:=HS.out
  have e:∀ k o,z≤k→k < z + 3→w1.cell? ⟨k,o,none⟩=W.cell? ⟨k,o,none⟩:=fun k o h1 h2=>cell_heap (hc1.block k (by show k < W.heap.size;omega) (by simp;omega)) o
  exact ⟨(e _ _ (by omega) (by omega)).trans x3,(e _ _ (by omega) (by omega)).trans x41,(e _ _ (by omega) (by omega)).trans x5⟩
 have HB1:=hid hb1
 clear hb1
 go_region_held2 (fun w'=>w'.cell? ⟨z,0,none⟩=some (pt g)∧w'.cell? ⟨z + 1,1,none⟩=some (.slice N.r1 N.r2 N.r3)∧w'.cell? ⟨z + 1 + 1,0,none⟩=some (.func (.func f) fi ca))
  (first | exact ⟨x3,x41,x5⟩ | exact HB1.out _ HM1.out.chg | exact HB1.out _ (HM1.out.chg.trans HM2.out.chg))
  (first | (go_at_call 114;(with_reducible refine HC.mono ?_);rintro e w1 ⟨v1,F1,rfl,M1⟩;obtain ⟨f1,fi1,ca1,rfl⟩:=M1.rep.form;have HC2:=once54 g K L A n _ _ F1 w1 M1.ob M1.rep (M1.away (by simp;exact ⟨HG.out,HHG.out⟩) (by show g < W.heap.size;have:=HS.out;omega)) hn;have HM1:=hid M1;clear M1 HC) | (go_at_call 78;(with_reducible refine HC2.mono ?_);rintro e w2 ⟨v2,F2,rfl,M2⟩;obtain ⟨f2,fi2,ca2,rfl⟩:=M2.rep.form;have HM2:=hid M2;clear M2 HC2))
 all_goals
  go_wp2
  go_ret
  refine ⟨_,F2,rfl,Mk.from (HCH.out.trans ?_) (HM1.out.trans HM2.out)⟩
  exact (Chg.refl W [g]).drew
set_option maxRecDepth 100000 in
set_option maxHeartbeats 2000000 in
theorem begin_assert (g K:Nat) (L:Nat→Prop) (A:Six) (n:Int) (N:Nd) (vb:Value) (B:Way) (F0:List Nat) (w:World) (hO:O7 w g A n) (hR:Rep g K L w vb B F0) (hgF:g ∉ F0) (hn:0≤n∧n < 1000000000) :
  Calls Tryz.prog 77 #[pt g,N.v 3,vb] w fun e w'=>∃ v F,e=.returned v∧Mk g K L w w' A (n + 1) v (.once (n + 1) (.ifHolds N.a2 B)) F0 F:=by
 obtain ⟨f,fi,ca,rfl⟩:=hR.form
 have hgl:=(Array.getElem?_eq_some_iff.1 hO).1
 obtain ⟨h1,h2,h3,h4⟩:=three_new w (.cells #[pt g] 71) (N.o 3) (.cells #[.func (.func f) fi ca] 133)
 have hch:Chg w (((w.alloc (.cells #[pt g] 71)).alloc (N.o 3)).alloc (.cells #[.func (.func f) fi ca] 133)) [g] [g]:=(((Chg.refl w [g]).alloc _).alloc _).alloc _
 obtain ⟨W,hW⟩:∃ W,W=(((w.alloc (.cells #[pt g] 71)).alloc (N.o 3)).alloc (.cells #[.func (.func f) fi ca] 133)):=⟨_,rfl⟩
 rw [← hW] at h1 h2 h3 h4 hch
 have HC:=ifHolds65 g K L A n N.a2 (.func (.func f) fi ca) B F0 W.drew ((h4 g hgl).trans hO) ((hR.kept fun k hk=>hch.block k (hR.low k hk) (by simp;intro e;exact hgF (e ▸ hk))).kept fun k hk=>rfl) hgF
 have x3:W.cell? ⟨w.heap.size,0,none⟩=some (pt g):=bx0 h1
 have x5:W.cell? ⟨w.heap.size + 1 + 1,0,none⟩=some (.func (.func f) fi ca):=bx0 h3
 have x41:W.cell? ⟨w.heap.size + 1,2,none⟩=some (.int .i64 N.a2):=Joins.cell_of_block h2 2
 have hsW:W.heap.size=w.heap.size + 1 + 1 + 1:=by rw [hW];simp
 obtain ⟨z,hz⟩:∃ z,z=w.heap.size:=⟨_,rfl⟩
 have HCH:=hid hch
 have HW:=hid hW
 have H1:=hid h1
 have HS:=hid hsW
 have HHG:=hid hgF
 have HZ:=hid hz
 clear hO hR hch h1 h2 h3 h4 hgF hsW
 go_enter Tryz.func77,Tryz.ntmps77
 go_wp2_with fail
 rw [← hW,← hz]
 rw [← hz] at x3 x5 x41
 clear hW hz
 have hb1:∀ w1,Chg W.drew w1 [g] [g]→w1.cell? ⟨z,0,none⟩=some (pt g)∧w1.cell? ⟨z + 1,2,none⟩=some (.int .i64 N.a2)∧w1.cell? ⟨z + 1 + 1,0,none⟩=some (.func (.func f) fi ca):=fun w1 hc1=>by
  have hz:=HZ.out
  have hs:=HS.out
  have e:∀ k o,z≤k→k < z + 3→w1.cell? ⟨k,o,none⟩=W.cell? ⟨k,o,none⟩:=fun k o h1 h2=>cell_heap (hc1.block k (by show k < W.heap.size;omega) (by simp;omega)) o
  exact ⟨(e _ _ (by omega) (by omega)).trans x3,(e _ _ (by omega) (by omega)).trans x41,(e _ _ (by omega) (by omega)).trans x5⟩
 have HB1:=hid hb1
 clear hb1
 go_region_held2 (fun w'=>w'.cell? ⟨z,0,none⟩=some (pt g)∧w'.cell? ⟨z + 1,2,none⟩=some (.int .i64 N.a2)∧w'.cell? ⟨z + 1 + 1,0,none⟩=some (.func (.func f) fi ca))
  (first | exact ⟨x3,x41,x5⟩ | exact HB1.out _ HM1.out.chg | exact HB1.out _ (HM1.out.chg.trans HM2.out.chg))
  (first | (go_at_call 115;(with_reducible refine HC.mono ?_);rintro e w1 ⟨v1,F1,rfl,M1⟩;obtain ⟨f1,fi1,ca1,rfl⟩:=M1.rep.form;have HC2:=once54 g K L A n _ _ F1 w1 M1.ob M1.rep (M1.away HHG.out (by show g < W.heap.size;have:=HS.out;omega)) hn;have HM1:=hid M1;clear M1 HC) | (go_at_call 78;(with_reducible refine HC2.mono ?_);rintro e w2 ⟨v2,F2,rfl,M2⟩;obtain ⟨f2,fi2,ca2,rfl⟩:=M2.rep.form;have HM2:=hid M2;clear M2 HC2))
 all_goals
  go_wp2
  go_ret
  refine ⟨_,F2,rfl,Mk.from (HCH.out.trans ?_) (HM1.out.trans HM2.out)⟩
  exact (Chg.refl W [g]).drew
theorem info84:(Tryz.prog.info? 133).map (fun i=>(i.zero,i.size,i.bytes))=some (some .nilFunc,1,8):=by kernel_rfl
set_option maxRecDepth 100000 in
set_option maxHeartbeats 2000000 in
theorem choice97 (g K:Nat) (L:Nat→Prop) (v1 v2:Value) (W1 W2:Way) (F1 F2:List Nat) (w:World) (h1:Rep g K L w v1 W1 F1) (h2:Rep g K L w v2 W2 F2) :
  Calls Tryz.prog 189 #[.bool false,v1,v2] w fun e w'=>∃ v F,e=.returned v∧Rep g K L w' v (.inOrder [W1,W2]) F∧Below w.heap.size w w'∧∀ k ∈ F,k ∈ F1 ++ F2∨w.heap.size≤k:=by
 obtain ⟨f1,fi1,ca1,rfl⟩:=h1.form
 obtain ⟨f2,fi2,ca2,rfl⟩:=h2.form
 have hb:Below w.heap.size w (w.alloc (.cells #[.func (.func f1) fi1 ca1,.func (.func f2) fi2 ca2] 133)):=Joins.below_alloc1 w _
 have hrow:(w.alloc (.cells #[.func (.func f1) fi1 ca1,.func (.func f2) fi2 ca2] 133)).ownsRow w.heap.size 133 1 (.slice (some ⟨w.heap.size,0,none⟩) 2 2) 2 [.func (.func f1) fi1 ca1,.func (.func f2) fi2 ca2]:=by
  have:=World.ownsRow_lit (base:=w.heap.size) (e:=133) (size:=1) w #[.func (.func f1) fi1 ca1,.func (.func f2) fi2 ca2] 2 (Nat.le_refl _) (by unfold maxLen;omega) rfl
  exact this
 have HC:=inOrder94 g K w.heap.size 0 L _ [W1,W2] _ (F1 ++ (F2 ++ [])) _ hrow (.cons (h1.kept fun k hk=>hb.block k (h1.low k hk)) (.cons (h2.kept fun k hk=>hb.block k (h2.low k hk)) .nil))
 have HB:=hid hb
 clear h1 h2 hb hrow
 go_enter Tryz.func189,Tryz.ntmps189
 go_wp2_with (go_at_call 186;(with_reducible refine HC.mono ?_);rintro e w1 ⟨v,F,rfl,hr,hb1,hn⟩;obtain ⟨f,fi,ca,rfl⟩:=hr.form;have HR:=hid hr;have HB1:=hid hb1;have HN:=hid hn;clear hr hb1 hn)
 go_ret
 refine ⟨_,F,rfl,HR.out,HB.out.trans (Joins.below_le HB1.out (by simp)),fun k hk=>?_⟩
 rcases HN.out k hk with h | h
 ·simp [Value.ownBlock] at h
  rcases h with rfl | h | h
  ·right;omega
  ·left;simp [h]
  ·left;simp [h]
 ·right;simp at h;omega
def C9 (w:World) (sb o i:Nat) (N:Nd) (k:Int):Prop:=w.cell? ⟨sb,o + i * 9,none⟩=some (.int .i64 k)∧w.cell? ⟨sb,o + i * 9 + 1,none⟩=some (.slice N.r1 N.r2 N.r3)∧w.cell? ⟨sb,o + i * 9 + 2,none⟩=some (.int .i64 N.a2)∧w.cell? ⟨sb,o + i * 9 + 3,none⟩=some (.slice N.s1 N.s2 N.s3) ∧
 w.cell? ⟨sb,o + i * 9 + 4,none⟩=some (.int .i64 N.a4)∧w.cell? ⟨sb,o + i * 9 + 5,none⟩=some (.int .i64 N.a5)∧w.cell? ⟨sb,o + i * 9 + 6,none⟩=some (.bool N.a6)∧w.cell? ⟨sb,o + i * 9 + 7,none⟩=some (.int .i64 N.a7)∧w.cell? ⟨sb,o + i * 9 + 8,none⟩=some (.string N.a8)
theorem C9.kept {w w':World} {sb o i:Nat} {N:Nd} {k:Int} (h:C9 w sb o i N k) (hk:w'.heap[sb]?=w.heap[sb]?):C9 w' sb o i N k:=by
 obtain ⟨h0,h1,h2,h3,h4,h5,h6,h7,h8⟩:=h
 exact ⟨(cell_heap hk _).trans h0,(cell_heap hk _).trans h1,(cell_heap hk _).trans h2,(cell_heap hk _).trans h3,(cell_heap hk _).trans h4,(cell_heap hk _).trans h5,(cell_heap hk _).trans h6,(cell_heap hk _).trans h7,(cell_heap hk _).trans h8⟩
theorem Reps.snoc {g K:Nat} {L:Nat→Prop} {w:World} {vs:List Value} {l:List Way} {F:List Nat} (h:Reps g K L w vs l F) {v:Value} {d:Way} {G:List Nat} (hv:Rep g K L w v d G):Reps g K L w (vs ++ [v]) (l ++ [d]) (F ++ G):=by
 induction l generalizing vs F with
 | nil=>cases h;simpa using Reps.cons hv .nil
 | cons e l ih=>cases h with | cons h hs=>rw [List.append_assoc];exact .cons h (ih hs)
theorem one_new (w2:World) (u:Value) (t:TypeId):∀ j y,[u][j]?=some y→(w2.alloc (.cells #[u] t)).cell? ((⟨w2.heap.size,0,none⟩:Addr).add j)=some y:=by
 intro j y hj
 match j,hj with
 | 0,hj=>simp at hj;subst hj;simp [Addr.add]
structure Gr (g K:Nat) (L:Nat→Prop) (w wq:World) (A:Six) (n:Int) (uv:Value) (i:Nat) (l:List Way) (FS:List Nat) (vs:List Value) (FRY:List Nat):Prop where
 row:wq.ownsRow w.heap.size 133 1 uv i vs
 reps:Reps g K L wq vs l FRY
 ob:O7 wq g A n
 chg:Chg w wq [g] [g]
 new:∀ k ∈ FRY,k ∈ FS∨w.heap.size≤k
 out:∀ k,uv.ownBlock=some k→k ∉ FRY
theorem Gr.next {g K:Nat} {L:Nat→Prop} {w wq w2 w3:World} {A:Six} {n n2:Int} {uv v v':Value} {i:Nat} {l:List Way} {d:Way} {FS FRY F:List Nat} {vs:List Value} (G:Gr g K L w wq A n uv i l FS vs FRY) (o o2:Obj) (M:Mk g K L (wq.alloc o) w2 A n2 v d FS F)
  (hgl:g < w.heap.size) (hgF:g ∉ FS) (hFl:∀ k ∈ FS,k < w.heap.size) (ho:w3.ownsRow w.heap.size 133 1 v' (i + 1) (vs ++ [v])) (hm:Moved (w2.alloc o2) w3 uv v'):Gr g K L w w3 A n2 v' (i + 1) (l ++ [d]) FS (vs ++ [v]) (FRY ++ F):=by
 have hub:∀ k,uv.ownBlock=some k→w.heap.size≤k∧k < wq.heap.size:=fun k hk=>G.row.lt k hk
 have s1:=G.chg.size
 have s2:=M.chg.size
 simp at s2
 have hgR:g ∉ FRY:=fun hg=>by rcases G.new g hg with h | h;exact hgF h;omega
 have hFR:∀ k ∈ FRY,k < wq.heap.size:=G.reps.low
 have hF2:∀ k ∈ F,k < w2.heap.size:=M.rep.low
 have e12:∀ k,k < wq.heap.size→k≠g→w2.heap[k]?=wq.heap[k]?:=fun k hk hn=>(M.chg.block k (by simp;omega) (by simpa using hn)).trans (heap_alloc_old wq o hk)
 have e3:∀ k,k < w2.heap.size→uv.ownBlock≠some k→w3.heap[k]?=w2.heap[k]?:=fun k hk hn=>by
  have e:(w2.alloc o2).heap[k]?=w2.heap[k]?:=heap_alloc_old w2 o2 hk
  rcases hm with ⟨_,h⟩ | ⟨_,h⟩
  ·exact (h.block k (by simp;omega) (fun h=>hn h.symm)).trans e
  ·exact (h.block k (by simp;omega) (by simp)).trans e
 have hs3:w2.heap.size≤w3.heap.size:=by rcases hm with ⟨_,h⟩ | ⟨_,h⟩ <;> (have:=h.size;simp at this;omega)
 have hFu:∀ k ∈ F,uv.ownBlock≠some k:=fun k hk e=>by
  have:=hub k e
  rcases M.new k hk with h | h
  ·have:=hFl k h;omega
  ·simp at h;omega
 refine ⟨ho,(G.reps.kept fun k hk=>(e3 k (by have:=hFR k hk;omega) (fun e=>G.out k e hk)).trans (e12 k (hFR k hk) (fun e=>hgR (e ▸ hk)))).snoc (M.rep.kept fun k hk=>e3 k (hF2 k hk) (hFu k hk)),?_,?_,?_,?_⟩
 ·exact (e3 g (by omega) (fun e=>by have:=hub g e;omega)).trans M.ob
 ·refine ⟨?_,?_,?_,by omega,fun k hk hn=>?_,fun k hk=>.inl hk⟩
  ·rcases hm with ⟨_,h⟩ | ⟨_,h⟩ <;> exact h.os.trans (M.chg.os.trans G.chg.os)
  ·rcases hm with ⟨_,h⟩ | ⟨_,h⟩ <;> exact h.tape.trans (M.chg.tape.trans G.chg.tape)
  ·rcases hm with ⟨_,h⟩ | ⟨_,h⟩ <;> exact h.output.trans (M.chg.output.trans G.chg.output)
  ·exact (e3 k (by omega) (fun e=>by have:=hub k e;omega)).trans ((e12 k (by omega) (by simpa using hn)).trans (G.chg.block k hk hn))
 ·intro k hk
  rcases List.mem_append.1 hk with hk | hk
  ·exact G.new k hk
  ·rcases M.new k hk with h | h
   ·exact .inl h
   ·right;simp at h;omega
 ·intro k hk hm2
  rcases hm with ⟨h0,_⟩ | ⟨h0,_⟩
  ·rw [h0] at hk
   rcases List.mem_append.1 hm2 with h | h
   ·exact G.out k hk h
   ·exact hFu k h hk
  ·rw [h0] at hk
   simp at hk
   rcases List.mem_append.1 hm2 with h | h
   ·have:=hFR k h;omega
   ·have:=hF2 k h;omega
set_option maxRecDepth 100000 in
set_option maxHeartbeats 2000000 in
theorem choice97l (g K:Nat) (L:Nat→Prop) (v1 v2:Value) (W1 W2:Way) (F1 F2:List Nat) (w:World) (h1:Rep g K L w v1 W1 F1) (h2:Rep g K L w v2 W2 F2) :
  Calls Tryz.prog 189 #[.bool true,v1,v2] w fun e w'=>∃ v F,e=.returned v∧Rep g K L w' v (.inOrder [W2,W1]) F∧Below w.heap.size w w'∧∀ k ∈ F,k ∈ F1 ++ F2∨w.heap.size≤k:=by
 obtain ⟨f1,fi1,ca1,rfl⟩:=h1.form
 obtain ⟨f2,fi2,ca2,rfl⟩:=h2.form
 have hb:Below w.heap.size w (w.alloc (.cells #[.func (.func f2) fi2 ca2,.func (.func f1) fi1 ca1] 133)):=Joins.below_alloc1 w _
 have hrow:(w.alloc (.cells #[.func (.func f2) fi2 ca2,.func (.func f1) fi1 ca1] 133)).ownsRow w.heap.size 133 1 (.slice (some ⟨w.heap.size,0,none⟩) 2 2) 2 [.func (.func f2) fi2 ca2,.func (.func f1) fi1 ca1]:=by
  have:=World.ownsRow_lit (base:=w.heap.size) (e:=133) (size:=1) w #[.func (.func f2) fi2 ca2,.func (.func f1) fi1 ca1] 2 (Nat.le_refl _) (by unfold maxLen;omega) rfl
  exact this
 have HC:=inOrder94 g K w.heap.size 0 L _ [W2,W1] _ (F2 ++ (F1 ++ [])) _ hrow (.cons (h2.kept fun k hk=>hb.block k (h2.low k hk)) (.cons (h1.kept fun k hk=>hb.block k (h1.low k hk)) .nil))
 have HB:=hid hb
 clear h1 h2 hb hrow
 go_enter Tryz.func189,Tryz.ntmps189
 go_wp2_with (go_at_call 186;(with_reducible refine HC.mono ?_);rintro e w1 ⟨v,F,rfl,hr,hb1,hn⟩;obtain ⟨f,fi,ca,rfl⟩:=hr.form;have HR:=hid hr;have HB1:=hid hb1;have HN:=hid hn;clear hr hb1 hn)
 go_ret
 refine ⟨_,F,rfl,HR.out,HB.out.trans (Joins.below_le HB1.out (by simp)),fun k hk=>?_⟩
 rcases HN.out k hk with h | h
 ·simp [Value.ownBlock] at h
  rcases h with rfl | h | h
  ·right;omega
  ·left;simp [h]
  ·left;simp [h]
 ·right;simp at h;omega
theorem choice_any (g K:Nat) (L:Nat→Prop) (lz:Bool) (v1 v2:Value) (W1 W2:Way) (F1 F2:List Nat) (w:World) (h1:Rep g K L w v1 W1 F1) (h2:Rep g K L w v2 W2 F2) :
  Calls Tryz.prog 189 #[.bool lz,v1,v2] w fun e w'=>∃ v F,e=.returned v∧Rep g K L w' v (.inOrder (if lz=true then [W2,W1] else [W1,W2])) F∧Below w.heap.size w w'∧∀ k ∈ F,k ∈ F1 ++ F2∨w.heap.size≤k:=by
 cases lz with
 | false=>exact choice97 g K L v1 v2 W1 W2 F1 F2 w h1 h2
 | true=>exact choice97l g K L v1 v2 W1 W2 F1 F2 w h1 h2
abbrev AL:Nat→Prop:=fun _=>True
structure Jd where
 p:Int→Way→List Nat→World→Prop
 stab:∀ {n W FE w w'},p n W FE w→w.heap.size≤w'.heap.size→(∀ k ∈ FE,w'.heap[k]?=w.heap[k]?)→p n W FE w'
 low:∀ {n W FE w},p n W FE w→∀ k ∈ FE,k < w.heap.size
def StepJ (g K:Nat) (A:Six) (N:Nd) (k:Int) (FX F0:List Nat) (w:World) (J0 J1:Jd):Prop:=
 ∀ (w':World) (v:Value) (n:Int) (B:Way) (F1 FE:List Nat),Chg w w' [g] [g]→O7 w' g A n→Rep g K AL w' v B F1→g ∉ F1→g ∉ FE→(∀ k ∈ F1,k ∈ F0∨w.heap.size≤k)→(∀ k ∈ FE,k ∈ F0∨w.heap.size≤k)→J0.p n B FE w' →
  Calls Tryz.prog 77 #[pt g,N.v k,v] w' fun e w''=>∃ u F FE' n1 W,e=.returned u∧Mk g K AL w' w'' A n1 u W (FX ++ F1) F∧J1.p n1 W FE' w''∧∀ k ∈ FE',k ∈ FE∨k ∈ FX ++ F1∨w'.heap.size≤k
theorem StepJ.widen {g K:Nat} {A:Six} {N:Nd} {k:Int} {FX F0 F0':List Nat} {w w1:World} {J0 J1:Jd} (h:StepJ g K A N k FX F0 w J0 J1) (hc:Chg w w1 [g] [g]) (hF:∀ k ∈ F0',k ∈ F0∨w.heap.size≤k):StepJ g K A N k FX F0' w1 J0 J1:=
 fun w' v n B F1 FE h1 h2 h3 h4 h5 h6 h7 h8=>h w' v n B F1 FE (hc.trans h1) h2 h3 h4 h5
  (fun k hk=>by
   rcases h6 k hk with h | h
   ·exact hF k h
   ·right;exact Nat.le_trans hc.size h)
  (fun k hk=>by
   rcases h7 k hk with h | h
   ·exact hF k h
   ·right;exact Nat.le_trans hc.size h) h8
theorem StepJ.next {g K:Nat} {A:Six} {N:Nd} {k:Int} {FX F0:List Nat} {w w1:World} {J0 J1:Jd} (h:StepJ g K A N k FX F0 w J0 J1) (hc:Chg w w1 [g] [g]):StepJ g K A N k FX F0 w1 J0 J1:=h.widen hc fun k hk=>.inl hk
structure Mj (g K:Nat) (J:Jd) (w w':World) (A:Six) (n:Int) (v:Value) (W:Way) (F0 F FE:List Nat):Prop where
 m:Mk g K AL w w' A n v W F0 F
 j:J.p n W FE w'
 newE:∀ k ∈ FE,k ∈ F0∨w.heap.size≤k
theorem Mj.awayE {g K:Nat} {J:Jd} {w w':World} {A:Six} {n:Int} {v:Value} {W:Way} {F0 F FE:List Nat} (h:Mj g K J w w' A n v W F0 F FE) (hg:g ∉ F0) (hl:g < w.heap.size):g ∉ FE:=fun hm=>by
 rcases h.newE g hm with h | h
 ·exact hg h
 ·omega
theorem Jd.alloc (J:Jd) {n:Int} {W:Way} {FE:List Nat} {w:World} (h:J.p n W FE w) (o:Obj):J.p n W FE (w.alloc o):=J.stab h (by simp) fun k hk=>heap_alloc_old w o (J.low h k hk)
theorem Jd.drew (J:Jd) {n:Int} {W:Way} {FE:List Nat} {w:World} (h:J.p n W FE w):J.p n W FE w.drew:=J.stab h (Nat.le_refl _) fun k hk=>rfl
theorem Jd.chg (J:Jd) {n:Int} {W:Way} {FE:List Nat} {w w':World} {g:Nat} (h:J.p n W FE w) (hc:Chg w w' [g] [g]) (hg:g ∉ FE):J.p n W FE w':=J.stab h hc.size fun k hk=>hc.block k (J.low h k hk) (by simp;intro e;exact hg (e ▸ hk))
theorem Jd.below (J:Jd) {n:Int} {W:Way} {FE:List Nat} {w w':World} (h:J.p n W FE w) (hc:Below w.heap.size w w'):J.p n W FE w':=J.stab h hc.size fun k hk=>hc.block k (J.low h k hk)
set_option maxRecDepth 100000 in
set_option maxHeartbeats 4000000 in
theorem timesJ98 (g K c:Nat) (A:Six) (N:Nd) (k n:Int) (B:Way) (J:Nat→Jd) (FX F0 FE:List Nat) (vb:Value) (w:World) (hO:O7 w g A n) (hR:Rep g K AL w vb B F0) (hJ0:(J 0).p n B FE w) (hgF:g ∉ F0) (hgX:g ∉ FX) (hgE:g ∉ FE) (hc:c≤1000000)
  (HB:Hid (∀ i,i < c→StepJ g K A N k FX (FX ++ (F0 ++ FE)) w (J i) (J (i + 1)))) :
  Calls Tryz.prog 190 #[pt g,.int .i64 (c:Int),N.v k,vb] w fun e w'=>∃ v F FE' n' W,e=.returned v∧Mj g K (J c) w w' A n' v W (FX ++ (F0 ++ FE)) F FE':=by
 obtain ⟨f,fi,ca,rfl⟩:=hR.form
 have hgl:=(Array.getElem?_eq_some_iff.1 hO).1
 have hch:Chg w (w.alloc (N.o k)) [g] [g]:=(Chg.refl w [g]).alloc _
 have hM0:Mj g K (J 0) w (w.alloc (N.o k)) A n (.func (.func f) fi ca) B (FX ++ (F0 ++ FE)) F0 FE:=⟨⟨hR.kept fun j hj=>heap_alloc_old w _ (hR.low j hj),(heap_alloc_old w _ hgl).trans hO,hch,fun j hj=>.inl (by simp [hj])⟩,(J 0).alloc hJ0 _,fun j hj=>.inl (by simp [hj])⟩
 have hz:(w.alloc (N.o k)).heap[w.heap.size]?=some (.cells #[.int .i64 k,.slice N.r1 N.r2 N.r3,.int .i64 N.a2,.slice N.s1 N.s2 N.s3,.int .i64 N.a4,.int .i64 N.a5,.bool N.a6,.int .i64 N.a7,.string N.a8] 25 (0,0)):=heap_alloc_new w _
 have hgA:g ∉ FX ++ (F0 ++ FE):=by simp;exact ⟨hgX,hgF,hgE⟩
 have HM0:=hid hM0
 have HZ:=hid hz
 have HGA:=hid hgA
 clear hO hR hch hM0 hz hgX hgF hgE hgA hJ0
 go_enter Tryz.func190,Tryz.ntmps190
 go_wp2_with fail
 go_loopw [3,10] (fun u x wq=>∃ (i:Nat) (f':FuncId) (fi' ca':Array Value),u=.func (.func f') fi' ca'∧x=.int .i64 (i:Int)∧i≤c∧Hid (∃ F FE' n' W,Mj g K (J i) w wq A n' (.func (.func f') fi' ca') W (FX ++ (F0 ++ FE)) F FE')∧Hid (wq.heap[w.heap.size]?=some (.cells #[.int .i64 k,.slice N.r1 N.r2 N.r3,.int .i64 N.a2,.slice N.s1 N.s2 N.s3,.int .i64 N.a4,.int .i64 N.a5,.bool N.a6,.int .i64 N.a7,.string N.a8] 25 (0,0)))) (fun _ x _=>c - (intOf x).toNat)
 case atStart=>exact ⟨0,f,fi,ca,rfl,rfl,by omega,by exact ⟨F0,FE,n,B,HM0.out⟩,HZ.out⟩
 case round =>
  obtain ⟨i,f',fi',ca',rfl,rfl,hi,HI,HN⟩:=hrel
  by_cases hil:i < c
  ·have b1:decide ((i:Int) < (c:Int))=true:=by simp;omega
   have b2:(i:Int) < (c:Int):=by omega
   obtain ⟨F,FE1,n1,W1,M⟩:=HI.out
   obtain ⟨o0,o1,o2,o3,o4,o5,o6,o7,o8⟩:=nine' HN.out
   have HC:=HB.out i hil wr _ n1 W1 F FE1 M.m.chg M.m.ob M.m.rep (M.m.away HGA.out hgl) (M.awayE HGA.out hgl) M.m.new M.newE M.j
   have ad1:IntKind.i64.wrap ((i:Int) + 1)=(i:Int) + 1:=by simp [IntKind.wrap,IntKind.bits,IntKind.signed];omega
   have HM:=hid M
   clear M HI
   go_wp2_with (first | (go_at_call 77;(with_reducible refine HC.mono ?_);rintro e w2 ⟨u,F2,FE2,n2,W2,rfl,M2,j2,hE2⟩;obtain ⟨f2,fi2,ca2,rfl⟩:=M2.rep.form;have HM2:=hid M2;have HJ2:=hid j2;have HE2:=hid hE2;clear M2 HC j2 hE2))
   refine ⟨⟨i + 1,f2,fi2,ca2,rfl,by push_cast;rfl,by omega,?_,?_⟩,by simp [intOf];omega⟩
   ·have sz:=HM.out.m.chg.size
    refine ⟨F2,FE2,n2,W2,⟨HM2.out.rep,HM2.out.ob,HM.out.m.chg.trans HM2.out.chg,fun j hj=>?_⟩,HJ2.out,fun j hj=>?_⟩
    ·rcases HM2.out.new j hj with h | h
     ·rcases List.mem_append.1 h with h | h
      ·left;simp [h]
      ·exact HM.out.m.new j h
     ·right;omega
    ·rcases HE2.out j hj with h | h | h
     ·exact HM.out.newE j h
     ·rcases List.mem_append.1 h with h | h
      ·left;simp [h]
      ·exact HM.out.m.new j h
     ·right;omega
   ·exact (HM2.out.chg.block w.heap.size (Array.getElem?_eq_some_iff.1 HN.out).1 (by simp;omega)).trans HN.out
  ·have b1:decide ((i:Int) < (c:Int))=false:=by simp;omega
   obtain rfl:i=c:=by omega
   go_wp2
   go_ret
   obtain ⟨F,FE1,n1,W1,M⟩:=HI.out
   exact ⟨_,F,FE1,n1,W1,rfl,M⟩
end Go.Proofs.YtacaanhnlfpbhaaGreat
