/- HELPERS: texts of ours put together. -/
import Derived.Test.YtacaanhnlfpbhaaGreatK09
namespace Go.Proofs.YtacaanhnlfpbhaaGreat
open Go.RowKit
set_option linter.unusedVariables false
set_option linter.unusedSimpArgs false
set_option maxRecDepth 100000 in
set_option maxHeartbeats 4000000 in
theorem groupJ (g K i sb o s3:Nat) (A:Six) (n:Int) (N M:Nd) (km:Int) (B:Way) (J1 J2:Jd) (FX F0 FE:List Nat) (vb:Value) (w:World) (hO:O7 w g A n) (hR:Rep g K AL w vb B F0) (hj:J1.p n (.noted (2 * i + 1) B) FE w) (hgF:g ∉ F0) (hgX:g ∉ FX) (hgE:g ∉ FE) (hi:2 * i + 1 < K) (hi2:i≤1000)
  (hN:N.s1=some ⟨sb,o,none⟩∧N.s2=1∧N.s3=s3∧N.a7=(i:Int)) (hs3:1≤s3) (hsb:sb < w.heap.size) (hsg:sb≠g) (hc:C9 w sb o 0 M km) (hn1:∀ n W FE w,J2.p n W FE w→0≤n∧n < 1000000000) (HB:StepJ g K A M km FX (F0 ++ FE) w J1 J2) :
  Calls Tryz.prog 77 #[pt g,N.v 7,vb] w fun e w'=>∃ v F FE' n1 W1,e=.returned v∧Mk g K AL w w' A (n1 + 1) v (.once (n1 + 1) (.noted (2 * i) W1)) (FX ++ (F0 ++ FE)) F∧J2.p n1 W1 FE' w'∧∀ k ∈ FE',k ∈ FX ++ (F0 ++ FE)∨w.heap.size≤k:=by
 obtain ⟨f,fi,ca,rfl⟩:=hR.form
 have hgl:=(Array.getElem?_eq_some_iff.1 hO).1
 obtain ⟨h1,h2,h3,h4⟩:=three_new w (.cells #[pt g] 71) (N.o 7) (.cells #[.func (.func f) fi ca] 133)
 have hch:Chg w (((w.alloc (.cells #[pt g] 71)).alloc (N.o 7)).alloc (.cells #[.func (.func f) fi ca] 133)) [g] [g]:=(((Chg.refl w [g]).alloc _).alloc _).alloc _
 obtain ⟨W,hW⟩:∃ W,W=(((w.alloc (.cells #[pt g] 71)).alloc (N.o 7)).alloc (.cells #[.func (.func f) fi ca] 133)):=⟨_,rfl⟩
 rw [← hW] at h1 h2 h3 h4 hch
 have hsW:W.heap.size=w.heap.size + 1 + 1 + 1:=by rw [hW];simp
 have hRW:Rep g K AL W.drew (.func (.func f) fi ca) B F0:=(hR.kept fun k hk=>hch.block k (hR.low k hk) (by simp;intro e;exact hgF (e ▸ hk))).kept fun k hk=>rfl
 have HC:=noted68 g K (2 * i + 1) AL A n (.func (.func f) fi ca) B F0 W.drew ((h4 g hgl).trans hO) hRW hgF hi
 obtain ⟨q0,q1,q2,q3,q4,q5,q6,q7,q8⟩:=hc.kept (h4 sb hsb)
 simp only [Nat.zero_mul,Nat.add_zero] at q0 q1 q2 q3 q4 q5 q6 q7 q8
 have x3:W.cell? ⟨w.heap.size,0,none⟩=some (pt g):=bx0 h1
 have x5:W.cell? ⟨w.heap.size + 1 + 1,0,none⟩=some (.func (.func f) fi ca):=bx0 h3
 have x43:W.cell? ⟨w.heap.size + 1,3,none⟩=some (.slice (some ⟨sb,o,none⟩) 1 s3):=by have h:=Joins.cell_of_block h2 3;simpa [hN.1,hN.2.1,hN.2.2.1] using h
 have x47:W.cell? ⟨w.heap.size + 1,7,none⟩=some (.int .i64 (i:Int)):=by have h:=Joins.cell_of_block h2 7;simpa [hN.2.2.2] using h
 have m1:IntKind.i64.wrap (2 * (i:Int))=2 * (i:Int):=by simp [IntKind.wrap,IntKind.bits,IntKind.signed];omega
 have m2:IntKind.i64.wrap (2 * (i:Int) + 1)=2 * (i:Int) + 1:=by simp [IntKind.wrap,IntKind.bits,IntKind.signed];omega
 rw [show ((2 * i + 1:Nat):Int)=2 * (i:Int) + 1 by omega] at HC
 obtain ⟨z,hz⟩:∃ z,z=w.heap.size:=⟨_,rfl⟩
 have hS:∀ w1,Chg W w1 [g] [g]→w1.cell? ⟨w.heap.size,0,none⟩=some (pt g)∧w1.cell? ⟨w.heap.size + 1,3,none⟩=some (.slice (some ⟨sb,o,none⟩) 1 s3)∧w1.cell? ⟨w.heap.size + 1,7,none⟩=some (.int .i64 (i:Int))∧w1.cell? ⟨w.heap.size + 1 + 1,0,none⟩=some (.func (.func f) fi ca) ∧
   w1.cell? ⟨sb,o,none⟩=some (.int .i64 km)∧w1.cell? ⟨sb,o + 1,none⟩=some (.slice M.r1 M.r2 M.r3)∧w1.cell? ⟨sb,o + 2,none⟩=some (.int .i64 M.a2)∧w1.cell? ⟨sb,o + 3,none⟩=some (.slice M.s1 M.s2 M.s3)∧w1.cell? ⟨sb,o + 4,none⟩=some (.int .i64 M.a4)∧w1.cell? ⟨sb,o + 5,none⟩=some (.int .i64 M.a5)∧w1.cell? ⟨sb,o + 6,none⟩=some (.bool M.a6)∧w1.cell? ⟨sb,o + 7,none⟩=some (.int .i64 M.a7)∧w1.cell? ⟨sb,o + 8,none⟩=some (.string M.a8):=fun w1 hc1=>by
  have e:∀ k o,k < W.heap.size→k≠g→w1.cell? ⟨k,o,none⟩=W.cell? ⟨k,o,none⟩:=fun k o h1 h2=>cell_heap (hc1.block k h1 (by simpa using h2)) o
  exact ⟨(e _ _ (by omega) (by omega)).trans x3,(e _ _ (by omega) (by omega)).trans x43,(e _ _ (by omega) (by omega)).trans x47,(e _ _ (by omega) (by omega)).trans x5,(e _ _ (by omega) hsg).trans q0,(e _ _ (by omega) hsg).trans q1,(e _ _ (by omega) hsg).trans q2,(e _ _ (by omega) hsg).trans q3,(e _ _ (by omega) hsg).trans q4,(e _ _ (by omega) hsg).trans q5,(e _ _ (by omega) hsg).trans q6,(e _ _ (by omega) hsg).trans q7,(e _ _ (by omega) hsg).trans q8⟩
 have hd:Chg W W.drew [g] [g]:=(Chg.refl W [g]).drew
 have HD:=hid hd
 have HSS:=hid hS
 have HCH:=hid hch
 have HS:=hid hsW
 have HHG:=hid hgF
 have HHX:=hid hgX
 have HBB:=hid HB
 have HJ:=hid hj
 have HHE:=hid hgE
 have hgW:g < W.heap.size:=by omega
 clear hO hch h1 h2 h3 h4 hgF hsW HB hN hc hR hRW hS hd q0 q1 q2 q3 q4 q5 q6 q7 q8 x3 x5 x43 x47 hgX hj hgE
 go_enter Tryz.func77,Tryz.ntmps77
 go_wp2_with fail
 rw [← hW,← hz]
 rw [← hz] at HSS HS
 have HW:=hid hW
 have HZ:=hid hz
 clear hW hz
 go_region_held2 (fun w1=>w1.cell? ⟨z,0,none⟩=some (pt g)∧w1.cell? ⟨z + 1,3,none⟩=some (.slice (some ⟨sb,o,none⟩) 1 s3)∧w1.cell? ⟨z + 1,7,none⟩=some (.int .i64 (i:Int))∧w1.cell? ⟨z + 1 + 1,0,none⟩=some (.func (.func f) fi ca) ∧
   w1.cell? ⟨sb,o,none⟩=some (.int .i64 km)∧w1.cell? ⟨sb,o + 1,none⟩=some (.slice M.r1 M.r2 M.r3)∧w1.cell? ⟨sb,o + 2,none⟩=some (.int .i64 M.a2)∧w1.cell? ⟨sb,o + 3,none⟩=some (.slice M.s1 M.s2 M.s3)∧w1.cell? ⟨sb,o + 4,none⟩=some (.int .i64 M.a4)∧w1.cell? ⟨sb,o + 5,none⟩=some (.int .i64 M.a5)∧w1.cell? ⟨sb,o + 6,none⟩=some (.bool M.a6)∧w1.cell? ⟨sb,o + 7,none⟩=some (.int .i64 M.a7)∧w1.cell? ⟨sb,o + 8,none⟩=some (.string M.a8))
  (first | exact HSS.out _ HD.out | exact HSS.out _ (HD.out.trans HM1.out.chg) | exact HSS.out _ (HD.out.trans (HM1.out.chg.trans HM2.out.chg)))
  (first | (go_at_call 118;(with_reducible refine HC.mono ?_);rintro e w1 ⟨v1,F1,rfl,M1⟩;obtain ⟨f1,fi1,ca1,rfl⟩:=M1.rep.form;have HC2:=HBB.out w1 _ n _ F1 FE (HCH.out.trans (HD.out.trans M1.chg)) M1.ob M1.rep (M1.away HHG.out hgW) HHE.out (fun k hk=>by rcases M1.new k hk with h | h;(left;simp [h]);(right;have h:W.heap.size≤k:=h;have:=HS.out;have:=HZ.out;omega)) (fun k hk=>.inl (by simp [hk])) (J1.chg HJ.out (HCH.out.trans (HD.out.trans M1.chg)) HHE.out);have HM1:=hid M1;clear M1 HC) | (go_at_call 77;(with_reducible refine HC2.mono ?_);rintro e w2 ⟨v2,F2,FE2,n1,W1,rfl,M2,j2,hE2⟩;obtain ⟨f2,fi2,ca2,rfl⟩:=M2.rep.form;have HM2:=hid M2;have HJ2:=hid j2;have HE2:=hid hE2;clear M2 HC2 j2 hE2))
 all_goals
  have hg2:g ∉ F2:=HM2.out.away (by simp;exact ⟨HHX.out,HM1.out.away HHG.out hgW⟩) (by have:=HM1.out.chg.size;have h:W.heap.size≤w1.heap.size:=this;omega)
  have HC3:=noted68 g K (2 * i) AL A n1 _ _ F2 w2.drew HM2.out.ob (HM2.out.rep.kept fun k hk=>rfl) hg2 (by omega)
  rw [show ((2 * i:Nat):Int)=2 * (i:Int) by omega] at HC3
  have hd2:Chg w2 w2.drew [g] [g]:=(Chg.refl w2 [g]).drew
  have HD2:=hid hd2
  have HG2:=hid hg2
  clear hd2 hg2
  go_wp2_with fail
  go_region_held2 (fun w1=>w1.cell? ⟨z,0,none⟩=some (pt g)∧w1.cell? ⟨z + 1,7,none⟩=some (.int .i64 (i:Int)))
   (first | exact ⟨(HSS.out _ (HD.out.trans (HM1.out.chg.trans (HM2.out.chg.trans HD2.out)))).1,(HSS.out _ (HD.out.trans (HM1.out.chg.trans (HM2.out.chg.trans HD2.out)))).2.2.1⟩ | exact ⟨(HSS.out _ (HD.out.trans (HM1.out.chg.trans (HM2.out.chg.trans (HD2.out.trans HM3.out.chg))))).1,(HSS.out _ (HD.out.trans (HM1.out.chg.trans (HM2.out.chg.trans (HD2.out.trans HM3.out.chg))))).2.2.1⟩ | exact ⟨(HSS.out _ (HD.out.trans (HM1.out.chg.trans (HM2.out.chg.trans (HD2.out.trans (HM3.out.chg.trans HM4.out.chg)))))).1,(HSS.out _ (HD.out.trans (HM1.out.chg.trans (HM2.out.chg.trans (HD2.out.trans (HM3.out.chg.trans HM4.out.chg)))))).2.2.1⟩)
   (first | (go_at_call 118;(with_reducible refine HC3.mono ?_);rintro e w3 ⟨v3,F3,rfl,M3⟩;obtain ⟨f3,fi3,ca3,rfl⟩:=M3.rep.form;have HC4:=once54 g K AL A n1 _ _ F3 w3 M3.ob M3.rep (M3.away HG2.out (by have h:W.heap.size≤w1.heap.size:=HM1.out.chg.size;have:=HM2.out.chg.size;show g < w2.heap.size;omega)) (hn1 _ _ _ _ HJ2.out);have HM3:=hid M3;clear M3 HC3) | (go_at_call 78;(with_reducible refine HC4.mono ?_);rintro e w4 ⟨v4,F4,rfl,M4⟩;obtain ⟨f4,fi4,ca4,rfl⟩:=M4.rep.form;have HM4:=hid M4;clear M4 HC4))
  all_goals
   go_wp2
   go_ret
   have hz:=HZ.out
   have hs:=HS.out
   have sz1:W.heap.size≤w1.heap.size:=HM1.out.chg.size
   have sz2:=HM2.out.chg.size
   have f1:∀ k ∈ F1,k ∈ FX ++ (F0 ++ FE)∨w.heap.size≤k:=fun k hk=>by
    rcases HM1.out.new k hk with h | h
    ·left;simp [h]
    ·right;have h:W.heap.size≤k:=h;omega
   have f2:∀ k ∈ FX ++ F1,k ∈ FX ++ (F0 ++ FE)∨w.heap.size≤k:=fun k hk=>by
    rcases List.mem_append.1 hk with h | h
    ·left;simp [h]
    ·exact f1 k h
   have fE:∀ k ∈ FE2,k ∈ FX ++ (F0 ++ FE)∨w.heap.size≤k:=fun k hk=>by
    rcases HE2.out k hk with h | h | h
    ·left;simp [h]
    ·exact f2 k h
    ·right;omega
   have hgE2:g ∉ FE2:=fun hm=>by
    rcases HE2.out g hm with h | h | h
    ·exact HHE.out h
    ·rcases List.mem_append.1 h with h | h
     ·exact HHX.out h
     ·exact HM1.out.away HHG.out hgW h
    ·omega
   have hc24:Chg w2 w4 [g] [g]:=HD2.out.trans (HM3.out.chg.trans HM4.out.chg)
   refine ⟨_,F4,FE2,n1,W1,rfl,⟨HM4.out.rep,HM4.out.ob,HCH.out.trans (HD.out.trans (HM1.out.chg.trans (HM2.out.chg.trans hc24))),fun k hk=>?_⟩,J2.chg HJ2.out hc24 hgE2,fE⟩
   rcases (HM3.out.trans HM4.out).new k hk with h | h
   ·rcases HM2.out.new k h with h | h
    ·exact f2 k h
    ·right;omega
   ·right;have h:w2.heap.size≤k:=h;omega
structure Jl where
 p:Int→List Way→List Nat→World→Prop
 stab:∀ {n W FE w w'},p n W FE w→w.heap.size≤w'.heap.size→(∀ k ∈ FE,w'.heap[k]?=w.heap[k]?)→p n W FE w'
 low:∀ {n W FE w},p n W FE w→∀ k ∈ FE,k < w.heap.size
theorem Jl.alloc (J:Jl) {n:Int} {W:List Way} {FE:List Nat} {w:World} (h:J.p n W FE w) (o:Obj):J.p n W FE (w.alloc o):=J.stab h (by simp) fun k hk=>heap_alloc_old w o (J.low h k hk)
theorem Jl.below (J:Jl) {n:Int} {W:List Way} {FE:List Nat} {w w':World} (h:J.p n W FE w) (hc:Below w.heap.size w w'):J.p n W FE w':=J.stab h hc.size fun k hk=>hc.block k (J.low h k hk)
theorem Jl.chg (J:Jl) {n:Int} {W:List Way} {FE:List Nat} {w w':World} {g:Nat} (h:J.p n W FE w) (hc:Chg w w' [g] [g]) (hg:g ∉ FE):J.p n W FE w':=J.stab h hc.size fun k hk=>hc.block k (J.low h k hk) (by simp;intro e;exact hg (e ▸ hk))
def StepL (g K:Nat) (A:Six) (N:Nd) (k:Int) (f:FuncId) (fi ca:Array Value) (FS:List Nat) (w:World) (J0 J1:Jl):Prop:=
 ∀ (w':World) (n:Int) (l:List Way) (FE:List Nat),Chg w w' [g] [g]→O7 w' g A n→J0.p n l FE w'→g ∉ FE→(∀ k ∈ FE,k ∈ FS∨w.heap.size≤k) →
  Calls Tryz.prog 77 #[pt g,N.v k,.func (.func f) fi ca] w' fun e w''=>∃ v F FE' n1 W,e=.returned v∧Mk g K AL w' w'' A n1 v W FS F∧J1.p n1 (l ++ [W]) FE' w''∧∀ k ∈ FE',k ∈ FE∨k ∈ FS∨w'.heap.size≤k
theorem Gr.len {g K:Nat} {L:Nat→Prop} {w wq:World} {A:Six} {n:Int} {uv:Value} {i:Nat} {l:List Way} {FS:List Nat} {vs:List Value} {FRY:List Nat} (h:Gr g K L w wq A n uv i l FS vs FRY):i=l.length:=by
 rw [← h.reps.len]
 have:=h.row.1
 omega
structure GrJ (g K:Nat) (J:Jl) (w wq:World) (A:Six) (n:Int) (uv:Value) (i:Nat) (l:List Way) (FS:List Nat) (vs:List Value) (FRY FE:List Nat):Prop where
 gr:Gr g K AL w wq A n uv i l FS vs FRY
 j:J.p n l FE wq
 newE:∀ k ∈ FE,k ∈ FS∨w.heap.size≤k
 outE:∀ k,uv.ownBlock=some k→k ∉ FE
theorem GrJ.awayE {g K:Nat} {J:Jl} {w wq:World} {A:Six} {n:Int} {uv:Value} {i:Nat} {l:List Way} {FS:List Nat} {vs:List Value} {FRY FE:List Nat} (h:GrJ g K J w wq A n uv i l FS vs FRY FE) (hg:g ∉ FS) (hl:g < w.heap.size):g ∉ FE:=fun hm=>by
 rcases h.newE g hm with h | h
 ·exact hg h
 ·omega
theorem GrJ.next {g K:Nat} {J J1:Jl} {w wq w2 w3:World} {A:Six} {n n2:Int} {uv v v':Value} {i:Nat} {l:List Way} {d:Way} {FS FRY F FE FE2:List Nat} {vs:List Value} (G:GrJ g K J w wq A n uv i l FS vs FRY FE) (o o2:Obj) (M:Mk g K AL (wq.alloc o) w2 A n2 v d FS F)
  (j2:J1.p n2 (l ++ [d]) FE2 w2) (hE2:∀ k ∈ FE2,k ∈ FE∨k ∈ FS∨(wq.alloc o).heap.size≤k)
  (hgl:g < w.heap.size) (hgF:g ∉ FS) (hFl:∀ k ∈ FS,k < w.heap.size) (ho:w3.ownsRow w.heap.size 133 1 v' (i + 1) (vs ++ [v])) (hm:Moved (w2.alloc o2) w3 uv v'):GrJ g K J1 w w3 A n2 v' (i + 1) (l ++ [d]) FS (vs ++ [v]) (FRY ++ F) FE2:=by
 have hub:∀ k,uv.ownBlock=some k→w.heap.size≤k∧k < wq.heap.size:=fun k hk=>G.gr.row.lt k hk
 have s1:=G.gr.chg.size
 have s2:=M.chg.size
 simp at s2
 have hu:∀ k ∈ FE2,uv.ownBlock≠some k:=fun k hk e=>by
  have:=hub k e
  rcases hE2 k hk with h | h | h
  ·exact G.outE k e h
  ·have:=hFl k h;omega
  ·simp at h;omega
 have hlow:=J1.low j2
 have e3:∀ k ∈ FE2,w3.heap[k]?=w2.heap[k]?:=fun k hk=>by
  have e:(w2.alloc o2).heap[k]?=w2.heap[k]?:=heap_alloc_old w2 o2 (hlow k hk)
  rcases hm with ⟨_,h⟩ | ⟨_,h⟩
  ·exact (h.block k (by have:=hlow k hk;simp;omega) (fun h=>hu k hk h.symm)).trans e
  ·exact (h.block k (by have:=hlow k hk;simp;omega) (by simp)).trans e
 have hs3:w2.heap.size≤w3.heap.size:=by rcases hm with ⟨_,h⟩ | ⟨_,h⟩ <;> (have:=h.size;simp at this;omega)
 refine ⟨G.gr.next o o2 M hgl hgF hFl ho hm,J1.stab j2 hs3 e3,fun k hk=>?_,fun k hk hmm=>?_⟩
 ·rcases hE2 k hk with h | h | h
  ·exact G.newE k h
  ·exact .inl h
  ·right;simp at h;omega
 ·rcases hm with ⟨h0,_⟩ | ⟨h0,_⟩
  ·rw [h0] at hk
   exact hu k hmm hk
  ·rw [h0] at hk
   simp at hk
   have:=hlow k hmm
   omega
set_option maxRecDepth 100000 in
set_option maxHeartbeats 4000000 in
theorem firstOfJ67 (g K m sb o s3:Nat) (A:Six) (J:Nat→Jl) (n0:Int) (FE0:List Nat) (FS:List Nat) (ND:Nat→Nd) (KD:Nat→Int) (f:FuncId) (fi ca:Array Value) (w:World) (hO:O7 w g A n0) (hj0:(J 0).p n0 [] FE0 w) (hgF:g ∉ FS) (hEF:∀ k ∈ FE0,k ∈ FS)
  (hFl:∀ k ∈ FS,k < w.heap.size) (hsb:sb < w.heap.size) (hsg:sb≠g) (hm:m≤1000000) (hcap:m≤s3) (hcells:Hid (∀ i,i < m→C9 w sb o i (ND i) (KD i)))
  (HB:Hid (∀ i,i < m→StepL g K A (ND i) (KD i) f fi ca FS w (J i) (J (i + 1)))) :
  Calls Tryz.prog 117 #[pt g,.slice (some ⟨sb,o,none⟩) m s3,.func (.func f) fi ca] w fun e w'=>∃ v F FE n l,e=.returned v∧Mk g K AL w w' A n v (.inOrder l) FS F∧(J m).p n l FE w'∧∀ k ∈ FE,k ∈ FS∨w.heap.size≤k:=by
 have HO:=hid hO
 have HGF:=hid hgF
 have HJ0:=hid hj0
 have HEF:=hid hEF
 have HFL:=hid hFl
 have hgl:=(Array.getElem?_eq_some_iff.1 hO).1
 obtain ⟨i0,hi0,hz0,hz1,hz2⟩:=info_parts info84
 clear hO hgF hFl hj0 hEF
 go_enter Tryz.func117,Tryz.ntmps117
 go_wp2_with fail
 go_loopw [7,12] (fun u x wq=>∃ (i:Nat) (u1:Option Addr) (u3:Nat),u=.slice u1 i u3∧x=.int .i64 (i:Int)∧i≤m∧Hid (∃ vs FRY FE n l,GrJ g K (J i) w wq A n (.slice u1 i u3) i l FS vs FRY FE)) (fun _ x _=>m - (intOf x).toNat)
 case atStart=>exact ⟨0,none,0,rfl,rfl,by omega,by exact ⟨[],[],FE0,n0,[],⟨World.ownsRow_nil _ _ _ _,.nil,HO.out,Chg.refl w [g],(fun k hk=>by cases hk),(fun k hk hm=>by cases hm)⟩,HJ0.out,(fun k hk=>.inl (HEF.out k hk)),(fun k hk hm=>by cases hk)⟩⟩
 case round =>
  obtain ⟨i,u1,u3,rfl,rfl,hi,HI⟩:=hrel
  by_cases hil:i < m
  ·have b1:decide ((i:Int) < (m:Int))=true:=by simp;omega
   have b2:(i:Int) < (m:Int):=by omega
   obtain ⟨vs,FRY,FE,n,l,GJ⟩:=HI.out
   have G:=GJ.gr
   obtain ⟨n0,n1,n2,n3,n4,n5,n6,n7,n8⟩:=(hcells.out i hil).kept (G.chg.block sb hsb (by simpa using hsg))
   have HC:=HB.out i hil (wr.alloc ((ND i).o (KD i))) n l FE (G.chg.alloc _) ((heap_alloc_old wr _ (by have:=G.chg.size;omega)).trans G.ob) ((J i).alloc GJ.j _) (GJ.awayE HGF.out hgl) GJ.newE
   obtain ⟨N,hN⟩:∃ N,N=ND i:=⟨_,rfl⟩
   obtain ⟨k,hk⟩:∃ k,k=KD i:=⟨_,rfl⟩
   rw [← hN] at HC n1 n2 n3 n4 n5 n6 n7 n8
   rw [← hk] at HC n0
   have HG:=hid G
   have HGJ:=hid GJ
   have ad1:IntKind.i64.wrap ((i:Int) + 1)=(i:Int) + 1:=by simp [IntKind.wrap,IntKind.bits,IntKind.signed];omega
   clear G GJ hN hk HI
   go_wp2_with (first | (go_at_call 77;(with_reducible refine HC.mono ?_);rintro e w2 ⟨v,F,FE2,n2,W2,rfl,M,j2,hE2⟩;obtain ⟨f2,fi2,ca2,rfl⟩:=M.rep.form;have HJ2:=hid j2;have HE2:=hid hE2;clear j2 hE2;have hrow2:w2.ownsRow w.heap.size 133 1 (.slice u1 i u3) i vs:=row_kept HG.out.row (fun b hb=>(M.chg.block b (by have:=(HG.out.row.lt b hb).2;simp;omega) (by have:=(HG.out.row.lt b hb).1;simp;omega)).trans (heap_alloc_old wr _ (HG.out.row.lt b hb).2));have HR2:=hid hrow2;have hs2:w.heap.size≤w2.heap.size:=(by have:=M.chg.size;have:=HG.out.chg.size;simp at *;omega);have HM:=hid M;clear M hrow2 HC) | (at_builtin;refine wpList_append_move rfl (.tmp 16) (.tmp 21) 237 rfl w.heap.size 133 i0 .nilFunc 8 Tryz.underlying237 hi0 hz0 hz1 hz2 rfl (.slice u1 i u3) i vs rfl (HR2.out.alloc _) ⟨w2.heap.size,0,none⟩ 1 1 [.func (.func f2) fi2 ca2] rfl rfl (by decide) (one_new w2 _ 133) (by intro u hu;simp at hu;subst hu;rfl) (by unfold maxLen;omega) (by omega) (by simp;omega) ?_;intro v' w3 ho3 hm3;obtain ⟨vb,vc,rfl⟩:=Joins.ownsRow_form ho3.out (by omega)))
   refine ⟨⟨i + 1,_,_,rfl,by push_cast;rfl,by omega,?_⟩,?_⟩
   ·exact ⟨_,_,_,_,_,HGJ.out.next _ _ HM.out HJ2.out HE2.out hgl HGF.out HFL.out ho3.out hm3.out⟩
   ·simp [intOf]
    omega
  ·have b1:decide ((i:Int) < (m:Int))=false:=by simp;omega
   obtain rfl:i=m:=by omega
   obtain ⟨vs,FRY,FE,n,l,GJ⟩:=HI.out
   have G:=GJ.gr
   have HC:=inOrder94 g K w.heap.size 0 AL _ _ _ _ wr (by have:=G.row;rw [← G.len];exact this) G.reps
   have HGJ:=hid GJ
   have HG:=hid G
   clear G GJ HI
   go_wp2_with (go_at_call 186;(with_reducible refine HC.mono ?_);rintro e w1 ⟨v,F,rfl,hr,hb1,hn⟩;obtain ⟨f1,fi1,ca1,rfl⟩:=hr.form;have HR:=hid hr;have HB1:=hid hb1;have HN:=hid hn;clear hr hb1 hn)
   go_ret
   refine ⟨_,F,FE,n,l,rfl,⟨HR.out,(HB1.out.block g (by have:=HG.out.chg.size;omega)).trans HG.out.ob,HG.out.chg.trans (Chg.of_below HB1.out),fun k hk=>?_⟩,(J i).below HGJ.out.j HB1.out,HGJ.out.newE⟩
   rcases HN.out k hk with h | h
   ·rcases List.mem_append.1 h with h | h
    ·right
     exact (HG.out.row.lt k (by simpa using h)).1
    ·exact HG.out.new k h
   ·right;have:=HG.out.chg.size;omega
set_option maxRecDepth 100000 in
set_option maxHeartbeats 2000000 in
theorem altJ (g K m sb o s3:Nat) (A:Six) (J:Nat→Jl) (n0:Int) (FE0:List Nat) (FS:List Nat) (ND:Nat→Nd) (KD:Nat→Int) (N:Nd) (f:FuncId) (fi ca:Array Value) (w:World) (hO:O7 w g A n0) (hj0:(J 0).p n0 [] FE0 w) (hgF:g ∉ FS) (hEF:∀ k ∈ FE0,k ∈ FS)
  (hFl:∀ k ∈ FS,k < w.heap.size) (hsb:sb < w.heap.size) (hsg:sb≠g) (hm:m≤1000000) (hcap:m≤s3) (hcells:∀ i,i < m→C9 w sb o i (ND i) (KD i)) (hN:N.s1=some ⟨sb,o,none⟩∧N.s2=m∧N.s3=s3) (hn:∀ n l FE w,(J m).p n l FE w→0≤n∧n < 1000000000)
  (HB:∀ i,i < m→StepL g K A (ND i) (KD i) f fi ca FS w (J i) (J (i + 1))) :
  Calls Tryz.prog 77 #[pt g,N.v 5,.func (.func f) fi ca] w fun e w'=>∃ v F FE n l,e=.returned v∧Mk g K AL w w' A (n + 1) v (.once (n + 1) (.inOrder l)) FS F∧(J m).p n l FE w'∧∀ k ∈ FE,k ∈ FS∨w.heap.size≤k:=by
 have hgl:=(Array.getElem?_eq_some_iff.1 hO).1
 obtain ⟨h1,h2,h3,h4⟩:=three_new w (.cells #[pt g] 71) (N.o 5) (.cells #[.func (.func f) fi ca] 133)
 have hch:Chg w (((w.alloc (.cells #[pt g] 71)).alloc (N.o 5)).alloc (.cells #[.func (.func f) fi ca] 133)) [g] [g]:=(((Chg.refl w [g]).alloc _).alloc _).alloc _
 obtain ⟨W,hW⟩:∃ W,W=(((w.alloc (.cells #[pt g] 71)).alloc (N.o 5)).alloc (.cells #[.func (.func f) fi ca] 133)):=⟨_,rfl⟩
 rw [← hW] at h1 h2 h3 h4 hch
 have hsW:W.heap.size=w.heap.size + 1 + 1 + 1:=by rw [hW];simp
 have HC:=firstOfJ67 g K m sb o s3 A J n0 FE0 FS ND KD f fi ca W.drew ((h4 g hgl).trans hO) ((J 0).stab hj0 (by have:=hch.size;exact this) (fun k hk=>h4 k (hFl k (hEF k hk)))) hgF hEF (fun k hk=>by have:=hFl k hk;show k < W.heap.size;omega) (by show sb < W.heap.size;omega) hsg hm hcap (fun i hi=>(hcells i hi).kept (h4 sb hsb)) (fun i hi w' n l FE hc ho hj he hn=>HB i hi w' n l FE (hch.trans ((show Chg W W.drew [g] [g] from (Chg.refl W [g]).drew).trans hc)) ho hj he (fun k hk=>(hn k hk).imp_right (fun h=>by have h:W.heap.size≤k:=h;omega)))
 have x3:W.cell? ⟨w.heap.size,0,none⟩=some (pt g):=bx0 h1
 have x5:W.cell? ⟨w.heap.size + 1 + 1,0,none⟩=some (.func (.func f) fi ca):=bx0 h3
 have x43:W.cell? ⟨w.heap.size + 1,3,none⟩=some (.slice (some ⟨sb,o,none⟩) m s3):=by rw [← hN.1,← hN.2.1,← hN.2.2];exact Joins.cell_of_block h2 3
 obtain ⟨z,hz⟩:∃ z,z=w.heap.size:=⟨_,rfl⟩
 have HCH:=hid hch
 have HW:=hid hW
 have HS:=hid hsW
 have HHG:=hid hgF
 have HZ:=hid hz
 have HNN:=hid hN
 clear hO hch h1 h2 h3 h4 hgF hsW HB hcells hFl hN hj0 hEF
 go_enter Tryz.func77,Tryz.ntmps77
 go_wp2_with fail
 rw [← hW,← hz]
 rw [← hz] at x3 x5 x43
 clear hW hz
 have hb1:∀ w1,Chg W.drew w1 [g] [g]→w1.cell? ⟨z,0,none⟩=some (pt g)∧w1.cell? ⟨z + 1,3,none⟩=some (.slice (some ⟨sb,o,none⟩) m s3)∧w1.cell? ⟨z + 1 + 1,0,none⟩=some (.func (.func f) fi ca):=fun w1 hc1=>by
  have hz:=HZ.out
  have hs:=HS.out
  have e:∀ k o,z≤k→k < z + 3→w1.cell? ⟨k,o,none⟩=W.cell? ⟨k,o,none⟩:=fun k o h1 h2=>cell_heap (hc1.block k (by show k < W.heap.size;omega) (by simp;omega)) o
  exact ⟨(e _ _ (by omega) (by omega)).trans x3,(e _ _ (by omega) (by omega)).trans x43,(e _ _ (by omega) (by omega)).trans x5⟩
 have HB1:=hid hb1
 clear hb1
 go_region_held2 (fun w'=>w'.cell? ⟨z,0,none⟩=some (pt g)∧w'.cell? ⟨z + 1,3,none⟩=some (.slice (some ⟨sb,o,none⟩) m s3)∧w'.cell? ⟨z + 1 + 1,0,none⟩=some (.func (.func f) fi ca))
  (first | exact ⟨x3,x43,x5⟩ | exact HB1.out _ HM1.out.chg | exact HB1.out _ (HM1.out.chg.trans HM2.out.chg))
  (first | (go_at_call 117;(with_reducible refine HC.mono ?_);rintro e w1 ⟨v1,F1,FE1,n1,l1,rfl,M1,j1,hE1⟩;obtain ⟨f1,fi1,ca1,rfl⟩:=M1.rep.form;have HC2:=once54 g K AL A n1 _ _ F1 w1 M1.ob M1.rep (M1.away HHG.out (by show g < W.heap.size;have:=HS.out;omega)) (hn _ _ _ _ j1);have HM1:=hid M1;have HJ1:=hid j1;have HE1:=hid hE1;clear M1 HC j1 hE1) | (go_at_call 78;(with_reducible refine HC2.mono ?_);rintro e w2 ⟨v2,F2,rfl,M2⟩;obtain ⟨f2,fi2,ca2,rfl⟩:=M2.rep.form;have HM2:=hid M2;clear M2 HC2))
 all_goals
  go_wp2
  go_ret
  have hgE:g ∉ FE1:=fun hm=>by
   rcases HE1.out g hm with h | h
   ·exact HHG.out h
   ·have h:W.heap.size≤g:=h;have:=HS.out;omega
  refine ⟨_,F2,FE1,n1,l1,rfl,Mk.from (HCH.out.trans ?_) (HM1.out.trans HM2.out),(J m).chg HJ1.out HM2.out.chg hgE,fun k hk=>(HE1.out k hk).imp_right (fun h=>by have h:W.heap.size≤k:=h;have:=HS.out;have:=HZ.out;omega)⟩
  exact (Chg.refl W [g]).drew
def S69 (w:World) (z sb o s3:Nat) (lz:Bool) (mn:Int) (M:Nd) (km:Int):Prop:=w.cell? ⟨z,3,none⟩=some (.slice (some ⟨sb,o,none⟩) 1 s3)∧w.cell? ⟨z,4,none⟩=some (.int .i64 mn)∧w.cell? ⟨z,6,none⟩=some (.bool lz)∧w.cell? ⟨sb,o,none⟩=some (.int .i64 km)∧w.cell? ⟨sb,o + 1,none⟩=some (.slice M.r1 M.r2 M.r3)∧w.cell? ⟨sb,o + 2,none⟩=some (.int .i64 M.a2)∧w.cell? ⟨sb,o + 3,none⟩=some (.slice M.s1 M.s2 M.s3)∧w.cell? ⟨sb,o + 4,none⟩=some (.int .i64 M.a4)∧w.cell? ⟨sb,o + 5,none⟩=some (.int .i64 M.a5)∧w.cell? ⟨sb,o + 6,none⟩=some (.bool M.a6)∧w.cell? ⟨sb,o + 7,none⟩=some (.int .i64 M.a7)∧w.cell? ⟨sb,o + 8,none⟩=some (.string M.a8)
set_option maxRecDepth 100000 in
set_option maxHeartbeats 4000000 in
theorem repeatBJ69 (g K sb o s3 mn m:Nat) (lz:Bool) (A:Six) (N M:Nd) (km n0:Int) (B:Way) (J J' TJ:Nat→Jd) (FX F0 FE:List Nat) (vb:Value) (w:World) (hO:O7 w g A n0) (hR:Rep g K AL w vb B F0) (hj0:(J 0).p n0 B FE w) (hgF:g ∉ F0) (hgX:g ∉ FX) (hgE:g ∉ FE)
  (hN:N.s1=some ⟨sb,o,none⟩∧N.s2=1∧N.s3=s3∧N.a6=lz∧N.a4=(mn:Int)∧N.a5=(mn:Int) + (m:Int)) (hmn:mn≤1000∧m≤1000) (hs3:1≤s3) (hsb:sb < w.heap.size) (hsg:sb≠g) (hc:C9 w sb o 0 M km)
  (hns:∀ i n W FE w,i < m→(J' i).p n W FE w→0≤n∧n < 1000000000) (hOs:∀ i n W FE w,i < m→(J' i).p n W FE w→(J (i + 1)).p (n + 1) (.once (n + 1) (.inOrder (if lz=true then [B,W] else [W,B]))) FE w)
  (hB:∀ i,i < m→StepJ g K A M km FX (FX ++ (F0 ++ FE)) w (J i) (J' i)) (ht:∀ n W FE w,(J m).p n W FE w→(TJ 0).p n W FE w) (hT:∀ i,i < mn→StepJ g K A M km FX (FX ++ (F0 ++ FE)) w (TJ i) (TJ (i + 1))) :
  Calls Tryz.prog 119 #[pt g,N.v 6,vb] w fun e w'=>∃ v F FE' n' W,e=.returned v∧Mj g K (TJ mn) w w' A n' v W (FX ++ (F0 ++ FE)) F FE':=by
 obtain ⟨f,fi,ca,rfl⟩:=hR.form
 have hgl:=(Array.getElem?_eq_some_iff.1 hO).1
 obtain ⟨W,hW⟩:∃ W,W=w.alloc (N.o 6):=⟨_,rfl⟩
 have hWs:W.heap.size=w.heap.size + 1:=by rw [hW];simp
 have hWz:W.heap[w.heap.size]?=some (.cells #[.int .i64 6,.slice N.r1 N.r2 N.r3,.int .i64 N.a2,.slice N.s1 N.s2 N.s3,.int .i64 N.a4,.int .i64 N.a5,.bool N.a6,.int .i64 N.a7,.string N.a8] 25 (0,0)):=by rw [hW];exact heap_alloc_new w _
 have hWo:∀ k,k < w.heap.size→W.heap[k]?=w.heap[k]?:=fun k hk=>by rw [hW];exact heap_alloc_old w _ hk
 have hch:Chg w W [g] [g]:=by rw [hW];exact (Chg.refl w [g]).alloc _
 have hS:∀ w1,Chg W w1 [g] [g]→S69 w1 w.heap.size sb o s3 lz (mn:Int) M km:=fun w1 hc1=>by
  have e:∀ k,k < W.heap.size→k≠g→w1.heap[k]?=W.heap[k]?:=fun k h1 h2=>hc1.block k h1 (by simpa using h2)
  have hz:=(e w.heap.size (by omega) (by omega)).trans hWz
  obtain ⟨q0,q1,q2,q3,q4,q5,q6,q7,q8⟩:=hc.kept ((e sb (by omega) hsg).trans (hWo sb hsb))
  simp only [Nat.zero_mul,Nat.add_zero] at q0 q1 q2 q3 q4 q5 q6 q7 q8
  refine ⟨?_,?_,?_,q0,q1,q2,q3,q4,q5,q6,q7,q8⟩
  ·have h:=Joins.cell_of_block hz 3
   simpa [hN.1,hN.2.1,hN.2.2.1] using h
  ·have h:=Joins.cell_of_block hz 4
   simpa [hN.2.2.2.2.1] using h
  ·have h:=Joins.cell_of_block hz 6
   simpa [hN.2.2.2.1] using h
 have x5:W.cell? ⟨w.heap.size,5,none⟩=some (.int .i64 ((mn:Int) + (m:Int))):=by have h:=Joins.cell_of_block hWz 5;simpa [hN.2.2.2.2.2] using h
 have hRk:∀ w1,Chg W w1 [g] [g]→Rep g K AL w1 (.func (.func f) fi ca) B F0:=fun w1 hc1=>hR.kept fun k hk=>(hch.trans hc1).block k (hR.low k hk) (by simp;intro e;exact hgF (e ▸ hk))
 have hM0:Mj g K (J 0) W W A n0 (.func (.func f) fi ca) B (FX ++ (F0 ++ FE)) F0 FE:=⟨⟨hRk W (Chg.refl W [g]),(hWo g hgl).trans hO,Chg.refl W [g],fun k hk=>.inl (by simp [hk])⟩,(J 0).stab hj0 hch.size (fun k hk=>hWo k ((J 0).low hj0 k hk)),fun k hk=>.inl (by simp [hk])⟩
 have hBW:∀ i,i < m→StepJ g K A M km FX (FX ++ (F0 ++ FE)) W (J i) (J' i):=fun i hi=>(hB i hi).next hch
 have hTW:∀ i,i < mn→StepJ g K A M km FX (FX ++ (F0 ++ FE)) W (TJ i) (TJ (i + 1)):=fun i hi=>(hT i hi).next hch
 have hgA:g ∉ FX ++ (F0 ++ FE):=by simp;exact ⟨hgX,hgF,hgE⟩
 have HGA:=hid hgA
 have y4:=(hS W (Chg.refl W [g])).2.1
 have b5:((mn:Int) + (m:Int) == -1)=false:=by simp;omega
 have b5':decide ((mn:Int) + (m:Int)=-1)=false:=by simp;omega
 have sb1:IntKind.i64.wrap ((mn:Int) + (m:Int) - (mn:Int))=(m:Int):=by simp [IntKind.wrap,IntKind.bits,IntKind.signed];omega
 have m5:(N.a5 == -1)=false:=by rw [hN.2.2.2.2.2];simp;omega
 have m5':decide (N.a5=-1)=false:=by rw [hN.2.2.2.2.2];simp;omega
 have HS:=hid hS
 have HRK:=hid hRk
 have HM0:=hid hM0
 have HBW:=hid hBW
 have HTW:=hid hTW
 have HCH:=hid hch
 have HNS:=hid hns
 have HOS:=hid hOs
 have HTT:=hid ht
 have HGF:=hid hgF
 have HGX:=hid hgX
 have HWS:=hid hWs
 have hgW:g < W.heap.size:=by omega
 clear hO hR hgF hgX hgE hgA hj0 hN hc hns hOs hB ht hT hWs hWz hWo hch hS hRk hM0 hBW hTW
 go_enter Tryz.func119,Tryz.ntmps119
 go_upto_region 4 with fail
 rw [← hW]
 obtain ⟨z,hz⟩:∃ z,z=w.heap.size:=⟨_,rfl⟩
 rw [← hz] at HS x5 y4 HWS ⊢
 have HW:=hid hW
 have HZ:=hid hz
 clear hW hz
 go_wp2_with fail
 go_loopw [7,21] (fun u x wq=>∃ (i:Nat) (f':FuncId) (fi' ca':Array Value),u=.func (.func f') fi' ca'∧x=.int .i64 (i:Int)∧i≤m∧Hid (∃ F FE' n' W',Mj g K (J i) W wq A n' (.func (.func f') fi' ca') W' (FX ++ (F0 ++ FE)) F FE')) (fun _ x _=>m - (intOf x).toNat)
 case atStart=>exact ⟨0,f,fi,ca,rfl,rfl,by omega,by exact ⟨F0,FE,n0,B,HM0.out⟩⟩
 case round =>
  obtain ⟨i,f',fi',ca',rfl,rfl,hi,HI⟩:=hrel
  by_cases hil:i < m
  ·have b1:decide ((i:Int) < (m:Int))=true:=by simp;omega
   have b2:(i:Int) < (m:Int):=by omega
   obtain ⟨F,FE1,n1,W1,M1J⟩:=HI.out
   have M1:=M1J.m
   have hgM:g ∉ F:=M1.away HGA.out hgW
   have hgM2:g ∉ FE1:=M1J.awayE HGA.out hgW
   have hd:Chg wr wr.drew [g] [g]:=(Chg.refl wr [g]).drew
   have HC:=HBW.out i hil wr.drew _ n1 W1 F FE1 (M1.chg.trans hd) M1.ob (M1.rep.kept fun _ _=>rfl) hgM hgM2 M1.new M1J.newE ((J i).drew M1J.j)
   have HM1J:=hid M1J
   have ad1:IntKind.i64.wrap ((i:Int) + 1)=(i:Int) + 1:=by simp [IntKind.wrap,IntKind.bits,IntKind.signed];omega
   have HM1:=hid M1
   have HD:=hid hd
   clear M1 M1J HI hgM hgM2 hd
   go_wp2_with fail
   go_region_held2 (fun w1=>w1.cell? ⟨z,3,none⟩=some (.slice (some ⟨sb,o,none⟩) 1 s3)∧w1.cell? ⟨z,4,none⟩=some (.int .i64 (mn:Int))∧w1.cell? ⟨z,6,none⟩=some (.bool lz)∧w1.cell? ⟨sb,o,none⟩=some (.int .i64 km)∧w1.cell? ⟨sb,o + 1,none⟩=some (.slice M.r1 M.r2 M.r3)∧w1.cell? ⟨sb,o + 2,none⟩=some (.int .i64 M.a2)∧w1.cell? ⟨sb,o + 3,none⟩=some (.slice M.s1 M.s2 M.s3)∧w1.cell? ⟨sb,o + 4,none⟩=some (.int .i64 M.a4)∧w1.cell? ⟨sb,o + 5,none⟩=some (.int .i64 M.a5)∧w1.cell? ⟨sb,o + 6,none⟩=some (.bool M.a6)∧w1.cell? ⟨sb,o + 7,none⟩=some (.int .i64 M.a7)∧w1.cell? ⟨sb,o + 8,none⟩=some (.string M.a8))
    (first | exact HS.out _ (HM1.out.chg.trans HD.out) | exact HS.out _ (HM1.out.chg.trans (HD.out.trans HM2.out.chg)) | exact HS.out _ (HM1.out.chg.trans (HD.out.trans (HM2.out.chg.trans (Chg.of_below HB3.out)))) | exact HS.out _ (HM1.out.chg.trans (HD.out.trans (HM2.out.chg.trans ((Chg.of_below HB3.out).trans HM4.out.chg)))))
    (first | (go_at_call 77;(with_reducible refine HC.mono ?_);rintro e w2 ⟨v2,F2,FE2,n2,W2,rfl,M2,j2,hE2⟩;obtain ⟨f2,fi2,ca2,rfl⟩:=M2.rep.form;have HJ2:=hid j2;have HE2:=hid hE2;clear j2 hE2;have HC2:=choice_any g K AL lz _ _ _ _ F2 F0 w2 M2.rep (HRK.out w2 (HM1.out.chg.trans (HD.out.trans M2.chg)));have HM2:=hid M2;clear M2 HC) | (go_at_call 189;(with_reducible refine HC2.mono ?_);rintro e w3 ⟨v3,F3,rfl,hr3,hb3,hn3⟩;obtain ⟨f3,fi3,ca3,rfl⟩:=hr3.form;have hg3:g ∉ F3:=(fun hm=>by rcases hn3 g hm with h | h;(rcases List.mem_append.1 h with h | h;(exact HM2.out.away (by simp;exact ⟨HGX.out,HM1.out.away HGA.out hgW⟩) (by have:=HM1.out.chg.size;show g < wr.heap.size;omega) h);exact HGF.out h);(have:=HM1.out.chg.size;have h2:wr.heap.size≤w2.heap.size:=HM2.out.chg.size;omega));have HC3:=once54 g K AL A n2 _ _ F3 w3 ((hb3.block g (by have:=HM1.out.chg.size;have h2:wr.heap.size≤w2.heap.size:=HM2.out.chg.size;omega)).trans HM2.out.ob) hr3 hg3 (HNS.out i _ _ _ _ hil HJ2.out);have HB3:=hid hb3;have HN3:=hid hn3;clear hr3 hb3 hn3 hg3 HC2) | (go_at_call 78;(with_reducible refine HC3.mono ?_);rintro e w4 ⟨v4,F4,rfl,M4⟩;obtain ⟨f4,fi4,ca4,rfl⟩:=M4.rep.form;have HM4:=hid M4;clear M4 HC3))
   all_goals
    go_wp2
    refine ⟨⟨i + 1,f4,fi4,ca4,rfl,by push_cast;rfl,by omega,?_⟩,by simp [intOf];omega⟩
    have s1:=HM1.out.chg.size
    have s2:wr.heap.size≤w2.heap.size:=HM2.out.chg.size
    have s3':=HB3.out.size
    have hgE2:g ∉ FE2:=fun hm=>by
     rcases HE2.out g hm with h | h | h
     ·exact HM1J.out.awayE HGA.out hgW h
     ·rcases List.mem_append.1 h with h | h
      ·exact HGX.out h
      ·exact HM1.out.away HGA.out hgW h
     ·have h:wr.heap.size≤g:=h;omega
    have fX:∀ k ∈ FX ++ F,k ∈ FX ++ (F0 ++ FE)∨W.heap.size≤k:=fun k hk=>by
     rcases List.mem_append.1 hk with h | h
     ·left;simp [h]
     ·exact HM1.out.new k h
    refine ⟨F4,FE2,n2 + 1,_,⟨HM4.out.rep,HM4.out.ob,HM1.out.chg.trans (HD.out.trans (HM2.out.chg.trans ((Chg.of_below HB3.out).trans HM4.out.chg))),fun k hk=>?_⟩,HOS.out i _ _ _ _ hil ((J' i).chg ((J' i).below HJ2.out HB3.out) HM4.out.chg hgE2),fun k hk=>?_⟩
    ·rcases HM4.out.new k hk with h | h
     ·rcases HN3.out k h with h | h
      ·rcases List.mem_append.1 h with h | h
       ·rcases HM2.out.new k h with h | h
        ·exact fX k h
        ·right;have h:wr.heap.size≤k:=h;omega
       ·left;simp [h]
      ·right;omega
     ·right;omega
    ·rcases HE2.out k hk with h | h | h
     ·exact HM1J.out.newE k h
     ·exact fX k h
     ·right;have h:wr.heap.size≤k:=h;omega
  ·have b1:decide ((i:Int) < (m:Int))=false:=by simp;omega
   obtain rfl:i=m:=by omega
   obtain ⟨F,FE1,n1,W1,M1J⟩:=HI.out
   have M1:=M1J.m
   have hgM:g ∉ F:=M1.away HGA.out hgW
   have hgM2:g ∉ FE1:=M1J.awayE HGA.out hgW
   have hd:Chg wr wr.drew [g] [g]:=(Chg.refl wr [g]).drew
   have HC:=timesJ98 g K mn A M km n1 W1 TJ FX F FE1 _ wr.drew M1.ob (M1.rep.kept fun _ _=>rfl) ((TJ 0).drew (HTT.out _ _ _ _ M1J.j)) hgM HGX.out hgM2 (by omega) (fun j hj=>(HTW.out j hj).widen (M1.chg.trans hd) (fun k hk=>by
    rcases List.mem_append.1 hk with h | h
    ·left;simp [h]
    ·rcases List.mem_append.1 h with h | h
     ·exact M1.new k h
     ·exact M1J.newE k h))
   have HM1J:=hid M1J
   have HM1:=hid M1
   have HD:=hid hd
   clear M1 M1J HI hgM hgM2 hd
   go_wp2_with fail
   go_region_held2 (fun w1=>w1.cell? ⟨z,3,none⟩=some (.slice (some ⟨sb,o,none⟩) 1 s3)∧w1.cell? ⟨z,4,none⟩=some (.int .i64 (mn:Int))∧w1.cell? ⟨z,6,none⟩=some (.bool lz)∧w1.cell? ⟨sb,o,none⟩=some (.int .i64 km)∧w1.cell? ⟨sb,o + 1,none⟩=some (.slice M.r1 M.r2 M.r3)∧w1.cell? ⟨sb,o + 2,none⟩=some (.int .i64 M.a2)∧w1.cell? ⟨sb,o + 3,none⟩=some (.slice M.s1 M.s2 M.s3)∧w1.cell? ⟨sb,o + 4,none⟩=some (.int .i64 M.a4)∧w1.cell? ⟨sb,o + 5,none⟩=some (.int .i64 M.a5)∧w1.cell? ⟨sb,o + 6,none⟩=some (.bool M.a6)∧w1.cell? ⟨sb,o + 7,none⟩=some (.int .i64 M.a7)∧w1.cell? ⟨sb,o + 8,none⟩=some (.string M.a8))
    (first | exact HS.out _ (HM1.out.chg.trans HD.out) | exact HS.out _ (HM1.out.chg.trans (HD.out.trans HM2.out.chg)))
    (first | (go_at_call 190;(with_reducible refine HC.mono ?_);rintro e w2 ⟨v2,F2,FE2,n2,W2,rfl,M2J⟩;obtain ⟨f2,fi2,ca2,rfl⟩:=M2J.m.rep.form;have HM2:=hid M2J.m;have HM2J:=hid M2J;clear M2J HC))
   all_goals
    go_wp2
    go_ret
    have s1:=HM1.out.chg.size
    have s0:=HCH.out.size
    have fX:∀ k ∈ FX ++ (F ++ FE1),k ∈ FX ++ (F0 ++ FE)∨w.heap.size≤k:=fun k hk=>by
     rcases List.mem_append.1 hk with h | h
     ·left;simp [h]
     ·rcases List.mem_append.1 h with h | h
      ·exact (HM1.out.new k h).imp_right (fun h=>by omega)
      ·exact (HM1J.out.newE k h).imp_right (fun h=>by omega)
    refine ⟨_,F2,FE2,n2,W2,rfl,⟨HM2.out.rep,HM2.out.ob,HCH.out.trans (HM1.out.chg.trans (HD.out.trans HM2.out.chg)),fun k hk=>?_⟩,HM2J.out.j,fun k hk=>?_⟩
    ·rcases HM2.out.new k hk with h | h
     ·exact fX k h
     ·right;have h:wr.heap.size≤k:=h;omega
    ·rcases HM2J.out.newE k hk with h | h
     ·exact fX k h
     ·right;have h:wr.heap.size≤k:=h;omega
end Go.Proofs.YtacaanhnlfpbhaaGreat
