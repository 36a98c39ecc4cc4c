/- HELPERS: texts of ours put together. -/
import Derived.Test.YtacaanhnlfpbhaaGreatK08
namespace Go.Proofs.YtacaanhnlfpbhaaGreat
open Go.RowKit
set_option linter.unusedVariables false
set_option linter.unusedSimpArgs false
theorem FA.top {w:World} {A:Nat→Prop} {f:Nat} {t:Tn} (h:FA w A f t):∃ N0 ev R,FC w f N0 ev t∧N0.ok∧N0.r2=R.length∧RP w A N0.r1 R∧(∀ x ∈ R,I64ok x.1∧I64ok x.2)∧R.length≤5000∧t=.mk N0.k R N0.a2 t.subs N0.a4 N0.a5 N0.a6 N0.a7 N0.a8:=by
 have hnil:∀ x ∈ ([]:List (Int × Int)),I64ok x.1∧I64ok x.2:=fun x hx=>by cases hx
 cases h with
 | @leaf _ N R hf hc ok hr hR hRk h5=>exact ⟨N,_,R,hc,ok,hr,hR,hRk,h5,rfl⟩
 | over hf hc ok hb hbB hs=>exact ⟨_,_,[],hc,ok,rfl,fun h=>absurd rfl h,hnil,by simp,rfl⟩
 | @row _ b1 b2 k ad c fs l hf hc hkk h1 h2 hb1 hb2 hv ht hl hs =>
  exact ⟨_,_,[],hc,ok_NO k 0 0 false 0 ⟨#[]⟩ (by rcases hkk with rfl | rfl <;> decide) (by decide) (by decide) (by decide) (Nat.zero_le _),rfl,fun h=>absurd rfl h,hnil,by simp,rfl⟩
 | @opt _ b1 b2 b3 g n lz y hf hc h1 h2 h3 hb1 hb2 hb3 hn hd hs=>exact ⟨_,_,[],hc,ok_NO 6 0 1 lz 0 ⟨#[]⟩ (by decide) (by decide) (by decide) (by decide) (Nat.zero_le _),rfl,fun h=>absurd rfl h,hnil,by simp,rfl⟩
theorem FC.ev_eq {w:World} {f:Nat} {N N':Nv} {ev ev':Value} {t t':Tn} (h:FC w f N ev t) (h':FC w f N' ev' t'):ev=ev':=by
 have h1:=h.num.2.1
 have h2:=h'.num.2.1
 rw [h1] at h2
 simpa using h2
theorem row_base {w:World} {base base' e size n:Nat} {v:Value} {xs:List Value} (h:w.ownsRow base e size v n xs) (hb:base'≤base):w.ownsRow base' e size v n xs:=by
 refine ⟨h.1,?_⟩
 rcases h.2 with hn | ⟨g,cap,cur,h1,h2,h3⟩
 ·exact .inl hn
 ·exact .inr ⟨g,cap,cur,h1,by omega,h3⟩
theorem subs_len (t:Tn):t.subs.length < t.nodes:=by rw [t.nodes_subs];have:=nodes_ge t.subs;omega
theorem RP.src {w:World} {A:Nat→Prop} {ad:Option Addr} {R:List (Int × Int)} (h:RP w A ad R) (hp:0 < R.length):∃ b f,ad=some ⟨b,f,none⟩∧∀ j u,(O2 R)[j]?=some u→w.cell? ⟨b,f + j,none⟩=some u:=by
 obtain ⟨b,f,h1,_,h3⟩:=h (fun e=>by rw [e] at hp;simp at hp)
 refine ⟨b,f,h1,fun j u hj=>?_⟩
 have hjl:j < R.length * 2:=by have:=(List.getElem?_eq_some_iff.1 hj).1;rwa [O2_len] at this
 obtain ⟨i,r,hr,rfl⟩:∃ i r,r < 2∧j=i * 2 + r:=⟨j / 2,j % 2,by omega,by omega⟩
 have hi:i < R.length:=by omega
 have ho:=O2_at R i hi
 have hc:=h3 i hi
 have:r=0∨r=1:=by omega
 rcases this with rfl | rfl
 ·rw [Nat.add_zero] at hj ⊢
  rw [ho.1] at hj
  rw [hc.1];exact hj
 ·rw [ho.2] at hj
  rw [← Nat.add_assoc,hc.2];exact hj
theorem nineSet1 (X:World) (b:Nat) {c0 c1 c2 c3 c4 c5 c6 c7 c8:Value} {t:TypeId} (v0 v1 v2 v3 v4 v5 v6 v7 v8:Value) (h:X.heap[b]?=some (.cells #[c0,c1,c2,c3,c4,c5,c6,c7,c8] t (0,0))):(((((((((X.setCell ⟨b,0,none⟩ v0).setCell ⟨b,1,none⟩ v1).setCell ⟨b,2,none⟩ v2).setCell ⟨b,3,none⟩ v3).setCell ⟨b,4,none⟩ v4).setCell ⟨b,5,none⟩ v5).setCell ⟨b,6,none⟩ v6).setCell ⟨b,7,none⟩ v7).setCell ⟨b,8,none⟩ v8).heap[b]?=some (.cells #[v0,v1,v2,v3,v4,v5,v6,v7,v8] t (0,0)):=by
 have h0:(X.setCell ⟨b,0,none⟩ v0).heap[b]?=some (.cells #[v0,c1,c2,c3,c4,c5,c6,c7,c8] t (0,0)):=Joins.block_setCell (i:=0) h v0
 have h1:((X.setCell ⟨b,0,none⟩ v0).setCell ⟨b,1,none⟩ v1).heap[b]?=some (.cells #[v0,v1,c2,c3,c4,c5,c6,c7,c8] t (0,0)):=Joins.block_setCell (i:=1) h0 v1
 have h2:(((X.setCell ⟨b,0,none⟩ v0).setCell ⟨b,1,none⟩ v1).setCell ⟨b,2,none⟩ v2).heap[b]?=some (.cells #[v0,v1,v2,c3,c4,c5,c6,c7,c8] t (0,0)):=Joins.block_setCell (i:=2) h1 v2
 have h3:((((X.setCell ⟨b,0,none⟩ v0).setCell ⟨b,1,none⟩ v1).setCell ⟨b,2,none⟩ v2).setCell ⟨b,3,none⟩ v3).heap[b]?=some (.cells #[v0,v1,v2,v3,c4,c5,c6,c7,c8] t (0,0)):=Joins.block_setCell (i:=3) h2 v3
 have h4:(((((X.setCell ⟨b,0,none⟩ v0).setCell ⟨b,1,none⟩ v1).setCell ⟨b,2,none⟩ v2).setCell ⟨b,3,none⟩ v3).setCell ⟨b,4,none⟩ v4).heap[b]?=some (.cells #[v0,v1,v2,v3,v4,c5,c6,c7,c8] t (0,0)):=Joins.block_setCell (i:=4) h3 v4
 have h5:((((((X.setCell ⟨b,0,none⟩ v0).setCell ⟨b,1,none⟩ v1).setCell ⟨b,2,none⟩ v2).setCell ⟨b,3,none⟩ v3).setCell ⟨b,4,none⟩ v4).setCell ⟨b,5,none⟩ v5).heap[b]?=some (.cells #[v0,v1,v2,v3,v4,v5,c6,c7,c8] t (0,0)):=Joins.block_setCell (i:=5) h4 v5
 have h6:(((((((X.setCell ⟨b,0,none⟩ v0).setCell ⟨b,1,none⟩ v1).setCell ⟨b,2,none⟩ v2).setCell ⟨b,3,none⟩ v3).setCell ⟨b,4,none⟩ v4).setCell ⟨b,5,none⟩ v5).setCell ⟨b,6,none⟩ v6).heap[b]?=some (.cells #[v0,v1,v2,v3,v4,v5,v6,c7,c8] t (0,0)):=Joins.block_setCell (i:=6) h5 v6
 have h7:((((((((X.setCell ⟨b,0,none⟩ v0).setCell ⟨b,1,none⟩ v1).setCell ⟨b,2,none⟩ v2).setCell ⟨b,3,none⟩ v3).setCell ⟨b,4,none⟩ v4).setCell ⟨b,5,none⟩ v5).setCell ⟨b,6,none⟩ v6).setCell ⟨b,7,none⟩ v7).heap[b]?=some (.cells #[v0,v1,v2,v3,v4,v5,v6,v7,c8] t (0,0)):=Joins.block_setCell (i:=7) h6 v7
 exact Joins.block_setCell (i:=8) h7 v8
set_option maxRecDepth 100000 in
set_option maxHeartbeats 8000000 in
theorem built32 {N:Nat} (HP:BPs N) (hN:N≤200000) {w:World} {A:Nat→Prop} {f:Nat} {t:Tn} (h:FA w A f t) (hA:∀ c,A c→c < w.heap.size) (ht:t.nodes≤N):BP t f w:=by
 unfold BP
 obtain ⟨N0,ev,R,hc,ok,hr,hR,hRk,h5,hte⟩:=h.top
 obtain ⟨i5,hi5,hz50,hz51,hz52⟩:=info_parts info53
 have hfl:f < w.heap.size:=(Array.getElem?_eq_some_iff.1 hc).1
 obtain ⟨k,r1,r2,r3,a2,s1,s2,s3,a4,a5,a6,a7,a8⟩:=N0
 dsimp only at hr hR hte
 have k0:w.cell? ⟨f,0,none⟩=some (.int .i64 k):=Joins.cell_of_block hc 0
 have k1:w.cell? ⟨f,1,none⟩=some (.slice r1 r2 r3):=Joins.cell_of_block hc 1
 have k2:w.cell? ⟨f,2,none⟩=some (.int .i64 a2):=Joins.cell_of_block hc 2
 have k3:w.cell? ⟨f,3,none⟩=some (.slice s1 s2 s3):=Joins.cell_of_block hc 3
 have k4:w.cell? ⟨f,4,none⟩=some (.int .i64 a4):=Joins.cell_of_block hc 4
 have k5:w.cell? ⟨f,5,none⟩=some (.int .i64 a5):=Joins.cell_of_block hc 5
 have k6:w.cell? ⟨f,6,none⟩=some (.bool a6):=Joins.cell_of_block hc 6
 have k7:w.cell? ⟨f,7,none⟩=some (.int .i64 a7):=Joins.cell_of_block hc 7
 have k8:w.cell? ⟨f,8,none⟩=some (.string a8):=Joins.cell_of_block hc 8
 have HF:=hid h
 have HAA:=hid hA
 have HCC:=hid hc
 have HR:=hid hR
 have HRL:=hid hr
 have HOK:=hid ok
 have HTE:=hid hte
 have HHP:=hid HP
 have HTN:=hid ht
 have h52:r2≤5000:=by omega
 clear h hA hc hR hr ok hte HP ht
 go_enter Tryz.func92,Tryz.ntmps92
 go_upto_region 2 with fail
 obtain ⟨U,hU⟩:∃ U,U=(w.alloc (.cells #[.int .i64 0,.slice none 0 0,.int .i64 0,.slice none 0 0,.int .i64 0,.int .i64 0,.bool false,.int .i64 0,.string ⟨#[]⟩] 25)).alloc (.cells #[.int .i64 k,.slice r1 r2 r3,.int .i64 a2,.slice s1 s2 s3,.int .i64 a4,.int .i64 a5,.bool a6,.int .i64 a7,.string a8] 25):=⟨_,rfl⟩
 rw [← hU]
 have hbU:Below w.heap.size w U:=by rw [hU];exact below_two' w _ _
 have hY:BN U w.heap.size Zn:=by rw [hU];exact (heap_alloc_old _ _ (by simp)).trans (heap_alloc_new w _)
 have hX:BN U (w.heap.size + 1) ⟨k,r1,r2,r3,a2,s1,s2,s3,a4,a5,a6,a7,a8⟩:=by rw [hU];exact two_new w _ _ _
 have hsU:U.heap.size=w.heap.size + 2:=by rw [hU];simp
 obtain ⟨x,hx⟩:∃ x,x=w.heap.size + 1:=⟨_,rfl⟩
 rw [← hx] at hX ⊢
 obtain ⟨y,hy⟩:∃ y,y=w.heap.size:=⟨_,rfl⟩
 rw [← hy] at hY hx hsU hfl ⊢
 have hFU:FC U f _ ev t:=HCC.out.kept (hbU.block f (by omega))
 have g1:U.cell? ⟨f,1,none⟩=some (.slice r1 r2 r3):=Joins.cell_of_block hFU 1
 have HSR:Hid (0 < r2→∃ b o,r1=some ⟨b,o,none⟩∧∀ j u,(O2 R)[j]?=some u→U.cell? ⟨b,o + j,none⟩=some u):=fun hp=>RP.src (HR.out.kept (fun b hb=>hbU.block b (HAA.out b hb)) (fun _ h=>h)) (by have:=HRL.out;omega)
 have HO2:Hid ((O2 R).length=r2 * 2):=(O2_len R).trans (by rw [HRL.out])
 have HX:=hid hX
 have HY:=hid hY
 have HBU:=hid hbU
 have HYE:=hid hy
 have HXE:=hid hx
 have HSU:=hid hsU
 have hxU:x < U.heap.size:=by omega
 have hyU:y < U.heap.size:=by omega
 have hfy:f < y:=hfl
 clear hU hbU hX hY hx hy hFU k0 k1 k2 k3 k4 k5 k6 k7 k8 hsU hfl
 go_upto_region 3 with (at_builtin;refine wpList_append_nil rfl (.const (.slice none 0 0)) (.tmp 13) 22 rfl 70 i5 (.agg #[.int .i64 0,.int .i64 0]) 2 16 Tryz.underlying22 hi5 hz50 hz51 hz52 rfl (by decide) rfl r1 r2 r3 (O2 R) rfl HO2.out HSR.out (O2_one _) (by unfold maxLen;omega) (by omega) ?_;intro v4 w4 ho4 hb4 hl4;obtain ⟨c1,c3,rfl,hc3⟩:=row_shape ho4.out;have HC3:=hid hc3;clear hc3;have hX4:=(hb4.out.block x hxU).trans HX.out;have f1:=Joins.unfrozen_of_block hX4 1;have HX4:=hid hX4;have j1:=Joins.cell_of_block hX4 1;clear hX4)
 obtain ⟨V,hV⟩:∃ V,V=w4.setCell ⟨x,1,none⟩ (.slice c1 r2 c3):=⟨_,rfl⟩
 rw [← hV]
 have hxy:=HXE.out
 have hz4:U.heap.size≤w4.heap.size:=hb4.out.size
 have hzV:V.heap.size=w4.heap.size:=by rw [hV];simp [World.setCell]
 have hXV:BN V x ⟨k,c1,r2,c3,a2,s1,s2,s3,a4,a5,a6,a7,a8⟩:=by rw [hV];exact Joins.block_setCell (i:=1) HX4.out _
 have hYV:BN V y Zn:=by rw [hV];exact (Below.heap_setCell _ _ _ _ (fun e=>by simp only at e;omega)).trans ((hb4.out.block y (by omega)).trans HY.out)
 have hRV:V.ownsRow U.heap.size 70 2 (.slice c1 r2 c3) r2 (O2 R):=by rw [hV];exact row_kept ho4.out fun c hc=>Below.heap_setCell _ _ _ _ (fun e=>by have:=(ho4.out.lt c hc).1;simp only at e;omega)
 have hBV:Below y w V:=by
  rw [hV]
  have h1:Below y w w4:=by have:=HBU.out;rw [← HYE.out] at this;exact this.trans (Joins.below_le hb4.out (by omega))
  exact h1.setCell (p:=⟨x,1,none⟩) (by show y≤x;omega) _
 obtain ⟨V6,hV6⟩:∃ V6,V6=V.alloc (.cells #[.slice none 0 0] 23):=⟨_,rfl⟩
 obtain ⟨b,hb⟩:∃ b,b=V.heap.size:=⟨_,rfl⟩
 have hs6:V6.heap.size=b + 1:=by rw [hV6,hb];simp
 have ho6:∀ c,c < b→V6.heap[c]?=V.heap[c]?:=fun c hc=>by rw [hV6];exact heap_alloc_old _ _ (by omega)
 have hX6:BN V6 x ⟨k,c1,r2,c3,a2,s1,s2,s3,a4,a5,a6,a7,a8⟩:=(ho6 x (by omega)).trans hXV
 have hY6:BN V6 y Zn:=(ho6 y (by omega)).trans hYV
 have hv6:Bx V6 b 23 (.slice none 0 0):=by rw [hV6,hb];exact heap_alloc_new V _
 have hR6:V6.ownsRow U.heap.size 70 2 (.slice c1 r2 c3) r2 (O2 R):=row_kept hRV fun c hc=>ho6 c (by have:=(hRV.lt c hc).2;omega)
 have hB6:Below y w V6:=by rw [hV6];exact hBV.alloc (by omega) _
 have hFA6:FA V6 A f t:=HF.out.kept (fun c hc=>hB6.block c (by have:=HAA.out c hc;have:=HYE.out;omega)) (fun _ h=>h)
 obtain ⟨N1,ev1,q1,q2,HEQ⟩:=each_ok (x:=b) HHP.out hFA6 (fun c hc=>by have:=HAA.out c hc;have:=HYE.out;omega) HTN.out
 have hev:ev1=ev:=q1.ev_eq (HCC.out.kept (hB6.block f hfy))
 subst hev
 have hRO:ROv b V6 b (.slice none 0 0) []:=⟨[],fun _ _=>False,hv6,Nat.le_refl _,World.ownsRow_nil _ _ _ _,by simp [Value.ownBlock],rfl,fun j h=>by simp at h,fun j c h=>by simp at h,fun i j c h=>by simp at h⟩
 obtain ⟨n,ca,hevn,hen,HC⟩:=HEQ V6 b (.slice none 0 0) [] (by omega) (fun _ _=>rfl) hRO (by have:=subs_len t;have:=HTN.out;simp;omega)
 have b9:V6.cell? ⟨f,9,none⟩=some (.func (.func n) #[] ca):=by rw [← hevn];exact Joins.cell_of_block q1 9
 have HX6:=hid hX6
 have HY6:=hid hY6
 have HR6:=hid hR6
 have HB6:=hid hB6
 have hxb:x < b:=by omega
 have hyb:y < b:=by omega
 have HV6:=hid hV6
 have HBE:=hid hb
 have HS6:=hid hs6
 have HUB:=hid (show U.heap.size≤b by omega)
 have HRB:Hid (∀ c,(Value.slice c1 r2 c3).ownBlock=some c→c < b):=fun c hc=>by have:=(hRV.lt c hc).2;omega
 clear hV hzV hXV hYV hRV hBV hV6 ho6 hX6 hY6 hv6 hR6 hB6 hFA6 q1 q2 HEQ hevn hRO hb hs6 f1 j1 g1 hxy
 go_upto_region 4 with fail
 rw [← HV6.out,← HBE.out]
 go_upto_region 5 with (first | (with_reducible refine HC.mono ?_;rintro e w9 ⟨rfl,uv9,hr9,hc9⟩;have HR9:=hid hr9;have HC9:=hid hc9;clear hr9 hc9 HC))
 have hr9':=HR9.out
 rw [List.nil_append] at hr9'
 obtain ⟨MS,AS,hro⟩:=hr9'
 obtain ⟨ub,uc,rfl,huc⟩:=row_shape hro.row
 have hML:=hro.len
 obtain ⟨m,hm⟩:∃ m,m=MS.length:=⟨_,rfl⟩
 have hbo:Bx w9 b 23 (.slice ub m uc):=by rw [hm];exact hro.box
 have hk9:∀ c,c < b→w9.heap[c]?=V6.heap[c]?:=fun c hc=>HC9.out.block c (by have:=HS6.out;omega) (by simp [FB,Value.ownBlock];omega)
 have hX9:=(hk9 x hxb).trans HX6.out
 have hY9:=(hk9 y hyb).trans HY6.out
 have s0:=bx0 hbo
 have x3:=Joins.unfrozen_of_block hX9 3
 have y0:=Joins.unfrozen_of_block hY9 0
 have y1:=Joins.unfrozen_of_block hY9 1
 have y2:=Joins.unfrozen_of_block hY9 2
 have y3:=Joins.unfrozen_of_block hY9 3
 have y4:=Joins.unfrozen_of_block hY9 4
 have y5:=Joins.unfrozen_of_block hY9 5
 have y6:=Joins.unfrozen_of_block hY9 6
 have y7:=Joins.unfrozen_of_block hY9 7
 have y8:=Joins.unfrozen_of_block hY9 8
 obtain ⟨p0,p1,p2,p3,p4,p5,p6,p7,p8⟩:=nine' hX9
 obtain ⟨z0,z1,z2,z3,z4,z5,z6,z7,z8⟩:=nine' hY9
 have HX9:=hid hX9
 have HY9:=hid hY9
 have HRO:=hid hro
 have HML:=hid hML
 have HM:=hid hm
 have HK9:=hid hk9
 have HUC:=hid huc
 have hyx:y < x:=by have:=HXE.out;omega
 have hs9:b + 1≤w9.heap.size:=by have:=HC9.out.size;have:=HS6.out;omega
 clear hro hML hbo hX9 hY9 hk9 hm HR9 huc
 go_wp2
 all_goals
  have hy3:(w9.setCell ⟨x,3,none⟩ (.slice ub m uc)).heap[y]?=some (.cells #[.int .i64 0,.slice none 0 0,.int .i64 0,.slice none 0 0,.int .i64 0,.int .i64 0,.bool false,.int .i64 0,.string ⟨#[]⟩] 25 (0,0)):=(Below.heap_setCell _ _ _ _ (fun e=>by simp only at e;omega)).trans HY9.out
  have hfin:=nineSet1 _ y (.int .i64 k) (.slice c1 r2 c3) (.int .i64 a2) (.slice ub m uc) (.int .i64 a4) (.int .i64 a5) (.bool a6) (.int .i64 a7) (.string a8) hy3
  refine bodyPost_ret (results_cell_row rfl _ _ y 25 _ (0,0) _ rfl hfin Tryz.underlying25 rfl (by kernel_rfl)) rfl ?_
  have hold:∀ c,c≠x→c≠y→(set9 (w9.setCell ⟨x,3,none⟩ (.slice ub m uc)) y 0 ⟨k,c1,r2,c3,a2,ub,m,uc,a4,a5,a6,a7,a8⟩).heap[c]?=w9.heap[c]?:=fun c h1 h2=>by
   rw [set9_eq]
   exact (setCells_old y _ _ _ c h2).trans (Below.heap_setCell _ _ _ _ h1)
  have hBel:Below y w (set9 (w9.setCell ⟨x,3,none⟩ (.slice ub m uc)) y 0 ⟨k,c1,r2,c3,a2,ub,m,uc,a4,a5,a6,a7,a8⟩):=by
   rw [set9_eq]
   have h9:Below y w w9:=HB6.out.trans ⟨HC9.out.os,HC9.out.tape,HC9.out.output,HC9.out.size,fun c hc=>HK9.out c (by omega)⟩
   exact Below.setCells (Nat.le_refl _) _ _ _ _ (h9.setCell (p:=⟨x,3,none⟩) (by show y≤x;omega) _)
  have hfold:set9 (w9.setCell ⟨x,3,none⟩ (.slice ub m uc)) y 0 ⟨k,c1,r2,c3,a2,ub,m,uc,a4,a5,a6,a7,a8⟩=(((((((((w9.setCell ⟨x,3,none⟩ (.slice ub m uc)).setCell ⟨y,0,none⟩ (.int .i64 k)).setCell ⟨y,1,none⟩ (.slice c1 r2 c3)).setCell ⟨y,2,none⟩ (.int .i64 a2)).setCell ⟨y,3,none⟩ (.slice ub m uc)).setCell ⟨y,4,none⟩ (.int .i64 a4)).setCell ⟨y,5,none⟩ (.int .i64 a5)).setCell ⟨y,6,none⟩ (.bool a6)).setCell ⟨y,7,none⟩ (.int .i64 a7)).setCell ⟨y,8,none⟩ (.string a8):=rfl
  rw [hfold] at hold hBel
  generalize (((((((((w9.setCell ⟨x,3,none⟩ (.slice ub m uc)).setCell ⟨y,0,none⟩ (.int .i64 k)).setCell ⟨y,1,none⟩ (.slice c1 r2 c3)).setCell ⟨y,2,none⟩ (.int .i64 a2)).setCell ⟨y,3,none⟩ (.slice ub m uc)).setCell ⟨y,4,none⟩ (.int .i64 a4)).setCell ⟨y,5,none⟩ (.int .i64 a5)).setCell ⟨y,6,none⟩ (.bool a6)).setCell ⟨y,7,none⟩ (.int .i64 a7)).setCell ⟨y,8,none⟩ (.string a8)=Uf at hold hBel ⊢
  have hm:=HM.out
  have hro:=HRO.out
  rw [← hm] at hro
  have hye:=HYE.out
  have hrr:Uf.ownsRow U.heap.size 70 2 (.slice c1 r2 c3) r2 (O2 R):=row_kept HR6.out fun c hc=>by
   have h1:=HR6.out.lt c hc
   have:=HSU.out
   by_cases hcb:c < b
   ·exact (hold c (by omega) (by omega)).trans (HK9.out c hcb)
   ·exfalso
    have:=HRB.out c hc
    omega
  have hTOs:∀ j (hj:j < t.subs.length),TO Uf (MS.getD j default) t.subs[j] (AS j):=fun j hj=>by
   have hjm:j < MS.length:=by have:=HML.out;omega
   rw [List.getD_eq_getElem?_getD,List.getElem?_eq_getElem hjm]
   exact (hro.tos j hj hjm).kept fun c hc=>hold c (by have:=(hro.low j c hj hc).1;omega) (by have:=(hro.low j c hj hc).1;omega)
  have hsr:Uf.ownsRow 0 25 9 (.slice ub m uc) t.subs.length (((List.range t.subs.length).map (fun j=>MS.getD j default)).flatMap Nv.cs):=by
   have e:(List.range t.subs.length).map (fun j=>MS.getD j default)=MS:=by
    apply List.ext_getElem (by simp [HML.out])
    intro j h1 h2
    simp [List.getD_eq_getElem?_getD,List.getElem?_eq_getElem h2]
   rw [e,← HML.out]
   have h9:Uf.ownsRow b 25 9 (.slice ub m uc) MS.length (MS.flatMap Nv.cs):=row_kept hro.row fun c hc=>hold c (by have:=(hro.row.lt c hc).1;omega) (by have:=(hro.row.lt c hc).1;omega)
   exact row_base h9 (Nat.zero_le _)
  refine ⟨⟨k,c1,r2,c3,a2,ub,m,uc,a4,a5,a6,a7,a8⟩,rfl,fun c=>(Value.slice c1 r2 c3).ownBlock=some c∨(Value.slice ub m uc).ownBlock=some c∨∃ i,i < t.subs.length∧AS i c,?_,?_,by rw [← hye];exact hBel⟩
  ·have hTO:=TO.mk (w:=Uf) (N:=⟨k,c1,r2,c3,a2,ub,m,uc,a4,a5,a6,a7,a8⟩) (ND:=fun j=>MS.getD j default) (AS:=AS) ⟨HOK.out.k,HOK.out.a2,HOK.out.a4,HOK.out.a5,HOK.out.a7,HOK.out.a8,HC3.out,by rw [hm];exact HUC.out⟩ hRk (by rw [← HRL.out];exact row_base hrr (Nat.zero_le _)) hsr hTOs hro.apart (fun c hc hc2=>by
    have h1:=HRB.out c hc
    have h2:=(hro.row.lt c hc2).1
    omega) (fun j c hj hc=>⟨fun e=>by
    have h1:=HRB.out c e
    have h2:=(hro.low j c hj hc).1
    omega,(hro.low j c hj hc).2.2⟩)
   dsimp only at hTO
   rw [← HTE.out] at hTO
   exact hTO
  ·rintro c (hc | hc | ⟨j,hj,hc⟩)
   ·have:=(hrr.lt c hc).1;have:=HSU.out;omega
   ·have:=(hro.row.lt c hc).1;omega
   ·have:=(hro.low j c hj hc).1;omega
theorem built_all:∀ N,N≤200001→BPs N:=by
 intro N
 induction N with
 | zero=>intro _ s W g A hs;omega
 | succ N ih =>
  intro hN s W g A hs hg hA
  exact built32 (ih (by omega)) (by omega) hg hA (by omega)
theorem results_cell_tmp1 {P:Program} {fn:Func} {p u:Tmp} {ty:TypeId} (h:fn.results=#[.cell p ty,.tmp u]) (tmps:Array Value) (w:World) (g:Nat) (t:TypeId) (cs:Array Value) (fr:Nat × Nat) (d:TypeDesc)
  (hp:tmps.getD p undef=.pointer (some ⟨g,0,none⟩)) (hg:w.heap[g]?=some (.cells cs t fr))
  (hu:P.underlying ty=some d) (hd:(match d with | .struct _ | .array _ _=>true | _=>false)=true) (hi:(P.info? ty).map (·.size)=some cs.size) :
  (results fn tmps).run P w=.ok (.tuple #[.agg cs,tmps.getD u undef]) w:=by
 have hp':tmps[p]?.getD undef=.pointer (some ⟨g,0,none⟩):=by simpa using hp
 simp [results,h,hp',asAddr,run_loadVar_row w g t ty cs fr d hg hu hd hi]
def Tn.bigS (t:Tn):Bool:=decide (200000 < t.S.nodes) || decide (10000 < t.S.depth)
def errS (t:Tn):Int:=if t.sound then (if t.bigS then 3 else 0) else 50
abbrev zeroT:Tn:=.mk 0 [] 0 [] 0 0 false 0 ⟨#[]⟩
def simT (t:Tn):Tn:=if errS t=0 then t.S else zeroT
theorem zn_ok:Zn.ok:=ok_NO 0 0 0 false 0 ⟨#[]⟩ (by decide) (by decide) (by decide) (by decide) (Nat.zero_le _)
theorem to_zero (w:World):TO w Zn zeroT (fun b=>Zn.rb=some b∨Zn.sb=some b∨∃ i,i < ([]:List Tn).length∧False):=
 TO.mk (N:=Zn) (R:=[]) (ts:=[]) (ND:=fun _=>default) (AS:=fun _ _=>False) zn_ok (fun x hx=>by cases hx) (World.ownsRow_nil _ _ _ _) (World.ownsRow_nil _ _ _ _) (fun i hi=>by simp at hi) (fun i j b hi=>by simp at hi) (fun b hb=>by cases hb) (fun i b hi=>by simp at hi)
theorem tail_nine {w3:World} {y:Nat} (M:Nv) (hY:BN w3 y Zn):(set9 w3 y 0 M).heap[y]?=some (.cells #[.int .i64 M.k,.slice M.r1 M.r2 M.r3,.int .i64 M.a2,.slice M.s1 M.s2 M.s3,.int .i64 M.a4,.int .i64 M.a5,.bool M.a6,.int .i64 M.a7,.string M.a8] 25 (0,0))∧(∀ c,c≠y→(set9 w3 y 0 M).heap[c]?=w3.heap[c]?)∧∀ B0 W0,Below B0 W0 w3→B0≤y→Below B0 W0 (set9 w3 y 0 M):=by
 refine ⟨nineSet1 _ y _ _ _ _ _ _ _ _ _ hY,fun c hc=>?_,fun B0 W0 h h1=>?_⟩
 ·rw [set9_eq];exact setCells_old y _ _ _ c hc
 ·rw [set9_eq];exact Below.setCells h1 _ _ _ _ h
set_option maxRecDepth 100000 in
set_option maxHeartbeats 8000000 in
theorem simplify11 {w:World} {N:Nv} {t:Tn} (h:TI w w.heap.size N t):Calls Tryz.prog 52 #[N.v] w fun e w'=>∃ M,e=.returned (.tuple #[Nv.v M,.int .i64 (errS t)])∧∃ AA,TO w' M (simT t) AA∧(∀ c,AA c→w.heap.size≤c)∧Below w.heap.size w w':=by
 have hTI:TI ((w.alloc (.cells #[.int .i64 N.k,.slice N.r1 N.r2 N.r3,.int .i64 N.a2,.slice N.s1 N.s2 N.s3,.int .i64 N.a4,.int .i64 N.a5,.bool N.a6,.int .i64 N.a7,.string N.a8] 25)).alloc litO) w.heap.size N t:=h.kept fun b hb=>(heap_alloc_old _ _ (by simp;omega)).trans (heap_alloc_old w _ hb)
 obtain ⟨W,hW⟩:∃ W,W=(w.alloc (.cells #[.int .i64 N.k,.slice N.r1 N.r2 N.r3,.int .i64 N.a2,.slice N.s1 N.s2 N.s3,.int .i64 N.a4,.int .i64 N.a5,.bool N.a6,.int .i64 N.a7,.string N.a8] 25)).alloc litO:=⟨_,rfl⟩
 have hbW:Below w.heap.size w W:=by rw [hW];exact below_two' w _ _
 have hsW:W.heap.size=w.heap.size + 2:=by rw [hW];simp
 have hX:BN W w.heap.size N:=by rw [hW];exact (heap_alloc_old _ _ (by simp)).trans (heap_alloc_new w _)
 have hY:BN W (w.heap.size + 1) Zn:=by rw [hW];exact two_new w _ _ _
 rw [← hW] at hTI
 have HC:=sound29g (hTI.le (by omega))
 obtain ⟨x,hx⟩:∃ x,x=w.heap.size:=⟨_,rfl⟩
 rw [← hx] at hX hY hsW
 obtain ⟨k,r1,r2,r3,a2,s1,s2,s3,a4,a5,a6,a7,a8⟩:=N
 obtain ⟨q0,q1,q2,q3,q4,q5,q6,q7,q8⟩:=nine' hX
 have HX:=hid hX
 have HY:=hid hY
 have HBW:=hid hbW
 have HSW:=hid hsW
 have HXE:=hid hx
 have HTI:=hid hTI
 dsimp only at HC hW q0 q1 q2 q3 q4 q5 q6 q7 q8
 by_cases hsd:t.sound=true
 ·rw [hsd] at HC
  simp only [if_true] at HC
  simp only [Tn.sound,Bool.and_eq_true,decide_eq_true_eq] at hsd
  have hfo:=formOf31 HTI.out hsd.1.1 hsd.1.2 hsd.2
  have HFO:=hid hfo
  have HSD:=hid hsd
  clear hX hY hbW hsW hTI h hfo hsd
  go_enter Tryz.func52,Tryz.ntmps52
  go_upto_region 1 with fail
  rw [← hx,← hW]
  clear hW hx
  go_upto_region 3 with (first | (go_at_call 42;(with_reducible refine HC.mono ?_);rintro e w2 ⟨rfl,hb2⟩;have hX2:=(hb2.block x (by have:=HSW.out;omega)).trans HX.out;clear q0 q1 q2 q3 q4 q5 q6 q7 q8;obtain ⟨q0,q1,q2,q3,q4,q5,q6,q7,q8⟩:=nine' hX2;have HC2:=HFO.out w2 (by have:=HXE.out;have:=HSW.out;have:=hb2.size;omega) (fun c hc=>hb2.block c (by have:=HXE.out;have:=HSW.out;omega));have HB2:=hid hb2;clear hb2 hX2 HC))
  go_upto_region 4 with (first | (go_at_call 91;(with_reducible refine HC2.mono ?_);rintro e w3 ⟨f,rfl,hf,hb3⟩;have HF:=hid hf;have HB3:=hid hb3;clear hf hb3 HC2))
  have hz2:W.heap.size≤w2.heap.size:=HB2.out.size
  have hz3:w2.heap.size≤w3.heap.size:=HB3.out.size
  have hAf:∀ c,New (fun b=>b < w.heap.size) w2 w3 c→c < w3.heap.size:=New.low (fun c hc=>by have:=HSW.out;have:=HXE.out;omega) hz3
  obtain ⟨hfa,N0,ev,hc,_⟩:=HF.out.cells
  have hfl:=hAf f hfa
  obtain ⟨_,_,c10,c11⟩:=hc.num
  have hY3:=(HB3.out.block (x + 1) (by have:=HSW.out;omega)).trans ((HB2.out.block (x + 1) (by have:=HSW.out;omega)).trans HY.out)
  have f0:=Joins.unfrozen_of_block hY3 0
  have f1:=Joins.unfrozen_of_block hY3 1
  have f2:=Joins.unfrozen_of_block hY3 2
  have f3:=Joins.unfrozen_of_block hY3 3
  have f4:=Joins.unfrozen_of_block hY3 4
  have f5:=Joins.unfrozen_of_block hY3 5
  have f6:=Joins.unfrozen_of_block hY3 6
  have f7:=Joins.unfrozen_of_block hY3 7
  have f8:=Joins.unfrozen_of_block hY3 8
  clear q0 q1 q2 q3 q4 q5 q6 q7 q8
  obtain ⟨q0,q1,q2,q3,q4,q5,q6,q7,q8⟩:=nine' hY3
  have HY3:=hid hY3
  have hsound:t.sound=true:=by simp only [Tn.sound,Bool.and_eq_true,decide_eq_true_eq];exact HSD.out
  have hb13:Below w.heap.size w w3:=(HBW.out.trans (Joins.below_le HB2.out (by have:=HSW.out;have:=HXE.out;omega))).trans (Joins.below_le HB3.out (by have:=HSW.out;have:=HXE.out;omega))
  have HB13:=hid hb13
  have HAF:=hid hAf
  obtain ⟨m,hm⟩:∃ m,m=capN t.S.nodes:=⟨_,rfl⟩
  obtain ⟨d,hd⟩:∃ d,d=t.S.depth:=⟨_,rfl⟩
  rw [← hm] at c10
  rw [← hd] at c11
  by_cases hbig:t.bigS=true
  ·have herr:errS t=3:=by unfold errS;rw [hsound,hbig];rfl
   have HSE:Hid (simT t=zeroT):=by unfold simT;rw [herr];rfl
   have HER:=hid herr
   clear herr hsound hb13 hAf hc hfa hY3
   simp only [Tn.bigS,Bool.or_eq_true,decide_eq_true_eq] at hbig
   by_cases hn:200000 < m
   ·have g1:decide ((m:Int) > 200000)=true:=by simp;omega
    clear hbig hm hd hn
    go_wp2
    all_goals
     obtain ⟨y1,y2,y3⟩:=tail_nine Zn HY3.out
     refine bodyPost_ret (results_cell_tmp1 rfl _ _ (x + 1) 25 _ (0,0) _ rfl y1 Tryz.underlying25 rfl (by kernel_rfl)) rfl ?_
     exact ⟨Zn,(by rw [HER.out];rfl),_,by rw [HSE.out];exact to_zero _,(fun c hc=>by rcases hc with h | h | ⟨_,_,h⟩;cases h;cases h;exact h.elim),y3 _ _ HB13.out (by have:=HXE.out;omega)⟩
   ·have g1:decide ((m:Int) > 200000)=false:=by simp;omega
    have g2:decide ((d:Int) > 10000)=true:=by
     simp
     have:¬ 200000 < t.S.nodes:=fun h=>hn (by rw [hm];unfold capN;omega)
     omega
    clear hbig hm hd hn
    go_wp2
    all_goals
     obtain ⟨y1,y2,y3⟩:=tail_nine Zn HY3.out
     refine bodyPost_ret (results_cell_tmp1 rfl _ _ (x + 1) 25 _ (0,0) _ rfl y1 Tryz.underlying25 rfl (by kernel_rfl)) rfl ?_
     exact ⟨Zn,(by rw [HER.out];rfl),_,by rw [HSE.out];exact to_zero _,(fun c hc=>by rcases hc with h | h | ⟨_,_,h⟩;cases h;cases h;exact h.elim),y3 _ _ HB13.out (by have:=HXE.out;omega)⟩
  ·have hbig':t.bigS=false:=by simpa using hbig
   have herr:errS t=0:=by unfold errS;rw [hsound,hbig'];rfl
   have HSE:Hid (simT t=t.S):=by unfold simT;rw [herr];rfl
   have HER:=hid herr
   simp only [Tn.bigS,Bool.or_eq_false_iff,decide_eq_false_iff_not] at hbig'
   have g1:decide ((m:Int) > 200000)=false:=by
    have:m≤200000:=by rw [hm];unfold capN;omega
    simp;omega
   have g2:decide ((d:Int) > 10000)=false:=by simp;omega
   have HC3:=built_all 200001 (Nat.le_refl _) t.S w3 f _ (by omega) HF.out HAF.out
   unfold BP at HC3
   clear herr hsound hb13 hAf hc hfa hY3 hbig hbig' hm hd
   have hxy:x + 1 < w3.heap.size:=by have:=HSW.out;omega
   go_upto_region 6 with fail
   go_wp2_with (first | (go_at_call 92;(with_reducible refine HC3.mono ?_);rintro e w4 ⟨M,AA,rfl,hM,hAA,hb4⟩;have hY4:=(hb4.block (x + 1) hxy).trans HY3.out;clear q0 q1 q2 q3 q4 q5 q6 q7 q8 f0 f1 f2 f3 f4 f5 f6 f7 f8;have f0:=Joins.unfrozen_of_block hY4 0;have f1:=Joins.unfrozen_of_block hY4 1;have f2:=Joins.unfrozen_of_block hY4 2;have f3:=Joins.unfrozen_of_block hY4 3;have f4:=Joins.unfrozen_of_block hY4 4;have f5:=Joins.unfrozen_of_block hY4 5;have f6:=Joins.unfrozen_of_block hY4 6;have f7:=Joins.unfrozen_of_block hY4 7;have f8:=Joins.unfrozen_of_block hY4 8;obtain ⟨q0,q1,q2,q3,q4,q5,q6,q7,q8⟩:=nine' hY4;have HY4:=hid hY4;have HM:=hid hM;have HAA:=hid hAA;have HB4:=hid hb4;clear hY4 hM hAA hb4 HC3))
   all_goals
    obtain ⟨y1,y2,y3⟩:=tail_nine M HY4.out
    refine bodyPost_ret (results_cell_tmp1 rfl _ _ (x + 1) 25 _ (0,0) _ rfl y1 Tryz.underlying25 rfl (by kernel_rfl)) rfl ?_
    have hxe:=HXE.out
    have hz4:=HB13.out.size
    refine ⟨M,(by rw [HER.out];rfl),AA,?_,fun c hc=>by have:=HAA.out c hc;omega,y3 _ _ (HB13.out.trans (Joins.below_le HB4.out hz4)) (by omega)⟩
    rw [HSE.out]
    exact HM.out.kept fun c hc=>y2 c (by have:=HAA.out c hc;omega)
 ·have hsd':t.sound=false:=by simpa using hsd
  rw [hsd'] at HC
  simp only [Bool.false_eq_true,if_false] at HC
  have herr:errS t=50:=by unfold errS;rw [hsd'];rfl
  have HSE:Hid (simT t=zeroT):=by unfold simT;rw [herr];rfl
  have HER:=hid herr
  clear hX hY hbW hsW hTI h hsd hsd' herr
  go_enter Tryz.func52,Tryz.ntmps52
  go_upto_region 1 with fail
  rw [← hx,← hW]
  clear hW hx
  go_wp2_with (first | (go_at_call 42;(with_reducible refine HC.mono ?_);rintro e w4 ⟨rfl,hb4⟩;have hY4:=(hb4.block (x + 1) (by have:=HSW.out;omega)).trans HY.out;clear q0 q1 q2 q3 q4 q5 q6 q7 q8;have f0:=Joins.unfrozen_of_block hY4 0;have f1:=Joins.unfrozen_of_block hY4 1;have f2:=Joins.unfrozen_of_block hY4 2;have f3:=Joins.unfrozen_of_block hY4 3;have f4:=Joins.unfrozen_of_block hY4 4;have f5:=Joins.unfrozen_of_block hY4 5;have f6:=Joins.unfrozen_of_block hY4 6;have f7:=Joins.unfrozen_of_block hY4 7;have f8:=Joins.unfrozen_of_block hY4 8;obtain ⟨q0,q1,q2,q3,q4,q5,q6,q7,q8⟩:=nine' hY4;have HY4:=hid hY4;have HB4:=hid hb4;clear hY4 hb4 HC))
  all_goals
   obtain ⟨y1,y2,y3⟩:=tail_nine Zn HY4.out
   refine bodyPost_ret (results_cell_tmp1 rfl _ _ (x + 1) 25 _ (0,0) _ rfl y1 Tryz.underlying25 rfl (by kernel_rfl)) rfl ?_
   exact ⟨Zn,(by rw [HER.out];rfl),_,by rw [HSE.out];exact to_zero _,(fun c hc=>by rcases hc with h | h | ⟨_,_,h⟩;cases h;cases h;exact h.elim),y3 _ _ (HBW.out.trans (Joins.below_le HB4.out HBW.out.size)) (by have:=HXE.out;omega)⟩
mutual
def Tn.small:Tn→Bool
 | .mk _ R _ s _ _ _ _ _=>decide (R.length * 16≤140737488351232) && smallL s
def smallL:List Tn→Bool
 | []=>true
 | t :: ts=>t.small && smallL ts
end
theorem smallL_get {ts:List Tn} (h:smallL ts=true):∀ (i:Nat) (hi:i < ts.length),ts[i].small=true:=by
 induction ts with
 | nil=>intro i hi;simp at hi
 | cons t ts ih =>
  simp only [smallL,Bool.and_eq_true] at h
  intro i hi
  cases i with
  | zero=>exact h.1
  | succ i=>exact ih h.2 i (by simpa using hi)
theorem wt_mul (T:Int) (n:Nat) (h1:1≤T) (h2:T≤1099511627776 / (n:Int)) (hn:1≤n):∃ v:Nat,wrap64 (T * (n:Int))=(v:Int)∧v≤1099511627776:=by
 obtain ⟨m,rfl⟩:∃ m:Nat,T=(m:Int):=⟨T.toNat,by omega⟩
 have h3:(m:Int) * (n:Int)≤1099511627776:=by
  have:=Int.mul_le_of_le_ediv (by omega:(0:Int) < (n:Int)) h2
  exact this
 have e:(m:Int) * (n:Int)=((m * n:Nat):Int):=by push_cast;rfl
 rw [e] at h3 ⊢
 refine ⟨m * n,?_,by omega⟩
 unfold wrap64
 omega
set_option maxRecDepth 100000 in
set_option maxHeartbeats 8000000 in
theorem weight28 {w0:World} {B:Nat} {N:Nv} {t:Tn} (h:TI w0 B N t):t.small=true→∀ (w:World),B≤w.heap.size→(∀ b,b < B→w.heap[b]?=w0.heap[b]?) →
  Calls Tryz.prog 49 #[N.v] w fun e w'=>∃ v:Nat,e=.returned (.int .i64 (v:Int))∧v≤1099511627776∧Below w.heap.size w w':=by
 induction h with
 | @mk N R ts ND ok hr hR hRk hs hS hk ih =>
 intro hsm w hB hw
 simp only [Tn.small,Bool.and_eq_true,decide_eq_true_eq] at hsm
 have ihS:∀ i (hi:i < ts.length),∀ w1:World,B≤w1.heap.size→(∀ b,b < B→w1.heap[b]?=w0.heap[b]?)→Calls Tryz.prog 49 #[(ND i).v] w1 fun e w'=>∃ v:Nat,e=.returned (.int .i64 (v:Int))∧v≤1099511627776∧Below w1.heap.size w1 w':=fun i hi=>ih i hi (smallL_get hsm.2 i hi)
 have hBW:Below w.heap.size w (w.alloc (.cells #[.int .i64 N.k,.slice N.r1 N.r2 N.r3,.int .i64 N.a2,.slice N.s1 N.s2 N.s3,.int .i64 N.a4,.int .i64 N.a5,.bool N.a6,.int .i64 N.a7,.string N.a8] 25)):=Joins.below_alloc1 w _
 have hBN:BN (w.alloc (.cells #[.int .i64 N.k,.slice N.r1 N.r2 N.r3,.int .i64 N.a2,.slice N.s1 N.s2 N.s3,.int .i64 N.a4,.int .i64 N.a5,.bool N.a6,.int .i64 N.a7,.string N.a8] 25)) w.heap.size N:=heap_alloc_new w _
 have hmax:=ok.s
 have hok4:=ok.a4
 have hok5:=ok.a5
 obtain ⟨k,r1,r2,r3,a2,s1,s2,s3,a4,a5,a6,a7,a8⟩:=N
 dsimp only at hs hS hr hBN hBW hmax hok4 hok5
 have hm2:s2≤9223372036854775807:=by have:maxLen=9223372036854775807:=rfl;omega
 have hr2:r2≤8796093021952:=by omega
 have ad0:IntKind.i64.wrap (1 + (r2:Int))=1 + (r2:Int):=by simp [IntKind.wrap,IntKind.bits,IntKind.signed];omega
 obtain ⟨q0,q1,q2,q3,q4,q5,q6,q7,q8⟩:=nine' hBN
 obtain ⟨W,hW⟩:∃ W,W=w.alloc (.cells #[.int .i64 k,.slice r1 r2 r3,.int .i64 a2,.slice s1 s2 s3,.int .i64 a4,.int .i64 a5,.bool a6,.int .i64 a7,.string a8] 25):=⟨_,rfl⟩
 rw [← hW] at hBN hBW q0 q1 q2 q3 q4 q5 q6 q7 q8
 obtain ⟨z,hz⟩:∃ z,z=w.heap.size:=⟨_,rfl⟩
 rw [← hz] at hBN hBW q0 q1 q2 q3 q4 q5 q6 q7 q8
 have HBN:=hid hBN
 have HBW:=hid hBW
 have HZ:=hid hz
 have HSS:=hid hS
 have HIH:=hid ihS
 have HL:=hid hs
 have HW:=hid hw
 clear hBN hBW hS ihS ih hk ok hr hR hRk hs hw hsm hmax
 go_enter Tryz.func49,Tryz.ntmps49
 go_upto_region 1 with fail
 rw [← hz,← hW]
 clear hW hz
 go_wp2_with fail
 go_loopw [3,4] (fun u y wq=>∃ i:Nat,y=.int .i64 (i:Int)∧i≤s2∧(∃ n:Nat,u=.int .i64 (n:Int)∧1≤n∧n≤8796093021953)∧Hid (Below z w wq)∧Hid (BN wq z ⟨k,r1,r2,r3,a2,s1,s2,s3,a4,a5,a6,a7,a8⟩)) (fun _ y _=>s2 - (intOf y).toNat)
 case atStart=>exact ⟨0,rfl,by omega,⟨1 + r2,by push_cast;rfl,by omega,by omega⟩,HBW.out,HBN.out⟩
 case round =>
  obtain ⟨i,rfl,hi,⟨n,rfl,hn1,hn2⟩,BK,BX⟩:=hrel
  clear q0 q1 q2 q3 q4 q5 q6 q7 q8
  obtain ⟨q0,q1,q2,q3,q4,q5,q6,q7,q8⟩:=nine' BX.out
  by_cases hil:i < s2
  ·have b1:decide ((i:Int) < (s2:Int))=true:=by simp;omega
   have b2:(i:Int) < (s2:Int):=by omega
   have ad1:IntKind.i64.wrap ((i:Int) + 1)=(i:Int) + 1:=by simp [IntKind.wrap,IntKind.bits,IntKind.signed];omega
   have hlt:i < ts.length:=by have:=HL.out;omega
   obtain ⟨b,o,rfl,hbl,h9⟩:=HSS.out (by omega)
   have hbw:wr.heap[b]?=w.heap[b]?:=BK.out.block b (by have:=HZ.out;omega)
   obtain ⟨n0,n1,n2,n3,n4,n5,n6,n7,n8⟩:=(h9 i hlt).kept (hbw.trans (HW.out b hbl))
   have HC:=HIH.out i hlt wr (by have:=BK.out.size;have:=HZ.out;omega) (fun b hb=>(BK.out.block b (by have:=HZ.out;omega)).trans (HW.out b hb))
   have hzl:=(Array.getElem?_eq_some_iff.1 BX.out).1
   obtain ⟨M,hM⟩:∃ M,M=ND i:=⟨_,rfl⟩
   rw [← hM] at HC n0 n1 n2 n3 n4 n5 n6 n7 n8
   clear h9 hbw hM
   go_wp2_with (first | (go_at_call 49;(with_reducible refine HC.mono ?_);rintro e w2 ⟨v,rfl,hv,hb2⟩;have ad2:IntKind.i64.wrap ((n:Int) + (v:Int))=(n:Int) + (v:Int):=(by simp [IntKind.wrap,IntKind.bits,IntKind.signed];omega);have hB2:=(hb2.block z hzl).trans BX.out;clear q0 q1 q2 q3 q4 q5 q6 q7 q8;obtain ⟨q0,q1,q2,q3,q4,q5,q6,q7,q8⟩:=nine' hB2;have HB2:=hid hb2;have HX2:=hid hB2;clear hb2 hB2 HC))
   have hz:=HZ.out
   refine ⟨⟨i + 1,by push_cast;rfl,by omega,⟨min 1099511627776 (n + v),by congr 1;omega,by omega,by omega⟩,BK.out.trans (Joins.below_le HB2.out (by have:=BK.out.size;omega)),HX2.out⟩,by simp [intOf];omega⟩
  ·have b1:decide ((i:Int) < (s2:Int))=false:=by simp;omega
   have hn0:((n:Int) == 0)=false:=by simp;omega
   have hn0':(n:Int)≠0:=by omega
   by_cases hk:k=6
   ·have g6:(k == 6)=true:=by simpa using hk
    go_wp2
    all_goals go_ret
    all_goals first | exact ⟨1099511627776,rfl,by omega,by rw [← HZ.out];exact BK.out⟩ | (obtain ⟨v,hv,hv2⟩:=wt_mul a5 n (by omega) (by omega) hn1;exact ⟨v,congrArg (fun x:Int=>Ending.returned (Value.int .i64 x)) hv,hv2,by rw [← HZ.out];exact BK.out⟩) | (obtain ⟨v,hv,hv2⟩:=wt_mul a4 n (by omega) (by omega) hn1;exact ⟨v,congrArg (fun x:Int=>Ending.returned (Value.int .i64 x)) hv,hv2,by rw [← HZ.out];exact BK.out⟩) | (obtain ⟨v,hv,hv2⟩:=wt_mul 1 n (by omega) (by omega) hn1;exact ⟨v,congrArg (fun x:Int=>Ending.returned (Value.int .i64 x)) hv,hv2,by rw [← HZ.out];exact BK.out⟩) | (obtain ⟨v,hv,hv2⟩:=wt_mul 1 n (by omega) (by omega) hn1;rw [Int.one_mul] at hv;exact ⟨v,congrArg (fun x:Int=>Ending.returned (Value.int .i64 x)) hv,hv2,by rw [← HZ.out];exact BK.out⟩)
   ·have g6:(k == 6)=false:=by simpa using hk
    go_wp2
    all_goals go_ret
    all_goals first | exact ⟨1099511627776,rfl,by omega,by rw [← HZ.out];exact BK.out⟩ | (obtain ⟨v,hv,hv2⟩:=wt_mul 1 n (by omega) (by omega) hn1;exact ⟨v,congrArg (fun x:Int=>Ending.returned (Value.int .i64 x)) hv,hv2,by rw [← HZ.out];exact BK.out⟩) | (obtain ⟨v,hv,hv2⟩:=wt_mul 1 n (by omega) (by omega) hn1;rw [Int.one_mul] at hv;exact ⟨v,congrArg (fun x:Int=>Ending.returned (Value.int .i64 x)) hv,hv2,by rw [← HZ.out];exact BK.out⟩) | (obtain ⟨v,hv,hv2⟩:=wt_mul 1 n (by omega) (by omega) hn1;rw [Int.one_mul,IntWalk.wrap64_in _ (by omega)] at hv;exact ⟨n,rfl,by omega,by rw [← HZ.out];exact BK.out⟩)
set_option maxRecDepth 100000 in
set_option maxHeartbeats 4000000 in
theorem heavy8 {w:World} {N:Nv} {t:Tn} (h:TI w w.heap.size N t) (hs:t.small=true):Calls Tryz.prog 22 #[N.v] w fun e w'=>∃ b,e=.returned (.bool b)∧Below w.heap.size w w':=by
 have HC:=weight28 h hs (w.alloc (.cells #[.int .i64 N.k,.slice N.r1 N.r2 N.r3,.int .i64 N.a2,.slice N.s1 N.s2 N.s3,.int .i64 N.a4,.int .i64 N.a5,.bool N.a6,.int .i64 N.a7,.string N.a8] 25)) (by simp) (fun b hb=>heap_alloc_old w _ hb)
 have HB:=hid (Joins.below_alloc1 w (.cells #[.int .i64 N.k,.slice N.r1 N.r2 N.r3,.int .i64 N.a2,.slice N.s1 N.s2 N.s3,.int .i64 N.a4,.int .i64 N.a5,.bool N.a6,.int .i64 N.a7,.string N.a8] 25))
 obtain ⟨k,r1,r2,r3,a2,s1,s2,s3,a4,a5,a6,a7,a8⟩:=N
 dsimp only at HC HB
 clear h
 go_enter Tryz.func22,Tryz.ntmps22
 go_wp2_with (first | (go_at_call 49;(with_reducible refine HC.mono ?_);rintro e w2 ⟨v,rfl,hv,hb2⟩;have HB2:=hid hb2;clear hb2 HC))
 all_goals go_ret
 all_goals exact ⟨_,rfl,HB.out.trans (Joins.below_le HB2.out HB.out.size)⟩
end Go.Proofs.YtacaanhnlfpbhaaGreat
