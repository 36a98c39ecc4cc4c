/- HELPERS: texts of ours put together. -/
import Derived.Test.YtacaanhnlfpbhaaGreatK44
import Derived.Test.YtacaanhnlfpbhaaGreatK09
import Derived.Test.YtacaanhnlfpbhaaGreatK28
namespace Go.Proofs.YtacaanhnlfpbhaaGreat
open Go.RowKit Go.Lk
set_option linter.unusedVariables false
set_option linter.unusedSimpArgs false
theorem RWF_set (z:Option Addr) (n c:Nat) (E:List En) (k i:Nat) (hk:k < E.length) (c':List Int):RWF z n c (E.set k ⟨i,E[k].b,c'⟩)=RWF z n c E:=by
 unfold RWF
 rw [List.map_set]
 congr 1
 apply List.ext_getElem?
 intro x
 rw [List.getElem?_set]
 split
 ·rename_i e
  subst e
  simp [hk]
 ·rfl
theorem cellsE_snoc (K:Nat) (E:List En) (e:En):cellsE K (E ++ [e])=cellsE K E ++ En.cs K e:=by simp [cellsE]
theorem put_rest {w:World} {b N K cb cp:Nat} {M:Mv} {E:List En} {c:List Int} (i:Nat) (h:MB w b M) (hR:RW w N K M.z2 M.n2 M.c2 E) (hk:M.k2 < E.length) (hc:w.ownsRow N 3 1 (.slice (some ⟨cb,0,none⟩) K cp) K (I64 c)) (hcb:cb ∉ E.map En.b) (hN:N≤b) :
  ∃ zb gi gb,M.z2=some ⟨zb,0,none⟩∧(∀ W,Eqw w W→∃ V2,(Builtin.copy_ #[26,26] 3 #[.slice (some ⟨gb,0,none⟩) K K,.slice (some ⟨cb,0,none⟩) K cp]).run Tryz.prog (W.setCell ⟨zb,M.k2 * 2,none⟩ (.int .i64 (i:Int)))=.ok (.int .i64 (K:Int)) V2∧(V2.cell? ⟨b,10,none⟩=some (.int .i64 (M.k2:Int))∧V2.frozen? ⟨b,10,none⟩=false) ∧
   Hid (MB (V2.setCell ⟨b,10,none⟩ (.int .i64 ((M.k2 + 1:Nat):Int))) b { M with k2:=M.k2 + 1 }∧RW (V2.setCell ⟨b,10,none⟩ (.int .i64 ((M.k2 + 1:Nat):Int))) N K M.z2 M.n2 M.c2 (E.set M.k2 ⟨i,E[M.k2].b,c⟩)∧Chg w (V2.setCell ⟨b,10,none⟩ (.int .i64 ((M.k2 + 1:Nat):Int))) (b :: RWF M.z2 M.n2 M.c2 E) (b :: RWF M.z2 M.n2 M.c2 E))) ∧
  (∀ W,Eqw w W→W.cell? ⟨zb,M.k2 * 2,none⟩=some (.int .i64 (gi:Int))∧W.cell? ⟨zb,M.k2 * 2 + 1,none⟩=some (.slice (some ⟨gb,0,none⟩) K K)∧W.frozen? ⟨zb,M.k2 * 2,none⟩=false∧W.cell? ⟨b,9,none⟩=some (.slice (some ⟨zb,0,none⟩) M.n2 M.c2)∧W.cell? ⟨b,10,none⟩=some (.int .i64 (M.k2:Int))):=by
 have hln:=hR.len
 obtain ⟨zb,hz⟩:∃ zb,M.z2=some ⟨zb,0,none⟩:=by
  rcases hR.row.2 with ⟨_,e⟩ | ⟨g,cap,cur,e,_⟩
  ·omega
  ·simp only [Value.slice.injEq] at e;exact ⟨g,e.1⟩
 have hrz:=hR.row
 rw [hz] at hrz
 have k0:=(hrz.cellAt (M.k2 * 2) (by omega)).trans (by simpa using cellsE_get K E M.k2 hk 0 (by omega))
 have k1:=(hrz.cellAt (M.k2 * 2 + 1) (by omega)).trans (cellsE_get K E M.k2 hk 1 (by omega))
 simp only [En.cs,List.getElem?_cons_zero,List.getElem?_cons_succ] at k0 k1
 have f0:=hrz.frozenAt (M.k2 * 2)
 refine ⟨zb,E[M.k2].i,E[M.k2].b,hz,fun W e=>?_,fun W e=>?_⟩
 ·obtain ⟨V2,hcp,hM2,hM3,hR3,hC3⟩:=put_done i (W:=W) (h.kept (e.blk b)) hz (hR.same e.heap) hk (e.row hc) hcb hN
  have d10:=hM2.c 10
  simp at d10
  exact ⟨V2,hcp,⟨d10,hM2.u 10⟩,hM3,hR3,e.chg hC3⟩
 ·have c9:=(h.kept (e.blk b)).c 9
  have c10:=(h.kept (e.blk b)).c 10
  simp at c9 c10
  rw [hz] at c9
  exact ⟨(cell_eq (e.blk zb) _).trans k0,(cell_eq (e.blk zb) _).trans k1,(frz_eq (e.blk zb) _).trans f0,c9,c10⟩
theorem put_made {w w3:World} {b N K cb cp:Nat} {M:Mv} {E:List En} {c:List Int} {y1:Option Addr} {y3:Nat} (h:MB w b M) (hR:RW w N K M.z2 M.n2 M.c2 E) (hc:w.ownsRow N 3 1 (.slice (some ⟨cb,0,none⟩) K cp) K (I64 c)) (hcb:cb ∉ E.map En.b) (hNw:N≤w.heap.size) (hK:K≤10000)
  {A2:World} (hA:A2=(w.alloc (.cells (madeCells #[.int .i64 0] K) 3)).alloc (.cells #[.int .i64 0,.slice (some ⟨w.heap.size,0,none⟩) K K] 216)) {A3:World} (hA3:Eqw A2 A3)
  (ho:w3.ownsRow N 216 2 (.slice y1 (M.n2 + 1) y3) (M.n2 + 1) (cellsE K E ++ [.int .i64 0,.slice (some ⟨w.heap.size,0,none⟩) K K])) (hf:Frm A3 w3 (.slice M.z2 M.n2 M.c2) (.slice y1 (M.n2 + 1) y3)) :
  MB (w3.setCell ⟨b,9,none⟩ (.slice y1 (M.n2 + 1) y3)) b { M with z2:=y1,n2:=M.n2 + 1,c2:=y3 }∧RW (w3.setCell ⟨b,9,none⟩ (.slice y1 (M.n2 + 1) y3)) N K y1 (M.n2 + 1) y3 (E ++ [(⟨0,w.heap.size,List.replicate K 0⟩:En)]) ∧
  (w3.setCell ⟨b,9,none⟩ (.slice y1 (M.n2 + 1) y3)).ownsRow N 3 1 (.slice (some ⟨cb,0,none⟩) K cp) K (I64 c)∧cb ∉ (E ++ [(⟨0,w.heap.size,List.replicate K 0⟩:En)]).map En.b ∧
  Chg w (w3.setCell ⟨b,9,none⟩ (.slice y1 (M.n2 + 1) y3)) (b :: RWF M.z2 M.n2 M.c2 E) (b :: RWF y1 (M.n2 + 1) y3 (E ++ [(⟨0,w.heap.size,List.replicate K 0⟩:En)])):=by
 have hbl:=h.lt
 have hbz:(Value.slice M.z2 M.n2 M.c2).ownBlock≠some b:=own_ne hR.row h (by decide)
 have hsz:A2.heap.size=w.heap.size + 2:=by rw [hA];simp
 have hsz3:A3.heap.size=w.heap.size + 2:=by rw [hA3.heap];exact hsz
 have hold:∀ k,k < w.heap.size→A2.heap[k]?=w.heap[k]?:=fun k hk=>by rw [hA];exact (heap_alloc_old _ _ (by simp;omega)).trans (heap_alloc_old _ _ hk)
 have hkk:∀ k,k < w.heap.size→(Value.slice M.z2 M.n2 M.c2).ownBlock≠some k→w3.heap[k]?=w.heap[k]?:=fun k hk hn=>(hf.block k (by omega) hn).trans ((hA3.blk k).trans (hold k hk))
 have hgA:A2.ownsRow N 3 1 (.slice (some ⟨w.heap.size,0,none⟩) K K) K (I64 (List.replicate K 0)):=by rw [hA];exact (made_row K N w hNw hK).alloc _
 have hzg:(Value.slice M.z2 M.n2 M.c2).ownBlock≠some w.heap.size:=fun e=>by have:=(hR.row.lt _ e).2;omega
 have hg3:w3.ownsRow N 3 1 (.slice (some ⟨w.heap.size,0,none⟩) K K) K (I64 (List.replicate K 0)):=row_kept hgA (fun k hk=>by
  simp [Value.ownBlock] at hk;subst hk
  exact (hf.block _ (by omega) hzg).trans (hA3.blk _))
 have hyb:(Value.slice y1 (M.n2 + 1) y3).ownBlock≠some b:=fun e=>by
  rcases hf.own b e with h' | h'
  ·exact hbz h'
  ·omega
 have hcz:(Value.slice M.z2 M.n2 M.c2).ownBlock≠some cb:=fun e=>by
  obtain ⟨arr,ha⟩:=row_block hc
  exact own_ne hR.row ha (by decide) e
 have hcb2:=(hc.lt cb rfl).2
 have hcB:cb≠b:=fun e=>own_ne hc h (by decide) (by rw [e];rfl)
 refine ⟨(h.kept (hkk b hbl hbz)).upd 9 _ _ rfl,⟨by rw [List.length_append,← hR.len];rfl,?_,fun e he=>?_,?_⟩,own_setCell (row_kept hc (fun k hk=>by simp [Value.ownBlock] at hk;subst hk;exact hkk _ hcb2 hcz)) (by simp [Value.ownBlock,hcB]),?_,?_⟩
 ·rw [cellsE_snoc]
  exact own_setCell ho hyb
 ·rcases List.mem_append.1 he with he | he
  ·have hlt:=((hR.caps e he).lt e.b rfl).2
   have hne:(Value.slice M.z2 M.n2 M.c2).ownBlock≠some e.b:=fun e'=>hR.zne e.b (List.mem_map.2 ⟨e,he,rfl⟩) (by simp [zF,e'])
   exact own_setCell (row_kept (hR.caps e he) (fun k hk=>by simp [Value.ownBlock] at hk;subst hk;exact hkk _ hlt hne)) (by simp [Value.ownBlock];exact fun e'=>own_ne (hR.caps e he) h (by decide) (by rw [← e'];rfl))
  ·simp at he
   subst he
   exact own_setCell hg3 (by simp [Value.ownBlock];omega)
 ·rw [List.map_append,List.nodup_append]
  refine ⟨hR.nd,by simp,fun x hx y hy=>?_⟩
  simp at hy
  subst hy
  obtain ⟨e,he,rfl⟩:=List.mem_map.1 hx
  have:=((hR.caps e he).lt e.b rfl).2
  show e.b≠w.heap.size
  omega
 ·rw [List.map_append,List.mem_append]
  rintro (h' | h')
  ·exact hcb h'
  ·simp at h';omega
 ·refine ⟨hf.os.trans (hA3.os.trans (by rw [hA];rfl)),hf.tape.trans (hA3.tape.trans (by rw [hA];rfl)),hf.output.trans (hA3.output.trans (by rw [hA];rfl)),by have:=hf.size;simp [World.setCell];omega,fun k hk hn=>?_,fun k hk=>?_⟩
  ·simp only [List.mem_cons,not_or,RWF,List.mem_append] at hn
   exact (Below.heap_setCell _ _ _ _ hn.1).trans (hkk k hk (fun e=>hn.2.1 (by simp [zF,e])))
  ·simp only [List.mem_cons,RWF,List.mem_append,zF,Option.mem_toList,List.map_append] at hk ⊢
   rcases hk with rfl | hk | hk | hk
   ·exact .inl (.inl rfl)
   ·rcases hf.own k hk with h' | h'
    ·exact .inl (.inr (.inl h'))
    ·exact .inr (by omega)
   ·exact .inl (.inr (.inr hk))
   ·simp at hk
    exact .inr (by omega)
set_option maxRecDepth 100000 in
set_option maxHeartbeats 4000000 in
theorem put30_new {w:World} {b N K cb cp:Nat} {M:Mv} {E:List En} {c:List Int} (i:Nat) (h:MB w b M) (hR:RW w N K M.z2 M.n2 M.c2 E) (hk:M.k2=E.length) (hE:E.length≤20000) (hK:K≤10000) (hc:w.ownsRow N 3 1 (.slice (some ⟨cb,0,none⟩) K cp) K (I64 c)) (hcb:cb ∉ E.map En.b) (hN:N≤b) (hNw:N≤w.heap.size) :
  Calls Tryz.prog 103 #[.pointer (some ⟨b,9,none⟩),.int .i64 (i:Int),.slice (some ⟨cb,0,none⟩) K cp] w fun e w'=>e=.returned (.tuple #[])∧∃ y1 y3 E',E'.length=E.length + 1∧E'.take (M.k2 + 1)=E ++ [⟨i,w.heap.size,c⟩]∧MB w' b { M with z2:=y1,n2:=M.n2 + 1,c2:=y3,k2:=M.k2 + 1 }∧RW w' N K y1 (M.n2 + 1) y3 E'∧Chg w w' (b :: RWF M.z2 M.n2 M.c2 E) (b :: RWF y1 (M.n2 + 1) y3 E'):=by
 have hln:=hR.len
 obtain ⟨i2,hi2,hz20,hz21,hz22⟩:=info_parts info90
 have hkn:M.k2=M.n2:=by omega
 have HF:Hid (∀ W,Eqw w W→W.cell? ⟨b,9,none⟩=some (.slice M.z2 M.n2 M.c2)∧W.cell? ⟨b,10,none⟩=some (.int .i64 (M.k2:Int))):=by
  intro W e
  have c9:=(h.kept (e.blk b)).c 9
  have c10:=(h.kept (e.blk b)).c 10
  simp at c9 c10
  exact ⟨c9,c10⟩
 obtain ⟨c9,c10⟩:=HF.out w ⟨rfl,rfl,rfl,rfl⟩
 have b1:((M.k2:Int) == (M.n2:Int))=true:=by simp;omega
 have b2:(M.k2:Int) < ((M.n2 + 1:Nat):Int):=by omega
 have b3:(M.k2:Int) < (M.n2:Int) + 1:=by omega
 have a1:IntKind.i64.wrap ((M.k2:Int) + 1)=((M.k2 + 1:Nat):Int):=by rw [wrap_ok _ (by omega) (by omega)];omega
 have HM:=hid h
 have HR:=hid hR
 have HC:=hid hc
 have HKN:=hid hkn
 have HKE:=hid hk
 have hbl:=h.lt
 have hsm:M.n2≤20000:=by omega
 clear h hR hc hln hE hkn hk
 obtain ⟨ad,n,c',S,K',tad,tn,tc,j,sb,bits,z1,n1,c1,k1',z2,n2,c2,k2,ub,uc,fok,f1,f2,f3,fw,fs⟩:=M
 dsimp only at *
 go_enter Tryz.func103,Tryz.ntmps103
 go_upto_region 0 with fail
 go_quiet (fail)
 obtain ⟨W0,hW0⟩:∃ W0,W0=w.drewN nq:=⟨_,rfl⟩
 rw [← hW0]
 have e0:Hid (Eqw w W0):=by rw [hW0];exact Eqw.drewN w nq
 clear hW0 c9 c10
 obtain ⟨c9,c10⟩:=HF.out W0 e0.out
 go_upto_region 1 with fail
 have hsz0:W0.heap.size=w.heap.size:=by rw [e0.out.heap]
 have hmk:=makeK K hK W0.drew
 refine wp_region_lex 7 13 (fun W=>W.cell? ⟨b,9,none⟩=some (.slice z2 n2 c2)) (by kernel_rfl) (by kernel_rfl) (by decide) (by kernel_rfl) (by kernel_rfl) (by simpa using c9) ?_
 simp only [List.take_succ_cons,List.take_zero,List.drop_succ_cons,List.drop_zero]
 iterate 7
  refine lex_cons ?_ rfl (fun W hW=>?_) (fun _ _ _ h=>h) ?_
  rotate_left
  ·have s0:=hW
   go_simp <;> with_reducible rfl
  simp only [Act.put,List.setIfInBounds_toArray,List.set_cons_zero,List.set_cons_succ]
 have hz9:(W0.drew.alloc (.cells (madeCells #[.int .i64 0] K) 3)).cell? ⟨b,9,none⟩=some (.slice z2 n2 c2):=by
  rw [World.cell?_alloc_lt _ _ _ (show b < W0.drew.heap.size by show b < W0.heap.size;omega)];exact c9
 obtain ⟨A1,hA1⟩:∃ A1,A1=W0.drew.alloc (.cells (madeCells #[.int .i64 0] K) 3):=⟨_,rfl⟩
 rw [← hA1] at hmk hz9
 have hsA:A1.heap.size=w.heap.size + 1:=by rw [hA1];simp;exact hsz0
 obtain ⟨gb,hgb⟩:∃ gb,gb=W0.drew.heap.size:=⟨_,rfl⟩
 rw [← hgb] at hmk
 have HGB:Hid (gb=w.heap.size):=by show gb=_;rw [hgb];exact hsz0
 have HA1:=hid hA1
 clear hgb hA1
 refine lex_nil (tail_cons fun KK hKK=>?_)
 go_simp
 refine hKK.out _ _ (fun _=>hz9) (tail_cons fun KK hKK=>?_)
 go_simp
 refine hKK.out _ _ (fun _=>hz9) (tail_cons fun KK hKK=>?_)
 go_simp
 have hz10:(A1.alloc (.cells #[.int .i64 0,.slice (some ⟨gb,0,none⟩) K K] 216)).cell? ⟨b,9,none⟩=some (.slice z2 n2 c2):=by
  rw [World.cell?_alloc_lt _ _ _ (show b < A1.heap.size by omega)];exact hz9
 refine hKK.out _ _ (fun _=>hz10) (tail_cons fun KK hKK=>?_)
 have HO:Hid ((A1.alloc (.cells #[.int .i64 0,.slice (some ⟨gb,0,none⟩) K K] 216)).ownsRow N 216 2 (.slice z2 n2 c2) n2 (cellsE K E)):=by
  have:=(e0.out.row HR.out.row)
  rw [HA1.out]
  exact ((show W0.drew.ownsRow N 216 2 (.slice z2 n2 c2) n2 (cellsE K E) from this).alloc _).alloc _
 refine step_append_row rfl (.tmp 21) (.tmp 26) 109 rfl N 216 i2 (.agg #[.int .i64 0,.slice none 0 0]) 2 32 Tryz.underlying109 hi2 hz20 hz21 hz22 rfl (by decide) (.slice z2 n2 c2) n2 (cellsE K E) (by simp [Act.eval,Act.put]) (by exact HO.out) A1.heap.size 1 1 #[.int .i64 0,.slice (some ⟨gb,0,none⟩) K K] 216 (by simp [Act.eval,Act.put]) (by exact heap_alloc_new A1 _) rfl (by decide) (by simp [Value.oneCell']) (by unfold maxLen;omega) (by omega) (by (try simp) <;> omega) ?_
 intro v3 w3 ho3 hf3
 obtain ⟨y1,y3,rfl,_⟩:=row_shape ho3.out
 have hbz:(Value.slice z2 n2 c2).ownBlock≠some b:=own_ne HR.out.row HM.out (by decide)
 have e3:w3.heap[b]?=w.heap[b]?:=(hf3.out.block b (by (try simp) <;> omega) hbz).trans ((heap_alloc_old _ _ (by omega)).trans (by rw [HA1.out];exact (heap_alloc_old _ _ (by show b < W0.heap.size;omega)).trans (e0.out.blk b)))
 have hm3:=HM.out.kept e3
 have q9:=hm3.c 9
 have v9:=hm3.u 9
 simp at q9
 clear hm3 e3
 refine hKK.out _ _ (fun _=>q9) (tail_cons fun KK hKK=>?_)
 simp only [Act.put,List.setIfInBounds_toArray,List.set_cons_zero,List.set_cons_succ]
 go_simp
 refine hKK.out _ _ (fun _=>q9) (tail_cons fun KK hKK=>?_)
 simp only [Act.put,List.setIfInBounds_toArray,List.set_cons_zero,List.set_cons_succ]
 go_simp
 refine hKK.out _ _ (fun _=>q9) (tail_cons fun KK hKK=>?_)
 simp only [Act.put,List.setIfInBounds_toArray,List.set_cons_zero,List.set_cons_succ]
 go_simp
 refine hKK.out _ _ (fun h=>absurd rfl h) (tail_nil ?_)
 have hmd:=put_made (y1:=y1) (y3:=y3) HM.out HR.out HC.out hcb hNw hK rfl (A3:=A1.alloc (.cells #[.int .i64 0,.slice (some ⟨gb,0,none⟩) K K] 216)) (by
  rw [HA1.out,HGB.out]
  exact ((e0.out.trans (Eqw.drew W0)).alloc _).alloc _) (by have:=ho3.out;rw [HGB.out] at this;exact this) hf3.out
 dsimp only at hmd
 obtain ⟨W1,hW1⟩:∃ W1,W1=w3.setCell ⟨b,9,none⟩ (.slice y1 (n2 + 1) y3):=⟨_,rfl⟩
 rw [← hW1] at hmd ⊢
 obtain ⟨m1,m2,m3,m4,m5⟩:=hmd
 obtain ⟨zb,gi,gb2,hzz,HA,HFF⟩:=put_rest (cp:=cp) (c:=c) i m1 m2 (by rw [List.length_append,← HKE.out];simp) m3 m4 hN
 dsimp only at hzz HA HFF
 subst hzz
 have HCH:=hid m5
 have HAA:=hid HA
 have HF2:=hid HFF
 clear hW1 m1 m2 m3 m4 m5 HA HFF q9 v9 ho3 hf3 HO hz10 hz9 hmk HF HA1 c9 c10
 obtain ⟨_,_,_,c9,c10⟩:=HF2.out W1 ⟨rfl,rfl,rfl,rfl⟩
 go_upto_region 2 with fail
 go_quiet (fail)
 obtain ⟨W,hW⟩:∃ W,W=W1.drewN nq:=⟨_,rfl⟩
 rw [← hW]
 have e1:Hid (Eqw W1 W):=by rw [hW];exact Eqw.drewN W1 nq
 clear hW c9 c10
 obtain ⟨k0,k1,f0,c9,c10⟩:=HF2.out W e1.out
 obtain ⟨V2,hcp,⟨d10,u10⟩,HZ⟩:=HAA.out W e1.out
 clear HAA HF2
 go_wp2
 go_end0
 refine ⟨rfl,some ⟨zb,0,none⟩,y3,_,?_,?_,HZ.out.1,HZ.out.2.1,HCH.out.trans (HZ.out.2.2.trans ?_)⟩
 ·simp
 ·have hlen:k2=E.length:=HKE.out
  subst hlen
  rw [List.set_append_right _ _ (Nat.le_refl _)]
  simp
  exact List.take_of_length_le (by simp)
 ·rw [RWF_set]
  exact Chg.refl _ _
theorem put30 {w:World} {b N K cb cp:Nat} {M:Mv} {E:List En} {c:List Int} (i:Nat) (h:MB w b M) (hR:RW w N K M.z2 M.n2 M.c2 E) (hk:M.k2≤E.length) (hk2:M.k2 < 20000) (hE:E.length≤20000) (hK:K≤10000) (hc:w.ownsRow N 3 1 (.slice (some ⟨cb,0,none⟩) K cp) K (I64 c)) (hcb:cb ∉ E.map En.b) (hN:N≤b) (hNw:N≤w.heap.size) :
  Calls Tryz.prog 103 #[.pointer (some ⟨b,9,none⟩),.int .i64 (i:Int),.slice (some ⟨cb,0,none⟩) K cp] w fun e w'=>e=.returned (.tuple #[])∧∃ y1 y2 y3 E',M.k2 + 1≤E'.length∧E'.length≤20000∧(E'.take (M.k2 + 1)).map En.th=(E.take M.k2).map En.th ++ [(i,c)]∧MB w' b { M with z2:=y1,n2:=y2,c2:=y3,k2:=M.k2 + 1 }∧RW w' N K y1 y2 y3 E'∧Chg w w' (b :: RWF M.z2 M.n2 M.c2 E) (b :: RWF y1 y2 y3 E'):=by
 by_cases hlt:M.k2 < E.length
 ·refine (put30_old i h hR hlt hE hc hcb hN).mono ?_
  rintro e w' ⟨he,h1,h2,h3⟩
  refine ⟨he,M.z2,M.n2,M.c2,_,by rw [List.length_set];exact hlt,by simpa using hE,?_,h1,h2,by rw [RWF_set];exact h3⟩
  rw [List.take_succ_eq_append_getElem (by simpa using hlt),List.take_set_of_le (Nat.le_refl _)]
  simp [En.th]
 ·have hke:M.k2=E.length:=by omega
  refine (put30_new i h hR hke hE hK hc hcb hN hNw).mono ?_
  rintro e w' ⟨he,y1,y3,E',h1,h2,h3,h4,h5⟩
  refine ⟨he,y1,M.n2 + 1,y3,E',by omega,by omega,?_,h3,h4,h5⟩
  rw [h2,hke]
  simp [En.th]
theorem Chg.wide {w w':World} {F F' G G':List Nat} (h:Chg w w' F F') (h1:∀ k ∈ F,k ∈ G) (h2:∀ k ∈ G',k ∈ F'∨k ∈ G):Chg w w' G G':=
 ⟨h.os,h.tape,h.output,h.size,fun k hk hn=>h.block k hk (fun hm=>hn (h1 k hm)),fun k hk=>by
  rcases h2 k hk with h' | h'
  ·exact (h.new k h').imp (h1 k) id
  ·exact .inl h'⟩
def ints (l:List Nat):List Int:=l.map fun (k:Nat)=>(k:Int)
theorem mem_ints {l:List Nat} {i:Nat}:(i:Int) ∈ ints l↔i ∈ l:=by
 unfold ints
 rw [List.mem_map]
 constructor
 ·rintro ⟨a,ha,e⟩
  have:a=i:=by omega
  exact this ▸ ha
 ·exact fun h=>⟨i,h,rfl⟩
theorem ints_snoc (l:List Nat) (i:Nat):ints (l ++ [i])=ints l ++ [(i:Int)]:=by simp [ints]
theorem ints_len (l:List Nat):(ints l).length=l.length:=by simp [ints]
def VF (b:Nat) (M:Mv) (E:List En) (sF fb:List Nat):List Nat:=b :: (sF ++ (RWF M.z2 M.n2 M.c2 E ++ fb))
structure VI (w:World) (N b:Nat) (l:List In) (tx:List Int) (M:Mv) (s:Vst) (E:List En) (sF fb:List Nat):Prop where
 mb:MB w b M
 nb:N≤b
 nw:N≤w.heap.size
 pi:PI w N M.ad M.n l
 tt:TextAt N w M.tad M.tn tx
 hj:M.j≤M.tn
 set:SetS N w M.sb sF l.length (ints s.met)
 row:RW w N M.K M.z2 M.n2 M.c2 E
 k2:M.k2=s.next.length
 kl:s.next.length≤E.length
 el:E.length≤20000
 nx:(E.take s.next.length).map En.th=s.next
 fd:FD w N M.K M fb s.found
 bt:M.bits=0∨M.bits=atP tx M.j
 d1:∀ k ∈ sF,k≠b∧k ∉ RWF M.z2 M.n2 M.c2 E∧k ∉ fb
 d2:∀ k ∈ fb,k≠b∧k ∉ RWF M.z2 M.n2 M.c2 E
section
variable {w w':World} {N b:Nat} {l:List In} {tx:List Int} {M:Mv} {s:Vst} {E:List En} {sF fb:List Nat}
theorem VI.low (h:VI w N b l tx M s E sF fb):∀ k ∈ VF b M E sF fb,N≤k∧k < w.heap.size:=by
 intro k hk
 simp only [VF,List.mem_cons,List.mem_append] at hk
 rcases hk with rfl | hk | hk | hk
 ·exact ⟨h.nb,h.mb.lt⟩
 ·exact h.set.low k hk
 ·exact h.row.low k hk
 ·exact h.fd.low k hk
theorem VI.rb (h:VI w N b l tx M s E sF fb):b ∉ RWF M.z2 M.n2 M.c2 E:=by
 simp only [RWF,zF,List.mem_append,Option.mem_toList,List.mem_map]
 rintro (h' | ⟨e,he,h'⟩)
 ·exact own_ne h.row.row h.mb (by decide) h'
 ·exact own_ne (h.row.caps e he) h.mb (by decide) (by rw [← h'];rfl)
theorem VI.kept (h:VI w N b l tx M s E sF fb) (hb:Below N w w') (hk:∀ k ∈ VF b M E sF fb,w'.heap[k]?=w.heap[k]?):VI w' N b l tx M s E sF fb:=
 ⟨h.mb.kept (hk b (by simp [VF])),h.nb,Nat.le_trans h.nw hb.size,h.pi.kept hb (Nat.le_refl _),h.tt.below hb,h.hj,h.set.kept (fun k hk'=>hk k (by simp [VF,hk'])),h.row.kept (fun k hk'=>hk k (by simp [VF,hk'])),h.k2,h.kl,h.el,h.nx,h.fd.kept (fun k hk'=>hk k (by simp [VF,hk'])),h.bt,h.d1,h.d2⟩
theorem VI.add (h:VI w N b l tx M s E sF fb) {sF':List Nat} {i:Nat} (hs:SetS N w' M.sb sF' l.length (ints s.met ++ [(i:Int)])) (hc:Chg w w' sF sF'):VI w' N b l tx M (s.mark i) E sF' fb∧Chg w w' (VF b M E sF fb) (VF b M E sF' fb):=by
 have hlow:=h.low
 have hbel:Below N w w':=hc.below h.nw (fun k hk=>(h.set.low k hk).1)
 have hne:∀ k,k < w.heap.size→k ∉ sF→w'.heap[k]?=w.heap[k]?:=hc.block
 refine ⟨⟨h.mb.kept (hne b h.mb.lt (fun hm=>(h.d1 b hm).1 rfl)),h.nb,Nat.le_trans h.nw hbel.size,h.pi.kept hbel (Nat.le_refl _),h.tt.below hbel,h.hj,?_,h.row.kept (fun k hk=>hne k (h.row.low k hk).2 (fun hm=>(h.d1 k hm).2.1 hk)),h.k2,h.kl,h.el,h.nx,h.fd.kept (fun k hk=>hne k (h.fd.low k hk).2 (fun hm=>(h.d1 k hm).2.2 hk)),h.bt,fun k hk=>?_,h.d2⟩,hc.wide (fun k hk=>by simp [VF,hk]) (fun k hk=>?_)⟩
 ·simp only [Vst.mark,ints_snoc];exact hs
 ·rcases hc.new k hk with h' | h'
  ·exact h.d1 k h'
  ·exact ⟨fun e=>by have:=h.mb.lt;omega,fun e=>by have:=(h.row.low k e).2;omega,fun e=>by have:=(h.fd.low k e).2;omega⟩
 ·simp only [VF,List.mem_cons,List.mem_append] at hk ⊢
  rcases hk with hk | hk | hk | hk
  ·exact .inr (.inl hk)
  ·exact .inl hk
  ·exact .inr (.inr (.inr (.inl hk)))
  ·exact .inr (.inr (.inr (.inr hk)))
theorem VI.again (h:VI w N b l tx M s E sF fb) (hs:SetS N w' M.sb sF l.length (ints s.met)) (hc:Chg w w' sF sF):VI w' N b l tx M s E sF fb∧Chg w w' (VF b M E sF fb) (VF b M E sF fb):=by
 have hbel:Below N w w':=hc.below h.nw (fun k hk=>(h.set.low k hk).1)
 have hne:∀ k,k < w.heap.size→k ∉ sF→w'.heap[k]?=w.heap[k]?:=hc.block
 exact ⟨⟨h.mb.kept (hne b h.mb.lt (fun hm=>(h.d1 b hm).1 rfl)),h.nb,Nat.le_trans h.nw hbel.size,h.pi.kept hbel (Nat.le_refl _),h.tt.below hbel,h.hj,hs,h.row.kept (fun k hk=>hne k (h.row.low k hk).2 (fun hm=>(h.d1 k hm).2.1 hk)),h.k2,h.kl,h.el,h.nx,h.fd.kept (fun k hk=>hne k (h.fd.low k hk).2 (fun hm=>(h.d1 k hm).2.2 hk)),h.bt,h.d1,h.d2⟩,hc.wide (fun k hk=>by simp [VF,hk]) (fun k hk=>.inr hk)⟩
theorem VI.bits (h:VI w N b l tx M s E sF fb) (hm:MB w' b { M with bits:=atP tx M.j }) (hc:Chg w w' [b] [b]):VI w' N b l tx { M with bits:=atP tx M.j } s E sF fb∧Chg w w' (VF b M E sF fb) (VF b { M with bits:=atP tx M.j } E sF fb):=by
 have hbel:Below N w w':=hc.below h.nw (fun k hk=>by simp at hk;subst hk;exact h.nb)
 have hne:∀ k,k < w.heap.size→k≠b→w'.heap[k]?=w.heap[k]?:=fun k hk hn=>hc.block k hk (by simpa using hn)
 refine ⟨⟨hm,h.nb,Nat.le_trans h.nw hbel.size,h.pi.kept hbel (Nat.le_refl _),h.tt.below hbel,h.hj,h.set.kept (fun k hk=>hne k (h.set.low k hk).2 (h.d1 k hk).1),h.row.kept (fun k hk=>hne k (h.row.low k hk).2 (fun e=>h.rb (e ▸ hk))),h.k2,h.kl,h.el,h.nx,?_,.inr rfl,h.d1,h.d2⟩,hc.wide (fun k hk=>by simp at hk;simp [VF,hk]) (fun k hk=>.inr hk)⟩
 have:=h.fd.kept (w':=w') (fun k hk=>hne k (h.fd.low k hk).2 (h.d2 k hk).1)
 cases hfd:s.found with
 | none=>rw [hfd] at this;exact this
 | some y=>rw [hfd] at this;exact this
theorem VI.put (h:VI w N b l tx M s E sF fb) {y1:Option Addr} {y2 y3:Nat} {E':List En} {x:Nat} {c:List Int} (g1:M.k2 + 1≤E'.length) (g2:E'.length≤20000) (g3:(E'.take (M.k2 + 1)).map En.th=(E.take M.k2).map En.th ++ [(x,c)])
  (hm:MB w' b { M with z2:=y1,n2:=y2,c2:=y3,k2:=M.k2 + 1 }) (hr:RW w' N M.K y1 y2 y3 E') (hc:Chg w w' (b :: RWF M.z2 M.n2 M.c2 E) (b :: RWF y1 y2 y3 E')) :
  VI w' N b l tx { M with z2:=y1,n2:=y2,c2:=y3,k2:=M.k2 + 1 } { s with next:=s.next ++ [(x,c)] } E' sF fb∧Chg w w' (VF b M E sF fb) (VF b { M with z2:=y1,n2:=y2,c2:=y3,k2:=M.k2 + 1 } E' sF fb):=by
 have hbel:Below N w w':=hc.below h.nw (fun k hk=>by
  simp only [List.mem_cons] at hk
  rcases hk with rfl | hk
  ·exact h.nb
  ·exact (h.row.low k hk).1)
 have hne:∀ k,k < w.heap.size→k≠b→k ∉ RWF M.z2 M.n2 M.c2 E→w'.heap[k]?=w.heap[k]?:=fun k hk hn hn2=>hc.block k hk (by simp [hn,hn2])
 have hk2:=h.k2
 have haway:∀ k,k < w.heap.size→k≠b→k ∉ RWF M.z2 M.n2 M.c2 E→k ∉ RWF y1 y2 y3 E':=fun k hk hn hn2 hm'=>by
  rcases hc.new k (by simp [hm']) with h' | h'
  ·simp at h';rcases h' with h' | h'
   ·exact hn h'
   ·exact hn2 h'
  ·omega
 refine ⟨⟨hm,h.nb,Nat.le_trans h.nw hbel.size,h.pi.kept hbel (Nat.le_refl _),h.tt.below hbel,h.hj,h.set.kept (fun k hk=>hne k (h.set.low k hk).2 (h.d1 k hk).1 (h.d1 k hk).2.1),hr,by simp [hk2],by simp;omega,g2,?_,?_,h.bt,fun k hk=>⟨(h.d1 k hk).1,haway k (h.set.low k hk).2 (h.d1 k hk).1 (h.d1 k hk).2.1,(h.d1 k hk).2.2⟩,fun k hk=>⟨(h.d2 k hk).1,haway k (h.fd.low k hk).2 (h.d2 k hk).1 (h.d2 k hk).2⟩⟩,hc.wide (fun k hk=>?_) (fun k hk=>?_)⟩
 ·simp only [List.length_append,List.length_singleton]
  rw [← hk2,g3,hk2,h.nx]
 ·have:=h.fd.kept (w':=w') (fun k hk=>hne k (h.fd.low k hk).2 (h.d2 k hk).1 (h.d2 k hk).2)
  cases hfd:s.found with
  | none=>rw [hfd] at this;exact this
  | some y=>rw [hfd] at this;exact this
 ·simp only [List.mem_cons,VF,List.mem_append] at hk ⊢
  rcases hk with hk | hk
  ·exact .inl hk
  ·exact .inr (.inr (.inl hk))
 ·simp only [VF,List.mem_cons,List.mem_append] at hk ⊢
  rcases hk with hk | hk | hk | hk
  ·exact .inl (.inl hk)
  ·exact .inr (.inr (.inl hk))
  ·exact .inl (.inr hk)
  ·exact .inr (.inr (.inr (.inr hk)))
theorem VI.fit (h:VI w N b l tx M s E sF fb) {g:Nat} {a:Int} {c:List Int} (hm:MB w' b { M with fok:=true,f1:=some ⟨g,0,none⟩,f2:=M.K,f3:=M.K,fw:=a }) (hr:w'.ownsRow N 3 1 (.slice (some ⟨g,0,none⟩) M.K M.K) M.K (I64 c)) (hc:Chg w w' (b :: fb) [b,g]) :
  VI w' N b l tx { M with fok:=true,f1:=some ⟨g,0,none⟩,f2:=M.K,f3:=M.K,fw:=a } { s with found:=some (a,c),over:=true } E sF [g]∧Chg w w' (VF b M E sF fb) (VF b { M with fok:=true,f1:=some ⟨g,0,none⟩,f2:=M.K,f3:=M.K,fw:=a } E sF [g]):=by
 have hbel:Below N w w':=hc.below h.nw (fun k hk=>by
  simp only [List.mem_cons] at hk
  rcases hk with rfl | hk
  ·exact h.nb
  ·exact (h.fd.low k hk).1)
 have hne:∀ k,k < w.heap.size→k≠b→k ∉ fb→w'.heap[k]?=w.heap[k]?:=fun k hk hn hn2=>hc.block k hk (by simp [hn,hn2])
 have hgb:g≠b:=fun e=>own_ne hr hm (by decide) (by rw [e];rfl)
 have hg:g ∈ fb∨w.heap.size≤g:=by
  rcases hc.new g (by simp) with h' | h'
  ·simp at h';rcases h' with h' | h'
   ·exact absurd h' hgb
   ·exact .inl h'
  ·exact .inr h'
 have hrf:∀ k ∈ RWF M.z2 M.n2 M.c2 E,k≠b∧k ∉ fb:=fun k hk=>⟨fun e=>h.rb (e ▸ hk),fun hm'=>(h.d2 k hm').2 hk⟩
 refine ⟨⟨hm,h.nb,Nat.le_trans h.nw hbel.size,h.pi.kept hbel (Nat.le_refl _),h.tt.below hbel,h.hj,h.set.kept (fun k hk=>hne k (h.set.low k hk).2 (h.d1 k hk).1 (h.d1 k hk).2.2),h.row.kept (fun k hk=>hne k (h.row.low k hk).2 (hrf k hk).1 (hrf k hk).2),h.k2,h.kl,h.el,h.nx,⟨g,rfl,rfl,rfl,rfl,rfl,rfl,hr⟩,h.bt,fun k hk=>⟨(h.d1 k hk).1,(h.d1 k hk).2.1,?_⟩,fun k hk=>?_⟩,hc.wide (fun k hk=>?_) (fun k hk=>?_)⟩
 ·simp only [List.mem_singleton]
  rintro rfl
  rcases hg with h' | h'
  ·exact (h.d1 k hk).2.2 h'
  ·have:=(h.set.low k hk).2;omega
 ·simp only [List.mem_singleton] at hk
  subst hk
  refine ⟨hgb,fun hm'=>?_⟩
  rcases hg with h' | h'
  ·exact (h.d2 k h').2 hm'
  ·have:=(h.row.low k hm').2;omega
 ·simp only [List.mem_cons,VF,List.mem_append] at hk ⊢
  rcases hk with hk | hk
  ·exact .inl hk
  ·exact .inr (.inr (.inr hk))
 ·simp only [VF,List.mem_cons,List.mem_append] at hk ⊢
  rcases hk with hk | hk | hk | hk
  ·exact .inl (.inl hk)
  ·exact .inr (.inr (.inl hk))
  ·exact .inr (.inr (.inr (.inl hk)))
  ·exact .inl (.inr (.inl (by simpa using hk)))
end
def Mv.core (M:Mv):Mv:={ M with bits:=0,z2:=none,n2:=0,c2:=0,k2:=0,fok:=false,f1:=none,f2:=0,f3:=0,fw:=0 }
theorem core_j {M M':Mv} (h:M'.core=M.core):M'.j=M.j:=by have:=congrArg Mv.j h;exact this
theorem core_K {M M':Mv} (h:M'.core=M.core):M'.K=M.K:=by have:=congrArg Mv.K h;exact this
def VP (N b:Nat) (l:List In) (tx:List Int) (w:World) (M:Mv) (E:List En) (sF fb:List Nat) (s':Vst) (e:Ending) (w':World):Prop:=
 e=.returned (.bool (!s'.over))∧∃ M' E' sF' fb',VI w' N b l tx M' s' E' sF' fb'∧M'.core=M.core∧Chg w w' (VF b M E sF fb) (VF b M' E' sF' fb')
structure VC (K N b:Nat) (l:List In) (tx:List Int) (w:World) (M:Mv) (s:Vst) (E:List En) (sF fb:List Nat) (i:Nat) (c:List Int) (cb cp:Nat):Prop where
 vi:VI w N b l tx M s E sF fb
 hK:M.K=K
 ov:s.over=false
 inv:Inv l.length K s
 lt:i < l.length
 cap:w.ownsRow N 3 1 (.slice (some ⟨cb,0,none⟩) K cp) K (I64 c)
 cn:cb ∉ VF b M E sF fb
def VIH (K N b:Nat) (l:List In) (tx:List Int) (f:Nat):Prop:=
 ∀ (i:Nat) (c:List Int) (s:Vst) (w:World) (M:Mv) (E:List En) (sF fb:List Nat) (cb cp:Nat),VC K N b l tx w M s E sF fb i c cb cp→l.length < f + s.met.length →
  Calls Tryz.prog 104 #[.pointer (some ⟨b,0,none⟩),.int .i64 (i:Int),.slice (some ⟨cb,0,none⟩) K cp] w (VP N b l tx w M E sF fb (vis (act l tx M.j) M.j f i c s))
theorem inst_at {w:World} {N b:Nat} {l:List In} {tx:List Int} {M:Mv} {s:Vst} {E:List En} {sF fb:List Nat} (h:VI w N b l tx M s E sF fb) {i:Nat} (hi:i < l.length) :
  ∃ pb po r1 r2 r3,M.ad=some ⟨pb,po,none⟩∧M.n=l.length∧r2=l[i].R.length∧∀ W,Below N w W→(W.cell? ⟨pb,po + i * 5,none⟩=some (.int .i64 l[i].op)∧W.cell? ⟨pb,po + i * 5 + 1,none⟩=some (.int .i64 l[i].x)∧W.cell? ⟨pb,po + i * 5 + 2,none⟩=some (.int .i64 l[i].y)∧W.cell? ⟨pb,po + i * 5 + 3,none⟩=some (.int .i64 l[i].a)∧W.cell? ⟨pb,po + i * 5 + 4,none⟩=some (.slice r1 r2 r3))∧RowAt N W (.slice r1 r2 r3) l[i].R:=by
 have hln:=h.pi.len
 obtain ⟨pb,po,ND,e,hpb,hcs⟩:=h.pi.mem (by omega)
 obtain ⟨h5,hM⟩:=hcs i hi
 refine ⟨pb,po,(ND i).r1,(ND i).r2,(ND i).r3,e,hln,hM.len,fun W hb=>?_⟩
 obtain ⟨m0,m1,m2,m3,m4⟩:=h5.kept (hb.block pb hpb)
 have hM':=hM.kept hb (Nat.le_refl _)
 rw [hM.op] at m0
 rw [hM.x] at m1
 rw [hM.y] at m2
 rw [hM.a] at m3
 exact ⟨⟨m0,m1,m2,m3,m4⟩,hM'.row⟩
section
variable {K N b:Nat} {l:List In} {tx:List Int} {w w':World} {M M':Mv} {s s':Vst} {E E':List En} {sF fb sF' fb':List Nat} {i:Nat} {c:List Int} {cb cp:Nat}
theorem VC.kept (h:VC K N b l tx w M s E sF fb i c cb cp) (hv:VI w' N b l tx M' s' E' sF' fb') (hM:M'.core=M.core) (hc:Chg w w' (VF b M E sF fb) (VF b M' E' sF' fb')) (ho:s'.over=false) (hi:Inv l.length K s') {i':Nat} (hl:i' < l.length):VC K N b l tx w' M' s' E' sF' fb' i' c cb cp:=by
 have hcl:=h.cap.lt cb rfl
 exact ⟨hv,(core_K hM).trans h.hK,ho,hi,hl,row_kept h.cap (fun k hk=>by simp [Value.ownBlock] at hk;subst hk;exact hc.block _ hcl.2 h.cn),fun hm=>by
  rcases hc.new cb hm with h' | h'
  ·exact h.cn h'
  ·omega⟩
theorem VP.after (h1:Chg w w' (VF b M E sF fb) (VF b M' E' sF' fb')) (hM:M'.core=M.core) {s2:Vst} {e:Ending} {w2:World} (h:VP N b l tx w' M' E' sF' fb' s2 e w2):VP N b l tx w M E sF fb s2 e w2:=by
 obtain ⟨he,M2,E2,sF2,fb2,h2,h3,h4⟩:=h
 exact ⟨he,M2,E2,sF2,fb2,h2,h3.trans hM,h1.trans h4⟩
end
theorem vis_step {A:Nat→Ac} {j f i:Nat} {c:List Int} {s:Vst} (ho:s.over=false) (hm:i ∉ s.met):vis A j (f + 1) i c s=(match A i with
  | .alt x y=>vis A j f y c (vis A j f x c (s.mark i))
  | .go x=>vis A j f x c (s.mark i)
  | .cap x a=>vis A j f x (c.set a (j:Int)) (s.mark i)
  | .rune x=>{ s.mark i with next:=s.next ++ [(x,c)] }
  | .fit a=>{ s.mark i with found:=some (a,c),over:=true }
  | .stop=>s.mark i):=by
 conv=>lhs;unfold vis
 rw [if_neg (by simp [ho,hm])]
 cases A i <;> rfl
set_option maxRecDepth 100000 in
set_option maxHeartbeats 4000000 in
theorem visit_old {K N b:Nat} {l:List In} {tx:List Int} {w:World} {M:Mv} {s:Vst} {E:List En} {sF fb:List Nat} {i:Nat} {c:List Int} {cb cp:Nat} (f:Nat) (h:VC K N b l tx w M s E sF fb i c cb cp) (hm:i ∈ s.met) :
  Calls Tryz.prog 104 #[.pointer (some ⟨b,0,none⟩),.int .i64 (i:Int),.slice (some ⟨cb,0,none⟩) K cp] w (VP N b l tx w M E sF fb (vis (act l tx M.j) M.j (f + 1) i c s)):=by
 have e1:vis (act l tx M.j) M.j (f + 1) i c s=s:=by unfold vis;rw [if_pos (by simp [hm])]
 rw [e1]
 have HA:=add10_no N M.sb sF l.length (ints s.met) (i:Int) w h.vi.set (fun hn=>hn.2.2 (mem_ints.2 hm))
 have c5:=h.vi.mb.c 5
 simp at c5
 have HH:=hid h
 clear h e1
 generalize hsb:M.sb=sb at c5 HA
 have HSB:=hid hsb
 clear hsb
 go_enter Tryz.func104,Tryz.ntmps104
 go_wp2_with (go_at_call 150;(with_reducible refine HA.mono ?_);rintro e w2 ⟨rfl,hs2,hc2⟩;have HS:=hid hs2;have HC:=hid hc2;clear hs2 hc2 HA)
 go_ret
 obtain ⟨h1,h2⟩:=HH.out.vi.again (by rw [HSB.out];exact HS.out) HC.out
 exact ⟨ret_bool (by rw [HH.out.ov];rfl),M,E,sF,fb,h1,rfl,h2⟩
set_option maxRecDepth 100000 in
set_option maxHeartbeats 4000000 in
theorem visit_nop {K N b:Nat} {l:List In} {tx:List Int} {w:World} {M:Mv} {s:Vst} {E:List En} {sF fb:List Nat} {i:Nat} {c:List Int} {cb cp:Nat} {S:Int} (hmay:mayB l S (K:Int)=true) (f:Nat) (ih:Hid (VIH K N b l tx f)) (h:VC K N b l tx w M s E sF fb i c cb cp) (hf:l.length < f + 1 + s.met.length) (hm:i ∉ s.met) (hlt:i < l.length) (hop:l[i].op=7) :
  Calls Tryz.prog 104 #[.pointer (some ⟨b,0,none⟩),.int .i64 (i:Int),.slice (some ⟨cb,0,none⟩) K cp] w (VP N b l tx w M E sF fb (vis (act l tx M.j) M.j (f + 1) i c s)):=by
 have hm20:=(may_ok hmay).1
 have hok:=(may_ok hmay).2.2.2.2.2 _ (List.getElem_mem hlt)
 have hx:=ok_x hok (by rw [hop];rfl)
 obtain ⟨x,hxe⟩:=Int.eq_ofNat_of_zero_le hx.1
 have e1:vis (act l tx M.j) M.j (f + 1) i c s=vis (act l tx M.j) M.j f x c (s.mark i):=by
  rw [vis_step h.ov hm]
  have:act l tx M.j i=.go x:=by unfold act actI;rw [getD_in' hlt,hop,hxe];simp
  rw [this]
 rw [e1]
 have HA:=add10_yes N M.sb sF l.length (ints s.met) i w h.vi.set hlt (fun hn=>hm (mem_ints.1 hn)) (by rw [ints_len];have:=h.inv.small;omega) h.vi.nw
 obtain ⟨pb,po,r1,r2,r3,hpa,hpn,hpr,hcs⟩:=inst_at h.vi hlt
 have c5:=h.vi.mb.c 5
 simp at c5
 have HH:=hid h
 have HCS:=hid hcs
 have HPA:=hid hpa
 have HPN:=hid hpn
 have HOP:=hid hop
 have HXE:=hid hxe
 have hiv:=h.inv.mark hlt hm
 have HIV:=hid hiv
 have hlen:((s.mark i).met).length=s.met.length + 1:=by simp [Vst.mark]
 have HLEN:=hid hlen
 have b2:(i:Int) < (l.length:Int):=by omega
 have hxl:x < l.length:=by omega
 clear h e1 hcs hpa hpn hop hxe hiv hlen hpr
 generalize hsb:M.sb=sb at c5 HA
 have HSB:=hid hsb
 clear hsb
 go_enter Tryz.func104,Tryz.ntmps104
 go_wp2_with (first | (go_at_call 150;(with_reducible refine HA.mono ?_);rintro e w2 ⟨rfl,sF2,hs2,hc2⟩;rw [← HSB.out] at hs2;obtain ⟨h1,h2⟩:=HH.out.vi.add hs2 hc2;have hbel:=hc2.below HH.out.vi.nw (fun k hk=>(HH.out.vi.set.low k hk).1);obtain ⟨⟨m0,m1,m2,m3,m4⟩,hrow⟩:=HCS.out w2 hbel;have d0:=h1.mb.c 0;simp at d0;rw [HPA.out,HPN.out] at d0;rw [HOP.out] at m0;rw [HXE.out] at m1;have HC:=hid h2;have HV:=hid (HH.out.kept h1 rfl h2 HH.out.ov HIV.out hxl);have HI:=ih.out x c (s.mark i) w2 M E sF2 fb cb cp HV.out (by have:=HLEN.out;omega);clear hs2 hc2 HA h1 h2 hbel m2 m3 m4 hrow c5) | (go_at_call 104;(with_reducible refine HI.mono ?_);rintro e w3 hvp;have HP:=hid hvp;obtain ⟨rfl,_⟩:=hvp))
 go_ret
 exact HP.out.after HC.out rfl
end Go.Proofs.YtacaanhnlfpbhaaGreat
