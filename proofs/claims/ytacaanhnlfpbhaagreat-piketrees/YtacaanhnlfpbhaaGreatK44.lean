/- HELPERS: texts of ours put together. -/
import Derived.Test.YtacaanhnlfpbhaaGreatK43
import Derived.Test.YtacaanhnlfpbhaaGreatK09
import Derived.Test.YtacaanhnlfpbhaaGreatK07
import Derived.Test.YtacaanhnlfpbhaaGreatK04
import Derived.Test.YtacaanhnlfpbhaaGreatK02
import Derived.Test.YtacaanhnlfpbhaaGreatK03
import Derived.Test.YtacaanhnlfpbhaaGreatK01
import Derived.Deep.SlicePairs
import Derived.RowKit
import Derived.Test.YtacaanhnlfpbhaaGreatK42
import Derived.Test.YtacaanhnlfpbhaaGreatK11
import Derived.Lib.Small
import Derived.Deep.Cut
import Derived.Deep.CutRange
import Derived.Deep.RegionHeld3
import Derived.Deep.QuietTactic
import Derived.BigQuiet
import Derived.Laws.EntriesVeiled
import Derived.Test.YtacaanhnlfpbhaaGreatProg
import Derived.WalkKit
import Derived.ProofKit
import Derived.WalkSmall
import Derived.Deep.RegionWith
import Derived.Lib.SmallJoins
import Derived.Lib.MinMax
import Derived.Maps.AppendAt
import Derived.Laws.AppendOwnNone
import Derived.Test.YtacaanhnlfpbhaaGreatK05
import Derived.OrdersHeld
import Derived.StillTail
import Derived.Tactics
import Derived.Below
import Derived.Deep.MidRow
import Derived.Deep.OwnRows
import Derived.Laws.Rows
import Derived.WalkLawsBesides
import Derived.Deep.RegionLaw
import Derived.Laws.CopyOwn
import Derived.Lib.LazyBuf
import Derived.LoopN
import Derived.Laws.IdiomCopy
import Derived.Laws.BitsLemmas
import Derived.Deep.Onto
namespace Go.Proofs.YtacaanhnlfpbhaaGreat
open Go.RowKit Go.Lk
set_option linter.unusedVariables false
set_option linter.unusedSimpArgs false
theorem MB.upd {w:World} {b:Nat} {M:Mv} (h:MB w b M) (k:Nat) (v:Value) (M':Mv) (he:(M.cs b).setIfInBounds k v=M'.cs b):MB (w.setCell ⟨b,k,none⟩ v) b M':=by
 have:=Joins.block_setCell (i:=k) h v
 rw [he] at this
 exact this
theorem copyK {W:World} {N N' fb cb cp K K':Nat} {old c:List Int} (ho:W.ownsRow N 3 1 (.slice (some ⟨fb,0,none⟩) K K') K (I64 old)) (hs:W.ownsRow N' 3 1 (.slice (some ⟨cb,0,none⟩) K cp) K (I64 c)) :
  (Builtin.copy_ #[26,26] 3 #[.slice (some ⟨fb,0,none⟩) K K',.slice (some ⟨cb,0,none⟩) K cp]).run Tryz.prog W=.ok (.int .i64 (K:Int)) (W.setCells fb 0 (I64 c))∧(W.setCells fb 0 (I64 c)).ownsRow N 3 1 (.slice (some ⟨fb,0,none⟩) K K') K (I64 c):=by
 have hl:(I64 c).length=K:=by have:=hs.1;omega
 have hlo:(I64 old).length=K:=by have:=ho.1;omega
 have h:=run_copy_cells (P:=Tryz.prog) W 26 26 3 3 fb 0 K K' ⟨cb,0,none⟩ K cp (I64 c) Tryz.underlying26 size3 (by rw [hl];simp) (fun j v hj=>by
  rw [Addr.add_mid,Nat.zero_add,hs.cellAt j (by have:=(List.getElem?_eq_some_iff.1 hj).1;omega)];exact hj) (fun j hj=>by
  rw [Nat.zero_add,ho.cellAt j (by omega),List.getElem?_eq_getElem (by omega)];rfl) (fun j hj=>by rw [Nat.zero_add];exact ho.frozenAt j) (one_cell_ints c)
 rw [hl] at h
 refine ⟨by simpa [goInt] using h,?_⟩
 have:=row_stores (I64 c) 0 W _ ho (by omega)
 simpa using this
set_option maxRecDepth 100000 in
theorem drop51 (b:Nat) (w:World) (h1:(w.cell? ⟨b,10,none⟩).isSome=true) (h2:w.frozen? ⟨b,10,none⟩=false):Calls Tryz.prog 156 #[.pointer (some ⟨b,9,none⟩)] w fun e w'=>e=.returned (.tuple #[])∧w'=w.setCell ⟨b,10,none⟩ (.int .i64 0):=by
 obtain ⟨v,hv⟩:=Option.isSome_iff_exists.1 h1
 clear h1
 go_enter Tryz.func156,Tryz.ntmps156
 go_wp2
 go_end0
 exact ⟨rfl,rfl⟩
set_option maxRecDepth 100000 in
set_option maxHeartbeats 2000000 in
theorem holds47 {w:World} {b:Nat} {M:Mv} {tx:List Int} (h:MB w b M) (hT:TextAt w.heap.size w M.tad M.tn tx) (hj:M.j≤M.tn) (hb:M.bits=0∨M.bits=atP tx M.j) (a:Int) :
  Calls Tryz.prog 152 #[.pointer (some ⟨b,0,none⟩),.int .i64 a] w fun e w'=>e=.returned (.bool (holdsB a (atP tx M.j)))∧MB w' b { M with bits:=atP tx M.j }∧Chg w w' [b] [b]:=by
 have htl:M.tn=tx.length:=hT.1
 have HA:=Look.at10 tx M.tad M.tn M.tc M.j w.drew (look_text (show TextAt w.drew.heap.size w.drew M.tad M.tn tx from hT))
 rw [look_at tx M.j (by omega)] at HA
 have HM:=hid h
 generalize hat:atP tx M.j=t at HA hb ⊢
 have HH:Hid (∀ W,Calls Tryz.prog 167 #[.int .i64 a,.int .i64 t] W fun e w'=>e=.returned (.bool (holdsB a t))∧w'=W):=fun W=>Look.holds13 a t W
 clear hat
 have hu:=h.u 6
 have c3:=h.c 3
 have c4:=h.c 4
 have c6:=h.c 6
 simp at c3 c4 c6
 by_cases e:M.bits=0
 ·have HK:=hid (fun (W:World) (hW:MB W b M)=>hW.upd 6 (.int .i64 t) { M with bits:=t } rfl)
  have hbl:=h.lt
  clear h hb hT htl
  rw [e] at c6
  clear e
  obtain ⟨ad,n,c,S,K,tad,tn,tc,j,sb,bits,z1,n1,c1,k1,z2,n2,c2,k2,ub,uc,fok,f1,f2,f3,fw,fs⟩:=M
  dsimp only at HA HM HK c3 c4 c6 hj ⊢
  go_enter Tryz.func152,Tryz.ntmps152
  go_upto_region 2 with fail
  go_cut [] from 10 to 22 (fun wx=>Hid (MB wx b ⟨ad,n,c,S,K,tad,tn,tc,j,sb,t,z1,n1,c1,k1,z2,n2,c2,k2,ub,uc,fok,f1,f2,f3,fw,fs⟩)∧Hid (Chg w wx [b] [b]))
  case first =>
   go_region_with (go_at_call 74;(with_reducible refine HA.mono ?_);rintro e w2 ⟨rfl,hb2⟩;have HB:=hid hb2;have hm:=HM.out.kept (hb2.block b hbl);have hu2:=hm.u 6;have d6:=hm.c 6;simp at d6;have HM2:=hid (HK.out w2 hm);clear hm hb2 HA)
   all_goals go_wp2_with fail
   all_goals go_meet
   all_goals exact ⟨HM2.out,(Chg.of_below (show Below w.heap.size w w2 from ⟨HB.out.os,HB.out.tape,HB.out.output,HB.out.size,HB.out.block⟩)).set (a:=⟨b,6,none⟩) _ (by simp)⟩
  case rest =>
  obtain ⟨HM3,HC3⟩:=hcut
  have d6:=HM3.out.c 6
  simp at d6
  go_wp2_with (go_at_call 167;(with_reducible refine (HH.out _).mono ?_);rintro e w3 ⟨rfl,rfl⟩)
  all_goals go_ret
  all_goals exact ⟨rfl,HM3.out,HC3.out⟩
 ·have hb':M.bits=t:=hb.resolve_left e
  have b1:(t == 0)=false:=by simpa [hb'] using e
  rw [hb'] at c6
  have HM2:Hid (MB w b { M with bits:=t }):=by show MB w b _;rw [← hb'];exact h
  clear h hb hT htl HA hb' e hu
  go_enter Tryz.func152,Tryz.ntmps152
  go_wp2_with (go_at_call 167;(with_reducible refine (HH.out _).mono ?_);rintro e w3 ⟨rfl,rfl⟩)
  all_goals go_ret
  all_goals exact ⟨rfl,HM2.out,Chg.refl _ _⟩
theorem makeK (c:Nat) (hc:c≤10000) (w:World):(Instr.makeSlice 26 (.int .i64 (c:Int)) (.int .i64 (c:Int))).run Tryz.prog w=.ok (.slice (some ⟨w.heap.size,0,none⟩) c c) (w.alloc (.cells (madeCells #[.int .i64 0] c) 3)):=makeN c hc w
theorem made_row (c N:Nat) (w:World) (hN:N≤w.heap.size) (hc:c≤10000):(w.alloc (.cells (madeCells #[.int .i64 0] c) 3)).ownsRow N 3 1 (.slice (some ⟨w.heap.size,0,none⟩) c c) c (I64 (List.replicate c 0)):=by
 have h':=World.ownsRow_lit (base:=N) (e:=3) (size:=1) w (madeCells #[.int .i64 0] c) c hN (by unfold maxLen;omega) (by rw [size_madeCells];omega)
 rw [toList_madeCells_one] at h'
 simpa using h'
set_option maxRecDepth 100000 in
set_option maxHeartbeats 4000000 in
theorem match49_first {w:World} {b N K cb cp:Nat} {M:Mv} {c:List Int} (a:Int) (h:MB w b M) (hK:K≤10000) (hf:M.fok=false) (hN:N≤w.heap.size) (hNb:N≤b) (hc:w.ownsRow N 3 1 (.slice (some ⟨cb,0,none⟩) K cp) K (I64 c)) :
  Calls Tryz.prog 154 #[.pointer (some ⟨b,0,none⟩),.int .i64 a,.slice (some ⟨cb,0,none⟩) K cp] w fun e w'=>e=.returned (.tuple #[])∧∃ g,w.heap.size≤g∧MB w' b { M with fok:=true,f1:=some ⟨g,0,none⟩,f2:=K,f3:=K,fw:=a }∧w'.ownsRow N 3 1 (.slice (some ⟨g,0,none⟩) K K) K (I64 c)∧Chg w w' [b] [b,g]:=by
 have hbl:=h.lt
 obtain ⟨g,hg⟩:∃ g,g=w.heap.size:=⟨_,rfl⟩
 obtain ⟨V,hV⟩:∃ V,V=w.alloc (.cells (madeCells #[.int .i64 0] K) 3):=⟨_,rfl⟩
 have hmk:=makeK K hK w
 have hgr:=made_row K N w hN hK
 rw [← hV,← hg] at hmk hgr
 have hbV:Below w.heap.size w V:=by rw [hV];exact Joins.below_alloc1 w _
 have hMV:MB V b M:=h.kept (hbV.block b hbl)
 have hM1:=hMV.upd 14 (.slice (some ⟨g,0,none⟩) K K) { M with f1:=some ⟨g,0,none⟩,f2:=K,f3:=K } rfl
 obtain ⟨V1,hV1⟩:∃ V1,V1=V.setCell ⟨b,14,none⟩ (.slice (some ⟨g,0,none⟩) K K):=⟨_,rfl⟩
 rw [← hV1] at hM1
 have hgb:g≠b:=by omega
 have hg1:V1.ownsRow N 3 1 (.slice (some ⟨g,0,none⟩) K K) K (I64 (List.replicate K 0)):=by rw [hV1];exact own_setCell hgr (by simp [Value.ownBlock,hgb])
 have hcb:=hc.lt cb rfl
 have hcbb:cb≠b:=fun e=>own_ne hc h (by decide) (by rw [e];rfl)
 have hc1:V1.ownsRow N 3 1 (.slice (some ⟨cb,0,none⟩) K cp) K (I64 c):=by rw [hV1];exact own_setCell (row_kept hc (fun k hk=>hbV.block k (hc.lt k hk).2)) (by simp [Value.ownBlock,hcbb])
 obtain ⟨hcp,hr2⟩:=copyK hg1 hc1
 obtain ⟨V2,hV2⟩:∃ V2,V2=V1.setCells g 0 (I64 c):=⟨_,rfl⟩
 rw [← hV2] at hcp hr2
 have hM2:MB V2 b { M with f1:=some ⟨g,0,none⟩,f2:=K,f3:=K }:=hM1.kept (by rw [hV2];exact setCells_other g _ _ _ _ (fun e=>hgb e.symm))
 have hM3:=(hM2.upd 13 (.bool true) { M with fok:=true,f1:=some ⟨g,0,none⟩,f2:=K,f3:=K } rfl).upd 15 (.int .i64 a) { M with fok:=true,f1:=some ⟨g,0,none⟩,f2:=K,f3:=K,fw:=a } rfl
 have hch:Chg w V2 [b] [b,g]:=by
  have h1:Chg w V1 [b] [b]:=by rw [hV1];exact (Chg.of_below hbV).set (a:=⟨b,14,none⟩) _ (by simp)
  rw [hV2]
  refine ⟨?_,?_,?_,?_,?_,?_⟩
  ·have:=setCells_chg (w:=V1) (w':=V1) (F:=[g]) (F':=[g]) g (by simp) (I64 c) 0 V1 (Chg.refl _ _);exact this.os.trans h1.os
  ·have:=setCells_chg (w:=V1) (w':=V1) (F:=[g]) (F':=[g]) g (by simp) (I64 c) 0 V1 (Chg.refl _ _);exact this.tape.trans h1.tape
  ·have:=setCells_chg (w:=V1) (w':=V1) (F:=[g]) (F':=[g]) g (by simp) (I64 c) 0 V1 (Chg.refl _ _);exact this.output.trans h1.output
  ·have:=setCells_chg (w:=V1) (w':=V1) (F:=[g]) (F':=[g]) g (by simp) (I64 c) 0 V1 (Chg.refl _ _);exact Nat.le_trans h1.size this.size
  ·intro k hk hn;exact (setCells_other g _ _ _ _ (by omega)).trans (h1.block k hk hn)
  ·intro k hk;simp at hk;rcases hk with rfl | rfl
   ·exact .inl (by simp)
   ·exact .inr (by omega)
 have c13:=h.c 13
 have d14:=hMV.c 14
 have u14:=hMV.u 14
 have e14:=hM1.c 14
 have e13:=hM2.c 13
 have v13:=hM2.u 13
 have e15:=hM2.c 15
 have v15:=hM2.u 15
 simp at c13 d14 e14 e13 e15
 rw [hf] at c13
 have HM3:=hid hM3
 have HR2:=hid hr2
 have HCH:=hid hch
 have HG:=hid hg
 have HK:=hid hK
 have HV2:=hid hbl
 clear h hc hM1 hM2 hM3 hMV hg1 hc1 hr2 hch hbV hgr hcb hK hN hf hg hV hV2
 have HV1:=hid hV1
 clear hV1
 go_enter Tryz.func154,Tryz.ntmps154
 go_upto_region 2 with fail
 rw [← HV1.out]
 clear HV1 d14 u14 c13 hmk
 go_wp2
 go_end0
 exact ⟨rfl,g,by have:=HG.out;omega,HM3.out,own_setCell (own_setCell HR2.out (by simp [Value.ownBlock,hgb])) (by simp [Value.ownBlock,hgb]),(HCH.out.set (a:=⟨b,13,none⟩) _ (by simp)).set (a:=⟨b,15,none⟩) _ (by simp)⟩
set_option maxRecDepth 100000 in
set_option maxHeartbeats 4000000 in
theorem match49_next {w:World} {b N K cb cp g:Nat} {M:Mv} {c c0:List Int} (a:Int) (h:MB w b M) (hK:K≤10000) (hf:M.fok=true) (hf1:M.f1=some ⟨g,0,none⟩) (hf2:M.f2=K) (hf3:M.f3=K) (hN:N≤w.heap.size) (hNb:N≤b) (hc:w.ownsRow N 3 1 (.slice (some ⟨cb,0,none⟩) K cp) K (I64 c)) (hg0:w.ownsRow N 3 1 (.slice (some ⟨g,0,none⟩) K K) K (I64 c0)) :
  Calls Tryz.prog 154 #[.pointer (some ⟨b,0,none⟩),.int .i64 a,.slice (some ⟨cb,0,none⟩) K cp] w fun e w'=>e=.returned (.tuple #[])∧MB w' b { M with fok:=true,f1:=some ⟨g,0,none⟩,f2:=K,f3:=K,fw:=a }∧w'.ownsRow N 3 1 (.slice (some ⟨g,0,none⟩) K K) K (I64 c)∧Chg w w' [b,g] [b,g]:=by
 have hbl:=h.lt
 have hgb:g≠b:=fun e=>own_ne hg0 h (by decide) (by rw [e];rfl)
 have h':MB w b { M with fok:=true,f1:=some ⟨g,0,none⟩,f2:=K,f3:=K }:=by
  have e:{ M with fok:=true,f1:=some ⟨g,0,none⟩,f2:=K,f3:=K }=M:=by cases M;simp only at hf hf1 hf2 hf3;subst hf hf1 hf2 hf3;rfl
  rw [e];exact h
 obtain ⟨hcp,hr2⟩:=copyK hg0 hc
 obtain ⟨V2,hV2⟩:∃ V2,V2=w.setCells g 0 (I64 c):=⟨_,rfl⟩
 rw [← hV2] at hcp hr2
 have hM2:MB V2 b { M with fok:=true,f1:=some ⟨g,0,none⟩,f2:=K,f3:=K }:=h'.kept (by rw [hV2];exact setCells_other g _ _ _ _ (fun e=>hgb e.symm))
 have hM3:=(hM2.upd 13 (.bool true) { M with fok:=true,f1:=some ⟨g,0,none⟩,f2:=K,f3:=K } rfl).upd 15 (.int .i64 a) { M with fok:=true,f1:=some ⟨g,0,none⟩,f2:=K,f3:=K,fw:=a } rfl
 have hch:Chg w V2 [b,g] [b,g]:=by
  rw [hV2];exact setCells_chg (w':=w) g (by simp) (I64 c) 0 w (Chg.refl _ _)
 have c13:=h'.c 13
 have c14:=h'.c 14
 have e13:=hM2.c 13
 have v13:=hM2.u 13
 have e15:=hM2.c 15
 have v15:=hM2.u 15
 simp at c13 c14 e13 e15
 have HM3:=hid hM3
 have HR2:=hid hr2
 have HCH:=hid hch
 clear h hc hM2 hM3 hr2 hch hK hN hf hV2 hf1 hf2 hf3 h' hg0
 go_enter Tryz.func154,Tryz.ntmps154
 go_wp2
 go_end0
 exact ⟨rfl,HM3.out,own_setCell (own_setCell HR2.out (by simp [Value.ownBlock,hgb])) (by simp [Value.ownBlock,hgb]),(HCH.out.set (a:=⟨b,13,none⟩) _ (by simp)).set (a:=⟨b,15,none⟩) _ (by simp)⟩
def cellsE (K:Nat) (E:List En):List Value:=E.flatMap (En.cs K)
theorem cellsE_get (K:Nat):∀ (E:List En) (k:Nat) (hk:k < E.length) (o:Nat),o < 2→(cellsE K E)[k * 2 + o]?=(En.cs K E[k])[o]?
 | e :: E,0,_,o,ho=>by
  simp only [cellsE,List.flatMap_cons]
  rw [List.getElem?_append_left (by simp [En.cs];omega)]
  simp
 | e :: E,k + 1,hk,o,ho=>by
  have:=cellsE_get K E k (by simpa using hk) o ho
  simp only [cellsE,List.flatMap_cons] at this ⊢
  rw [List.getElem?_append_right (by simp [En.cs];omega)]
  rw [show (k + 1) * 2 + o - (En.cs K e).length=k * 2 + o by simp [En.cs];omega]
  simpa using this
theorem cellsE_set (K:Nat):∀ (E:List En) (k:Nat) (hk:k < E.length) (i:Nat) (c:List Int),(cellsE K E).set (k * 2) (.int .i64 (i:Int))=cellsE K (E.set k ⟨i,E[k].b,c⟩)
 | e :: E,0,_,i,c=>by simp [cellsE,En.cs]
 | e :: E,k + 1,hk,i,c=>by
  have:=cellsE_set K E k (by simpa using hk) i c
  simp only [cellsE,List.flatMap_cons,List.set_cons_succ,List.getElem_cons_succ] at this ⊢
  rw [← this,List.set_append_right _ _ (by simp [En.cs];omega)]
  congr 2
  simp [En.cs];omega
structure RW (w:World) (N K:Nat) (z:Option Addr) (n c:Nat) (E:List En):Prop where
 len:n=E.length
 row:w.ownsRow N 216 2 (.slice z n c) n (cellsE K E)
 caps:∀ e ∈ E,w.ownsRow N 3 1 (.slice (some ⟨e.b,0,none⟩) K K) K (I64 e.c)
 nd:(E.map En.b).Nodup
def zF (z:Option Addr) (n c:Nat):List Nat:=(Value.slice z n c).ownBlock.toList
def RWF (z:Option Addr) (n c:Nat) (E:List En):List Nat:=zF z n c ++ E.map En.b
theorem RW.kept {w w':World} {N K n c:Nat} {z:Option Addr} {E:List En} (h:RW w N K z n c E) (hk:∀ k ∈ RWF z n c E,w'.heap[k]?=w.heap[k]?):RW w' N K z n c E:=
 ⟨h.len,row_kept h.row (fun b hb=>hk b (by simp [RWF,zF,hb])),fun e he=>row_kept (h.caps e he) (fun b hb=>hk b (by simp [Value.ownBlock] at hb;subst hb;simp only [RWF,List.mem_append,List.mem_map];exact .inr ⟨e,he,rfl⟩)),h.nd⟩
theorem RW.low {w:World} {N K n c:Nat} {z:Option Addr} {E:List En} (h:RW w N K z n c E):∀ k ∈ RWF z n c E,N≤k∧k < w.heap.size:=by
 intro k hk
 simp only [RWF,zF,List.mem_append,Option.mem_toList,List.mem_map] at hk
 rcases hk with hk | ⟨e,he,rfl⟩
 ·exact h.row.lt k hk
 ·exact (h.caps e he).lt _ rfl
theorem RW.zne {w:World} {N K n c:Nat} {z:Option Addr} {E:List En} (h:RW w N K z n c E):∀ k ∈ E.map En.b,k ∉ zF z n c:=by
 intro k hk hz
 obtain ⟨e,he,rfl⟩:=List.mem_map.1 hk
 rcases (h.caps e he).2 with ⟨e',_⟩ | ⟨g,cap,cur,e',_,hg,_⟩
 ·cases e'
 ·simp only [Value.slice.injEq,Option.some.injEq,Addr.mk.injEq] at e'
  obtain ⟨⟨rfl,_⟩,_⟩:=e'
  exact own_ne h.row hg (by decide) (by simpa [zF] using hz)
theorem row_block {w:World} {base e size n b c:Nat} {xs:List Value} (h:w.ownsRow base e size (.slice (some ⟨b,0,none⟩) n c) n xs):∃ arr,w.heap[b]?=some (.cells arr e (0,0)):=by
 rcases h.2 with ⟨e',_⟩ | ⟨g,cap,cur,e',_,hg,_⟩
 ·cases e'
 ·simp only [Value.slice.injEq,Option.some.injEq,Addr.mk.injEq] at e'
  obtain ⟨⟨rfl,_⟩,_⟩:=e'
  exact ⟨_,hg⟩
theorem nd_ne {E:List En} (h:(E.map En.b).Nodup) {x y:Nat} (hx:x < E.length) (hy:y < E.length) (hne:x≠y):E[x].b≠E[y].b:=by
 have h2:=List.pairwise_iff_getElem.1 h
 rcases Nat.lt_or_gt_of_ne hne with hl | hl
 ·have:=h2 x y (by simpa using hx) (by simpa using hy) hl
  simpa using this
 ·have:=h2 y x (by simpa using hy) (by simpa using hx) hl
  simp at this
  exact fun e=>this e.symm
theorem put_done {W:World} {b N K cb cp zb:Nat} {M:Mv} {E:List En} {c:List Int} (i:Nat) (h:MB W b M) (hz:M.z2=some ⟨zb,0,none⟩) (hR:RW W N K M.z2 M.n2 M.c2 E) (hk:M.k2 < E.length) (hc:W.ownsRow N 3 1 (.slice (some ⟨cb,0,none⟩) K cp) K (I64 c)) (hcb:cb ∉ E.map En.b) (hN:N≤b) :
  ∃ V2,(Builtin.copy_ #[26,26] 3 #[.slice (some ⟨E[M.k2].b,0,none⟩) K K,.slice (some ⟨cb,0,none⟩) K cp]).run Tryz.prog (W.setCell ⟨zb,M.k2 * 2,none⟩ (.int .i64 (i:Int)))=.ok (.int .i64 (K:Int)) V2∧MB V2 b M ∧
   MB (V2.setCell ⟨b,10,none⟩ (.int .i64 ((M.k2 + 1:Nat):Int))) b { M with k2:=M.k2 + 1 }∧RW (V2.setCell ⟨b,10,none⟩ (.int .i64 ((M.k2 + 1:Nat):Int))) N K M.z2 M.n2 M.c2 (E.set M.k2 ⟨i,E[M.k2].b,c⟩)∧Chg W (V2.setCell ⟨b,10,none⟩ (.int .i64 ((M.k2 + 1:Nat):Int))) (b :: RWF M.z2 M.n2 M.c2 E) (b :: RWF M.z2 M.n2 M.c2 E):=by
 have hmem:E[M.k2] ∈ E:=List.getElem_mem hk
 have hzb:zb ∈ zF M.z2 M.n2 M.c2:=by rw [hz];simp [zF,Value.ownBlock]
 have hrz:=hR.row
 rw [hz] at hrz
 obtain ⟨zarr,hzarr⟩:=row_block hrz
 have hzE:∀ k ∈ E.map En.b,k≠zb:=fun k hk e=>hR.zne k hk (e ▸ hzb)
 have hcz:cb≠zb:=fun e=>own_ne hc hzarr (by decide) (by rw [e];rfl)
 have hcB:cb≠b:=fun e=>own_ne hc h (by decide) (by rw [e];rfl)
 have hbz:b≠zb:=fun e=>by have:=h;unfold MB at this;rw [e,hzarr] at this;simp at this
 have hbE:∀ k ∈ E.map En.b,k≠b:=fun k hk e=>by
  obtain ⟨x,hx,rfl⟩:=List.mem_map.1 hk
  exact own_ne (hR.caps x hx) h (by decide) (by rw [← e];rfl)
 have hW1:∀ k,k≠zb→(W.setCell ⟨zb,M.k2 * 2,none⟩ (.int .i64 (i:Int))).heap[k]?=W.heap[k]?:=fun k hk=>Below.heap_setCell _ _ _ _ hk
 have hg1:(W.setCell ⟨zb,M.k2 * 2,none⟩ (.int .i64 (i:Int))).ownsRow N 3 1 (.slice (some ⟨E[M.k2].b,0,none⟩) K K) K (I64 E[M.k2].c):=own_setCell (hR.caps _ hmem) (by simp [Value.ownBlock];exact hzE _ (List.mem_map.2 ⟨_,hmem,rfl⟩))
 have hc1:(W.setCell ⟨zb,M.k2 * 2,none⟩ (.int .i64 (i:Int))).ownsRow N 3 1 (.slice (some ⟨cb,0,none⟩) K cp) K (I64 c):=own_setCell hc (by simp [Value.ownBlock,hcz])
 obtain ⟨hcp,hr2⟩:=copyK hg1 hc1
 have hz1:=row_setC hrz (M.k2 * 2) (.int .i64 (i:Int))
 rw [cellsE_set K E M.k2 hk i c] at hz1
 generalize hV:W.setCell ⟨zb,M.k2 * 2,none⟩ (.int .i64 (i:Int))=V1 at *
 have hEb:E[M.k2].b ∈ E.map En.b:=List.mem_map.2 ⟨_,hmem,rfl⟩
 have hV2:∀ k,k≠E[M.k2].b→(V1.setCells E[M.k2].b 0 (I64 c)).heap[k]?=V1.heap[k]?:=fun k hk=>setCells_other _ _ _ _ _ hk
 refine ⟨_,hcp,?_,?_,?_,?_⟩
 ·exact h.kept ((hV2 b (fun e=>hbE _ hEb e.symm)).trans (hW1 b hbz))
 ·exact (h.kept ((hV2 b (fun e=>hbE _ hEb e.symm)).trans (hW1 b hbz))).upd 10 _ _ rfl
 ·refine ⟨by rw [List.length_set];exact hR.len,?_,fun e he=>?_,?_⟩
  ·rw [hz]
   refine own_setCell (row_kept hz1 (fun k hk'=>hV2 k (fun e=>?_))) (by simp [Value.ownBlock];exact fun e=>hbz e.symm)
   simp [Value.ownBlock] at hk'
   exact hzE _ hEb (by rw [← e,hk'])
  ·obtain ⟨x,hx,he'⟩:=List.getElem_of_mem he
   rw [List.length_set] at hx
   rw [List.getElem_set] at he'
   by_cases hxk:M.k2=x
   ·rw [if_pos hxk] at he'
    subst he'
    exact own_setCell hr2 (by simp [Value.ownBlock];exact hbE _ hEb)
   ·rw [if_neg hxk] at he'
    subst he'
    have hm2:E[x] ∈ E:=List.getElem_mem hx
    have hne:E[x].b≠E[M.k2].b:=nd_ne hR.nd hx hk (fun e=>hxk e.symm)
    have hEx:E[x].b ∈ E.map En.b:=List.mem_map.2 ⟨_,hm2,rfl⟩
    exact own_setCell (row_kept (hR.caps _ hm2) (fun k hk'=>by simp [Value.ownBlock] at hk';subst hk';exact (hV2 _ hne).trans (hW1 _ (hzE _ hEx)))) (by simp [Value.ownBlock];exact hbE _ hEx)
  ·have:(E.set M.k2 ⟨i,E[M.k2].b,c⟩).map En.b=E.map En.b:=by
    rw [List.map_set]
    apply List.ext_getElem?
    intro x
    rw [List.getElem?_set]
    split
    ·rename_i e
     subst e
     simp [hk]
    ·rfl
   rw [this]
   exact hR.nd
 ·have h1:Chg W V1 (b :: RWF M.z2 M.n2 M.c2 E) (b :: RWF M.z2 M.n2 M.c2 E):=by rw [← hV];exact (Chg.refl _ _).set (a:=⟨zb,M.k2 * 2,none⟩) _ (by simp [RWF,hzb])
  have h2:=setCells_chg (w':=V1) E[M.k2].b (by simp only [RWF,List.mem_cons,List.mem_append];exact .inr (.inr hEb)) (I64 c) 0 V1 h1
  exact h2.set (a:=⟨b,10,none⟩) _ (by simp)
theorem RW.same {w w':World} {N K n c:Nat} {z:Option Addr} {E:List En} (h:RW w N K z n c E) (e:w'.heap=w.heap):RW w' N K z n c E:=h.kept (fun k _=>by rw [e])
theorem info90:(Tryz.prog.info? 216).map (fun i=>(i.zero,i.size,i.bytes))=some (some (.agg #[.int .i64 0,.slice none 0 0]),2,32):=by kernel_rfl
theorem Eqw.chg {w w' v:World} (h:Eqw w w') {F F':List Nat} (c:Chg w' v F F'):Chg w v F F':=⟨c.os.trans h.os,c.tape.trans h.tape,c.output.trans h.output,by have:=c.size;rw [h.heap] at this;exact this,fun k hk hn=>(c.block k (by rw [h.heap];exact hk) hn).trans (h.blk k),fun k hk=>by have:=c.new k hk;rw [h.heap] at this;exact this⟩
set_option maxRecDepth 100000 in
set_option maxHeartbeats 4000000 in
theorem put30_old {w:World} {b N K cb cp:Nat} {M:Mv} {E:List En} {c:List Int} (i:Nat) (h:MB w b M) (hR:RW w N K M.z2 M.n2 M.c2 E) (hk:M.k2 < E.length) (hE:E.length≤20000) (hc:w.ownsRow N 3 1 (.slice (some ⟨cb,0,none⟩) K cp) K (I64 c)) (hcb:cb ∉ E.map En.b) (hN:N≤b) :
  Calls Tryz.prog 103 #[.pointer (some ⟨b,9,none⟩),.int .i64 (i:Int),.slice (some ⟨cb,0,none⟩) K cp] w fun e w'=>e=.returned (.tuple #[])∧MB w' b { M with k2:=M.k2 + 1 }∧RW w' N K M.z2 M.n2 M.c2 (E.set M.k2 ⟨i,E[M.k2].b,c⟩)∧Chg w w' (b :: RWF M.z2 M.n2 M.c2 E) (b :: RWF M.z2 M.n2 M.c2 E):=by
 have hln:=hR.len
 obtain ⟨zb,hz⟩:∃ zb,M.z2=some ⟨zb,0,none⟩:=by
  rcases hR.row.2 with ⟨_,e⟩ | ⟨g,cap,cur,e,_⟩
  ·omega
  ·simp only [Value.slice.injEq] at e;exact ⟨g,e.1⟩
 have HA:Hid (∀ W,Eqw w W→∃ V2,(Builtin.copy_ #[26,26] 3 #[.slice (some ⟨E[M.k2].b,0,none⟩) K K,.slice (some ⟨cb,0,none⟩) K cp]).run Tryz.prog (W.setCell ⟨zb,M.k2 * 2,none⟩ (.int .i64 (i:Int)))=.ok (.int .i64 (K:Int)) V2∧(V2.cell? ⟨b,10,none⟩=some (.int .i64 (M.k2:Int))∧V2.frozen? ⟨b,10,none⟩=false) ∧
   Hid (MB (V2.setCell ⟨b,10,none⟩ (.int .i64 ((M.k2 + 1:Nat):Int))) b { M with k2:=M.k2 + 1 }∧RW (V2.setCell ⟨b,10,none⟩ (.int .i64 ((M.k2 + 1:Nat):Int))) N K M.z2 M.n2 M.c2 (E.set M.k2 ⟨i,E[M.k2].b,c⟩)∧Chg w (V2.setCell ⟨b,10,none⟩ (.int .i64 ((M.k2 + 1:Nat):Int))) (b :: RWF M.z2 M.n2 M.c2 E) (b :: RWF M.z2 M.n2 M.c2 E))):=by
  intro W e
  obtain ⟨V2,hcp,hM2,hM3,hR3,hC3⟩:=put_done i (W:=W) (h.kept (e.blk b)) hz (hR.same e.heap) hk (e.row hc) hcb hN
  have d10:=hM2.c 10
  simp at d10
  exact ⟨V2,hcp,⟨d10,hM2.u 10⟩,hM3,hR3,e.chg hC3⟩
 have hrz:=hR.row
 rw [hz] at hrz
 have k0:=(hrz.cellAt (M.k2 * 2) (by omega)).trans (by simpa using cellsE_get K E M.k2 hk 0 (by omega))
 have k1:=(hrz.cellAt (M.k2 * 2 + 1) (by omega)).trans (cellsE_get K E M.k2 hk 1 (by omega))
 simp only [En.cs,List.getElem?_cons_zero,List.getElem?_cons_succ] at k0 k1
 have f0:=hrz.frozenAt (M.k2 * 2)
 have HF:Hid (∀ W,Eqw w W→W.cell? ⟨zb,M.k2 * 2,none⟩=some (.int .i64 (E[M.k2].i:Int))∧W.cell? ⟨zb,M.k2 * 2 + 1,none⟩=some (.slice (some ⟨E[M.k2].b,0,none⟩) K K)∧W.frozen? ⟨zb,M.k2 * 2,none⟩=false∧W.cell? ⟨b,9,none⟩=some (.slice (some ⟨zb,0,none⟩) M.n2 M.c2)∧W.cell? ⟨b,10,none⟩=some (.int .i64 (M.k2:Int))):=by
  intro W e
  have c9:=(h.kept (e.blk b)).c 9
  have c10:=(h.kept (e.blk b)).c 10
  simp at c9 c10
  rw [hz] at c9
  exact ⟨(cell_eq (e.blk zb) _).trans k0,(cell_eq (e.blk zb) _).trans k1,(frz_eq (e.blk zb) _).trans f0,c9,c10⟩
 obtain ⟨_,_,_,c9,c10⟩:=HF.out w ⟨rfl,rfl,rfl,rfl⟩
 have b1:((M.k2:Int) == (M.n2:Int))=false:=by simp;omega
 have b2:(M.k2:Int) < (M.n2:Int):=by omega
 have a1:IntKind.i64.wrap ((M.k2:Int) + 1)=((M.k2 + 1:Nat):Int):=by rw [wrap_ok _ (by omega) (by omega)];omega
 have a2:IntKind.i64.wrap ((M.k2:Int) + 1)=(M.k2:Int) + 1:=by rw [wrap_ok _ (by omega) (by omega)]
 clear h hR hc hcb hrz hln hE k0 k1 f0
 obtain ⟨ad,n,c',S,K',tad,tn,tc,j,sb,bits,z1,n1,c1,k1',z2,n2,c2,k2,ub,uc,fok,f1,f2,f3,fw,fs⟩:=M
 dsimp only at *
 subst hz
 generalize hg:E[k2].b=gb at *
 generalize hgi:E[k2].i=gi at *
 clear hg hgi
 go_enter Tryz.func103,Tryz.ntmps103
 go_upto_region 0 with fail
 go_quiet (fail)
 obtain ⟨W0,hW0⟩:∃ W0,W0=w.drewN nq:=⟨_,rfl⟩
 rw [← hW0]
 have e0:Hid (Eqw w W0):=by rw [hW0];exact Eqw.drewN w nq
 clear hW0 c9 c10
 obtain ⟨_,_,_,c9,c10⟩:=HF.out W0 e0.out
 go_upto_region 2 with fail
 go_quiet (fail)
 obtain ⟨W,hW⟩:∃ W,W=W0.drewN nq:=⟨_,rfl⟩
 rw [← hW]
 have e1:Hid (Eqw w W):=by rw [hW];exact e0.out.trans (Eqw.drewN W0 nq)
 clear hW c9 c10
 obtain ⟨k0,k1,f0,c9,c10⟩:=HF.out W e1.out
 obtain ⟨V2,hcp,⟨d10,u10⟩,HZ⟩:=HA.out W e1.out
 clear HA HF
 go_wp2
 go_end0
 exact ⟨rfl,HZ.out.1,HZ.out.2.1,HZ.out.2.2⟩
end Go.Proofs.YtacaanhnlfpbhaaGreat
