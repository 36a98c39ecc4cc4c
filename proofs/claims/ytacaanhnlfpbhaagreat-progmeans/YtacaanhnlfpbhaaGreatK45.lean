/- HELPERS: texts of ours put together. -/
import Derived.Test.YtacaanhnlfpbhaaGreatK44
import Derived.Test.YtacaanhnlfpbhaaGreatK33
namespace Go.Proofs.YtacaanhnlfpbhaaGreat
open Go.RowKit
set_option linter.unusedVariables false
set_option linter.unusedSimpArgs false
set_option maxRecDepth 100000 in
set_option maxHeartbeats 8000000 in
theorem whole32g {base:Nat} {A:Nat → Prop} {N:Nv} {t:Tn} (hA:∀ b,A b → b < base) (hnf:Nf t) {w:World} {m:Nat} (hM:MKL w m base A []) (hm:base ≤ m) (hb:base ≤ w.heap.size) (hT:TP w A N t) (hlen:t.len + 3 ≤ 20000) :
  Calls Tryz.prog 54 #[pt m,N.v] w fun e w' => e = .returned (.tuple #[]) ∧ MKL w' m base A (⟨3,1,0,0,[]⟩ :: (t.lay 1 ++ [⟨3,((t.len + 2:Nat):Int),0,1,[]⟩,⟨5,0,0,0,[]⟩])) ∧ Fr base w w':=by
 obtain ⟨U,hU⟩:∃ U,U = w.alloc (.cells #[.int .i64 N.k,.slice N.r1 N.r2 N.r3,.int .i64 N.a2,.slice N.s1 N.s2 N.s3,.int .i64 N.a4,.int .i64 N.a5,.bool N.a6,.int .i64 N.a7,.string N.a8] 25):=⟨_,rfl⟩
 have hbU:Below w.heap.size w U:=by rw [hU];exact Joins.below_alloc1 w _
 have hQ:BNo U w.heap.size N:=by rw [hU];exact heap_alloc_new w _
 have hbU2:base ≤ U.heap.size:=Nat.le_trans hb hbU.size
 have HF:=hid (Fr.of_below hbU hb)
 have hTU:TP U A N t:=hT.kept (fun b hb' => hbU.block b (by have:=hA b hb';omega)) (fun _ h => h)
 have HTU:=hid hTU
 have H1:=stepL 3 0 0 none 0 0 [] (hM.below hbU hA hb) (im_bare _ _ _ _ _ _) hm hA (by simp) hbU2
 have HQ:=hid hQ
 have HLY:=hid (lay_all hA hnf N)
 obtain ⟨p,hp⟩:∃ p,p = w.heap.size:=⟨_,rfl⟩
 clear hM hbU hQ hT hTU hnf
 go_enter Tryz.func54,Tryz.ntmps54
 go_upto_region 1 with fail
 rw [← hU,← hp]
 rw [← hp] at HQ
 clear hU hp
 go_upto_region 2 with (go_at_call 93;(with_reducible refine H1.mono ?_);rintro e U1 ⟨rfl,hM,hf⟩;have HM1:=hid hM;have HF1:=hid hf;clear hM hf H1)
 have HQ1:Hid (BNo U1 p N):=HF1.out.blk p _ _ _ HQ.out (by decide) (by decide)
 have hb1:base ≤ U1.heap.size:=Nat.le_trans hbU2 HF1.out.size
 have H2:=HLY.out U1 m _ HM1.out hm hb1 (HTU.out.kept (HF1.out.bel hA) (fun _ h => h)) (by simp;omega)
 obtain ⟨c0,c1,c2,c3,c4,c5,c6,c7,c8⟩:=nine' HQ1.out
 go_upto_region 3 with (go_at_call 94;(with_reducible refine H2.mono ?_);rintro e U2 ⟨rfl,hM,hf⟩;have HM2:=hid hM;have HF2:=hid hf;clear hM hf H2)
 clear c0 c1 c2 c3 c4 c5 c6 c7 c8
 have hb2:base ≤ U2.heap.size:=Nat.le_trans hb1 HF2.out.size
 have hM2:MKL U2 m base A (⟨3,1,0,0,[]⟩ :: t.lay 1):=by simpa using HM2.out
 have hl2:((⟨3,1,0,0,[]⟩:In) :: t.lay 1).length = t.len + 1:=by simp [lay_len]
 have H3:=stepL 3 0 1 none 0 0 [] hM2 (im_bare _ _ _ _ _ _) hm hA (by rw [hl2];omega) hb2
 rw [hl2] at H3
 clear hM2 hl2
 go_upto_region 4 with (go_at_call 93;(with_reducible refine H3.mono ?_);rintro e U3 ⟨rfl,hM,hf⟩;have HM3:=hid hM;have HF3:=hid hf;clear hM hf H3)
 have hb3:base ≤ U3.heap.size:=Nat.le_trans hb2 HF3.out.size
 have H4:=addL ⟨5,0,0,0,none,0,0⟩ ⟨5,0,0,0,[]⟩ HM3.out (im_bare _ _ _ _ _ _) hm hA (by simp [lay_len];omega) hb3
 go_wp2_with (first | (go_at_call 95;(with_reducible refine H4.mono ?_);rintro e U4 ⟨rfl,hM,hf⟩;have HM4:=hid hM;have HF4:=hid hf;clear hM hf H4))
 go_end0
 refine ⟨rfl,?_,HF.out.trans (HF1.out.trans (HF2.out.trans (HF3.out.trans HF4.out)))⟩
 have h:=HM4.out
 have e:(((t.len + 1:Nat):Int) + 1) = ((t.len + 2:Nat):Int):=by push_cast;omega
 rw [e] at h
 simpa [List.append_assoc] using h
set_option maxRecDepth 100000 in
set_option maxHeartbeats 4000000 in
theorem newRow31g (k:Nat) (hk:k ≤ 20000) (w:World):Calls Tryz.prog 53 #[.int .i64 (k:Int)] w fun e w' => ∃ z1 c,e = .returned (.agg #[.slice z1 0 c]) ∧ w'.ownsRow w.heap.size 86 5 (.slice z1 0 c) 0 [] ∧ Below w.heap.size w w':=by
 have hmk:=make51 k (by omega) (w.alloc (.cells #[.slice none 0 0] 90))
 have hs0:(w.alloc (.cells #[.slice none 0 0] 90)).heap.size = w.heap.size + 1:=by simp
 have hown0:=made_own51 k (by unfold maxLen;omega) w.heap.size (w.alloc (.cells #[.slice none 0 0] 90)) (by simp)
 rw [hs0] at hmk hown0
 clear hs0
 have hQ:((w.alloc (.cells #[.slice none 0 0] 90)).alloc (.cells (madeCells Z5.cells (k * 5)) 86)).heap[w.heap.size]? = some (.cells #[.slice none 0 0] 90 (0,0)):=(heap_alloc_old _ _ (by simp)).trans (heap_alloc_new w _)
 have hbV:Below w.heap.size w ((w.alloc (.cells #[.slice none 0 0] 90)).alloc (.cells (madeCells Z5.cells (k * 5)) 86)):=below_two' w _ _
 obtain ⟨V,hV⟩:∃ V,V = (w.alloc (.cells #[.slice none 0 0] 90)).alloc (.cells (madeCells Z5.cells (k * 5)) 86):=⟨_,rfl⟩
 rw [← hV] at hmk hown0 hQ hbV
 have f0:=Joins.unfrozen_of_block hQ 0
 have k0:=Joins.cell_of_block hQ 0
 have HQ:=hid hQ
 have HB:=hid hbV
 have HO:=hid hown0
 clear hV hown0 hQ hbV
 go_enter Tryz.func53,Tryz.ntmps53
 go_wp2_with fail
 refine bodyPost_ret (results_cell_row rfl _ _ w.heap.size 90 _ (0,0) _ rfl (Joins.block_setCell (i:=0) HQ.out _) Tryz.underlying90 rfl (by kernel_rfl)) rfl ?_
 exact ⟨some ⟨w.heap.size + 1,0,none⟩,k,rfl,own_setCell HO.out (fun e => by simp [Value.ownBlock] at e),HB.out.setCell (p:=⟨w.heap.size,0,none⟩) (Nat.le_refl _) _⟩
theorem lnL_app (a b:List Tn) (n:Nat):lnL (a ++ b) n = lnL b (lnL a n):=by
 induction a generalizing n with
 | nil => rfl
 | cons t a ih => simp only [List.cons_append,lnL,ih]
theorem lnL_take (ts:List Tn) (i:Nat) (hi:i < ts.length):lnL (ts.take (i + 1)) 0 = min (lnL (ts.take i) 0 + ts[i].ln) 20001:=by
 rw [List.take_succ_eq_append_getElem hi,lnL_app];rfl
theorem lnL_le (ts:List Tn):∀ a,a ≤ 20001 → lnL ts a ≤ 20001:=by
 induction ts with
 | nil => exact fun a h => h
 | cons t ts ih => exact fun a h => ih _ (by omega)
theorem topL_app (a b:List Tn) (n:Int):topL (a ++ b) n = topL b (topL a n):=by
 induction a generalizing n with
 | nil => rfl
 | cons t a ih => simp only [List.cons_append,topL,ih]
theorem topL_take (ts:List Tn) (i:Nat) (hi:i < ts.length) (a:Int):topL (ts.take (i + 1)) a = max (topL (ts.take i) a) ts[i].top:=by
 rw [List.take_succ_eq_append_getElem hi,topL_app];rfl
def repLn (p:Nat) (mx:Int) (s:Nat):Nat:=if mx ≠ -1 then p * s + (mx - p).toNat * (1 + s) else if p = 0 then s + 2 else p * s + 1
theorem repLn_le {p s:Nat} {mx:Int} (hp:p ≤ 1000) (hm:mx = -1 ∨ (p:Int) ≤ mx ∧ mx ≤ 1000) (hs:s ≤ 20001):repLn p mx s ≤ 50000000:=by
 unfold repLn
 have h1:p * s ≤ 1000 * 20001:=Nat.mul_le_mul hp hs
 have h2:(mx - p).toNat * (1 + s) ≤ 1000 * 20002:=Nat.mul_le_mul (by omega) (by omega)
 split
 ·omega
 ·split <;> omega
theorem ln_le (t:Tn) (h:t.fine = true) (hn:t.nodes ≤ 200000):t.ln ≤ 50000000:=by
 obtain ⟨k,R,a,s,mn,mx,lz,ix,nm⟩:=t
 simp only [Tn.fine,Bool.and_eq_true] at h
 have hfk:=fine_kind0 h.1
 have hl:=lnL_le s 0 (by omega)
 have hg:=nodes_ge s
 simp only [Tn.nodes] at hn
 simp only [Tn.ln]
 split
 ·omega
 split
 ·omega
 split
 ·omega
 split
 ·rename_i k6
  have hr:=repLn_le (p:=mn.toNat) (s:=lnL s 0) (mx:=mx) (by omega) (by omega) hl
  unfold repLn at hr
  rw [show ((mn.toNat:Nat):Int) = mn by omega] at hr
  by_cases h0:mn = 0
  ·subst h0;simpa using hr
  ·rw [if_neg (show ¬ mn.toNat = 0 by omega)] at hr;rw [if_neg h0];exact hr
 ·omega
set_option maxRecDepth 100000 in
set_option maxHeartbeats 4000000 in
theorem rep67 (p s:Nat) (mx:Int) (w:World) (hp:p ≤ 1000) (hm:mx = -1 ∨ (p:Int) ≤ mx ∧ mx ≤ 1000) (hs:s ≤ 20001):Calls Tryz.prog 129 #[.int .i64 (p:Int),.int .i64 mx,.int .i64 (s:Int)] w fun e w' => e = .returned (.int .i64 ((repLn p mx s:Nat):Int)) ∧ w' = w:=by
 obtain ⟨a,ha⟩:∃ a:Nat,a = p * s:=⟨_,rfl⟩
 have h1:a ≤ 1000 * 20001:=by rw [ha];exact Nat.mul_le_mul hp hs
 have hps:(p:Int) * (s:Int) = (a:Int):=by rw [ha];push_cast;rfl
 have w1:IntKind.i64.wrap ((p:Int) * (s:Int)) = (a:Int):=by rw [hps];simp [IntKind.wrap,IntKind.bits,IntKind.signed];omega
 by_cases hx:mx = -1
 ·subst hx
  by_cases h0:p = 0
  ·subst h0
   have w2:IntKind.i64.wrap ((s:Int) + 2) = (s:Int) + 2:=by simp [IntKind.wrap,IntKind.bits,IntKind.signed];omega
   have e:((repLn 0 (-1) s:Nat):Int) = (s:Int) + 2:=by simp [repLn]
   rw [e]
   go_enter Tryz.func129,Tryz.ntmps129
   go_wp2
   all_goals go_ret
   all_goals exact ⟨rfl,rfl⟩
  ·have g0:((p:Int) == 0) = false:=by simp [h0]
   have w2:IntKind.i64.wrap ((a:Int) + 1) = (a:Int) + 1:=by simp [IntKind.wrap,IntKind.bits,IntKind.signed];omega
   have e:((repLn p (-1) s:Nat):Int) = (a:Int) + 1:=by simp [repLn,h0,ha]
   rw [e]
   clear hps ha
   go_enter Tryz.func129,Tryz.ntmps129
   go_wp2
   all_goals go_ret
   all_goals exact ⟨rfl,rfl⟩
 ·obtain ⟨q,hq⟩:∃ q:Nat,mx - (p:Int) = (q:Int):=⟨(mx - p).toNat,by omega⟩
  obtain ⟨b,hb⟩:∃ b:Nat,b = q * (1 + s):=⟨_,rfl⟩
  have h2:b ≤ 1000 * 20002:=by rw [hb];exact Nat.mul_le_mul (by omega) (by omega)
  have g0:(mx == -1) = false:=by simp [hx]
  have w2:IntKind.i64.wrap (mx - (p:Int)) = (q:Int):=by rw [hq];simp [IntKind.wrap,IntKind.bits,IntKind.signed];omega
  have w3:IntKind.i64.wrap (1 + (s:Int)) = 1 + (s:Int):=by simp [IntKind.wrap,IntKind.bits,IntKind.signed];omega
  have w4:IntKind.i64.wrap ((q:Int) * (1 + (s:Int))) = (b:Int):=by
   have:(q:Int) * (1 + (s:Int)) = (b:Int):=by rw [hb];push_cast;rfl
   rw [this];simp [IntKind.wrap,IntKind.bits,IntKind.signed];omega
  have w5:IntKind.i64.wrap ((a:Int) + (b:Int)) = (a:Int) + (b:Int):=by simp [IntKind.wrap,IntKind.bits,IntKind.signed];omega
  have e:((repLn p mx s:Nat):Int) = (a:Int) + (b:Int):=by
   unfold repLn
   rw [if_pos hx,hq,ha,hb]
   simp
  rw [e]
  clear hps ha hb hq
  go_enter Tryz.func129,Tryz.ntmps129
  go_wp2
  all_goals go_ret
  all_goals exact ⟨rfl,rfl⟩
set_option maxRecDepth 100000 in
set_option maxHeartbeats 8000000 in
theorem length45 {w0:World} {B:Nat} {N:Nv} {t:Tn} (h:TI w0 B N t):t.fine = true → t.nodes ≤ 200000 → ∀ (w:World),B ≤ w.heap.size → (∀ b,b < B → w.heap[b]? = w0.heap[b]?) →
  Calls Tryz.prog 90 #[N.v] w fun e w' => e = .returned (.int .i64 ((t.ln:Nat):Int)) ∧ Below w.heap.size w w':=by
 induction h with
 | @mk N R ts ND ok hr hR hRk hs hS hk ih =>
 intro hf hno w hB hw
 simp only [Tn.fine,Bool.and_eq_true] at hf
 simp only [Tn.nodes] at hno
 have hfk:=fine_kind0 hf.1
 have hlen:ts.length ≤ 200000:=by have:=nodes_ge ts;omega
 have ihS:∀ i (hi:i < ts.length),∀ w1:World,B ≤ w1.heap.size → (∀ b,b < B → w1.heap[b]? = w0.heap[b]?) → Calls Tryz.prog 90 #[(ND i).v] w1 fun e w' => e = .returned (.int .i64 ((ts[i].ln:Nat):Int)) ∧ Below w1.heap.size w1 w':=fun i hi => ih i hi (fineL_get hf.2 i hi) (by have:=nodes_get ts i hi;omega)
 have hLe:∀ i (hi:i < ts.length),ts[i].ln ≤ 50000000:=fun i hi => ln_le _ (fineL_get hf.2 i hi) (by have:=nodes_get ts i hi;omega)
 obtain ⟨k,r1,r2,r3,a2,s1,s2,s3,a4,a5,a6,a7,a8⟩:=N
 dsimp only at hs hS hfk
 obtain ⟨W,hW⟩:∃ W,W = w.alloc (.cells #[.int .i64 k,.slice r1 r2 r3,.int .i64 a2,.slice s1 s2 s3,.int .i64 a4,.int .i64 a5,.bool a6,.int .i64 a7,.string a8] 25):=⟨_,rfl⟩
 have hBW:Below w.heap.size w W:=by rw [hW];exact Joins.below_alloc1 w _
 have hSW:W.heap.size = w.heap.size + 1:=by rw [hW];simp
 have hBN:BNo W w.heap.size ⟨k,r1,r2,r3,a2,s1,s2,s3,a4,a5,a6,a7,a8⟩:=by rw [hW];exact heap_alloc_new w _
 obtain ⟨z,hz⟩:∃ z,z = w.heap.size:=⟨_,rfl⟩
 rw [← hz] at hBN hSW hB
 have hwW:∀ b,b < B → W.heap[b]? = w0.heap[b]?:=fun b hb => (hBW.block b (by omega)).trans (hw b hb)
 obtain ⟨q0,q1,q2,q3,q4,q5,q6,q7,q8⟩:=nine' hBN
 have hm2:s2 ≤ 200000:=by omega
 have HBN:=hid hBN
 have HBW:=hid hBW
 have HSW:=hid hSW
 have HZ:=hid hz
 have HWW:=hid hwW
 have HIS:=hid ihS
 have HLE:=hid hLe
 have HS:=hid hS
 have HL:=hid hs
 have HFK:=hid hfk
 have HT:Hid ((Tn.mk k R a2 ts a4 a5 a6 a7 a8).ln = (Tn.mk k R a2 ts a4 a5 a6 a7 a8).ln):=rfl
 obtain ⟨TL0,hTL⟩:∃ x:Nat,x = (Tn.mk k R a2 ts a4 a5 a6 a7 a8).ln:=⟨_,rfl⟩
 show Calls Tryz.prog 90 _ w fun e w' => e = .returned (.int .i64 (((Tn.mk k R a2 ts a4 a5 a6 a7 a8).ln:Nat):Int)) ∧ _
 rw [← hTL]
 have HTL:=hid hTL
 clear hw hBN hBW hSW hwW ihS hLe hS hk ih hf hno hfk hlen ok hr hR hRk hs HT hTL
 go_enter Tryz.func90,Tryz.ntmps90
 go_upto_region 1 with fail
 rw [← hz,← hW]
 clear hz hW
 go_wp2_with fail
 go_loopw [3,9] (fun u y wq => ∃ (i a:Nat),u = .int .i64 (a:Int) ∧ y = .int .i64 (i:Int) ∧ i ≤ s2 ∧ a ≤ 20001 ∧ Hid (a = lnL (ts.take i) 0) ∧ Hid (Below W.heap.size W wq)) (fun _ y _ => s2 - (intOf y).toNat)
 case atStart => exact ⟨0,0,rfl,rfl,by omega,by omega,by show _ = _;simp [lnL],Below.refl _ _⟩
 case round =>
  obtain ⟨i,a,rfl,rfl,hi,ha,HA,HB⟩:=hrel
  have hbs:=HB.out.size
  have hsw:=HSW.out
  have bN:=(HB.out.block z (by omega)).trans HBN.out
  clear q0 q1 q2 q3 q4 q5 q6 q7 q8
  obtain ⟨q0,q1,q2,q3,q4,q5,q6,q7,q8⟩:=nine' bN
  clear bN
  by_cases hil:i < s2
  ·have b1:decide ((i:Int) < (s2:Int)) = true:=by simp;omega
   have b2:(i:Int) < (s2:Int):=by omega
   have ad1:IntKind.i64.wrap ((i:Int) + 1) = (i:Int) + 1:=by simp [IntKind.wrap,IntKind.bits,IntKind.signed];omega
   have hlt:i < ts.length:=by have:=HL.out;omega
   obtain ⟨b,o,hs1,hbl,h9⟩:=HS.out (by omega)
   subst hs1
   have hwk:∀ b,b < B → wr.heap[b]? = w0.heap[b]?:=fun b hb => (HB.out.block b (by omega)).trans (HWW.out b hb)
   obtain ⟨n0,n1,n2,n3,n4,n5,n6,n7,n8⟩:=(h9 i hlt).kept (hwk b hbl)
   obtain ⟨M,hMe⟩:∃ M,M = ND i:=⟨_,rfl⟩
   have hIH:=HIS.out i hlt
   have hle:=HLE.out i hlt
   have htk:=lnL_take ts i hlt
   rw [← HA.out] at htk
   obtain ⟨l,hl⟩:∃ l,l = ts[i].ln:=⟨_,rfl⟩
   rw [← hl] at hIH hle htk
   rw [← hMe] at hIH n0 n1 n2 n3 n4 n5 n6 n7 n8
   have HTK:=hid htk
   have ad2:IntKind.i64.wrap ((a:Int) + (l:Int)) = (a:Int) + (l:Int):=by simp [IntKind.wrap,IntKind.bits,IntKind.signed];omega
   obtain ⟨c,hc⟩:∃ c:Nat,min ((a:Int) + (l:Int)) 20001 = (c:Int):=⟨min (a + l) 20001,by omega⟩
   have HCC:Hid (c = min (a + l) 20001):=by show _ = _;omega
   have HIH:=hid hIH
   have HWK:=hid hwk
   clear h9 hMe hl htk hIH hwk
   go_upto_region 5 with fail
   obtain ⟨X,hX⟩:∃ X,X = wr.alloc (.cells #[.int .i64 M.k,.slice M.r1 M.r2 M.r3,.int .i64 M.a2,.slice M.s1 M.s2 M.s3,.int .i64 M.a4,.int .i64 M.a5,.bool M.a6,.int .i64 M.a7,.string M.a8] 25):=⟨_,rfl⟩
   rw [← hX]
   have hXb:Below wr.heap.size wr X:=by rw [hX];exact Joins.below_alloc1 wr _
   have hXn:BNo X wr.heap.size M:=by rw [hX];exact heap_alloc_new wr _
   have HC:=HIH.out X (by have:=hXb.size;omega) (fun b hb => (hXb.block b (by omega)).trans (HWK.out b hb))
   obtain ⟨x0,x1,x2,x3,x4,x5,x6,x7,x8⟩:=nine' hXn
   have HXB:=hid hXb
   clear hX hXb hXn n0 n1 n2 n3 n4 n5 n6 n7 n8 q0 q1 q2 q3 q4 q5 q6 q7 q8
   go_wp2_with (first | (go_at_call 90;(with_reducible refine HC.mono ?_);rintro e w2 ⟨rfl,hb2⟩;have HB2:=hid hb2;clear hb2 HC))
   refine ⟨⟨i + 1,c,rfl,by push_cast;rfl,by omega,by have:=HCC.out;omega,?_,?_⟩,by simp [intOf];omega⟩
   ·show _ = _
    rw [HTK.out,HCC.out]
   ·exact (HB.out.trans (Joins.below_le HXB.out hbs)).trans (Joins.below_le HB2.out (by have:=HXB.out.size;omega))
  ·have b1:decide ((i:Int) < (s2:Int)) = false:=by simp;omega
   obtain rfl:i = s2:=by omega
   have htk:ts.take i = ts:=by rw [HL.out,List.take_length]
   have hA:=HA.out
   rw [htk] at hA
   have hfin:Below w.heap.size w wr:=HBW.out.trans (Joins.below_le HB.out HBW.out.size)
   have HFIN:=hid hfin
   have hTL:=HTL.out
   simp only [Tn.ln] at hTL
   rw [← hA] at hTL
   have HHL:=hid HL.out
   clear hfin htk hA HA HB HIS HLE HS HWW
   by_cases k2:k = 2
   ·subst k2
    have e:TL0 = 1:=by rw [hTL];simp
    subst e
    clear hTL
    go_wp2
    all_goals go_ret
    all_goals exact ⟨rfl,HFIN.out⟩
   have g2:(k == 2) = false:=by simp [k2]
   by_cases k3:k = 3
   ·subst k3
    have e:TL0 = 1:=by rw [hTL];simp
    subst e
    clear hTL
    go_wp2
    all_goals go_ret
    all_goals exact ⟨rfl,HFIN.out⟩
   have g3:(k == 3) = false:=by simp [k3]
   by_cases k7:k = 7
   ·subst k7
    have e:(TL0:Int) = (a:Int) + 2:=by rw [hTL];simp
    have w2:IntKind.i64.wrap ((a:Int) + 2) = (a:Int) + 2:=by simp [IntKind.wrap,IntKind.bits,IntKind.signed];omega
    clear hTL
    go_wp2
    all_goals go_ret
    all_goals first | exact ⟨rfl,HFIN.out⟩ | exact ⟨by rw [e],HFIN.out⟩
   have g7:(k == 7) = false:=by simp [k7]
   by_cases k5:k = 5
   ·subst k5
    have hge:2 ≤ i:=by have:=HFK.out;have:=HHL.out;omega
    obtain ⟨d,rfl⟩:∃ d,i = d + 1:=⟨i - 1,by omega⟩
    have e:(TL0:Int) = (a:Int) + 2 * (d:Int):=by rw [hTL];simp;have:=HHL.out;omega
    have w2:IntKind.i64.wrap (((d + 1:Nat):Int) - 1) = (d:Int):=by simp [IntKind.wrap,IntKind.bits,IntKind.signed];omega
    have w3:IntKind.i64.wrap (2 * (d:Int)) = 2 * (d:Int):=by simp [IntKind.wrap,IntKind.bits,IntKind.signed];omega
    have w4:IntKind.i64.wrap ((a:Int) + 2 * (d:Int)) = (a:Int) + 2 * (d:Int):=by simp [IntKind.wrap,IntKind.bits,IntKind.signed];omega
    have w5:IntKind.i64.wrap ((d:Int) + 1 - 1) = (d:Int):=by simp [IntKind.wrap,IntKind.bits,IntKind.signed];omega
    clear hTL
    go_wp2
    all_goals go_ret
    all_goals first | exact ⟨rfl,HFIN.out⟩ | exact ⟨by rw [e],HFIN.out⟩
   have g5:(k == 5) = false:=by simp [k5]
   by_cases k6:k = 6
   ·subst k6
    obtain ⟨p,hp⟩:∃ p:Nat,a4 = (p:Int):=⟨a4.toNat,by have:=HFK.out;omega⟩
    subst hp
    have e:TL0 = repLn p a5 a:=by rw [hTL];simp [repLn]
    subst e
    have HC:=fun W' => rep67 p a a5 W' (by have:=HFK.out;omega) (by have:=HFK.out;omega) ha
    clear hTL
    go_wp2_with (first | (go_at_call 129;(with_reducible refine (HC _).mono ?_);rintro e w3 ⟨rfl,hw3⟩;have hw4:=hw3.symm;clear hw3;subst hw4))
    all_goals go_ret
    all_goals exact ⟨rfl,HFIN.out⟩
   have g6:(k == 6) = false:=by simp [k6]
   have e:TL0 = a:=by rw [hTL];simp [k2,k3,k5,k6,k7]
   subst e
   clear hTL
   go_wp2
   all_goals go_ret
   all_goals exact ⟨rfl,HFIN.out⟩
set_option maxRecDepth 100000 in
set_option maxHeartbeats 4000000 in
theorem whole29 {w:World} {N:Nv} {t:Tn} (h:TI w w.heap.size N t) (hf:t.fine = true) (hn:t.nodes ≤ 200000):Calls Tryz.prog 51 #[N.v] w fun e w' => e = .returned (.int .i64 (3 + (t.ln:Int))) ∧ Below w.heap.size w w':=by
 have hle:=ln_le t hf hn
 have HC:=length45 h hf hn (w.alloc (.cells #[.int .i64 N.k,.slice N.r1 N.r2 N.r3,.int .i64 N.a2,.slice N.s1 N.s2 N.s3,.int .i64 N.a4,.int .i64 N.a5,.bool N.a6,.int .i64 N.a7,.string N.a8] 25)) (by simp) (fun b hb => heap_alloc_old w _ hb)
 obtain ⟨l,hl⟩:∃ l,l = t.ln:=⟨_,rfl⟩
 rw [← hl] at HC hle ⊢
 have w2:IntKind.i64.wrap (3 + (l:Int)) = 3 + (l:Int):=by simp [IntKind.wrap,IntKind.bits,IntKind.signed];omega
 clear hl h
 go_enter Tryz.func51,Tryz.ntmps51
 go_wp2_with (first | (go_at_call 90;(with_reducible refine HC.mono ?_);rintro e w3 ⟨rfl,hb3⟩;have HB3:=hid hb3;clear hb3 HC))
 all_goals go_ret
 all_goals exact ⟨rfl,(Joins.below_alloc1 w _).trans (Joins.below_le HB3.out (by simp))⟩
set_option maxRecDepth 100000 in
set_option maxHeartbeats 8000000 in
theorem great33 {w0:World} {B:Nat} {N:Nv} {t:Tn} (h:TI w0 B N t):t.fine = true → t.nodes ≤ 200000 → ∀ (w:World),B ≤ w.heap.size → (∀ b,b < B → w.heap[b]? = w0.heap[b]?) →
  Calls Tryz.prog 55 #[N.v] w fun e w' => e = .returned (.int .i64 t.top) ∧ Below w.heap.size w w':=by
 induction h with
 | @mk N R ts ND ok hr hR hRk hs hS hk ih =>
 intro hf hno w hB hw
 simp only [Tn.fine,Bool.and_eq_true] at hf
 simp only [Tn.nodes] at hno
 have hfk:=fine_kind0 hf.1
 have hlen:ts.length ≤ 200000:=by have:=nodes_ge ts;omega
 have ihS:∀ i (hi:i < ts.length),∀ w1:World,B ≤ w1.heap.size → (∀ b,b < B → w1.heap[b]? = w0.heap[b]?) → Calls Tryz.prog 55 #[(ND i).v] w1 fun e w' => e = .returned (.int .i64 ts[i].top) ∧ Below w1.heap.size w1 w':=fun i hi => ih i hi (fineL_get hf.2 i hi) (by have:=nodes_get ts i hi;omega)
 have hLe:∀ i (hi:i < ts.length),0 ≤ ts[i].top ∧ ts[i].top ≤ 500:=fun i hi => top_fine _ (fineL_get hf.2 i hi)
 have hix:=fine_ix hf.1
 obtain ⟨k,r1,r2,r3,a2,s1,s2,s3,a4,a5,a6,a7,a8⟩:=N
 dsimp only at hs hS hfk hix
 obtain ⟨W,hW⟩:∃ W,W = w.alloc (.cells #[.int .i64 k,.slice r1 r2 r3,.int .i64 a2,.slice s1 s2 s3,.int .i64 a4,.int .i64 a5,.bool a6,.int .i64 a7,.string a8] 25):=⟨_,rfl⟩
 have hBW:Below w.heap.size w W:=by rw [hW];exact Joins.below_alloc1 w _
 have hSW:W.heap.size = w.heap.size + 1:=by rw [hW];simp
 have hBN:BNo W w.heap.size ⟨k,r1,r2,r3,a2,s1,s2,s3,a4,a5,a6,a7,a8⟩:=by rw [hW];exact heap_alloc_new w _
 obtain ⟨z,hz⟩:∃ z,z = w.heap.size:=⟨_,rfl⟩
 rw [← hz] at hBN hSW hB
 have hwW:∀ b,b < B → W.heap[b]? = w0.heap[b]?:=fun b hb => (hBW.block b (by omega)).trans (hw b hb)
 obtain ⟨q0,q1,q2,q3,q4,q5,q6,q7,q8⟩:=nine' hBN
 have hm2:s2 ≤ 200000:=by omega
 have HBN:=hid hBN
 have HBW:=hid hBW
 have HSW:=hid hSW
 have HZ:=hid hz
 have HWW:=hid hwW
 have HIS:=hid ihS
 have HLE:=hid hLe
 have HS:=hid hS
 have HL:=hid hs
 have HFK:=hid hfk
 obtain ⟨T0,hT0⟩:∃ x:Int,x = topL ts a7:=⟨_,rfl⟩
 show Calls Tryz.prog 55 _ w fun e w' => e = .returned (.int .i64 (topL ts a7)) ∧ _
 rw [← hT0]
 have HT0:=hid hT0
 clear hw hBN hBW hSW hwW ihS hLe hS hk ih hf hno hfk hlen ok hr hR hRk hs hT0
 go_enter Tryz.func55,Tryz.ntmps55
 go_upto_region 1 with fail
 rw [← hz,← hW]
 clear hz hW
 go_wp2_with fail
 go_loopw [3,11] (fun u y wq => ∃ (i:Nat) (a:Int),u = .int .i64 a ∧ y = .int .i64 (i:Int) ∧ i ≤ s2 ∧ (0 ≤ a ∧ a ≤ 500) ∧ Hid (a = topL (ts.take i) a7) ∧ Hid (Below W.heap.size W wq)) (fun _ y _ => s2 - (intOf y).toNat)
 case atStart => exact ⟨0,a7,rfl,rfl,by omega,hix,by show _ = _;simp [topL],Below.refl _ _⟩
 case round =>
  obtain ⟨i,a,rfl,rfl,hi,ha,HA,HB⟩:=hrel
  have hbs:=HB.out.size
  have hsw:=HSW.out
  have bN:=(HB.out.block z (by omega)).trans HBN.out
  clear q0 q1 q2 q3 q4 q5 q6 q7 q8
  obtain ⟨q0,q1,q2,q3,q4,q5,q6,q7,q8⟩:=nine' bN
  clear bN
  by_cases hil:i < s2
  ·have b1:decide ((i:Int) < (s2:Int)) = true:=by simp;omega
   have b2:(i:Int) < (s2:Int):=by omega
   have ad1:IntKind.i64.wrap ((i:Int) + 1) = (i:Int) + 1:=by simp [IntKind.wrap,IntKind.bits,IntKind.signed];omega
   have hlt:i < ts.length:=by have:=HL.out;omega
   obtain ⟨b,o,hs1,hbl,h9⟩:=HS.out (by omega)
   subst hs1
   have hwk:∀ b,b < B → wr.heap[b]? = w0.heap[b]?:=fun b hb => (HB.out.block b (by omega)).trans (HWW.out b hb)
   obtain ⟨n0,n1,n2,n3,n4,n5,n6,n7,n8⟩:=(h9 i hlt).kept (hwk b hbl)
   obtain ⟨M,hMe⟩:∃ M,M = ND i:=⟨_,rfl⟩
   have hIH:=HIS.out i hlt
   have hle:=HLE.out i hlt
   have htk:=topL_take ts i hlt a7
   rw [← HA.out] at htk
   obtain ⟨l,hl⟩:∃ l,l = ts[i].top:=⟨_,rfl⟩
   rw [← hl] at hIH hle htk
   rw [← hMe] at hIH n0 n1 n2 n3 n4 n5 n6 n7 n8
   have HTK:=hid htk
   obtain ⟨c,hc⟩:∃ c:Int,max a l = c:=⟨_,rfl⟩
   have HCC:=hid hc
   have HIH:=hid hIH
   have HWK:=hid hwk
   clear h9 hMe hl htk hIH hwk
   go_upto_region 5 with fail
   obtain ⟨X,hX⟩:∃ X,X = wr.alloc (.cells #[.int .i64 M.k,.slice M.r1 M.r2 M.r3,.int .i64 M.a2,.slice M.s1 M.s2 M.s3,.int .i64 M.a4,.int .i64 M.a5,.bool M.a6,.int .i64 M.a7,.string M.a8] 25):=⟨_,rfl⟩
   rw [← hX]
   have hXb:Below wr.heap.size wr X:=by rw [hX];exact Joins.below_alloc1 wr _
   have hXn:BNo X wr.heap.size M:=by rw [hX];exact heap_alloc_new wr _
   have HC:=HIH.out X (by have:=hXb.size;omega) (fun b hb => (hXb.block b (by omega)).trans (HWK.out b hb))
   obtain ⟨x0,x1,x2,x3,x4,x5,x6,x7,x8⟩:=nine' hXn
   have HXB:=hid hXb
   clear hX hXb hXn n0 n1 n2 n3 n4 n5 n6 n7 n8 q0 q1 q2 q3 q4 q5 q6 q7 q8
   go_wp2_with (first | (go_at_call 55;(with_reducible refine HC.mono ?_);rintro e w2 ⟨rfl,hb2⟩;have HB2:=hid hb2;clear hb2 HC))
   refine ⟨⟨i + 1,c,rfl,by push_cast;rfl,by omega,by have:=HCC.out;omega,?_,?_⟩,by simp [intOf];omega⟩
   ·show _ = _
    rw [HTK.out];exact HCC.out.symm
   ·exact (HB.out.trans (Joins.below_le HXB.out hbs)).trans (Joins.below_le HB2.out (by have:=HXB.out.size;omega))
  ·have b1:decide ((i:Int) < (s2:Int)) = false:=by simp;omega
   obtain rfl:i = s2:=by omega
   have htk:ts.take i = ts:=by rw [HL.out,List.take_length]
   have hA:=HA.out
   rw [htk] at hA
   have hfin:Below w.heap.size w wr:=HBW.out.trans (Joins.below_le HB.out HBW.out.size)
   have HFIN:=hid hfin
   have e:T0 = a:=by rw [HT0.out];exact hA.symm
   subst e
   clear hfin htk hA HA HB HIS HLE HS HWW
   go_wp2
   all_goals go_ret
   all_goals exact ⟨rfl,HFIN.out⟩
end Go.Proofs.YtacaanhnlfpbhaaGreat
