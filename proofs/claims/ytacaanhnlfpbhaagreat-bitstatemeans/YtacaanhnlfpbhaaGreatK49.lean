/- HELPERS: texts of ours put together. -/
import Derived.Test.YtacaanhnlfpbhaaGreatK48
namespace Go.Proofs.YtacaanhnlfpbhaaGreat
open Go.RowKit
set_option linter.unusedVariables false
set_option linter.unusedSimpArgs false
def In.setX (x:Int) (I:In):In:=⟨I.op,x,I.y,I.a,I.R⟩
def In.setY (y:Int) (I:In):In:=⟨I.op,I.x,y,I.a,I.R⟩
def Iv.setX (x:Int) (N:Iv):Iv:=⟨N.op,x,N.y,N.a,N.r1,N.r2,N.r3⟩
def Iv.setY (y:Int) (N:Iv):Iv:=⟨N.op,N.x,y,N.a,N.r1,N.r2,N.r3⟩
theorem flat5_X:∀ (MS:List Iv) (i:Nat) (x:Int),i < MS.length → (MS.flatMap Iv.cs).set (i * 5 + 1) (.int .i64 x) = (MS.modify i (Iv.setX x)).flatMap Iv.cs
 | [],i,x,h => by simp at h
 | M :: MS,0,x,h => by simp [Iv.setX,List.modify]
 | M :: MS,i + 1,x,h => by
  have ih:=flat5_X MS i x (by simpa using h)
  rw [List.flatMap_cons,show (i + 1) * 5 + 1 = (Iv.cs M).length + (i * 5 + 1) by simp;omega,List.set_append_right _ _ (by omega),Nat.add_sub_cancel_left,ih]
  simp [List.modify]
theorem flat5_Y:∀ (MS:List Iv) (i:Nat) (x:Int),i < MS.length → (MS.flatMap Iv.cs).set (i * 5 + 2) (.int .i64 x) = (MS.modify i (Iv.setY x)).flatMap Iv.cs
 | [],i,x,h => by simp at h
 | M :: MS,0,x,h => by simp [Iv.setY,List.modify]
 | M :: MS,i + 1,x,h => by
  have ih:=flat5_Y MS i x (by simpa using h)
  rw [List.flatMap_cons,show (i + 1) * 5 + 2 = (Iv.cs M).length + (i * 5 + 2) by simp;omega,List.set_append_right _ _ (by omega),Nat.add_sub_cancel_left,ih]
  simp [List.modify]
theorem row_set1 {w:World} {base e s g n cap j:Nat} {xs:List Value} (h:w.ownsRow base e s (.slice (some ⟨g,0,none⟩) n cap) n xs) (hj:j < xs.length) (v:Value):(w.setCell ⟨g,j,none⟩ v).ownsRow base e s (.slice (some ⟨g,0,none⟩) n cap) n (xs.set j v):=by
 have hlen:=h.1
 refine ⟨by simpa using hlen,.inr ?_⟩
 rcases h.2 with ⟨h,_⟩ | ⟨g',cap',cur,he,hb,hgg,h1,h2,h3,h4⟩
 ·cases h
 ·simp only [Value.slice.injEq,Option.some.injEq,Addr.mk.injEq] at he
  obtain ⟨⟨rfl,_⟩,_,rfl⟩:=he
  refine ⟨g,cap,cur.setIfInBounds j v,rfl,hb,Joins.block_setCell hgg v,h1,h2,by simpa using h3,?_⟩
  rw [← h4,Array.toList_setIfInBounds]
  exact List.take_set
structure MKx (w:World) (m base g c:Nat) (A:Nat → Prop) (is:List Iv) (l:List In):Prop where
 bx:BxM w m (some ⟨g,0,none⟩) l.length c
 row:w.ownsRow base 86 5 (.slice (some ⟨g,0,none⟩) l.length c) l.length (is.flatMap Iv.cs)
 len:is.length = l.length
 im:∀ k (h:k < is.length) (h':k < l.length),IMp w A is[k] l[k]
theorem MKL.open {w:World} {m base:Nat} {A:Nat → Prop} {l:List In} (h:MKL w m base A l) (hp:0 < l.length):∃ g c is,MKx w m base g c A is l:=by
 obtain ⟨is,⟨z1,c,h1,h2⟩,h3,h4⟩:=h
 rcases h2.2 with ⟨e,h0⟩ | ⟨g,cap,cur,e,_⟩
 ·omega
 ·simp only [Value.slice.injEq,true_and] at e
  obtain ⟨rfl,rfl⟩:=e
  exact ⟨g,c,is,h1,h2,h3,h4⟩
theorem MKx.close {w:World} {m base g c:Nat} {A:Nat → Prop} {is:List Iv} {l:List In} (h:MKx w m base g c A is l):MKL w m base A l:=⟨is,⟨_,c,h.bx,h.row⟩,h.len,h.im⟩
theorem MKx.ne {w:World} {m base g c:Nat} {A:Nat → Prop} {is:List Iv} {l:List In} (h:MKx w m base g c A is l):g ≠ m:=fun e => own_ne h.row h.bx (by decide) (by rw [e];rfl)
theorem MKx.drew {w:World} {m base g c:Nat} {A:Nat → Prop} {is:List Iv} {l:List In} (h:MKx w m base g c A is l):MKx w.drew m base g c A is l:=
 ⟨h.bx,h.row.drew,h.len,fun k hk hk' => (h.im k hk hk').kept fun _ _ => rfl⟩
theorem MKx.keep {w w':World} {m base g c:Nat} {A:Nat → Prop} {is is':List Iv} {l l':List In} (h:MKx w m base g c A is l) (hA:∀ b,A b → b < base) (j:Nat) (v:Value) (hw:w' = w.setCell ⟨g,j,none⟩ v):BxM w' m (some ⟨g,0,none⟩) l.length c ∧ (∀ b,A b → w'.heap[b]? = w.heap[b]?) ∧ Fr base w w':=by
 subst hw
 have hg:=(h.row.lt g rfl).1
 refine ⟨(Below.heap_setCell _ _ _ _ (fun e => h.ne e.symm)).trans h.bx,fun b hb' => Below.heap_setCell _ _ _ _ (by have:=hA b hb';show b ≠ g;omega),⟨rfl,rfl,rfl,by simp [World.setCell],fun b cs t fr e h1 h2 => (Below.heap_setCell _ _ _ _ (fun eq => ?_)).trans e,fun b hb => Below.heap_setCell _ _ _ _ (by show b ≠ g;omega)⟩⟩
 subst eq
 exact own_ne h.row e h1 rfl
theorem MKx.setX {w:World} {m base g c:Nat} {A:Nat → Prop} {is:List Iv} {l:List In} (h:MKx w m base g c A is l) (hA:∀ b,A b → b < base) (i:Nat) (hi:i < l.length) (x:Int):MKx (w.setCell ⟨g,i * 5 + 1,none⟩ (.int .i64 x)) m base g c A (is.modify i (Iv.setX x)) (l.modify i (In.setX x)):=by
 obtain ⟨k1,k2,k3⟩:=h.keep (is':=is) (l':=l) hA (i * 5 + 1) (.int .i64 x) rfl
 refine ⟨by rw [List.length_modify];exact k1,?_,by simp [h.len],fun k hk hk' => ?_⟩
 ·rw [List.length_modify,← flat5_X _ _ _ (by rw [h.len];exact hi)]
  exact row_set1 h.row (by rw [flat5_len,h.len];omega) _
 ·simp only [List.length_modify] at hk hk'
  have hI:=(h.im k hk hk').kept k2
  rw [List.getElem_modify,List.getElem_modify]
  split
  ·exact ⟨hI.op,rfl,hI.y,hI.a,hI.len,hI.sm,hI.rp⟩
  ·exact hI
theorem MKx.setY {w:World} {m base g c:Nat} {A:Nat → Prop} {is:List Iv} {l:List In} (h:MKx w m base g c A is l) (hA:∀ b,A b → b < base) (i:Nat) (hi:i < l.length) (x:Int):MKx (w.setCell ⟨g,i * 5 + 2,none⟩ (.int .i64 x)) m base g c A (is.modify i (Iv.setY x)) (l.modify i (In.setY x)):=by
 obtain ⟨k1,k2,k3⟩:=h.keep (is':=is) (l':=l) hA (i * 5 + 2) (.int .i64 x) rfl
 refine ⟨by rw [List.length_modify];exact k1,?_,by simp [h.len],fun k hk hk' => ?_⟩
 ·rw [List.length_modify,← flat5_Y _ _ _ (by rw [h.len];exact hi)]
  exact row_set1 h.row (by rw [flat5_len,h.len];omega) _
 ·simp only [List.length_modify] at hk hk'
  have hI:=(h.im k hk hk').kept k2
  rw [List.getElem_modify,List.getElem_modify]
  split
  ·exact ⟨hI.op,hI.x,rfl,hI.a,hI.len,hI.sm,hI.rp⟩
  ·exact hI
theorem MKx.there {w:World} {m base g c:Nat} {A:Nat → Prop} {is:List Iv} {l:List In} (h:MKx w m base g c A is l) (i:Nat) (hi:i < l.length):w.there g (i * 5) 5:=row_there h.row (j:=i * 5) (m:=5) (by omega)
set_option maxRecDepth 100000 in
set_option maxHeartbeats 8000000 in
theorem fork109 {w:World} {m base:Nat} {A:Nat → Prop} {l:List In} (at':Nat) (r q:Int) (lz:Bool) (h:MKL w m base A l) (hat:at' < l.length) (hm:base ≤ m) (hA:∀ b,A b → b < base) (hl:l.length ≤ 20000) (hb:base ≤ w.heap.size) :
  Calls Tryz.prog 233 #[pt m,.int .i64 (at':Int),.int .i64 r,.int .i64 q,.bool lz] w fun e w' => e = .returned (.tuple #[]) ∧ MKL w' m base A ((l.modify at' (In.setX (if lz then q else r))).modify at' (In.setY (if lz then r else q))) ∧ Fr base w w':=by
 obtain ⟨g,c,is,hx⟩:=h.open (by omega)
 have k0:w.cell? ⟨m,0,none⟩ = some (.slice (some ⟨g,0,none⟩) l.length c):=Joins.cell_of_block hx.bx 0
 have b1:(at':Int) < (l.length:Int):=by omega
 have hne:=hx.ne
 have ht:=hx.there at' hat
 obtain ⟨v1,hv1⟩:=Option.isSome_iff_exists.1 (ht 1 (by omega)).1
 obtain ⟨v2,hv2⟩:=Option.isSome_iff_exists.1 (ht 2 (by omega)).1
 have f1:=(ht 1 (by omega)).2
 have f2:=(ht 2 (by omega)).2
 have HFIN:Hid (∀ x y:Int,MKL ((w.drew.setCell ⟨g,at' * 5 + 1,none⟩ (.int .i64 x)).setCell ⟨g,at' * 5 + 2,none⟩ (.int .i64 y)) m base A ((l.modify at' (In.setX x)).modify at' (In.setY y)) ∧ Fr base w ((w.drew.setCell ⟨g,at' * 5 + 1,none⟩ (.int .i64 x)).setCell ⟨g,at' * 5 + 2,none⟩ (.int .i64 y))):=fun x y => by
  have h0:=hx.drew
  have h1:=h0.setX hA at' hat x
  have h2:=h1.setY hA at' (by rw [List.length_modify];exact hat) y
  refine ⟨h2.close,?_⟩
  have e0:=Fr.of_below (base:=base) (drew_below w) hb
  have e1:=(h0.keep (is':=is) (l':=l) hA (at' * 5 + 1) (.int .i64 x) rfl).2.2
  have e2:=(h1.keep (is':=is) (l':=l) hA (at' * 5 + 2) (.int .i64 y) rfl).2.2
  exact e0.trans (e1.trans e2)
 obtain ⟨n,hn⟩:∃ n,n = l.length:=⟨_,rfl⟩
 rw [← hn] at k0 b1 hl
 clear ht hx h hn
 go_enter Tryz.func233,Tryz.ntmps233
 cases lz
 ·go_upto_region 2 with fail
  go_region_with fail
  all_goals go_wp2_with fail
  all_goals go_end0
  all_goals exact ⟨rfl,HFIN.out r q⟩
 ·go_upto_region 2 with fail
  go_region_with fail
  all_goals go_wp2_with fail
  all_goals go_end0
  all_goals exact ⟨rfl,HFIN.out q r⟩
theorem modify_mid (l r:List In) (I:In) (f:In → In):(l ++ I :: r).modify l.length f = l ++ f I :: r:=by
 induction l with
 | nil => simp [List.modify]
 | cons J l ih => simp only [List.cons_append,List.length_cons,List.modify_succ_cons,ih]
theorem fork_eq (r q:Nat) (lz:Bool):In.setY (if lz then (r:Int) else (q:Int)) (In.setX (if lz then (q:Int) else (r:Int)) ⟨2,0,0,0,[]⟩) = forkI r q lz:=by
 cases lz <;> rfl
set_option maxRecDepth 100000 in
set_option maxHeartbeats 8000000 in
theorem quest111 {base:Nat} {A:Nat → Prop} {a2 a4 a5 a7:Int} {a6:Bool} {a8:ByteArray} {r1 s1:Option Addr} {r2 r3 s2 s3:Nat} {R:List (Int × Int)} {ts:List Tn} (hA:∀ b,A b → b < base) (y:Tn) (hts:ts = [y]) (h1:a4 ≠ 1) (h2:a5 = 1) (hIH:∀ N,LP 94 base A N y):LP 235 base A ⟨6,r1,r2,r3,a2,s1,s2,s3,a4,a5,a6,a7,a8⟩ (.mk 6 R a2 ts a4 a5 a6 a7 a8):=by
 intro w m l hM hm hb hT hlen
 obtain ⟨U,hU⟩:∃ U,U = w.alloc (.cells #[.int .i64 6,.slice r1 r2 r3,.int .i64 a2,.slice s1 s2 s3,.int .i64 a4,.int .i64 a5,.bool a6,.int .i64 a7,.string a8] 25):=⟨_,rfl⟩
 have hbU:Below w.heap.size w U:=by rw [hU];exact Joins.below_alloc1 w _
 have hQ:BNo U w.heap.size ⟨6,r1,r2,r3,a2,s1,s2,s3,a4,a5,a6,a7,a8⟩:=by rw [hU];exact heap_alloc_new w _
 have hMU:=hM.below hbU hA (by omega)
 have hbU2:base ≤ U.heap.size:=Nat.le_trans hb hbU.size
 have hTU:TP U A ⟨6,r1,r2,r3,a2,s1,s2,s3,a4,a5,a6,a7,a8⟩ (.mk 6 R a2 ts a4 a5 a6 a7 a8):=hT.kept (fun b hb' => hbU.block b (by have:=hA b hb';omega)) (fun _ h => h)
 have HF:=hid (Fr.of_below hbU hb)
 have HQ:=hid hQ
 have hpU:w.heap.size < U.heap.size:=(Array.getElem?_eq_some_iff.1 hQ).1
 obtain ⟨c0,c1,c2,c3,c4,c5,c6,c7,c8⟩:=nine' hQ
 obtain ⟨p,hp⟩:∃ p,p = w.heap.size:=⟨_,rfl⟩
 have HMU:=hid hMU
 have HTU:=hid hTU
 rw [← hp] at c0 c1 c2 c3 c4 c5 c6 c7 c8 hpU HQ
 subst hts
 have hl6:(Tn.mk 6 R a2 [y] a4 a5 a6 a7 a8).len = y.len + 1:=by simp [Tn.len,lenL,h1,h2]
 rw [hl6] at hlen
 have e:(Tn.mk 6 R a2 [y] a4 a5 a6 a7 a8).lay l.length = forkI (l.length + 1) (l.length + 1 + y.len) a6 :: y.lay (l.length + 1):=by simp [Tn.lay,layL,lenL,h1,h2]
 rw [e]
 clear h1 h2
 obtain ⟨M,b,o,hs2,hs1,hbl,h9,hTM⟩:∃ (M:Nv) (b o:Nat),s2 = 1 ∧ s1 = some ⟨b,o,none⟩ ∧ A b ∧ N9 U b o 0 M ∧ TP U A M y:=by
  cases hTU with
  | @mk _ _ _ ND ok hr hR hRk hs hS hk =>
   obtain ⟨b,o,h1,h2,h3⟩:=hS (by simp)
   exact ⟨ND 0,b,o,hs,h1,h2,h3 0 (by simp),hk 0 (by simp)⟩
 subst hs1 hs2
 obtain ⟨n,hn⟩:∃ n,n = l.length:=⟨_,rfl⟩
 have HNX:=next65l HMU.out
 rw [← hn] at HNX hlen
 have HN:=hid hn
 have HIH:=hid hIH
 have H9:=hid h9
 have HTM:=hid hTM
 clear hIH h9 hTM hn
 clear hM hMU hbU hQ hT hTU
 go_enter Tryz.func235,Tryz.ntmps235
 go_upto_region 1 with fail
 rw [← hU,← hp]
 clear hU hp
 go_upto_region 2 with (first | (go_at_call 137;(with_reducible refine HNX.mono ?_);rintro e w2 ⟨rfl,hw⟩;have hw':=hw.symm;clear hw;subst hw';clear HNX))
 have HC:=addL ⟨2,0,0,0,none,0,0⟩ ⟨2,0,0,0,[]⟩ HMU.out (im_bare _ _ _ _ _ _) hm hA (by have:=HN.out;omega) hbU2
 go_upto_region 3 with (first | (go_at_call 95;(with_reducible refine HC.mono ?_);rintro e V1 ⟨rfl,hM,hf⟩;have HV1:=hid hM;have HG1:=hid hf;clear hM hf HC))
 have FR1:Hid (Fr base U V1):=hid ((Fr.of_below (Below.refl _ _) hbU2).trans HG1.out)
 have hbV1:base ≤ V1.heap.size:=Nat.le_trans hbU2 FR1.out.size
 have hfb2:=(FR1.out).bel hA
 obtain ⟨n0,n1,n2,n3,n4,n5,n6,n7,n8⟩:=H9.out.kept (hfb2 b hbl)
 simp only [Nat.zero_mul,Nat.add_zero] at n0 n1 n2 n3 n4 n5 n6 n7 n8
 have bQ2:=(FR1.out).blk p _ _ _ HQ.out (by decide) (by decide)
 clear c0 c1 c2 c3 c4 c5 c6 c7 c8
 obtain ⟨c0,c1,c2,c3,c4,c5,c6,c7,c8⟩:=nine' bQ2
 have HC:=HIH.out M V1 m (l ++ [(⟨2,0,0,0,[]⟩:In)]) HV1.out hm hbV1 (HTM.out.kept hfb2 (fun _ h => h)) (by simp;have:=HN.out;omega)
 have hll2:(l ++ [(⟨2,0,0,0,[]⟩:In)]).length = n + 1:=by first | (simp [lay_len];have:=HN.out;omega) | (have:=HN.out;omega)
 rw [hll2] at HC
 clear bQ2 hfb2 hll2
 go_upto_region 4 with (first | (go_at_call 94;(with_reducible refine HC.mono ?_);rintro e V2 ⟨rfl,hM,hf⟩;have HV2:=hid hM;have HG2:=hid hf;clear hM hf HC))
 have FR2:Hid (Fr base U V2):=hid ((FR1.out).trans HG2.out)
 have hbV2:base ≤ V2.heap.size:=Nat.le_trans hbU2 FR2.out.size
 clear n0 n1 n2 n3 n4 n5 n6 n7 n8
 have bQ:=(FR2.out).blk p _ _ _ HQ.out (by decide) (by decide)
 clear c0 c1 c2 c3 c4 c5 c6 c7 c8
 obtain ⟨c0,c1,c2,c3,c4,c5,c6,c7,c8⟩:=nine' bQ
 have hlf:(l ++ [(⟨2,0,0,0,[]⟩:In)] ++ y.lay (n + 1)).length = n + 1 + y.len:=by simp [lay_len];have:=HN.out;omega
 have HNN:Hid (∀ W,Below V2.heap.size V2 W → Calls Tryz.prog 137 #[pt m] W fun e w' => e = .returned (.int .i64 ((n + 1 + y.len:Nat):Int)) ∧ w' = W):=fun W hW => by
  have h:=next65l ((HV2.out).below hW hA (by omega))
  rw [hlf] at h
  exact h
 have HFK:Hid (∀ W,Below V2.heap.size V2 W → Calls Tryz.prog 233 #[pt m,.int .i64 ((n:Nat):Int),.int .i64 ((n + 1:Nat):Int),.int .i64 ((n + 1 + y.len:Nat):Int),.bool a6] W fun e w' => e = .returned (.tuple #[]) ∧ MKL w' m base A (((l ++ [(⟨2,0,0,0,[]⟩:In)] ++ y.lay (n + 1)).modify (n) (In.setX (if a6 then ((n + 1 + y.len:Nat):Int) else ((n + 1:Nat):Int)))).modify (n) (In.setY (if a6 then ((n + 1:Nat):Int) else ((n + 1 + y.len:Nat):Int)))) ∧ Fr base W w'):=fun W hW =>
  fork109 (n) _ _ a6 ((HV2.out).below hW hA (by omega)) (by rw [hlf];omega) hm hA (by rw [hlf];omega) (Nat.le_trans hbV2 hW.size)
 have w1:IntKind.i64.wrap ((n:Int) + 1) = (n:Int) + 1:=by simp [IntKind.wrap,IntKind.bits,IntKind.signed];omega
 push_cast at HNN HFK
 clear bQ
 go_region_with (first | (go_at_call 137;(with_reducible refine (HNN.out _ ?_).mono ?_);(exact drew_below _);rintro e w5 ⟨rfl,hw⟩;have hw':=hw.symm;clear hw;subst hw') | (go_at_call 233;(with_reducible refine (HFK.out _ ?_).mono ?_);(exact drew_below _);rintro e w6 ⟨rfl,hM,hf⟩;have HM6:=hid hM;have HF6:=hid hf;clear hM hf))
 all_goals go_wp2_with fail
 all_goals go_end0
 all_goals
  refine ⟨rfl,?_,HF.out.trans ((FR2.out).trans ((Fr.of_below (drew_below _) hbV2).trans HF6.out))⟩
  have h:=HM6.out
  have el:l.length = n:=HN.out.symm
  rw [List.append_assoc] at h
  have h':=h
  rw [show n = l.length from HN.out] at h'
  simp only [List.singleton_append,List.cons_append,List.nil_append,List.append_assoc] at h'
  rw [modify_mid,modify_mid] at h'
  have ef:=fork_eq (l.length + 1) (l.length + 1 + y.len) a6
  push_cast at ef h'
  rw [ef] at h'
  exact h'
set_option maxRecDepth 100000 in
set_option maxHeartbeats 8000000 in
theorem star112 {base:Nat} {A:Nat → Prop} {a2 a4 a5 a7:Int} {a6:Bool} {a8:ByteArray} {r1 s1:Option Addr} {r2 r3 s2 s3:Nat} {R:List (Int × Int)} {ts:List Tn} (hA:∀ b,A b → b < base) (y:Tn) (hts:ts = [y]) (h1:a4 ≠ 1) (h2:a5 ≠ 1) (hIH:∀ N,LP 94 base A N y):LP 236 base A ⟨6,r1,r2,r3,a2,s1,s2,s3,a4,a5,a6,a7,a8⟩ (.mk 6 R a2 ts a4 a5 a6 a7 a8):=by
 intro w m l hM hm hb hT hlen
 obtain ⟨U,hU⟩:∃ U,U = w.alloc (.cells #[.int .i64 6,.slice r1 r2 r3,.int .i64 a2,.slice s1 s2 s3,.int .i64 a4,.int .i64 a5,.bool a6,.int .i64 a7,.string a8] 25):=⟨_,rfl⟩
 have hbU:Below w.heap.size w U:=by rw [hU];exact Joins.below_alloc1 w _
 have hQ:BNo U w.heap.size ⟨6,r1,r2,r3,a2,s1,s2,s3,a4,a5,a6,a7,a8⟩:=by rw [hU];exact heap_alloc_new w _
 have hMU:=hM.below hbU hA (by omega)
 have hbU2:base ≤ U.heap.size:=Nat.le_trans hb hbU.size
 have hTU:TP U A ⟨6,r1,r2,r3,a2,s1,s2,s3,a4,a5,a6,a7,a8⟩ (.mk 6 R a2 ts a4 a5 a6 a7 a8):=hT.kept (fun b hb' => hbU.block b (by have:=hA b hb';omega)) (fun _ h => h)
 have HF:=hid (Fr.of_below hbU hb)
 have HQ:=hid hQ
 have hpU:w.heap.size < U.heap.size:=(Array.getElem?_eq_some_iff.1 hQ).1
 obtain ⟨c0,c1,c2,c3,c4,c5,c6,c7,c8⟩:=nine' hQ
 obtain ⟨p,hp⟩:∃ p,p = w.heap.size:=⟨_,rfl⟩
 have HMU:=hid hMU
 have HTU:=hid hTU
 rw [← hp] at c0 c1 c2 c3 c4 c5 c6 c7 c8 hpU HQ
 subst hts
 have hl6:(Tn.mk 6 R a2 [y] a4 a5 a6 a7 a8).len = y.len + 2:=by simp [Tn.len,lenL,h1,h2]
 rw [hl6] at hlen
 have e:(Tn.mk 6 R a2 [y] a4 a5 a6 a7 a8).lay l.length = forkI (l.length + 1) (l.length + 1 + y.len + 1) a6 :: (y.lay (l.length + 1) ++ [⟨7,(l.length:Int),0,0,[]⟩]):=by simp [Tn.lay,layL,lenL,h1,h2]
 rw [e]
 clear h1 h2
 obtain ⟨M,b,o,hs2,hs1,hbl,h9,hTM⟩:∃ (M:Nv) (b o:Nat),s2 = 1 ∧ s1 = some ⟨b,o,none⟩ ∧ A b ∧ N9 U b o 0 M ∧ TP U A M y:=by
  cases hTU with
  | @mk _ _ _ ND ok hr hR hRk hs hS hk =>
   obtain ⟨b,o,h1,h2,h3⟩:=hS (by simp)
   exact ⟨ND 0,b,o,hs,h1,h2,h3 0 (by simp),hk 0 (by simp)⟩
 subst hs1 hs2
 obtain ⟨n,hn⟩:∃ n,n = l.length:=⟨_,rfl⟩
 have HNX:=next65l HMU.out
 rw [← hn] at HNX hlen
 have HN:=hid hn
 have HIH:=hid hIH
 have H9:=hid h9
 have HTM:=hid hTM
 clear hIH h9 hTM hn
 clear hM hMU hbU hQ hT hTU
 go_enter Tryz.func236,Tryz.ntmps236
 go_upto_region 1 with fail
 rw [← hU,← hp]
 clear hU hp
 go_upto_region 2 with (first | (go_at_call 137;(with_reducible refine HNX.mono ?_);rintro e w2 ⟨rfl,hw⟩;have hw':=hw.symm;clear hw;subst hw';clear HNX))
 have HC:=addL ⟨2,0,0,0,none,0,0⟩ ⟨2,0,0,0,[]⟩ HMU.out (im_bare _ _ _ _ _ _) hm hA (by have:=HN.out;omega) hbU2
 go_upto_region 3 with (first | (go_at_call 95;(with_reducible refine HC.mono ?_);rintro e V1 ⟨rfl,hM,hf⟩;have HV1:=hid hM;have HG1:=hid hf;clear hM hf HC))
 have FR1:Hid (Fr base U V1):=hid ((Fr.of_below (Below.refl _ _) hbU2).trans HG1.out)
 have hbV1:base ≤ V1.heap.size:=Nat.le_trans hbU2 FR1.out.size
 have hfb2:=(FR1.out).bel hA
 obtain ⟨n0,n1,n2,n3,n4,n5,n6,n7,n8⟩:=H9.out.kept (hfb2 b hbl)
 simp only [Nat.zero_mul,Nat.add_zero] at n0 n1 n2 n3 n4 n5 n6 n7 n8
 have bQ2:=(FR1.out).blk p _ _ _ HQ.out (by decide) (by decide)
 clear c0 c1 c2 c3 c4 c5 c6 c7 c8
 obtain ⟨c0,c1,c2,c3,c4,c5,c6,c7,c8⟩:=nine' bQ2
 have HC:=HIH.out M V1 m (l ++ [(⟨2,0,0,0,[]⟩:In)]) HV1.out hm hbV1 (HTM.out.kept hfb2 (fun _ h => h)) (by simp;have:=HN.out;omega)
 have hll2:(l ++ [(⟨2,0,0,0,[]⟩:In)]).length = n + 1:=by first | (simp [lay_len];have:=HN.out;omega) | (have:=HN.out;omega)
 rw [hll2] at HC
 clear bQ2 hfb2 hll2
 go_upto_region 4 with (first | (go_at_call 94;(with_reducible refine HC.mono ?_);rintro e V2 ⟨rfl,hM,hf⟩;have HV2:=hid hM;have HG2:=hid hf;clear hM hf HC))
 have FR2:Hid (Fr base U V2):=hid ((FR1.out).trans HG2.out)
 have hbV2:base ≤ V2.heap.size:=Nat.le_trans hbU2 FR2.out.size
 clear n0 n1 n2 n3 n4 n5 n6 n7 n8
 have HC:=addL ⟨7,(n:Int),0,0,none,0,0⟩ ⟨7,(n:Int),0,0,[]⟩ HV2.out (im_bare _ _ _ _ _ _) hm hA (by simp [lay_len];have:=HN.out;omega) hbV2
 go_upto_region 5 with (first | (go_at_call 95;(with_reducible refine HC.mono ?_);rintro e V3 ⟨rfl,hM,hf⟩;have HV3:=hid hM;have HG3:=hid hf;clear hM hf HC))
 have FR3:Hid (Fr base U V3):=hid ((FR2.out).trans HG3.out)
 have hbV3:base ≤ V3.heap.size:=Nat.le_trans hbU2 FR3.out.size
 have bQ:=(FR3.out).blk p _ _ _ HQ.out (by decide) (by decide)
 clear c0 c1 c2 c3 c4 c5 c6 c7 c8
 obtain ⟨c0,c1,c2,c3,c4,c5,c6,c7,c8⟩:=nine' bQ
 have hlf:(l ++ [(⟨2,0,0,0,[]⟩:In)] ++ y.lay (n + 1) ++ [(⟨7,(n:Int),0,0,[]⟩:In)]).length = n + 1 + y.len + 1:=by simp [lay_len];have:=HN.out;omega
 have HNN:Hid (∀ W,Below V3.heap.size V3 W → Calls Tryz.prog 137 #[pt m] W fun e w' => e = .returned (.int .i64 ((n + 1 + y.len + 1:Nat):Int)) ∧ w' = W):=fun W hW => by
  have h:=next65l ((HV3.out).below hW hA (by omega))
  rw [hlf] at h
  exact h
 have HFK:Hid (∀ W,Below V3.heap.size V3 W → Calls Tryz.prog 233 #[pt m,.int .i64 ((n:Nat):Int),.int .i64 ((n + 1:Nat):Int),.int .i64 ((n + 1 + y.len + 1:Nat):Int),.bool a6] W fun e w' => e = .returned (.tuple #[]) ∧ MKL w' m base A (((l ++ [(⟨2,0,0,0,[]⟩:In)] ++ y.lay (n + 1) ++ [(⟨7,(n:Int),0,0,[]⟩:In)]).modify (n) (In.setX (if a6 then ((n + 1 + y.len + 1:Nat):Int) else ((n + 1:Nat):Int)))).modify (n) (In.setY (if a6 then ((n + 1:Nat):Int) else ((n + 1 + y.len + 1:Nat):Int)))) ∧ Fr base W w'):=fun W hW =>
  fork109 (n) _ _ a6 ((HV3.out).below hW hA (by omega)) (by rw [hlf];omega) hm hA (by rw [hlf];omega) (Nat.le_trans hbV3 hW.size)
 have w1:IntKind.i64.wrap ((n:Int) + 1) = (n:Int) + 1:=by simp [IntKind.wrap,IntKind.bits,IntKind.signed];omega
 push_cast at HNN HFK
 clear bQ
 go_region_with (first | (go_at_call 137;(with_reducible refine (HNN.out _ ?_).mono ?_);(exact drew_below _);rintro e w5 ⟨rfl,hw⟩;have hw':=hw.symm;clear hw;subst hw') | (go_at_call 233;(with_reducible refine (HFK.out _ ?_).mono ?_);(exact drew_below _);rintro e w6 ⟨rfl,hM,hf⟩;have HM6:=hid hM;have HF6:=hid hf;clear hM hf))
 all_goals go_wp2_with fail
 all_goals go_end0
 all_goals
  refine ⟨rfl,?_,HF.out.trans ((FR3.out).trans ((Fr.of_below (drew_below _) hbV3).trans HF6.out))⟩
  have h:=HM6.out
  have el:l.length = n:=HN.out.symm
  rw [List.append_assoc] at h
  have h':=h
  rw [show n = l.length from HN.out] at h'
  simp only [List.singleton_append,List.cons_append,List.nil_append,List.append_assoc] at h'
  rw [modify_mid,modify_mid] at h'
  have ef:=fork_eq (l.length + 1) (l.length + 1 + y.len + 1) a6
  push_cast at ef h'
  rw [ef] at h'
  exact h'
set_option maxRecDepth 100000 in
set_option maxHeartbeats 8000000 in
theorem plus110 {base:Nat} {A:Nat → Prop} {a2 a4 a5 a7:Int} {a6:Bool} {a8:ByteArray} {r1 s1:Option Addr} {r2 r3 s2 s3:Nat} {R:List (Int × Int)} {ts:List Tn} (hA:∀ b,A b → b < base) (y:Tn) (hts:ts = [y]) (h1:a4 = 1) (hIH:∀ N,LP 94 base A N y):LP 234 base A ⟨6,r1,r2,r3,a2,s1,s2,s3,a4,a5,a6,a7,a8⟩ (.mk 6 R a2 ts a4 a5 a6 a7 a8):=by
 intro w m l hM hm hb hT hlen
 obtain ⟨U,hU⟩:∃ U,U = w.alloc (.cells #[.int .i64 6,.slice r1 r2 r3,.int .i64 a2,.slice s1 s2 s3,.int .i64 a4,.int .i64 a5,.bool a6,.int .i64 a7,.string a8] 25):=⟨_,rfl⟩
 have hbU:Below w.heap.size w U:=by rw [hU];exact Joins.below_alloc1 w _
 have hQ:BNo U w.heap.size ⟨6,r1,r2,r3,a2,s1,s2,s3,a4,a5,a6,a7,a8⟩:=by rw [hU];exact heap_alloc_new w _
 have hMU:=hM.below hbU hA (by omega)
 have hbU2:base ≤ U.heap.size:=Nat.le_trans hb hbU.size
 have hTU:TP U A ⟨6,r1,r2,r3,a2,s1,s2,s3,a4,a5,a6,a7,a8⟩ (.mk 6 R a2 ts a4 a5 a6 a7 a8):=hT.kept (fun b hb' => hbU.block b (by have:=hA b hb';omega)) (fun _ h => h)
 have HF:=hid (Fr.of_below hbU hb)
 have HQ:=hid hQ
 have hpU:w.heap.size < U.heap.size:=(Array.getElem?_eq_some_iff.1 hQ).1
 obtain ⟨c0,c1,c2,c3,c4,c5,c6,c7,c8⟩:=nine' hQ
 obtain ⟨p,hp⟩:∃ p,p = w.heap.size:=⟨_,rfl⟩
 have HMU:=hid hMU
 have HTU:=hid hTU
 rw [← hp] at c0 c1 c2 c3 c4 c5 c6 c7 c8 hpU HQ
 subst hts
 have hl6:(Tn.mk 6 R a2 [y] a4 a5 a6 a7 a8).len = y.len + 1:=by simp [Tn.len,lenL,h1]
 rw [hl6] at hlen
 have e:(Tn.mk 6 R a2 [y] a4 a5 a6 a7 a8).lay l.length = y.lay l.length ++ [forkI l.length (l.length + y.len + 1) a6]:=by simp [Tn.lay,layL,lenL,h1]
 rw [e]
 clear h1
 obtain ⟨M,b,o,hs2,hs1,hbl,h9,hTM⟩:∃ (M:Nv) (b o:Nat),s2 = 1 ∧ s1 = some ⟨b,o,none⟩ ∧ A b ∧ N9 U b o 0 M ∧ TP U A M y:=by
  cases hTU with
  | @mk _ _ _ ND ok hr hR hRk hs hS hk =>
   obtain ⟨b,o,h1,h2,h3⟩:=hS (by simp)
   exact ⟨ND 0,b,o,hs,h1,h2,h3 0 (by simp),hk 0 (by simp)⟩
 subst hs1 hs2
 obtain ⟨n,hn⟩:∃ n,n = l.length:=⟨_,rfl⟩
 have HNX:=next65l HMU.out
 rw [← hn] at HNX hlen
 have HN:=hid hn
 have HIH:=hid hIH
 have H9:=hid h9
 have HTM:=hid hTM
 clear hIH h9 hTM hn
 clear hM hMU hbU hQ hT hTU
 go_enter Tryz.func234,Tryz.ntmps234
 go_upto_region 1 with fail
 rw [← hU,← hp]
 clear hU hp
 go_upto_region 2 with (first | (go_at_call 137;(with_reducible refine HNX.mono ?_);rintro e w2 ⟨rfl,hw⟩;have hw':=hw.symm;clear hw;subst hw';clear HNX))
 have hfb1:=(Fr.of_below (Below.refl _ _) hbU2).bel hA
 obtain ⟨n0,n1,n2,n3,n4,n5,n6,n7,n8⟩:=H9.out.kept (hfb1 b hbl)
 simp only [Nat.zero_mul,Nat.add_zero] at n0 n1 n2 n3 n4 n5 n6 n7 n8
 have bQ1:=(Fr.of_below (Below.refl _ _) hbU2).blk p _ _ _ HQ.out (by decide) (by decide)
 clear c0 c1 c2 c3 c4 c5 c6 c7 c8
 obtain ⟨c0,c1,c2,c3,c4,c5,c6,c7,c8⟩:=nine' bQ1
 have HC:=HIH.out M U m (l) HMU.out hm hbU2 (HTM.out.kept hfb1 (fun _ h => h)) (by have:=HN.out;omega)
 have hll1:(l).length = n:=by first | (simp [lay_len];have:=HN.out;omega) | (have:=HN.out;omega)
 rw [hll1] at HC
 clear bQ1 hfb1 hll1
 go_upto_region 3 with (first | (go_at_call 94;(with_reducible refine HC.mono ?_);rintro e V1 ⟨rfl,hM,hf⟩;have HV1:=hid hM;have HG1:=hid hf;clear hM hf HC))
 have FR1:Hid (Fr base U V1):=hid ((Fr.of_below (Below.refl _ _) hbU2).trans HG1.out)
 have hbV1:base ≤ V1.heap.size:=Nat.le_trans hbU2 FR1.out.size
 clear n0 n1 n2 n3 n4 n5 n6 n7 n8
 have HNX:=next65l HV1.out
 have hll:(l ++ y.lay n).length = n + y.len:=by simp [lay_len];have:=HN.out;omega
 rw [hll] at HNX
 go_upto_region 4 with (first | (go_at_call 137;(with_reducible refine HNX.mono ?_);rintro e w2 ⟨rfl,hw⟩;have hw':=hw.symm;clear hw;subst hw';clear HNX))
 have HC:=addL ⟨2,0,0,0,none,0,0⟩ ⟨2,0,0,0,[]⟩ HV1.out (im_bare _ _ _ _ _ _) hm hA (by rw [hll];omega) hbV1
 go_upto_region 5 with (first | (go_at_call 95;(with_reducible refine HC.mono ?_);rintro e V2 ⟨rfl,hM,hf⟩;have HV2:=hid hM;have HG2:=hid hf;clear hM hf HC))
 have FR2:Hid (Fr base U V2):=hid ((FR1.out).trans HG2.out)
 have hbV2:base ≤ V2.heap.size:=Nat.le_trans hbU2 FR2.out.size
 have bQ:=(FR2.out).blk p _ _ _ HQ.out (by decide) (by decide)
 clear c0 c1 c2 c3 c4 c5 c6 c7 c8
 obtain ⟨c0,c1,c2,c3,c4,c5,c6,c7,c8⟩:=nine' bQ
 have hlf:(l ++ y.lay n ++ [(⟨2,0,0,0,[]⟩:In)]).length = n + y.len + 1:=by simp [lay_len];have:=HN.out;omega
 have HNN:Hid (∀ W,Below V2.heap.size V2 W → Calls Tryz.prog 137 #[pt m] W fun e w' => e = .returned (.int .i64 ((n + y.len + 1:Nat):Int)) ∧ w' = W):=fun W hW => by
  have h:=next65l ((HV2.out).below hW hA (by omega))
  rw [hlf] at h
  exact h
 have HFK:Hid (∀ W,Below V2.heap.size V2 W → Calls Tryz.prog 233 #[pt m,.int .i64 ((n + y.len:Nat):Int),.int .i64 ((n:Nat):Int),.int .i64 ((n + y.len + 1:Nat):Int),.bool a6] W fun e w' => e = .returned (.tuple #[]) ∧ MKL w' m base A (((l ++ y.lay n ++ [(⟨2,0,0,0,[]⟩:In)]).modify (n + y.len) (In.setX (if a6 then ((n + y.len + 1:Nat):Int) else ((n:Nat):Int)))).modify (n + y.len) (In.setY (if a6 then ((n:Nat):Int) else ((n + y.len + 1:Nat):Int)))) ∧ Fr base W w'):=fun W hW =>
  fork109 (n + y.len) _ _ a6 ((HV2.out).below hW hA (by omega)) (by rw [hlf];omega) hm hA (by rw [hlf];omega) (Nat.le_trans hbV2 hW.size)
 have w1:IntKind.i64.wrap ((n:Int) + 1) = (n:Int) + 1:=by simp [IntKind.wrap,IntKind.bits,IntKind.signed];omega
 push_cast at HNN HFK
 clear bQ
 go_region_with (first | (go_at_call 137;(with_reducible refine (HNN.out _ ?_).mono ?_);(exact drew_below _);rintro e w5 ⟨rfl,hw⟩;have hw':=hw.symm;clear hw;subst hw') | (go_at_call 233;(with_reducible refine (HFK.out _ ?_).mono ?_);(exact drew_below _);rintro e w6 ⟨rfl,hM,hf⟩;have HM6:=hid hM;have HF6:=hid hf;clear hM hf))
 all_goals go_wp2_with fail
 all_goals go_end0
 all_goals
  refine ⟨rfl,?_,HF.out.trans ((FR2.out).trans ((Fr.of_below (drew_below _) hbV2).trans HF6.out))⟩
  have h:=HM6.out
  have el:(l ++ y.lay n).length = n + y.len:=by simp [lay_len];have:=HN.out;omega
  rw [← el,modify_mid,modify_mid] at h
  have ef:=fork_eq n (n + y.len + 1) a6
  push_cast at ef h
  rw [ef] at h
  rw [← HN.out]
  simpa [List.append_assoc] using h
end Go.Proofs.YtacaanhnlfpbhaaGreat
