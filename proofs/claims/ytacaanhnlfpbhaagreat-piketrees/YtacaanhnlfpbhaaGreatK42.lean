/- HELPERS: texts of ours put together. -/
import Derived.Test.YtacaanhnlfpbhaaGreatK34
import Derived.Test.YtacaanhnlfpbhaaGreatK30
import Derived.Test.YtacaanhnlfpbhaaGreatK41
import Derived.Test.YtacaanhnlfpbhaaGreatK06
import Derived.Test.YtacaanhnlfpbhaaGreatK07
import Derived.Test.YtacaanhnlfpbhaaGreatProg
import Derived.WalkKit
import Derived.ProofKit
import Derived.BigQuiet
import Derived.WalkSmall
import Derived.Deep.QuietTactic
import Derived.Deep.RegionWith
import Derived.Lib.SmallJoins
import Derived.Lib.MinMax
import Derived.Maps.AppendAt
import Derived.Laws.AppendOwnNone
import Derived.Test.YtacaanhnlfpbhaaGreatK01
import Derived.Test.YtacaanhnlfpbhaaGreatK11
import Derived.Test.YtacaanhnlfpbhaaGreatK03
import Derived.Test.YtacaanhnlfpbhaaGreatK04
import Derived.Test.YtacaanhnlfpbhaaGreatK02
import Derived.Deep.SlicePairs
import Derived.RowKit
import Derived.Lib.Small
import Derived.Deep.Cut
import Derived.Deep.CutRange
import Derived.Deep.RegionHeld3
import Derived.Laws.EntriesVeiled
import Derived.Test.YtacaanhnlfpbhaaGreatK05
import Derived.OrdersHeld
import Derived.StillTail
import Derived.Tactics
import Derived.Below
import Derived.Deep.MidRow
import Derived.Deep.OwnRows
import Derived.Laws.Rows
import Derived.WalkLawsBesides
import Derived.Deep.RegionLaw
import Derived.Laws.CopyOwn
import Derived.Lib.LazyBuf
namespace Go.Proofs.YtacaanhnlfpbhaaGreat
open Go.RowKit
set_option linter.unusedVariables false
set_option linter.unusedSimpArgs false
set_option maxRecDepth 100000 in
set_option maxHeartbeats 8000000 in
theorem greatest60 {w0:World} {B:Nat} {N:Nv} {t:Tn} (h:TI w0 B N t):∀ (w:World),B≤w.heap.size→(∀ b,b < B→w.heap[b]?=w0.heap[b]?) →
  Calls Tryz.prog 60 #[N.v] w fun e w'=>e=.returned (.int .i64 t.gi)∧Below w.heap.size w w':=by
 induction h with
 | @mk N R ts ND ok hr hR hRk hs hS hk ih =>
 intro w hB hw
 have hmax:=ok.s
 obtain ⟨k,r1,r2,r3,a2,s1,s2,s3,a4,a5,a6,a7,a8⟩:=N
 simp only at hs hS hmax
 simp only [Tn.gi]
 obtain ⟨r,hrr⟩:∃ r,r=giL ts a7:=⟨_,rfl⟩
 rw [← hrr]
 have HR:=hid' hrr
 have HW:=hid' hw
 have HS:=hid' hS
 have IH:=hid' ih
 have hm2:s2≤9223372036854775807:=by have:maxLen=9223372036854775807:=rfl;omega
 have HL:=hid' hs
 clear ok hr hR hRk hk hS hw hrr ih hmax hs
 go_enter Tryz.func60,Tryz.ntmps60
 go_wp2_with fail
 go_loopw [3,4] (fun u y wq=>∃ i:Nat,y=.int .i64 (i:Int)∧i≤s2∧(∃ q,u=.int .i64 q∧Hid (giL (ts.drop i) q=r))∧Hid (Below w.heap.size w wq)∧Hid (wq.heap[w.heap.size]?=some (.cells #[.int .i64 k,.slice r1 r2 r3,.int .i64 a2,.slice s1 s2 s3,.int .i64 a4,.int .i64 a5,.bool a6,.int .i64 a7,.string a8] 25 (0,0)))) (fun _ y _=>s2 - (intOf y).toNat)
 case atStart=>exact ⟨0,rfl,by omega,⟨a7,rfl,HR.out.symm⟩,Joins.below_alloc1 w _,heap_alloc_new w _⟩
 case round =>
  obtain ⟨i,rfl,hi,⟨q,rfl,HQ⟩,BK,BX⟩:=hrel
  obtain ⟨o0,o1,o2,o3,o4,o5,o6,o7,o8⟩:=nine' BX.out
  by_cases hil:i < s2
  ·have b1:decide ((i:Int) < (s2:Int))=true:=by simp;omega
   have b2:(i:Int) < (s2:Int):=by omega
   have hlt:i < ts.length:=by rw [← HL.out];exact hil
   obtain ⟨b,o,hs1,hb,hc⟩:=HS.out (by omega)
   subst hs1
   have hwk:∀ b,b < B→wr.heap[b]?=w0.heap[b]?:=fun b hb=>(BK.out.block b (by omega)).trans (HW.out b hb)
   obtain ⟨n0,n1,n2,n3,n4,n5,n6,n7,n8⟩:=(hc i hlt).kept (hwk b hb)
   have HC:=IH.out i hlt wr (by have:=BK.out.size;omega) hwk
   rw [giL_drop ts i hlt q] at HQ
   obtain ⟨g,hg⟩:∃ g,g=ts[i].gi:=⟨_,rfl⟩
   rw [← hg] at HC HQ
   obtain ⟨M,hM⟩:∃ M,M=ND i:=⟨_,rfl⟩
   rw [← hM] at HC n0 n1 n2 n3 n4 n5 n6 n7 n8
   have ad1:IntKind.i64.wrap ((i:Int) + 1)=(i:Int) + 1:=by simp [IntKind.wrap,IntKind.bits,IntKind.signed];omega
   clear hM hg hwk hc hlt
   go_wp2_with (first | (go_at_call 60;(with_reducible refine HC.mono ?_);rintro e w2 ⟨rfl,hb2⟩;have HB2:=hid' hb2;clear hb2 HC))
   refine ⟨⟨i + 1,by push_cast;rfl,by omega,⟨_,rfl,HQ.out⟩,?_,?_⟩,?_⟩
   ·exact BK.out.trans (Joins.below_le HB2.out BK.out.size)
   ·exact (HB2.out.block _ (by have:=(Array.getElem?_eq_some_iff.1 BX.out).1;omega)).trans BX.out
   ·simp [intOf]
    omega
  ·have b1:decide ((i:Int) < (s2:Int))=false:=by simp;omega
   obtain rfl:i=s2:=by omega
   have e:=HQ.out
   rw [HL.out,List.drop_length] at e
   simp only [giL] at e
   go_wp2
   go_ret
   exact ⟨by first | rfl | exact ret_int e,BK.out⟩
set_option maxRecDepth 100000 in
set_option maxHeartbeats 8000000 in
theorem dlay_alt {base:Nat} {a2 a4 a5 a7:Int} {a6:Bool} {a8:ByteArray} {r1 s1:Option Addr} {r2 r3 s2 s3:Nat} {R:List (Int × Int)} {ts:List Tn} (hl:LD 98 base ⟨5,r1,r2,r3,a2,s1,s2,s3,a4,a5,a6,a7,a8⟩ (.mk 5 R a2 ts a4 a5 a6 a7 a8)):LDn 58 base ⟨5,r1,r2,r3,a2,s1,s2,s3,a4,a5,a6,a7,a8⟩ (.mk 5 R a2 ts a4 a5 a6 a7 a8):=by
 intro w m l hM hm hb hT hlen hroom
 obtain ⟨U,hU⟩:∃ U,U=w.alloc (.cells #[.int .i64 5,.slice r1 r2 r3,.int .i64 a2,.slice s1 s2 s3,.int .i64 a4,.int .i64 a5,.bool a6,.int .i64 a7,.string a8] 25):=⟨_,rfl⟩
 have hbU:Below w.heap.size w U:=by rw [hU];exact Joins.below_alloc1 w _
 have hQ:BNo U w.heap.size ⟨5,r1,r2,r3,a2,s1,s2,s3,a4,a5,a6,a7,a8⟩:=by rw [hU];exact heap_alloc_new w _
 have hMU:=hM.below hbU
 have hbU2:base≤U.heap.size:=Nat.le_trans hb hbU.size
 have hTU:TI U base ⟨5,r1,r2,r3,a2,s1,s2,s3,a4,a5,a6,a7,a8⟩ (.mk 5 R a2 ts a4 a5 a6 a7 a8):=hT.kept (fun b hb'=>hbU.block b (by omega))
 have HF:=hid (FrD.of_below hbU hb)
 have hpU:w.heap.size < U.heap.size:=(Array.getElem?_eq_some_iff.1 hQ).1
 obtain ⟨c0,c1,c2,c3,c4,c5,c6,c7,c8⟩:=nine' hQ
 obtain ⟨p,hp⟩:∃ p,p=w.heap.size:=⟨_,rfl⟩
 have HMU:=hid hMU
 have HTU:=hid hTU
 rw [← hp] at c0 c1 c2 c3 c4 c5 c6 c7 c8 hpU hQ
 have HQ:Hid (∀ W,FrD base U W→BNo W p ⟨5,r1,r2,r3,a2,s1,s2,s3,a4,a5,a6,a7,a8⟩∧TI W base ⟨5,r1,r2,r3,a2,s1,s2,s3,a4,a5,a6,a7,a8⟩ (.mk 5 R a2 ts a4 a5 a6 a7 a8)∧base≤W.heap.size∧FrD base w W):=fun W hW=>⟨hW.blk _ _ _ _ hQ (by decide) (by decide),hTU.kept hW.low,Nat.le_trans hbU2 hW.size,HF.out.trans hW⟩
 have HFU:=full59 hMU
 rw [decide_eq_false (show ¬ 20000 < l.length by omega)] at HFU
 clear hM hMU hbU hQ hT hTU
 have HS:=hl U m l HMU.out hm hbU2 HTU.out hlen
 go_enter Tryz.func58,Tryz.ntmps58
 go_upto_region 1 with fail
 rw [← hU,← hp]
 clear hU hp
 go_upto_region 3 with (first | (go_at_call 59;(with_reducible refine HFU.mono ?_);rintro e w2 ⟨rfl,hw⟩;have hw':=hw.symm;clear hw;subst hw';clear HFU))
 go_wp2_with (first | (go_at_call 98;(with_reducible refine HS.mono ?_);rintro e V2 ⟨rfl,hL2,hf2⟩;have HL2:=hid hL2;have HF2:=hid hf2;clear hL2 hf2 HS))
 all_goals first | go_end0 | (refine bodyPost_ret (results_none rfl _ _ _) rfl ?_)
 all_goals exact ⟨rfl,HL2.out,HF.out.trans HF2.out⟩
set_option maxRecDepth 100000 in
set_option maxHeartbeats 8000000 in
theorem dlay_rep {base:Nat} {a2 a4 a5 a7:Int} {a6:Bool} {a8:ByteArray} {r1 s1:Option Addr} {r2 r3 s2 s3:Nat} {R:List (Int × Int)} {ts:List Tn} (hl:LD 99 base ⟨6,r1,r2,r3,a2,s1,s2,s3,a4,a5,a6,a7,a8⟩ (.mk 6 R a2 ts a4 a5 a6 a7 a8)):LDn 58 base ⟨6,r1,r2,r3,a2,s1,s2,s3,a4,a5,a6,a7,a8⟩ (.mk 6 R a2 ts a4 a5 a6 a7 a8):=by
 intro w m l hM hm hb hT hlen hroom
 obtain ⟨U,hU⟩:∃ U,U=w.alloc (.cells #[.int .i64 6,.slice r1 r2 r3,.int .i64 a2,.slice s1 s2 s3,.int .i64 a4,.int .i64 a5,.bool a6,.int .i64 a7,.string a8] 25):=⟨_,rfl⟩
 have hbU:Below w.heap.size w U:=by rw [hU];exact Joins.below_alloc1 w _
 have hQ:BNo U w.heap.size ⟨6,r1,r2,r3,a2,s1,s2,s3,a4,a5,a6,a7,a8⟩:=by rw [hU];exact heap_alloc_new w _
 have hMU:=hM.below hbU
 have hbU2:base≤U.heap.size:=Nat.le_trans hb hbU.size
 have hTU:TI U base ⟨6,r1,r2,r3,a2,s1,s2,s3,a4,a5,a6,a7,a8⟩ (.mk 6 R a2 ts a4 a5 a6 a7 a8):=hT.kept (fun b hb'=>hbU.block b (by omega))
 have HF:=hid (FrD.of_below hbU hb)
 have hpU:w.heap.size < U.heap.size:=(Array.getElem?_eq_some_iff.1 hQ).1
 obtain ⟨c0,c1,c2,c3,c4,c5,c6,c7,c8⟩:=nine' hQ
 obtain ⟨p,hp⟩:∃ p,p=w.heap.size:=⟨_,rfl⟩
 have HMU:=hid hMU
 have HTU:=hid hTU
 rw [← hp] at c0 c1 c2 c3 c4 c5 c6 c7 c8 hpU hQ
 have HQ:Hid (∀ W,FrD base U W→BNo W p ⟨6,r1,r2,r3,a2,s1,s2,s3,a4,a5,a6,a7,a8⟩∧TI W base ⟨6,r1,r2,r3,a2,s1,s2,s3,a4,a5,a6,a7,a8⟩ (.mk 6 R a2 ts a4 a5 a6 a7 a8)∧base≤W.heap.size∧FrD base w W):=fun W hW=>⟨hW.blk _ _ _ _ hQ (by decide) (by decide),hTU.kept hW.low,Nat.le_trans hbU2 hW.size,HF.out.trans hW⟩
 have HFU:=full59 hMU
 rw [decide_eq_false (show ¬ 20000 < l.length by omega)] at HFU
 clear hM hMU hbU hQ hT hTU
 have HS:=hl U m l HMU.out hm hbU2 HTU.out hlen
 go_enter Tryz.func58,Tryz.ntmps58
 go_upto_region 1 with fail
 rw [← hU,← hp]
 clear hU hp
 go_upto_region 3 with (first | (go_at_call 59;(with_reducible refine HFU.mono ?_);rintro e w2 ⟨rfl,hw⟩;have hw':=hw.symm;clear hw;subst hw';clear HFU))
 go_wp2_with (first | (go_at_call 99;(with_reducible refine HS.mono ?_);rintro e V2 ⟨rfl,hL2,hf2⟩;have HL2:=hid hL2;have HF2:=hid hf2;clear hL2 hf2 HS))
 all_goals first | go_end0 | (refine bodyPost_ret (results_none rfl _ _ _) rfl ?_)
 all_goals exact ⟨rfl,HL2.out,HF.out.trans HF2.out⟩
theorem lay_allD {base:Nat} {t:Tn} (h:Nf t):∀ N,LD 58 base N t:=by
 have top:∀ {N:Nv} {k:Int} {R:List (Int × Int)} {a:Int} {s:List Tn} {mn mx:Int} {lz:Bool} {ix:Int} {nm:ByteArray} {w:World},TI w base N (.mk k R a s mn mx lz ix nm)→N.k=k∧N.a2=a∧N.a4=mn∧N.a5=mx∧N.a6=lz∧N.a7=ix∧N.a8=nm:=fun h=>by cases h;exact ⟨rfl,rfl,rfl,rfl,rfl,rfl,rfl⟩
 induction h with
 | @leaf k R a mn mx lz ix nm hk hn =>
  intro N w m l hM hm hb hT hlen
  obtain ⟨e0,e2,e4,e5,e6,e7,e8⟩:=top hT
  obtain ⟨k0,r1,r2,r3,a2,s1,s2,s3,a4,a5,a6,a7,a8⟩:=N
  dsimp only at e0 e2 e4 e5 e6 e7 e8
  subst e0 e2 e4 e5 e6 e7 e8
  have hfk:=fine_kind0 hn
  rcases hk with rfl | rfl | rfl
  ·exact lay58_full dlay_empty w m l hM hm hb hT hlen
  ·by_cases hR:R.length=0
   ·exact lay58_full (dlay_fail hR) w m l hM hm hb hT hlen
   ·exact lay58_full (dlay_class hR (by omega)) w m l hM hm hb hT hlen
  ·exact lay58_full dlay_assert w m l hM hm hb hT hlen
 | @cat s h2 h hs ih =>
  intro N w m l hM hm hb hT hlen
  obtain ⟨e0,e2,e4,e5,e6,e7,e8⟩:=top hT
  obtain ⟨k0,r1,r2,r3,a2,s1,s2,s3,a4,a5,a6,a7,a8⟩:=N
  dsimp only at e0 e2 e4 e5 e6 e7 e8
  subst e0 e2 e4 e5 e6 e7 e8
  exact lay58_full (dlay_cat fun i hi N=>ih _ (List.getElem_mem hi) N) w m l hM hm hb hT hlen
 | @alt s h2 h hs ih =>
  intro N w m l hM hm hb hT hlen
  obtain ⟨e0,e2,e4,e5,e6,e7,e8⟩:=top hT
  obtain ⟨k0,r1,r2,r3,a2,s1,s2,s3,a4,a5,a6,a7,a8⟩:=N
  dsimp only at e0 e2 e4 e5 e6 e7 e8
  subst e0 e2 e4 e5 e6 e7 e8
  exact lay58_full (dlay_alt (dalt h2 fun i hi N=>ih _ (List.getElem_mem hi) N)) w m l hM hm hb hT hlen
 | @loop mn mx lz y h hy ih =>
  intro N w m l hM hm hb hT hlen
  obtain ⟨e0,e2,e4,e5,e6,e7,e8⟩:=top hT
  obtain ⟨k0,r1,r2,r3,a2,s1,s2,s3,a4,a5,a6,a7,a8⟩:=N
  dsimp only at e0 e2 e4 e5 e6 e7 e8
  subst e0 e2 e4 e5 e6 e7 e8
  rcases h with ⟨rfl,rfl⟩ | ⟨rfl,rfl⟩ | ⟨rfl,rfl⟩
  ·exact lay58_full (dlay_rep (dloop_quest y ih)) w m l hM hm hb hT hlen
  ·exact lay58_full (dlay_rep (dloop_star y ih)) w m l hM hm hb hT hlen
  ·exact lay58_full (dlay_rep (dloop_plus y ih)) w m l hM hm hb hT hlen
 | @grp ix nm y hn hy ih =>
  intro N w m l hM hm hb hT hlen
  obtain ⟨e0,e2,e4,e5,e6,e7,e8⟩:=top hT
  obtain ⟨k0,r1,r2,r3,a2,s1,s2,s3,a4,a5,a6,a7,a8⟩:=N
  dsimp only at e0 e2 e4 e5 e6 e7 e8
  subst e0 e2 e4 e5 e6 e7 e8
  have hfk:=fine_kind0 hn
  exact lay58_full (dlay_group y rfl (by omega) ih) w m l hM hm hb hT hlen
theorem RDx.pi {w w':World} {m base lo c:Nat} {z1:Option Addr} {is:List Iv} {l:List In} (h:RDx w m base z1 c is l) (y:Nat) (hlb:lo≤base) (hyt:∀ arr t fr,w.heap[y]?=some (.cells arr t fr)→t≠86∧t≠70) (hk:∀ b,b≠y→w'.heap[b]?=w.heap[b]?) (hs:w'.heap.size=w.heap.size):∀ W',(∀ b,lo≤b→b < w'.heap.size→W'.heap[b]?=w'.heap[b]?)→w'.heap.size≤W'.heap.size→PI W' W'.heap.size z1 l.length l:=by
 have kept:∀ (W':World),(∀ b,lo≤b→b < w'.heap.size→W'.heap[b]?=w'.heap[b]?)→∀ {e size n:Nat} {v:Value} {xs:List Value},(e=86∨e=70)→w.ownsRow base e size v n xs→W'.ownsRow base e size v n xs:=fun W' hW e size n v xs he ho=>row_kept ho fun b hb=>by
  obtain ⟨cs,hc⟩:=own_atD ho hb
  have hl:=ho.lt b hb
  have hby:b≠y:=fun eq=>by
   subst eq
   have h2:=hyt _ _ _ hc
   rcases he with rfl | rfl
   ·exact h2.1 rfl
   ·exact h2.2 rfl
  exact (hW b (by omega) (by rw [hs];exact hl.2)).trans (hk b hby)
 intro W' hW hWs
 have hr:=kept W' hW (.inl rfl) h.row
 refine ⟨rfl,fun hp=>?_⟩
 obtain ⟨g,rfl⟩:=h.form hp
 have hgl:=hr.lt g rfl
 refine ⟨g,0,fun i=>is.getD i default,rfl,hgl.2,fun i hi=>?_⟩
 have hil:i < is.length:=by rw [h.len];exact hi
 have eg:is.getD i default=is[i]:=by rw [List.getD_eq_getElem?_getD,List.getElem?_eq_getElem hil];rfl
 show I5 W' g 0 i (is.getD i default)∧IM W' W'.heap.size (is.getD i default) l[i]
 rw [eg]
 refine ⟨?_,?_⟩
 ·have hc:∀ k,k < 5→W'.cell? ⟨g,0 + i * 5 + k,none⟩=(Iv.cs is[i])[k]?:=fun k hk5=>by
   rw [Nat.zero_add,hr.cellAt (i * 5 + k) (by omega),flat5 is i k hil hk5]
  exact ⟨hc 0 (by omega),hc 1 (by omega),hc 2 (by omega),hc 3 (by omega),hc 4 (by omega)⟩
 ·have hI:=h.im i hil hi
  exact ⟨hI.op,hI.x,hI.y,hI.a,hI.len,hI.sm,rowAt_own (kept W' hW (.inr rfl) hI.rr) hI.len⟩
theorem errC_big {t:Tn} (hs:t.sound=true) (h:errS t≠0):errC t=3:=by
 unfold errC
 rw [if_pos hs]
 split
 ·rfl
 ·unfold errS at h ⊢
  rw [if_pos hs] at h ⊢
  split
  ·rfl
  ·rename_i hb
   rw [if_neg hb] at h
   exact absurd rfl h
theorem errC_full {t:Tn} (hs:t.sound=true) (h:20000 < t.S.len + 3):errC t=3:=by
 unfold errC
 rw [if_pos hs,if_pos]
 have hf:=(sound_parts hs).1
 have:=ln_len t hf
 omega
theorem errC_ok {t:Tn} (hs:t.sound=true) (h0:errS t=0) (h:t.S.len + 3≤20000):errC t=0:=by
 unfold errC
 rw [if_pos hs,if_neg,h0]
 have hf:=(sound_parts hs).1
 have:=ln_len t hf
 omega
set_option maxRecDepth 100000 in
set_option maxHeartbeats 16000000 in
theorem compileD {w:World} {N:Nv} {t:Tn} (h:TI w w.heap.size N t):Calls Tryz.prog 25 #[N.v] w (CPost w t):=by
 obtain ⟨U,hU⟩:∃ U,U=(w.alloc (.cells #[.int .i64 N.k,.slice N.r1 N.r2 N.r3,.int .i64 N.a2,.slice N.s1 N.s2 N.s3,.int .i64 N.a4,.int .i64 N.a5,.bool N.a6,.int .i64 N.a7,.string N.a8] 25)).alloc (.cells #[.slice none 0 0,.int .i64 0,.int .i64 0] 46):=⟨_,rfl⟩
 have hbU:Below w.heap.size w U:=by rw [hU];exact below_two' w _ _
 have hX:BNo U w.heap.size N:=by rw [hU];exact (heap_alloc_old _ _ (by simp)).trans (heap_alloc_new w _)
 have hY:Bz3' U (w.heap.size + 1):=by rw [hU];exact two_new w _ _ _
 have hyU:w.heap.size + 1 < U.heap.size:=(Array.getElem?_eq_some_iff.1 hY).1
 have tiw:∀ (W:World),Below w.heap.size w W→TI W W.heap.size N t:=fun W hW=>(h.kept fun b hb=>hW.block b hb).le hW.size
 have HS:=sound25 (tiw U hbU)
 have TIW:=hid tiw
 obtain ⟨y,hy⟩:∃ y,y=w.heap.size + 1:=⟨_,rfl⟩
 obtain ⟨x,hx⟩:∃ x,x=w.heap.size:=⟨_,rfl⟩
 have HK:Hid (∀ W,Below U.heap.size U W→BNo W x N∧Bz3' W y∧Below w.heap.size w W):=fun W hW=>⟨by rw [hx];exact (hW.block _ (by omega)).trans hX,by rw [hy];exact (hW.block _ hyU).trans hY,hbU.trans (Joins.below_le hW hbU.size)⟩
 have HXE:=hid hx
 have HYE:=hid hy
 have c24:∀ (W:World) (v0 v1 v2:Value),Bz3' W y→((((W.setCell ⟨y,0,none⟩ v0).setCell ⟨y,1,none⟩ v1).setCell ⟨y,2,none⟩ v2).heap[y]?=some (.cells #[v0,v1,v2] 46 (0,0))):=fun W v0 v1 v2 h=>Joins.block_setCell (i:=2) (Joins.block_setCell (i:=1) (Joins.block_setCell (i:=0) h _) _) _
 have b24:∀ (W:World) (v0 v1 v2:Value),Below w.heap.size w W→Below w.heap.size w (((W.setCell ⟨y,0,none⟩ v0).setCell ⟨y,1,none⟩ v1).setCell ⟨y,2,none⟩ v2):=fun W v0 v1 v2 h=>((h.setCell (by show _≤y;omega) _).setCell (by show _≤y;omega) _).setCell (by show _≤y;omega) _
 have C24:=hid c24
 have B24:=hid b24
 have hsU:w.heap.size + 2≤U.heap.size:=by omega
 clear c24 b24 hbU hX hY tiw h
 go_enter Tryz.func25,Tryz.ntmps25
 go_upto_region 1 with fail
 rw [← hU,← hy,← hx]
 clear hU hy hx hyU
 obtain ⟨c0,c1,c2,c3,c4,c5,c6,c7,c8⟩:=nine' (HK.out U (Below.refl _ _)).1
 have HRET:Hid (∀ (W:World) (E:Int),E≠0→errC t=E→Below U.heap.size U W→CPost w t (.returned (.tuple #[.agg #[.slice none 0 0,.int .i64 0,.int .i64 0],.int .i64 E])) (((W.setCell ⟨y,0,none⟩ (.slice none 0 0)).setCell ⟨y,1,none⟩ (.int .i64 0)).setCell ⟨y,2,none⟩ (.int .i64 0))):=fun W E h0 hE hW=>⟨none,0,0,0,0,by rw [hE],B24.out _ _ _ _ (HK.out W hW).2.2,fun h=>absurd (hE.symm.trans h) h0⟩
 by_cases hsd':t.sound=false
 ·rw [hsd'] at HS
  simp only [Bool.false_eq_true,if_false] at HS
  have HER:Hid (errC t=50):=by show _=_;unfold errC;rw [hsd'];rfl
  clear hsd'
  go_wp2_with (first | (go_at_call 32;(with_reducible refine HS.mono ?_);rintro e U1 ⟨rfl,hb⟩;have HB1:=hid hb;have hY1:=(HK.out U1 hb).2.1;have y0:=Joins.unfrozen_of_block hY1 0;have y1:=Joins.unfrozen_of_block hY1 1;have y2:=Joins.unfrozen_of_block hY1 2;have s0:=Joins.cell_of_block hY1 0;have s1:=Joins.cell_of_block hY1 1;have s2:=Joins.cell_of_block hY1 2;have HY1:=hid hY1;clear hY1 hb HS))
  all_goals
   refine bodyPost_ret (results_cell_tmp rfl _ _ y 46 _ (0,0) _ rfl (C24.out _ (.slice none 0 0) (.int .i64 0) (.int .i64 0) HY1.out) Tryz.underlying46 rfl (by kernel_rfl)) rfl ?_
   exact HRET.out _ 50 (by decide) HER.out HB1.out
 have hsd:t.sound=true:=by simpa using hsd'
 rw [hsd] at HS
 simp only [if_true] at HS
 have HSO:=hid hsd
 clear hsd' hsd
 go_upto_region 4 with (go_at_call 32;(with_reducible refine HS.mono ?_);rintro e U1 ⟨rfl,hb⟩;have HB1:=hid hb;clear hb HS)
 clear c0 c1 c2 c3 c4 c5 c6 c7 c8
 obtain ⟨hX1,_,hBw1⟩:=HK.out U1 HB1.out
 have HC:=rsimp33 (TIW.out U1 hBw1)
 obtain ⟨E,hE⟩:∃ E,E=errS t:=⟨_,rfl⟩
 rw [← hE] at HC
 have HEE:=hid hE
 obtain ⟨c0,c1,c2,c3,c4,c5,c6,c7,c8⟩:=nine' hX1
 clear hX1 hBw1 hE
 go_upto_region 5 with (go_at_call 56;(with_reducible refine HC.mono ?_);rintro e W3 ⟨M,rfl,hTM,hb⟩;have HTM:=hid hTM;have HB3:=hid (HB1.out.trans (Joins.below_le hb HB1.out.size));clear hTM hb HC)
 clear c0 c1 c2 c3 c4 c5 c6 c7 c8
 obtain ⟨U3,hU3⟩:∃ U3,U3=W3.alloc (.cells #[.int .i64 M.k,.slice M.r1 M.r2 M.r3,.int .i64 M.a2,.slice M.s1 M.s2 M.s3,.int .i64 M.a4,.int .i64 M.a5,.bool M.a6,.int .i64 M.a7,.string M.a8] 25):=⟨_,rfl⟩
 obtain ⟨z,hz⟩:∃ z,z=W3.heap.size:=⟨_,rfl⟩
 rw [← hU3,← hz]
 have hb3:Below W3.heap.size W3 U3:=by rw [hU3];exact Joins.below_alloc1 W3 _
 have hZ:BNo U3 z M:=by rw [hU3,hz];exact heap_alloc_new W3 _
 have HB4:Hid (Below U.heap.size U U3):=HB3.out.trans (Joins.below_le hb3 HB3.out.size)
 have hTI3:TI U3 U3.heap.size M (simT t):=(HTM.out.kept fun b hb=>hb3.block b hb).le hb3.size
 have HZ:=hid hZ
 have HT3:=hid hTI3
 clear hU3 hz hb3 hZ hTI3 HTM HB3
 by_cases hE0:E≠0
 ·have g1:(E != 0)=true:=by simp [hE0]
  have HER:=hid (errC_big HSO.out (by rw [← HEE.out];exact hE0))
  have hY1:=(HK.out U3 HB4.out).2.1
  have y0:=Joins.unfrozen_of_block hY1 0
  have y1:=Joins.unfrozen_of_block hY1 1
  have y2:=Joins.unfrozen_of_block hY1 2
  have s0:=Joins.cell_of_block hY1 0
  have s1:=Joins.cell_of_block hY1 1
  have s2:=Joins.cell_of_block hY1 2
  have HY1:=hid hY1
  clear hY1 hE0
  go_wp2
  all_goals
   refine bodyPost_ret (results_cell_tmp rfl _ _ y 46 _ (0,0) _ rfl (C24.out _ (.slice none 0 0) (.int .i64 0) (.int .i64 0) HY1.out) Tryz.underlying46 rfl (by kernel_rfl)) rfl ?_
   exact HRET.out _ 3 (by decide) HER.out HB4.out
 have hE0:E=0:=by simpa using hE0
 subst hE0
 have hsim:simT t=t.S:=by unfold simT;rw [← HEE.out,if_pos rfl]
 obtain ⟨hf,_,hno⟩:=sound_parts HSO.out
 have hSn:t.S.nodes≤200000:=by
  have h1:=HEE.out
  unfold errS at h1
  rw [if_pos HSO.out] at h1
  split at h1
  ·cases h1
  ·rename_i hb
   simp only [Tn.bigS,Bool.or_eq_true,decide_eq_true_eq,not_or] at hb
   omega
 have HNF:=nf_S t hf
 obtain ⟨m,hm⟩:∃ m,m=U3.heap.size:=⟨_,rfl⟩
 obtain ⟨U4,hU4⟩:∃ U4,U4=U3.alloc (.cells #[.slice none 0 0] 96):=⟨_,rfl⟩
 have hb4:Below U3.heap.size U3 U4:=by rw [hU4];exact Joins.below_alloc1 U3 _
 have hRD:RD U4 m m []:=⟨none,0,[],by rw [hU4,hm];exact heap_alloc_new U3 _,World.ownsRow_nil _ _ _ _,rfl,fun k hk=>by simp at hk⟩
 have hm4:m≤U4.heap.size:=by rw [hm];exact hb4.size
 have hTI4:TI U4 m M t.S:=by rw [hm,← hsim];exact HT3.out.kept fun b hb=>hb4.block b hb
 have HQ:Hid (∀ W,FrD m U4 W→BNo W x N∧Bz3' W y∧Below w.heap.size w W∧BNo W z M∧TI W m M t.S∧m≤W.heap.size):=fun W hW=>by
  have hb0:Below U.heap.size U U4:=HB4.out.trans (Joins.below_le hb4 HB4.out.size)
  obtain ⟨q1,q2,q3⟩:=HK.out U4 hb0
  have hzl:=(Array.getElem?_eq_some_iff.1 HZ.out).1
  refine ⟨hW.blk _ _ _ _ q1 (by decide) (by decide),hW.blk _ _ _ _ q2 (by decide) (by decide),hW.below q3 (by rw [hm];have:=HB4.out.size;omega),hW.blk _ _ _ _ ((hb4.block z hzl).trans HZ.out) (by decide) (by decide),hTI4.kept hW.low,Nat.le_trans hm4 hW.size⟩
 have HWM:=hid (show w.heap.size + 2≤m by rw [hm];have:=HB4.out.size;omega)
 have HP1:=put57 3 0 hRD (Nat.le_refl m) (by simp) hm4
 have HP1':Calls Tryz.prog 57 #[pt m,.int .i64 3,.int .i64 0] U4 fun e w'=>e=.returned (.int .i64 0)∧RD w' m m [⟨3,1,0,0,[]⟩]∧FrD m U4 w':=HP1
 have HHM:=hid hm
 have HF:=hid hf
 have HU4:=hid hU4
 have HSN:=hid hSn
 have HLA:=hid (fun (N:Nv)=>lay_allD (base:=m) HNF N)
 clear hsim HNF hRD hTI4 hm hU4 hb4 HP1 HZ HT3 hno hSn hf HB4
 go_upto_region 8 with fail
 rw [← HU4.out,← HHM.out]
 go_upto_region 9 with (go_at_call 57;(with_reducible refine HP1'.mono ?_);rintro e V1 ⟨rfl,hM1,hf1⟩;have HM1:=hid hM1;have HF1:=hid hf1;clear hM1 hf1 HP1')
 obtain ⟨_,_,_,hZ1,hT1,hm1⟩:=HQ.out V1 HF1.out
 have HS:=HLA.out M V1 m _ HM1.out (Nat.le_refl m) hm1 hT1 (by have:=HSN.out;simp;omega)
 obtain ⟨c0,c1,c2,c3,c4,c5,c6,c7,c8⟩:=nine' hZ1
 clear hZ1 hT1
 go_upto_region 10 with (go_at_call 58;(with_reducible refine HS.mono ?_);rintro e V2 ⟨rfl,⟨l2,hM2,hL2⟩,hf2⟩;have HM2:=hid hM2;have HL2:=hid hL2;have HF2:=hid (HF1.out.trans hf2);clear hM2 hf2 hL2 HS)
 clear c0 c1 c2 c3 c4 c5 c6 c7 c8
 have hl2:l2.length≤1500000:=by have h1:=HL2.out.2.1;have h2:=HSN.out;simp only [List.length_cons,List.length_nil] at h1;omega
 have HP2:=put57 3 1 HM2.out (Nat.le_refl m) (by omega) (HQ.out V2 HF2.out).2.2.2.2.2
 go_upto_region 11 with (go_at_call 57;(with_reducible refine HP2.mono ?_);rintro e V3 ⟨rfl,hM3,hf3⟩;have HM3:=hid hM3;have HF3:=hid (HF2.out.trans hf3);clear hM3 hf3 HP2)
 have HP3:=put57 5 0 HM3.out (Nat.le_refl m) (by rw [List.length_append];simp only [List.length_cons,List.length_nil];omega) (HQ.out V3 HF3.out).2.2.2.2.2
 obtain ⟨l3,hl3⟩:∃ l3,l3=l2 ++ [(⟨3,((l2.length + 1:Nat):Int),0,1,[]⟩:In)]:=⟨_,rfl⟩
 rw [← hl3] at HP3
 obtain ⟨n3,hn3⟩:∃ n3,n3=l3.length:=⟨_,rfl⟩
 rw [← hn3] at HP3
 have hn3b:n3≤1500001:=by rw [hn3,hl3,List.length_append];simp only [List.length_cons,List.length_nil];omega
 have HL3:=hid hl3
 have HN3:=hid hn3
 clear hl3 hn3 hl2
 go_upto_region 12 with (go_at_call 57;(with_reducible refine HP3.mono ?_);rintro e V4 ⟨rfl,hM4,hf4⟩;have HM4:=hid hM4;have HF4:=hid (HF3.out.trans hf4);clear hM4 hf4 HP3)
 obtain ⟨zx,cx,ix,hxx⟩:=HM4.out
 obtain ⟨n4,hn4⟩:∃ n4,n4=(l3 ++ [(⟨5,((n3 + 1:Nat):Int),0,0,[]⟩:In)]).length:=⟨_,rfl⟩
 have hn4e:n4=n3 + 1:=by rw [hn4,List.length_append,HN3.out];rfl
 obtain ⟨gx,rfl⟩:=hxx.form (by omega)
 have kx:=hxx.cell
 rw [← hn4] at kx
 have htx:=hxx.there n3 (by omega)
 obtain ⟨vx,hvx⟩:=Option.isSome_iff_exists.1 (htx 1 (by omega)).1
 have fx:=(htx 1 (by omega)).2
 have bx1:(n3:Int) < (n4:Int):=by omega
 obtain ⟨px,pf⟩:=hxx.setX (Nat.le_refl m) n3 (by omega) (0:Int)
 have el5:(l3 ++ [(⟨5,((n3 + 1:Nat):Int),0,0,[]⟩:In)]).modify n3 (In.setX 0)=l3 ++ [⟨5,0,0,0,[]⟩]:=by rw [HN3.out,modify_mid];rfl
 rw [el5] at px
 obtain ⟨V5,hV5⟩:∃ V5,V5=V4.setCell ⟨gx,n3 * 5 + 1,none⟩ (.int .i64 (0:Int)):=⟨_,rfl⟩
 rw [← hV5] at px pf
 have HPX:=hid px
 have HF5:Hid (FrD m U4 V5):=HF4.out.trans pf
 have HV5:=hid hV5
 clear hxx htx px pf hV5 hn4 el5 HM4
 go_upto_region 13 with fail
 rw [← HV5.out]
 clear kx hvx fx bx1
 have hl5:(l3 ++ [(⟨5,0,0,0,[]⟩:In)]).length=n3 + 1:=by rw [List.length_append,HN3.out];rfl
 have HFU:=full59 (⟨_,_,_,HPX.out⟩:RD V5 m m (l3 ++ [⟨5,0,0,0,[]⟩]))
 rw [hl5] at HFU
 obtain ⟨hX5,hY5,hBw5,_,_,hm5⟩:=HQ.out V5 HF5.out
 have elen:n3=l2.length + 1:=by rw [HN3.out,HL3.out,List.length_append];rfl
 by_cases hfull:20000 < n3 + 1
 ·rw [decide_eq_true hfull] at HFU
  have HER:=hid (errC_full (t:=t) HSO.out (by have h1:=HL2.out.2.1.2;simp only [List.length_cons,List.length_nil] at h1;omega))
  have y0:=Joins.unfrozen_of_block hY5 0
  have y1:=Joins.unfrozen_of_block hY5 1
  have y2:=Joins.unfrozen_of_block hY5 2
  have s0:=Joins.cell_of_block hY5 0
  have s1:=Joins.cell_of_block hY5 1
  have s2:=Joins.cell_of_block hY5 2
  have HY5:=hid hY5
  have HBw5:=hid hBw5
  clear hX5 hY5 hBw5 hl5 elen hfull
  go_wp2_with (first | (go_at_call 59;(with_reducible refine HFU.mono ?_);rintro e w2 ⟨rfl,hw⟩;have hw':=hw.symm;clear hw;subst hw';clear HFU))
  all_goals
   refine bodyPost_ret (results_cell_tmp rfl _ _ y 46 _ (0,0) _ rfl (C24.out _ (.slice none 0 0) (.int .i64 0) (.int .i64 0) HY5.out) Tryz.underlying46 rfl (by kernel_rfl)) rfl ?_
   exact ⟨none,0,0,0,0,by rw [HER.out];rfl,B24.out _ _ _ _ HBw5.out,fun h=>by rw [HER.out] at h;cases h⟩
 rw [decide_eq_false hfull] at HFU
 have eprog:l3 ++ [(⟨5,0,0,0,[]⟩:In)]=progT t:=by
  have e2:=HL2.out.2.2 (by omega)
  have e3:l2.length=t.S.len + 1:=by rw [e2];simp [lay_len]
  rw [HL3.out,e3,e2]
  simp [progT]
  omega
 have hSl:t.S.len + 3=n3 + 1:=by rw [← prog_len,← eprog];exact hl5
 have HER:=hid (errC_ok HSO.out HEE.out.symm (by omega))
 have k00:=HPX.out.cell
 rw [hl5] at k00
 have hPX:=HPX.out
 rw [eprog] at hPX
 have HPI:=hid hPX
 have htf:=top_fine t HF.out
 have hx5:x < V5.heap.size:=(Array.getElem?_eq_some_iff.1 hX5).1
 have hy5:y < V5.heap.size:=(Array.getElem?_eq_some_iff.1 hY5).1
 have hml5:=hPX.lt
 have HBw5:=hid hBw5
 have HX5:=hid hX5
 have HY5:=hid hY5
 have HSL:=hid hSl
 have HG:Hid (∀ W,Below V5.heap.size V5 W→Calls Tryz.prog 60 #[N.v] W fun e w'=>e=.returned (.int .i64 t.top)∧Below W.heap.size W w'):=fun W hW=>by rw [top_gi];exact greatest60 (TIW.out W (HBw5.out.trans (Joins.below_le hW HBw5.out.size))) W (Nat.le_refl _) (fun _ _=>rfl)
 obtain ⟨top,htop⟩:∃ top,top=t.top:=⟨_,rfl⟩
 rw [← htop] at HG htf
 have HTOP:=hid htop
 have w1:IntKind.i64.wrap (2 * top)=2 * top:=by rw [wrap_ok _ (by omega) (by omega)]
 have w2:IntKind.i64.wrap (2 + 2 * top)=2 + 2 * top:=by rw [wrap_ok _ (by omega) (by omega)]
 have hyx:y≠x:=by have:=HXE.out;have:=HYE.out;omega
 have hym:y≠m:=by have:=HWM.out;have:=HYE.out;omega
 obtain ⟨c0,c1,c2,c3,c4,c5,c6,c7,c8⟩:=nine' hX5
 clear htop hX5 hY5 hBw5 hPX hSl eprog hl5 elen hfull
 go_upto_region 16 with (first | (go_at_call 59;(with_reducible refine HFU.mono ?_);rintro e w2 ⟨rfl,hw⟩;have hw':=hw.symm;clear hw;subst hw';clear HFU))
 go_region_held3 (fun W=>W.cell? ⟨m,0,none⟩=some (.slice (some ⟨gx,0,none⟩) (n3 + 1) cx)∧W.cell? ⟨x,0,none⟩=some (.int .i64 N.k)∧W.cell? ⟨x,1,none⟩=some (.slice N.r1 N.r2 N.r3)∧W.cell? ⟨x,2,none⟩=some (.int .i64 N.a2)∧W.cell? ⟨x,3,none⟩=some (.slice N.s1 N.s2 N.s3)∧W.cell? ⟨x,4,none⟩=some (.int .i64 N.a4)∧W.cell? ⟨x,5,none⟩=some (.int .i64 N.a5)∧W.cell? ⟨x,6,none⟩=some (.bool N.a6)∧W.cell? ⟨x,7,none⟩=some (.int .i64 N.a7)∧W.cell? ⟨x,8,none⟩=some (.string N.a8)) (first | (exact ⟨k,k0,k1,k2,k3,k4,k5,k6,k7,k8⟩) | (go_keep;done) | (refine ⟨?_,?_,?_,?_,?_,?_,?_,?_,?_,?_⟩ <;> simp [*] <;> done) | (simp [*];done)) (first | (go_at_call 60;(with_reducible refine (HG.out _ ?_).mono ?_);(first | exact drew_below _ | exact ⟨rfl,rfl,rfl,Nat.le_refl _,fun _ _=>rfl⟩);rintro e w6 ⟨rfl,hb6⟩;have hbb:Below V5.heap.size V5 w6:=⟨hb6.os,hb6.tape,hb6.output,hb6.size,hb6.block⟩;obtain ⟨k0,k1,k2,k3,k4,k5,k6,k7,k8⟩:=nine' ((hbb.block x hx5).trans HX5.out);have k:w6.cell? ⟨m,0,none⟩=some (.slice (some ⟨gx,0,none⟩) (n3 + 1) cx):=(cell_eq (hbb.block m hml5) 0).trans k00;have hY6:=(hbb.block y hy5).trans HY5.out;have y0:=Joins.unfrozen_of_block hY6 0;have y1:=Joins.unfrozen_of_block hY6 1;have y2:=Joins.unfrozen_of_block hY6 2;have s0:=Joins.cell_of_block hY6 0;have s1:=Joins.cell_of_block hY6 1;have s2:=Joins.cell_of_block hY6 2;have HY6:=hid hY6;have HBB:=hid hbb;clear hbb hb6 hY6))
 all_goals go_wp2_with fail
 all_goals
  refine bodyPost_ret (results_cell_tmp rfl _ _ y 46 _ (0,0) _ rfl (C24.out _ (.slice (some ⟨gx,0,none⟩) (n3 + 1) cx) (.int .i64 0) (.int .i64 (2 + 2 * top)) HY6.out) Tryz.underlying46 rfl (by kernel_rfl)) rfl ?_
  have hBx6:Below w.heap.size w w6:=HBw5.out.trans (Joins.below_le HBB.out HBw5.out.size)
  have hPI:=(HPI.out.below HBB.out).pi (w':=((w6.setCell ⟨y,0,none⟩ (.slice (some ⟨gx,0,none⟩) (n3 + 1) cx)).setCell ⟨y,1,none⟩ (.int .i64 0)).setCell ⟨y,2,none⟩ (.int .i64 (2 + 2 * top))) (lo:=w.heap.size) y (by have:=HWM.out;omega) (fun arr t fr e=>by rw [HY6.out] at e;cases e;decide) (fun b hb=>(Below.heap_setCell _ _ _ _ hb).trans ((Below.heap_setCell _ _ _ _ hb).trans (Below.heap_setCell _ _ _ _ hb))) (by simp [World.setCell])
  rw [prog_len,HSL.out] at hPI
  exact ⟨some ⟨gx,0,none⟩,n3 + 1,cx,0,2 + 2 * top,by rw [HER.out];rfl,B24.out _ _ _ _ hBx6,fun _=>⟨rfl,by rw [HTOP.out],hPI⟩⟩
end Go.Proofs.YtacaanhnlfpbhaaGreat
namespace Go.Proofs.YtacaanhnlfpbhaaGreat
set_option linter.unusedVariables false
set_option linter.unusedSimpArgs false
theorem vall_over {A:Nat→Ac} {j f:Nat} (T:List Th) {s:Vst} (h:s.over=true):vall A j f T s=s:=by
 induction T generalizing s with
 | nil=>rfl
 | cons t T ih=>simp only [vall,List.foldl_cons];rw [vis_over h];exact ih h
theorem vall_append (A:Nat→Ac) (j f:Nat) (T U:List Th) (s:Vst):vall A j f (T ++ U) s=vall A j f U (vall A j f T s):=by simp [vall,List.foldl_append]
end Go.Proofs.YtacaanhnlfpbhaaGreat
namespace Go.Proofs.YtacaanhnlfpbhaaGreat
open Go.RowKit
set_option linter.unusedVariables false
set_option linter.unusedSimpArgs false
theorem wpList_append_one {P:Program} {w:World} {ops:Array Oper} {rest:List Oper} {op:Oper} {a:Act} {Q:Exit→Act→World→Prop} (hgd:op.guard=none) (s x:Operand) (t:TypeId)
  (ho:op.op=.call { callee:=.builtin .append,args:=#[s,x],argTypes:=#[t,t] })
  (base:Nat) (e:TypeId) (z:Value) (bytes:Nat) (ht:P.underlying t=some (.slice e)) (hi:(P.info? e).map (fun i=>(i.zero,i.size,i.bytes))=some (some z,1,bytes)) (hzs:z.cells.size=1)
  (v u:Value) (n c:Nat) (xs:List Value) (hs:a.eval s=v) (hown:w.ownsRow base e 1 v n xs)
  (G:Nat) (hG:G=w.heap.size) (hx:a.eval x=.slice (some ⟨G,0,none⟩) 1 c) (h1:u.oneCell'=true)
  (h63:n + 1≤maxLen) (hbytes:(n + 1) * bytes≤140737488355328) (hbase:base≤w.heap.size)
  (h:∀ v' w',Hid (w'.ownsRow base e 1 v' (n + 1) (xs ++ [u]))→Hid (Moved (w.alloc (.cells #[u] e)) w' v v')→wpList P ops Q rest (a.put op.dst v') w'):wpList P ops Q (op :: rest) a (w.alloc (.cells #[u] e)):=by
 subst hG
 obtain ⟨i0,hi,hz0,hz1,hz2⟩:=info_parts hi
 refine wpList_append_move hgd s x t ho base e i0 z bytes ht hi hz0 hz1 hz2 hzs v n xs hs (hown.alloc _) ⟨w.heap.size,0,none⟩ 1 c [u] hx rfl (by decide) ?_ ?_ h63 hbytes (by simp;omega) h
 ·intro j y hj
  match j,hj with
  | 0,hj=>simp at hj;subst hj;simp [Addr.add]
 ·intro y hy;simp at hy;subst hy;exact h1
theorem chg_moved {w w1:World} {o:Obj} {v v':Value} (hm:Moved (w.alloc o) w1 v v') (G:List Nat):Chg w w1 (G ++ v.ownBlock.toList) (G ++ v'.ownBlock.toList):=by
 rcases hm with ⟨he,h⟩ | ⟨he,h⟩
 ·refine ⟨h.os,h.tape,h.output,by have:=h.size;simp at this;omega,fun k hk hn=>(h.block k (by simp;omega) (fun e=>hn (by simp [← e]))).trans (heap_alloc_old w _ hk),fun k hk=>?_⟩
  rw [he] at hk
  exact .inl hk
 ·refine ⟨h.os,h.tape,h.output,by have:=h.size;simp at this;omega,fun k hk hn=>(h.block k (by simp;omega) (by simp)).trans (heap_alloc_old w _ hk),fun k hk=>?_⟩
  rw [he] at hk
  simp at hk
  rcases hk with hk | hk
  ·exact .inl (by simp [hk])
  ·exact .inr (by omega)
set_option maxHeartbeats 1000000 in
theorem closure68 (lo hi r:Int) (W:World):Calls Tryz.prog 217 #[.agg #[.int .i64 lo,.int .i64 hi],.int .i64 r] W fun e w'=>e=.returned (.int .i64 (cmpI hi r))∧Below W.heap.size W w':=by
 have hcon:=fun W'=>compare69 hi r W'
 generalize cmpI hi r=c at hcon ⊢
 go_enter Tryz.func217,Tryz.ntmps217
 go_wp2_with (go_at_call 218;refine (hcon _).mono ?_;rintro e w' ⟨rfl,rfl⟩)
 go_ret
 exact ⟨rfl,(Below.refl _ _).alloc (Nat.le_refl _) _⟩
set_option maxHeartbeats 3000000 in
set_option maxRecDepth 1000000 in
theorem bs67 (L:List (Int × Int)) (ad:Option Addr) (n cap:Nat) (r:Int) (w:World) (hn:Hid (n=L.length)) (hl:Hid (RowAt w.heap.size w (.slice ad n cap) L)) (hS:n≤5000) :
  Calls Tryz.prog 216 #[.slice ad n cap,.int .i64 r,.func (.func 217) #[] #[]] w fun e w'=>∃ (i:Nat) (f:Bool),e=.returned (.tuple #[.int .i64 i,.bool f])∧Below w.heap.size w w'∧i≤n∧(i=0∨(L.getD (i - 1) (0,0)).2 < r)∧(i=n∨r≤(L.getD i (0,0)).2):=by
 go_enter Tryz.func216,Tryz.ntmps216
 go_wp2
 go_loopw [9,10] (fun a b wr=>∃ (i j:Nat),a=.int .i64 i∧b=.int .i64 j∧i≤j∧j≤n∧Below w.heap.size w wr∧Hid ((i=0∨(L.getD (i - 1) (0,0)).2 < r)∧(j=n∨r≤(L.getD j (0,0)).2)))
  (fun a b _=>(intOf b).toNat - (intOf a).toNat)
 case atStart=>exact ⟨0,n,rfl,rfl,by omega,by omega,Below.refl _ _,by exact ⟨.inl rfl,.inl rfl⟩⟩
 case round =>
  obtain ⟨i,j,rfl,rfl,hij,hjn,hbw,HR⟩:=hrel
  have hsz:=hbw.size
  by_cases hlt:i < j
  ·obtain ⟨ad',cap',he,h | ⟨b,off,rfl,hbN,hc0,hc1⟩⟩:=hl.out
   ·exact absurd h (by rw [← hn.out];omega)
   ·have hn':=hn.out
    simp only [Value.slice.injEq] at he
    obtain ⟨rfl,-,rfl⟩:=he
    have hm1:i≤(i + j) / 2:=by omega
    have hm2:(i + j) / 2 < j:=by omega
    have d0:=(hbw.cell (p:=⟨b,off + (i + j) / 2 * 2,none⟩) hbN).trans (hc0 ((i + j) / 2) (by omega))
    have d1:=(hbw.cell (p:=⟨b,off + (i + j) / 2 * 2 + 1,none⟩) hbN).trans (hc1 ((i + j) / 2) (by omega))
    generalize hg:L.getD ((i + j) / 2) (0,0)=g at d0 d1
    obtain ⟨lo,hi⟩:=g
    simp only at d0 d1
    have HG:Hid (L.getD ((i + j) / 2) (0,0)=(lo,hi)):=hg
    clear hg hc0 hc1 hn'
    have hcl:=closure68 lo hi r
    have hcmp:=cmp_lt hi r
    generalize cmpI hi r=c at hcl hcmp
    by_cases hc:c < 0
    ·have HX:Hid (hi < r):=hcmp.1 hc
     clear hcmp
     go_wp2_with (go_at_call 217;refine (hcl _).mono ?_;rintro e w2 ⟨rfl,hb2⟩)
     go_roundw
     case rel=>exact ⟨(i + j) / 2 + 1,j,by go_num,rfl,by omega,by omega,hbw.trans (hb2.mono hsz),by exact ⟨.inr (by rw [Nat.add_sub_cancel,HG.out];exact HX.out),HR.out.2⟩⟩
     case measure=>simp [intOf];omega
    ·have HX:Hid (r≤hi):=by show r≤hi;have:=mt hcmp.2 hc;omega
     clear hcmp
     go_wp2_with (go_at_call 217;refine (hcl _).mono ?_;rintro e w2 ⟨rfl,hb2⟩)
     go_roundw
     case rel=>exact ⟨i,(i + j) / 2,rfl,by go_num,by omega,by omega,hbw.trans (hb2.mono hsz),by exact ⟨HR.out.1,.inr (by rw [HG.out];exact HX.out)⟩⟩
     case measure=>simp [intOf];omega
  ·obtain rfl:i=j:=by omega
   by_cases hin:i < n
   ·obtain ⟨ad',cap',he,h | ⟨b,off,rfl,hbN,hc0,hc1⟩⟩:=hl.out
    ·exact absurd h (by rw [← hn.out];omega)
    ·have hn':=hn.out
     simp only [Value.slice.injEq] at he
     obtain ⟨rfl,-,rfl⟩:=he
     have d0:=(hbw.cell (p:=⟨b,off + i * 2,none⟩) hbN).trans (hc0 i (by omega))
     have d1:=(hbw.cell (p:=⟨b,off + i * 2 + 1,none⟩) hbN).trans (hc1 i (by omega))
     generalize L.getD i (0,0)=g at d0 d1
     obtain ⟨lo,hi⟩:=g
     simp only at d0 d1
     clear hc0 hc1 hn'
     have hcl:=closure68 lo hi r
     generalize cmpI hi r=c at hcl
     go_wp2_with (go_at_call 217;refine (hcl _).mono ?_;rintro e w2 ⟨rfl,hb2⟩)
     go_ret2
     exact ⟨i,_,rfl,hbw.trans (hb2.mono hsz),by omega,HR.out.1,HR.out.2⟩
   ·go_wp2
    go_ret2
    exact ⟨i,_,rfl,hbw,by omega,HR.out.1,HR.out.2⟩
end Go.Proofs.YtacaanhnlfpbhaaGreat
