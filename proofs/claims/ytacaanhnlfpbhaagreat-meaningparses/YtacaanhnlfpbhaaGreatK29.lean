/- HELPERS: texts of ours put together. -/
import Derived.Test.YtacaanhnlfpbhaaGreatK28
import Derived.Test.YtacaanhnlfpbhaaGreatK25
import Derived.Test.YtacaanhnlfpbhaaGreatK03
import Derived.Test.YtacaanhnlfpbhaaGreatK02
import Derived.Test.YtacaanhnlfpbhaaGreatK01
import Derived.Deep.SlicePairs
import Derived.RowKit
import Derived.Test.YtacaanhnlfpbhaaGreatProg
import Derived.WalkKit
import Derived.ProofKit
import Derived.BigQuiet
import Derived.WalkSmall
import Derived.Deep.QuietTactic
import Derived.Deep.RegionWith
import Derived.Lib.SmallJoins
import Derived.Lib.MinMax
import Derived.Maps.AppendAt
import Derived.Laws.AppendOwnNone
import Derived.Test.YtacaanhnlfpbhaaGreatK04
import Derived.Lib.Small
import Derived.Test.YtacaanhnlfpbhaaGreatK06
import Derived.Deep.Cut
import Derived.Deep.CutRange
import Derived.Laws.EntriesVeiled
import Derived.OrdersHeld
import Derived.StillTail
import Derived.Tactics
import Derived.Below
import Derived.Deep.RegionHeld3
import Derived.Deep.MidRow
import Derived.Deep.OwnRows
import Derived.Laws.Rows
import Derived.WalkLawsBesides
import Derived.Deep.RegionLaw
import Derived.Laws.CopyOwn
import Derived.Lib.LazyBuf
namespace Go.Proofs.YtacaanhnlfpbhaaGreat
open Go.RowKit
set_option linter.unusedVariables false
set_option linter.unusedSimpArgs false
theorem fine6 {R:List (Int × Int)} {a:Int} {s:List Tn} {mn mx:Int} {lz:Bool} {ix:Int} {nm:ByteArray} (h:(Tn.mk 6 R a s mn mx lz ix nm).fine=true):s.length=1∧(0≤mn∧mn≤1000)∧(mx=-1∨(mn≤mx∧mx≤1000))∧fineL s=true:=by
 simp only [Tn.fine,Bool.and_eq_true] at h
 obtain ⟨h1,h2⟩:=h
 simp only [nodeB,show ¬ ((6:Int)=1) by decide,show ¬ ((6:Int)=2) by decide,show ¬ ((6:Int)=3) by decide,show ¬ ((6:Int)=4∨(6:Int)=5) by decide,if_false,if_true,Bool.and_eq_true,Bool.or_eq_true,decide_eq_true_eq] at h1
 obtain ⟨⟨⟨⟨h3,h4⟩,h5⟩,h6⟩,_⟩:=h1
 exact ⟨h3,⟨h4,h5⟩,h6,h2⟩
theorem fineL_mem {ts:List Tn} (h:fineL ts=true):∀ t ∈ ts,t.fine=true:=by
 induction ts with
 | nil=>intro t ht;simp at ht
 | cons a ts ih =>
  simp only [fineL,Bool.and_eq_true] at h
  intro t ht
  rcases List.mem_cons.1 ht with rfl | ht
  ·exact h.1
  ·exact ih h.2 t ht
theorem spread6 {R:List (Int × Int)} {a:Int} {t:Tn} {mn mx:Int} {lz:Bool} {ix:Int} {nm:ByteArray}:(Tn.mk 6 R a [t] mn mx lz ix nm).spread=sprN t.spread mn mx lz:=by simp [Tn.spread,spreadL]
theorem spread_ne {k:Int} {R:List (Int × Int)} {a:Int} {s:List Tn} {mn mx:Int} {lz:Bool} {ix:Int} {nm:ByteArray} (h:k≠6):(Tn.mk k R a s mn mx lz ix nm).spread=.mk k R a (spreadL s) mn mx lz ix nm:=by simp [Tn.spread,h]
theorem Grw.set {tb N0 n0:Nat} {Q0:List E8} {W0:World} {v0:Value} {ts:List Tn} {W:World} {v:Value} {Q:List E8} {l:Value} (g:Grw tb N0 n0 Q0 W0 v0 ts W v Q l) {yb j:Nat} {cs:Array Value} (hy:W.heap[yb]?=some (.cells cs 141 (0,0))) (hv:v.ownBlock≠some yb) (h0:W0.heap.size≤yb) (x:Value):Grw tb N0 n0 Q0 W0 v0 ts (W.setCell ⟨yb,j,none⟩ x) v Q l:=by
 have hlt:=(Array.getElem?_eq_some_iff.1 hy).1
 have htb:yb≠tb:=fun e=>by rw [e,g.um.box] at hy;simp at hy
 have hl:l.ownBlock≠some yb:=own_ne g.row hy (by decide)
 have old:∀ b,b≠yb→(W.setCell ⟨yb,j,none⟩ x).heap[b]?=W.heap[b]?:=fun b hb=>Below.heap_setCell _ _ _ _ hb
 have hsz:(W.setCell ⟨yb,j,none⟩ x).heap.size=W.heap.size:=by simp [World.setCell]
 have hN:=g.low
 have ki:KI N0 W (W.setCell ⟨yb,j,none⟩ x):=⟨fun b hb=>old b (by omega),fun b cur hx=>(old b (fun e=>by rw [e,hy] at hx;simp at hx)).trans hx⟩
 refine ⟨⟨(old tb (fun e=>htb e.symm)).trans g.um.box,row_kept g.um.row fun b hb=>old b (fun e=>hv (e ▸ hb)),g.um.tbN⟩,⟨g.fr.os,g.fr.tape,g.fr.output,by rw [hsz];exact g.fr.size,fun b b1 b2 b3=>(old b (by omega)).trans (g.fr.old b b1 b2 b3),g.fr.own⟩,hN,g.len,g.old,g.top.on (fun wx hk=>KX.ki ki hk (by rw [hsz];exact Nat.le_refl _)) (fun _ _ _=>rfl),row_kept g.row fun b hb=>old b (fun e=>hl (e ▸ hb)),g.nl⟩
theorem Grw.put {tb N0 n0:Nat} {Q0:List E8} {W0:World} {v0:Value} {ts:List Tn} {W:World} {v:Value} {Q:List E8} {la:Option Addr} {m lc:Nat} (g:Grw tb N0 n0 Q0 W0 v0 ts W v Q (.slice la m lc)) (hm:m=ts.length) (hQ:n0 + nodesL ts≤100000) {k:Int} {R:List (Int × Int)} {a mn mx ix:Int} {lz:Bool} {nm:ByteArray} {r1:Option Addr} {r2 r3:Nat} (hk:k≠6) (hR:RowAt N0 W (.slice r1 r2 r3) R) :
  Calls Tryz.prog 81 #[.pointer (some ⟨tb,0,none⟩),.agg #[.int .i64 k,.int .i64 a,.int .i64 ix,.slice r1 r2 r3,.slice la m lc,.bool false,.int .i64 0,.int .i64 0]] W (BPost tb N0 W0.heap.size (.mk k R a ts mn mx lz ix nm) n0 Q0 W0 v0):=by
 subst hm
 have hs:=g.fr.size
 have hl:=g.len
 have hrw:Rw W (.slice la ts.length lc) ((rts ts n0).map fun (x:Nat)=>(x:Int)):=by
  rcases Nat.eq_zero_or_pos ts.length with h0 | h0
  ·have:ts=[]:=List.length_eq_zero_iff.1 h0
   subst this
   exact .inl ⟨g.nl rfl,by simp [rts,pnL]⟩
  ·exact Rw.of g.row h0
 have hbl:=put_built (lo:=W0.heap.size) (q:=⟨k,a,ix,r1,r2,r3,la,ts.length,lc,false,0,0⟩) (ts:=ts) (n0:=n0) (k:=k) (R:=R) (a:=a) (mn:=mn) (mx:=mx) (ix:=ix) (lz:=lz) (nm:=nm) g.um (by have:=g.low;omega) g.top.r (by omega) (by omega) (by simp [Tn.pn,Lt.kk,hk]) rfl rfl ⟨fun _=>rfl,fun _=>rfl,fun h=>absurd h hk,fun _=>hR,by rw [pnL_len,← rts_map];exact hrw⟩ (fun b hb=>(g.row.lt b hb).1)
 refine hbl.mono fun e w' hq=>?_
 obtain ⟨v5,Q5,e5,um5,fr5,hl5,ho5,hr5⟩:=hq
 exact ⟨v5,Q5,e5,um5,g.fr.trans fr5,hl5,fun x hx=>(ho5 x hx).trans (g.old x hx),hr5⟩
theorem spreadL_take (ts:List Tn) (i:Nat) (h:i < ts.length):spreadL (ts.take (i + 1))=spreadL (ts.take i) ++ [ts[i].spread]:=by
 rw [List.take_succ_eq_append_getElem h,spreadL_map,spreadL_map,List.map_append];rfl
theorem nodesL_len:∀ (ts:List Tn),ts.length≤nodesL ts
 | []=>by simp
 | t :: ts=>by have:=nodesL_len ts;have:=nodes_pos t;simp only [nodesL,List.length_cons];omega
theorem spreadL_len (ts:List Tn):(spreadL ts).length=ts.length:=by simp [spreadL_map]
theorem nodesL_take (ts:List Tn) (i:Nat) (h:i < ts.length):nodesL (spreadL (ts.take i)) + ts[i].spread.nodes≤nodesL (spreadL ts):=by
 have e:ts=(ts.take (i + 1)) ++ ts.drop (i + 1):=(List.take_append_drop _ _).symm
 have e2:spreadL ts=spreadL (ts.take (i + 1)) ++ spreadL (ts.drop (i + 1)):=by rw [spreadL_map,spreadL_map,spreadL_map,← List.map_append,List.take_append_drop]
 rw [e2,nodesL_app,spreadL_take ts i h,nodesL_snoc]
 omega
set_option maxRecDepth 100000 in
set_option maxHeartbeats 16000000 in
theorem unfold46 {tb N0:Nat} {W0:World} {N:Nv} {t:Tn} (h:TI W0 N0 N t):t.fine=true→UnfC tb N0 W0 N t.spread:=by
 induction h with
 | @mk N R ts ND ok hr hR hRk hs hS hk ih =>
 intro hf W v Q h hN hlow hnod
 have hR':=hR.row (N:=N) hr
 have hmax:=ok.s
 obtain ⟨k,r1,r2,r3,a2,s1,s2,s3,mn,mx,lz,a7,a8⟩:=N
 dsimp only at hs hS hR' hnod hf hmax ⊢
 have hm2:s2≤9223372036854775807:=by have:maxLen=9223372036854775807:=rfl;omega
 obtain ⟨U1,hU1⟩:∃ U,U=W.alloc (.cells #[.int .i64 k,.slice r1 r2 r3,.int .i64 a2,.slice s1 s2 s3,.int .i64 mn,.int .i64 mx,.bool lz,.int .i64 a7,.string a8] 25):=⟨_,rfl⟩
 have hb1:Below W.heap.size W U1:=by rw [hU1];exact Joins.below_alloc1 W _
 have hs1:U1.heap.size=W.heap.size + 1:=by rw [hU1];simp
 obtain ⟨xb,hxb⟩:∃ xb,xb=W.heap.size:=⟨_,rfl⟩
 have hUB:U1.heap[xb]?=some (.cells #[.int .i64 k,.slice r1 r2 r3,.int .i64 a2,.slice s1 s2 s3,.int .i64 mn,.int .i64 mx,.bool lz,.int .i64 a7,.string a8] 25 (0,0)):=by rw [hU1,hxb];exact heap_alloc_new W _
 obtain ⟨x0,x1,x2,x3,x4,x5,x6,x7,x8⟩:=nine' hUB
 have hlow1:∀ b,b < N0→U1.heap[b]?=W0.heap[b]?:=fun b hb=>(hb1.block b (by omega)).trans (hlow b hb)
 have hum1:=h.below hb1
 have HU1:=hid hU1
 have HXB:=hid hxb
 obtain ⟨P,hP⟩:∃ P,P=BPost tb N0 W.heap.size (Tn.mk k R a2 ts mn mx lz a7 a8).spread Q.length Q W v:=⟨_,rfl⟩
 rw [← hP]
 have HP:=hid hP
 have HPE:Hid (∀ e w',P e w'→∃ z,e=.returned (.int .i64 z)):=fun e w' hp=>by rw [hP] at hp;exact hp.ret
 have HB1:=hid hb1
 by_cases hk6:k=6
 ·subst hk6
  obtain ⟨f1,f2,f3,f4⟩:=fine6 hf
  obtain ⟨t,rfl⟩:=List.length_eq_one_iff.1 f1
  obtain ⟨b,o,e1,hb,hc⟩:=hS (by simp)
  rw [spread6] at hnod hP HP
  have HC:=repeat80 (N:=⟨6,r1,r2,r3,a2,s1,s2,s3,mn,mx,lz,a7,a8⟩) (M:=ND 0) e1 (by simp at hs;dsimp only;omega) hb (hc 0 (by simp)) (ih 0 (by simp) (fineL_mem f4 _ (by simp))) f2 f3 U1 v Q hum1 (by omega) hlow1 hnod
  have HC':Calls Tryz.prog 80 #[.pointer (some ⟨tb,0,none⟩),.agg #[.int .i64 6,.slice r1 r2 r3,.int .i64 a2,.slice s1 s2 s3,.int .i64 mn,.int .i64 mx,.bool lz,.int .i64 a7,.string a8]] U1 P:=by rw [hP];exact HC.mono fun e w' hq=>BPost.base HB1.out hq
  clear HC hP hU1 hb1 hs1 hxb hUB hlow1 hum1 h hN hlow hnod hf hR' hmax f1 f2 f3 f4 hc hb e1 ih hS hk hs ok hr hR hRk
  go_enter Tryz.func46,Tryz.ntmps46
  go_upto_region 1 with fail
  rw [← HU1.out,← HXB.out]
  go_wp2_with (first | (go_at_call 80;(with_reducible refine HC'.mono ?_);rintro e w8 hq;have HQ5:=hid hq;obtain ⟨_,rfl⟩:=HPE.out _ _ hq;clear HC' hq))
  all_goals first | exact HQ5.out | (go_ret;exact HQ5.out)
 ·rw [spread_ne hk6] at hnod hP HP
  have hff:fineL ts=true:=by simp only [Tn.fine,Bool.and_eq_true] at hf;exact hf.2
  have b6:(k == 6)=false:=by simp;exact hk6
  have HS2:=hid hs
  have HS1:=hid hs1
  have htb:=(Array.getElem?_eq_some_iff.1 h.box).1
  have HTB:Hid (tb < U1.heap.size):=hid (by omega)
  have HXC:Hid (∀ V v',UFr tb U1 V v v'→V.cell? ⟨xb,3,none⟩=some (.slice s1 s2 s3)):=fun V v' f=>(nine' ((f.old xb (by omega) (by omega) (fun e=>by have:=(h.row.lt xb e).2;omega)).trans hUB)).2.2.2.1
  have HLO:Hid (∀ V v',UFr tb U1 V v v'→∀ b,b < N0→V.heap[b]?=W0.heap[b]?):=fun V v' f b hb=>((f.ki hum1 (by omega)).1 b hb).trans (hlow1 b hb)
  have HUM:=hid hum1
  have HVO:Hid (v.ownBlock≠some U1.heap.size):=fun e=>by have:=(h.row.lt _ e).2;omega
  have HNU:Hid (N0≤U1.heap.size):=hid (by omega)
  have HNOD:Hid (Q.length + nodesL (spreadL ts) + 1≤100000):=by simp only [Tn.nodes] at hnod;exact hid (by omega)
  have HSS:=hid hS
  have IH:Hid (∀ (i:Nat) (hi:i < ts.length),UnfC tb N0 W0 (ND i) ts[i].spread):=fun i hi=>ih i hi (fineL_mem hff _ (List.getElem_mem hi))
  have HRR:=hid hR'
  have HDR:Hid (∀ V:World,Below V.heap.size V V.drew):=fun V=>⟨rfl,rfl,rfl,Nat.le_refl _,fun _ _=>rfl⟩
  clear hU1 hxb hP ok hr hR hRk hk hs hs1 htb hlow1 hum1 h hN hlow hnod hf hS ih hR' hff hmax hUB hb1
  go_enter Tryz.func46,Tryz.ntmps46
  go_upto_region 1 with fail
  rw [← HU1.out,← HXB.out]
  go_upto_region 4 with fail
  obtain ⟨U,hU⟩:∃ U,U=U1.alloc (.cells #[.int .i64 k,.int .i64 a2,.int .i64 a7,.slice r1 r2 r3,.slice none 0 0,.bool false,.int .i64 0,.int .i64 0] 141):=⟨_,rfl⟩
  obtain ⟨yb,hyb⟩:∃ yb,yb=U1.heap.size:=⟨_,rfl⟩
  rw [← hU,← hyb]
  have hbU:Below U1.heap.size U1 U:=by rw [hU];exact Joins.below_alloc1 U1 _
  have HYU:Hid (U.heap[yb]?=some (.cells #[.int .i64 k,.int .i64 a2,.int .i64 a7,.slice r1 r2 r3,.slice none 0 0,.bool false,.int .i64 0,.int .i64 0] 141 (0,0))):=by rw [hU,hyb];exact heap_alloc_new U1 _
  have HBU:=hid hbU
  have HYB:=hid hyb
  clear hU hyb hbU x0 x1 x2 x3 x4 x5 x6 x7 x8
  go_wp2_with fail
  go_loopw [6] (fun y wq=>∃ i:Nat,y=.int .i64 (i:Int)∧i≤s2∧∃ la lc vq Qq,Hid (Grw tb N0 Q.length Q U1 v (spreadL (ts.take i)) wq vq Qq (.slice la i lc))∧Hid (wq.heap[yb]?=some (.cells #[.int .i64 k,.int .i64 a2,.int .i64 a7,.slice r1 r2 r3,.slice la i lc,.bool false,.int .i64 0,.int .i64 0] 141 (0,0)))∧Hid (vq.ownBlock≠some yb)) (fun y _=>s2 - (intOf y).toNat)
  case atStart=>exact ⟨0,rfl,by omega,none,0,v,Q,by rw [List.take_zero];exact (Grw.nil HUM.out HNU.out).below HBU.out,HYU.out,by rw [HYB.out];exact HVO.out⟩
  case round =>
   obtain ⟨i,rfl,hi,la,lc,vq,Qq,HG,HY,HV⟩:=hrel
   have hfr:=HG.out.fr
   have x3:=HXC.out wr vq hfr
   by_cases hil:i < s2
   ·have b1:decide ((i:Int) < (s2:Int))=true:=by simp;omega
    have b2:(i:Int) < (s2:Int):=by omega
    have hlt:i < ts.length:=by rw [← HS2.out];exact hil
    obtain ⟨b,o,e1,hb,hc⟩:=HSS.out (by omega)
    subst e1
    have HC:=IH.out i hlt
    have hct:=hc i hlt
    have hnt:=nodesL_take ts i hlt
    have hst:=spreadL_take ts i hlt
    obtain ⟨M,hM⟩:∃ M,M=ND i:=⟨_,rfl⟩
    rw [← hM] at HC hct
    obtain ⟨X,hX⟩:∃ X,X=ts[i].spread:=⟨_,rfl⟩
    rw [← hX] at HC hnt hst
    have HSV:Hid (∀ V v',UFr tb U1 V v v'→V.heap[yb]?=some (.cells #[.int .i64 k,.int .i64 a2,.int .i64 a7,.slice r1 r2 r3,.slice la i lc,.bool false,.int .i64 0,.int .i64 0] 141 (0,0))→V.cell? ⟨yb,4,none⟩=some (.slice la i lc)∧V.cell? ⟨xb,3,none⟩=some (.slice (some ⟨b,o,none⟩) s2 s3)∧V.cell? ⟨b,o + i * 9,none⟩=some (.int .i64 M.k)∧V.cell? ⟨b,o + i * 9 + 1,none⟩=some (.slice M.r1 M.r2 M.r3)∧V.cell? ⟨b,o + i * 9 + 2,none⟩=some (.int .i64 M.a2)∧V.cell? ⟨b,o + i * 9 + 3,none⟩=some (.slice M.s1 M.s2 M.s3)∧V.cell? ⟨b,o + i * 9 + 4,none⟩=some (.int .i64 M.a4)∧V.cell? ⟨b,o + i * 9 + 5,none⟩=some (.int .i64 M.a5)∧V.cell? ⟨b,o + i * 9 + 6,none⟩=some (.bool M.a6)∧V.cell? ⟨b,o + i * 9 + 7,none⟩=some (.int .i64 M.a7)∧V.cell? ⟨b,o + i * 9 + 8,none⟩=some (.string M.a8)):=fun V v' f hy=>⟨(eight_cells hy).2.2.2.2.1,HXC.out V v' f,hct.kept (HLO.out V v' f b hb)⟩
    have hS0:=HSV.out wr vq hfr HY.out
    have y4:=hS0.1
    have hcount:(spreadL (ts.take i)).length=i:=by rw [spreadL_len,List.length_take];omega
    have HCT:=hid hcount
    have HNT:=hid hnt
    have HST:=hid hst
    have ad1:IntKind.i64.wrap ((i:Int) + 1)=(i:Int) + 1:=by simp [IntKind.wrap,IntKind.bits,IntKind.signed];omega
    clear hM hX hct hc hcount hnt hst hlt x3
    obtain ⟨t4,x3,t0⟩:=hS0
    have hi9:i≤9223372036854775807:=by omega
    go_upto_region 7 with fail
    refine wp_region_lexK [0,1,2,3,4,5,6,7] [8,9,10,11,12] 12 (fun V=>V.cell? ⟨yb,4,none⟩=some (.slice la i lc)∧V.cell? ⟨xb,3,none⟩=some (.slice (some ⟨b,o,none⟩) s2 s3)∧V.cell? ⟨b,o + i * 9,none⟩=some (.int .i64 M.k)∧V.cell? ⟨b,o + i * 9 + 1,none⟩=some (.slice M.r1 M.r2 M.r3)∧V.cell? ⟨b,o + i * 9 + 2,none⟩=some (.int .i64 M.a2)∧V.cell? ⟨b,o + i * 9 + 3,none⟩=some (.slice M.s1 M.s2 M.s3)∧V.cell? ⟨b,o + i * 9 + 4,none⟩=some (.int .i64 M.a4)∧V.cell? ⟨b,o + i * 9 + 5,none⟩=some (.int .i64 M.a5)∧V.cell? ⟨b,o + i * 9 + 6,none⟩=some (.bool M.a6)∧V.cell? ⟨b,o + i * 9 + 7,none⟩=some (.int .i64 M.a7)∧V.cell? ⟨b,o + i * 9 + 8,none⟩=some (.string M.a8)) (by kernel_rfl) (by kernel_rfl) rfl (by kernel_rfl) (by kernel_rfl) ⟨t4,x3,t0⟩ ?_
    simp only [opsAt,opsNo,List.getElem?_toArray,List.getElem?_cons_zero,List.getElem?_cons_succ]
    clear t4 x3 t0 y4
    iterate 8
     refine lex_cons ?_ rfl (fun V hV=>?_) (fun _ _ _ h=>h) ?_
     rotate_left
     ·obtain ⟨s6,s3',t0,t1,t2,t3,t4,t5,t6,t7,t8⟩:=hV
      go_simp <;> with_reducible rfl
     simp only [Act.put,List.setIfInBounds_toArray,List.set_cons_zero,List.set_cons_succ]
    refine lex_nil (tailK_cons fun K hK=>?_)
    have gd:=HG.out.below (HDR.out wr)
    have hll:=gd.len
    have hnn:=HNOD.out
    have hnt:=HNT.out
    refine step_call2 rfl 46 (.tmp 31) (.tmp 36) 74 25 rfl en46 ?_
    refine (HC wr.drew vq Qq gd.um (Nat.le_trans HNU.out gd.fr.size) (HLO.out _ _ gd.fr) (by omega)).mono ?_
    intro e w5 hp
    obtain ⟨z2,rfl⟩:=hp.ret
    obtain ⟨v5,hf5⟩:=hp.fr
    have hyl:yb < wr.heap.size:=(Array.getElem?_eq_some_iff.1 HY.out).1
    have hy5:w5.heap[yb]?=some (.cells #[.int .i64 k,.int .i64 a2,.int .i64 a7,.slice r1 r2 r3,.slice la i lc,.bool false,.int .i64 0,.int .i64 0] 141 (0,0)):=(hf5.old yb hyl (by have:=HTB.out;have:=HYB.out;omega) HV.out).trans HY.out
    have HF5:=hid (gd.fr.trans hf5)
    have hyl5:=(Array.getElem?_eq_some_iff.1 hy5).1
    have HY6:Hid ((w5.alloc (.cells #[.int .i64 z2] 3)).heap[yb]?=some (.cells #[.int .i64 k,.int .i64 a2,.int .i64 a7,.slice r1 r2 r3,.slice la i lc,.bool false,.int .i64 0,.int .i64 0] 141 (0,0))):=(heap_alloc_old w5 _ hyl5).trans hy5
    have HY5:=hid hy5
    have HF6:=hid ((gd.fr.trans hf5).trans (UFr.below (Joins.below_alloc1 w5 (.cells #[.int .i64 z2] 3))))
    obtain ⟨L3,hL3⟩:∃ L3:List Int,L3=(rts (spreadL (ts.take i)) Q.length).map fun (x:Nat)=>(x:Int):=⟨_,rfl⟩
    have h1:=gd.own (Nat.le_refl _) (Below.refl _ _) rfl hp (Joins.below_alloc1 w5 (.cells #[.int .i64 z2] 3))
    rw [HCT.out,← hL3] at h1
    have HO1:=hid h1
    have HAP:Hid (∀ l' w6,w6.ownsRow U1.heap.size 3 1 l' (i + 1) (I64 L3 ++ [.int .i64 z2])→Moved (w5.alloc (.cells #[.int .i64 z2] 3)) w6 (.slice la i lc) l'→∃ v' Q',Grw tb N0 Q.length Q U1 v (spreadL (ts.take (i + 1))) w6 v' Q' l'∧v'.ownBlock≠some yb∧w6.heap[yb]?=some (.cells #[.int .i64 k,.int .i64 a2,.int .i64 a7,.slice r1 r2 r3,.slice la i lc,.bool false,.int .i64 0,.int .i64 0] 141 (0,0))):=fun l' w6 ho hm=>by
     obtain ⟨v',Q',g,f⟩:=gd.snoc (Nat.le_refl _) (Below.refl _ _) rfl hp (Joins.below_alloc1 w5 _) hm (by rw [HCT.out,← hL3];exact ho)
     refine ⟨v',Q',by rw [HST.out];exact g,fun e=>?_,(moved_old' hm (Array.getElem?_eq_some_iff.1 HY6.out).1 (own_ne HO1.out.1 HY6.out (by decide))).trans HY6.out⟩
     rcases f.own yb e with h3 | h3
     ·exact HV.out h3
     ·have:wr.drew.heap.size=wr.heap.size:=rfl
      omega
    obtain ⟨i0,hi0,hz0,hz1,hz2⟩:=info_parts info3
    clear hp hf5 hL3 h1 hy5 hyl5 hyl gd hll hnn hnt HC
    refine ⟨_,rfl,hK.out _ _ (fun _=>HSV.out _ _ HF5.out HY5.out) (tailK_cons fun K hK=>?_)⟩
    simp only [Act.put,List.setIfInBounds_toArray,List.set_cons_zero,List.set_cons_succ]
    go_simp
    refine hK.out _ _ (fun _=>HSV.out _ _ HF6.out HY6.out) (tailK_cons fun K hK=>?_)
    refine step_append rfl (.tmp 30) (.tmp 38) 26 rfl U1.heap.size 3 i0 (.int .i64 0) 1 8 Tryz.underlying26 hi0 hz0 hz1 hz2 rfl (by decide) (.slice la i lc) i (I64 L3) rfl HO1.out.1 ⟨w5.heap.size,0,none⟩ 1 1 [.int .i64 z2] rfl rfl (by decide) (one_new w5 _ 3) (by intro u hu;simp at hu;subst hu;rfl) (by unfold maxLen;omega) (by have:=HNOD.out;have h9:=nodesL_len (spreadL ts);rw [spreadL_len,← HS2.out] at h9;omega) HO1.out.2 ?_
    intro v6 w6 ho6 hm6
    obtain ⟨v7,Q7,g7,hv7,hy7⟩:=HAP.out v6 w6 ho6.out hm6.out
    have HG2:=hid g7
    obtain ⟨vb,vc,rfl⟩:=Joins.ownsRow_form ho6.out (by omega)
    have HY7:=hid hy7
    have HV7:=hid hv7
    have q4:=(eight_cells hy7).2.2.2.2.1
    have uq4:=Joins.unfrozen_of_block hy7 4
    clear g7 ho6 hm6 hy7 hv7
    refine hK.out _ _ (fun _=>HSV.out _ _ HG2.out.fr HY7.out) (tailK_cons fun K hK=>?_)
    simp only [Act.put,List.setIfInBounds_toArray,List.set_cons_zero,List.set_cons_succ]
    go_simp
    refine hK.out _ _ (fun _=>HSV.out _ _ HG2.out.fr HY7.out) (tailK_cons fun K hK=>?_)
    simp only [Act.put,List.setIfInBounds_toArray,List.set_cons_zero,List.set_cons_succ]
    go_simp
    refine hK.out _ _ (fun h=>absurd rfl h) (tailK_nil ?_)
    go_wp2
    refine ⟨⟨i + 1,by push_cast;rfl,by omega,some ⟨vb,0,none⟩,vc,v7,Q7,HG2.out.set HY7.out HV7.out (by rw [HYB.out];exact Nat.le_refl _) _,Joins.block_setCell (i:=4) HY7.out _,HV7.out⟩,?_⟩
    simp [intOf]
    omega
   ·obtain rfl:i=s2:=by omega
    have b1:decide ((i:Int) < (i:Int))=false:=by simp
    have htk:ts.take i=ts:=by rw [HS2.out,List.take_length]
    rw [htk] at HG
    have HC:=HG.out.put (k:=k) (R:=R) (a:=a2) (mn:=mn) (mx:=mx) (ix:=a7) (lz:=lz) (nm:=a8) (r1:=r1) (r2:=r2) (r3:=r3) (by rw [spreadL_len];exact HS2.out) (by have:=HNOD.out;omega) hk6 (HRR.out.keptW (HLO.out wr vq hfr))
    have HC':Calls Tryz.prog 81 #[.pointer (some ⟨tb,0,none⟩),.agg #[.int .i64 k,.int .i64 a2,.int .i64 a7,.slice r1 r2 r3,.slice la i lc,.bool false,.int .i64 0,.int .i64 0]] wr P:=by rw [HP.out];exact HC.mono fun e w' hq=>BPost.base HB1.out hq
    obtain ⟨y0,y1,y2,y3,y4,y5,y6,y7⟩:=eight_cells HY.out
    clear HC htk
    go_wp2_with (first | (go_at_call 81;(with_reducible refine HC'.mono ?_);rintro e w8 hq;have HQ5:=hid hq;obtain ⟨_,rfl⟩:=HPE.out _ _ hq;clear HC' hq))
    all_goals first | exact HQ5.out | (go_ret;exact HQ5.out)
def WTwo (C:WC) (f1 f2:FuncId) (l1 l2 p:Nat) (g g1:Sg):Prop:=∃ gm:Sg,WCall C f1 l1 p g gm∧gm.notes=g.notes∧gm.parses.length≤70∧WCall C f2 l2 p gm g1
set_option maxRecDepth 100000 in
set_option maxHeartbeats 16000000 in
theorem choose87 {C:WC} (hk:WCk C) {lb:Nat} {R:List (Int × Int)} {a:Int} {s:List Lt} {mn mx:Int} {lz:Bool} {ix:Int} {nm:ByteArray} {B:Way} {up:Int} {nth:Nat} {p:Nat} {g g1:Sg}
  (he:(⟨.mk lb 6 R a s mn mx lz ix nm,B,up,nth⟩:Pl) ∈ C.L) (h0:0 < s.length)
  (hL:Hid (lz=true→WTwo C 82 47 lb (s[0]).lb p g g1)) (hR:Hid (lz=false→WTwo C 47 82 (s[0]).lb lb p g g1)):WCall C 87 lb p g g1:=by
 intro W caps cv h
 have hlb:=hk.num _ he
 have hnn:=hk.nn
 have htn:=hk.tn64
 have hp:=h.p64
 simp only [Lt.lb] at hlb
 have hsl:s.length≤300000:=hk.subs _ he
 obtain ⟨k0,-,-,-,-,-,t0⟩:=h.fm.cells
 obtain ⟨a',ix',r1,r2,r3,sa,sc,lz',⟨n0,n1,n2,n3,n4,n5,n6,n7⟩,hnd⟩:=h.fm.pl _ he
 obtain rfl:lz'=lz:=hnd.lp rfl
 obtain ⟨kv,hkv⟩:∃ kv,kv=Lt.kk (.mk lb 6 R a s mn mx lz' ix nm):=⟨_,rfl⟩
 rw [← hkv] at n0
 obtain ⟨V,hV⟩:∃ V,V=W.alloc (.cells #[.int .i64 kv,.int .i64 a',.int .i64 ix',.slice r1 r2 r3,.slice sa s.length sc,.bool lz',.int .i64 up,.int .i64 (nth:Int)] 141):=⟨_,rfl⟩
 have hbV:Below W.heap.size W V:=by rw [hV];exact Joins.below_alloc1 W _
 obtain ⟨fmV,frV⟩:=h.fm.below hk hbV
 have hY:V.heap[W.heap.size]?=some (.cells #[.int .i64 kv,.int .i64 a',.int .i64 ix',.slice r1 r2 r3,.slice sa s.length sc,.bool lz',.int .i64 up,.int .i64 (nth:Int)] 141 (0,0)):=by rw [hV];exact heap_alloc_new W _
 obtain ⟨y,hy⟩:∃ y,y=W.heap.size:=⟨_,rfl⟩
 rw [← hy] at hY
 obtain ⟨gg,rfl,hg⟩:=sub_at (frV.row hnd.su) h0
 have HST:Hid (∀ w',WFr C V w'→w'.cell? ⟨y,4,none⟩=some (.slice (some ⟨gg,0,none⟩) s.length sc)∧w'.cell? ⟨y,5,none⟩=some (.bool lz')∧w'.cell? ⟨gg,0,none⟩=some (.int .i64 ((s[0]).lb:Int))∧Rw w' cv caps):=fun w' f=>by
  obtain ⟨-,-,-,-,y4,y5⟩:=box8 (f.typ _ _ _ (by decide) (by decide) (by decide) hY)
  obtain ⟨g2,e2,h2⟩:=sub_at (f.row (frV.row hnd.su)) h0
  simp only [Option.some.injEq,Addr.mk.injEq] at e2
  exact ⟨y4,y5,by rw [e2.1];exact h2,f.row (frV.row h.cap)⟩
 have HIN:=hid (h.go (q:=p) fmV hp (frV.row h.cap) rfl h.nt h.ol)
 have HFV:=hid frV
 have i2:(lb:Int) < (C.n:Int):=by omega
 have i4:(lb:Int)≤300000:=by omega
 have i5:(p:Int)≤64:=by omega
 have i7:0 < s.length:=h0
 have i8:(0:Int) < (s.length:Int):=by omega
 have HV:=hid hV
 have HYE:=hid hy
 have HH:=hid h
 have HHK:=hid hk
 generalize (s[0]).lb=nx at hL hR HST
 clear hk he h0 hlb hnn htn hp hsl h hnd hV hbV fmV frV hY hy hkv hg
 obtain ⟨sl,hsl⟩:∃ sl,sl=s.length:=⟨_,rfl⟩
 rw [← hsl] at i7 i8 n4 HST HV
 clear hsl
 go_enter Tryz.func87,Tryz.ntmps87
 go_upto_region 1 with fail
 rw [← HV.out,← HYE.out]
 clear n0 n1 n2 n3 n4 n5 n6 n7 k0 t0
 obtain ⟨y4,y5,x0,-⟩:=HST.out V (WFr.refl _ _)
 cases lz'
 ·obtain ⟨gm,c1,e1,e2,c2⟩:=hR.out rfl
  have HC:=c1 V caps cv HIN.out
  have HC2:Hid (∀ w1,FM C w1 gm.done gm.parses→WFr C V w1→Calls Tryz.prog 82 #[.pointer (some ⟨C.wb,0,none⟩),.int .i64 (lb:Int),.int .i64 (p:Int),cv] w1 (WPost C g1 w1)):=fun w1 hf hr=>c2 w1 caps cv (HIN.out.go hf HIN.out.p64 (HST.out w1 hr).2.2.2 rfl (by rw [e1];exact HIN.out.nt) e2)
  clear c1 c2 e1 e2 hL hR
  go_wp2_with (first | (go_at_call 47;(with_reducible refine HC.mono ?_);rintro e w1 ⟨rfl,hf,hr⟩;have HC3:=HC2.out w1 hf hr;have HR1:=hid hr;clear HC hf hr) | (go_at_call 82;(with_reducible refine HC3.mono ?_);rintro e w2 hq;have HQ:=hid ((hq.pre HR1.out).pre HFV.out);obtain ⟨rfl,-⟩:=hq;clear HC3))
  go_end0
  exact HQ.out
 ·obtain ⟨gm,c1,e1,e2,c2⟩:=hL.out rfl
  have HC:=c1 V caps cv HIN.out
  have HC2:Hid (∀ w1,FM C w1 gm.done gm.parses→WFr C V w1→Calls Tryz.prog 47 #[.pointer (some ⟨C.wb,0,none⟩),.int .i64 (nx:Int),.int .i64 (p:Int),cv] w1 (WPost C g1 w1)):=fun w1 hf hr=>c2 w1 caps cv (HIN.out.go hf HIN.out.p64 (HST.out w1 hr).2.2.2 rfl (by rw [e1];exact HIN.out.nt) e2)
  clear c1 c2 e1 e2 hL hR
  go_upto_region 3 with (first | (go_at_call 82;(with_reducible refine HC.mono ?_);rintro e w1 ⟨rfl,hf,hr⟩;have HC3:=HC2.out w1 hf hr;have HR1:=hid hr;clear HC hf hr))
  clear y4 y5 x0
  obtain ⟨y4,y5,x0,-⟩:=HST.out w1 HR1.out
  go_wp2_with (first | (go_at_call 47;(with_reducible refine HC3.mono ?_);rintro e w2 hq;have HQ:=hid ((hq.pre HR1.out).pre HFV.out);obtain ⟨rfl,-⟩:=hq;clear HC3))
  refine bodyPost_ret (results_none rfl _ _ _) rfl ?_
  exact HQ.out
set_option maxRecDepth 100000 in
set_option maxHeartbeats 16000000 in
theorem decide88 {C:WC} (hk:WCk C) {lb p:Nat} {g g1:Sg} (hlb:lb < C.n) (hS:Hid ((kd lb,(p:Int)) ∈ g.done→g1=g)) (hO:Hid ((kd lb,(p:Int)) ∉ g.done→WCall C 87 lb p { g with done:=g.done ++ [(kd lb,(p:Int))] } g1)):WCall C 88 lb p g g1:=by
 intro W caps cv h
 have hnn:=hk.nn
 have htn:=hk.tn64
 have hp:=h.p64
 obtain ⟨k0,k1,k2,k3,k4,k5,t0⟩:=h.fm.cells
 have g0:=h.fm.dec.cell hlb
 have f0:=(h.fm.fl.d lb hlb).cell (i:=p) (by omega)
 have u0:=(h.fm.fl.d lb hlb).free p
 have i1:(lb:Int) < (C.n:Int):=by omega
 have i2:(lb:Int)≤300000:=by omega
 have i3:(p:Int) < ((C.tn + 1:Nat):Int):=by omega
 have i4:(p:Int)≤64:=by omega
 obtain ⟨d,hd⟩:∃ d,d=decide ((kd lb,(p:Int)) ∈ g.done):=⟨_,rfl⟩
 rw [← hd] at f0
 have HD:=hid hd
 obtain ⟨m,hm⟩:∃ m,m=C.tn + 1:=⟨_,rfl⟩
 rw [← hm] at i3 g0
 obtain ⟨W1,hW1⟩:∃ W1,W1=W.setCell ⟨C.rd lb,p,none⟩ (.bool true):=⟨_,rfl⟩
 obtain ⟨fm1,fr1⟩:=h.fm.decided hk hlb hp
 rw [← hW1] at fm1 fr1
 have HF1:=hid fr1
 have HIN:=hid (h.go (s':={ g with done:=g.done ++ [(kd lb,(p:Int))] }) fm1 hp (fr1.row h.cap) rfl h.nt h.ol)
 have HW1:=hid hW1
 have HH:=hid h
 clear hd hm hk h hnn htn hp fm1 fr1 hW1 hlb
 go_enter Tryz.func88,Tryz.ntmps88
 cases d
 rotate_left
 ·go_wp2_with fail
  refine bodyPost_ret (results_none rfl _ _ _) rfl ?_
  have e:=hS.out (of_decide_eq_true HD.out.symm)
  rw [e]
  exact ⟨rfl,HH.out.fm,WFr.refl _ _⟩
 ·have HC:=(hO.out (of_decide_eq_false HD.out.symm)) W1 caps cv HIN.out
  clear hS hO HD
  go_upto_region 2 with fail
  rw [← HW1.out]
  go_wp2_with (first | (go_at_call 87;(with_reducible refine HC.mono ?_);rintro e w2 hq;have HQ:=hid (hq.pre HF1.out);obtain ⟨rfl,-⟩:=hq;clear HC))
  go_end0
  exact HQ.out
theorem wpList_append_row {P:Program} {w:World} {ops:Array Oper} {rest:List Oper} {o:Oper} {a:Act} {Q:Exit→Act→World→Prop} (hgd:o.guard=none) (s x:Operand) (t:TypeId)
  (ho:o.op=.call { callee:=.builtin .append,args:=#[s,x],argTypes:=#[t,t] })
  (base:Nat) (e:TypeId) (i:TypeInfo) (z:Value) (size bytes:Nat) (ht:P.underlying t=some (.slice e)) (hi:P.info? e=some i) (hz:i.zero=some z)
  (hsize:i.size=size) (hby:i.bytes=bytes) (hzs:z.cells.size=size) (hpos:0 < size)
  (v:Value) (n:Nat) (xs:List Value) (hs:a.eval s=v) (hown:w.ownsRow base e size v n xs)
  (sv:Value) (m sb:Nat) (ys:List Value) (hx:a.eval x=sv) (hsrc:w.ownsRow sb e size sv m ys) (h0:m=0→sv=.slice none 0 0) (h1:∀ u ∈ ys,u.oneCell'=true)
  (h63:n + m≤maxLen) (hbytes:(n + m) * bytes≤140737488355328) (hbase:base≤w.heap.size)
  (h:∀ v' w',Hid (w'.ownsRow base e size v' (n + m) (xs ++ ys))→Hid (Frm w w' v v')→Hid (n + m=0→v'=v)→wpList P ops Q rest (a.put o.dst v') w'):wpList P ops Q (o :: rest) a w:=by
 rcases Nat.eq_zero_or_pos m with hm | hm
 ·have:=h0 hm
  subst this hm
  have hy:ys=[]:=List.length_eq_zero_iff.1 (by have:=hsrc.1;omega)
  subst hy
  refine wpList_append_own_none hgd s x t ho base e i size ht hi v n xs hs hown hx (h v w ?_ (Frm.refl _ _) (fun _=>rfl))
  have:w.ownsRow base e size v (n + 0) (xs ++ []):=by simpa using hown
  exact this
 ·rcases hsrc.2 with ⟨_,e0⟩ | ⟨g,cap,cur,rfl,_⟩
  ·omega
  ·refine wpList_append_moveN hgd s x t ho base e i z size bytes ht hi hz hsize hby hzs hpos v n xs hs hown ⟨g,0,none⟩ m cap ys hx hsrc.1 hm (fun j u hj=>hsrc.cells (g:=g) rfl j u hj) h1 h63 hbytes hbase ?_
   intro v' w' ho' hm'
   exact h v' w' ho' hm'.out.frm (fun h=>by omega)
abbrev M2:List (Int × Int):=[(-77,0),(-78,0)]
theorem ob_len (a:Option Addr) (l c l' c':Nat):(Value.slice a l c).ownBlock=(Value.slice a l' c').ownBlock:=by cases a <;> rfl
set_option maxRecDepth 100000 in
set_option maxHeartbeats 4000000 in
theorem in78 (R:List (Int × Int)) (r:Int) (ad:Option Addr) (n cap:Nat) (w:World) (hn:n=R.length) (hS:n * 16≤140737488351232) (hl:RowAt w.heap.size w (.slice ad n cap) R) :
  Calls Tryz.prog 124 #[.slice ad n cap,.int .i64 r] w fun e w'=>e=.returned (.bool (inB R r))∧w'=w:=by
 have HN:=hid hn
 have HR:=hid hl
 clear hn hl
 go_enter Tryz.func124,Tryz.ntmps124
 go_wp2_with fail
 go_loopw [5] (fun y wq=>∃ i:Nat,y=.int .i64 (i:Int)∧i≤n∧wq=w∧Hid (∀ j,j < i→(decide ((R.getD j (0,0)).1≤r) && decide (r≤(R.getD j (0,0)).2))=false)) (fun y _=>n - (intOf y).toNat)
 case atStart=>exact ⟨0,rfl,by omega,rfl,fun j hj=>by omega⟩
 case round =>
  obtain ⟨i,rfl,hi,rfl,HA⟩:=hrel
  by_cases hil:i < n
  ·have b1:decide ((i:Int) < (n:Int))=true:=by simp;omega
   have b2:(i:Int) < (n:Int):=by omega
   have ad1:IntKind.i64.wrap ((i:Int) + 1)=(i:Int) + 1:=by simp [IntKind.wrap,IntKind.bits,IntKind.signed];omega
   obtain ⟨ad',cap',e,h1⟩:=HR.out
   simp only [Value.slice.injEq] at e
   obtain ⟨rfl,_,rfl⟩:=e
   rcases h1 with h0 | ⟨b,off,rfl,hb,h2,h3⟩
   ·have:=HN.out;omega
   have m0:=h2 i (by have:=HN.out;omega)
   have m1:=h3 i (by have:=HN.out;omega)
   have hget:R.getD i (0,0) ∈ R:=by
    have hil':i < R.length:=by have:=HN.out;omega
    have:R.getD i (0,0)=R[i]:=by simp [List.getD_eq_getElem?_getD,List.getElem?_eq_getElem hil']
    rw [this];exact List.getElem_mem hil'
   have HG:=hid hget
   clear h2 h3 hget
   generalize hlo:(R.getD i (0,0)).1=lo at m0
   generalize hhi:(R.getD i (0,0)).2=hi' at m1
   have HLO:=hid hlo
   have HHI:=hid hhi
   clear hlo hhi
   by_cases g1:lo≤r
   ·have d1:decide (lo≤r)=true:=by simpa using g1
    by_cases g2:r≤hi'
    ·have d2:decide (r≤hi')=true:=by simpa using g2
     go_wp2
     all_goals go_ret
     all_goals refine ⟨ret_bool ?_,rfl⟩
     all_goals
      symm
      unfold inB
      rw [List.any_eq_true]
      exact ⟨_,HG.out,by rw [HLO.out,HHI.out,d1,d2];rfl⟩
    ·have d2:decide (r≤hi')=false:=by simpa using g2
     go_wp2
     refine ⟨⟨i + 1,by push_cast;rfl,by omega,trivial,fun j hj=>?_⟩,by simp [intOf];omega⟩
     by_cases e:j=i
     ·subst e;rw [HLO.out,HHI.out,d1,d2];rfl
     ·exact HA.out j (by omega)
   ·have d1:decide (lo≤r)=false:=by simpa using g1
    go_wp2
    refine ⟨⟨i + 1,by push_cast;rfl,by omega,trivial,fun j hj=>?_⟩,by simp [intOf];omega⟩
    by_cases e:j=i
    ·subst e;rw [HLO.out,d1];rfl
    ·exact HA.out j (by omega)
  ·have b1:decide ((i:Int) < (n:Int))=false:=by simp;omega
   go_wp2
   all_goals go_ret
   all_goals refine ⟨ret_bool ?_,rfl⟩
   all_goals
    symm
    unfold inB
    rw [List.any_eq_false]
    intro x hx
    obtain ⟨j,hj,rfl⟩:=List.getElem_of_mem hx
    have:=HA.out j (by have:=HN.out;omega)
    rw [show R.getD j (0,0)=R[j] by simp [List.getD_eq_getElem?_getD,List.getElem?_eq_getElem hj]] at this
    rw [this]
    simp
set_option maxRecDepth 100000 in
set_option maxHeartbeats 4000000 in
theorem has56 (R:List (Int × Int)) (r:Int) (ad:Option Addr) (n cap:Nat) (w:World) (hn:n=R.length) (hS:n * 16≤140737488351232) (hl:RowAt w.heap.size w (.slice ad n cap) R) :
  Calls Tryz.prog 83 #[.slice ad n cap,.int .i64 r] w fun e w'=>e=.returned (.bool (hsB R r))∧Below w.heap.size w w':=by
 have HC:=rright33 R ad n cap w hn.symm (by omega) hl
 have HI:Hid (∀ W,Below w.heap.size w W→Calls Tryz.prog 124 #[.slice ad n cap,.int .i64 r] W fun e w'=>e=.returned (.bool (inB R r))∧w'=W):=fun W hb=>in78 R r ad n cap W hn hS (hl.below hb (Nat.le_refl _) hb.size)
 clear hl hn
 cases g:rightB R
 ·rw [g] at HC
  go_enter Tryz.func83,Tryz.ntmps83
  go_wp2_with (first | (go_at_call 100;(with_reducible refine HC.mono ?_);rintro e w2 ⟨rfl,hb⟩;have HB:=hid hb;clear hb HC))
  all_goals go_ret
  all_goals exact ⟨ret_bool (by simp [hsB,g]),HB.out⟩
 ·rw [g] at HC
  go_enter Tryz.func83,Tryz.ntmps83
  go_wp2_with (first | (go_at_call 100;(with_reducible refine HC.mono ?_);rintro e w2 ⟨rfl,hb⟩;have HB:=hid hb;have HJ:=HI.out w2 HB.out;clear hb HC) | (go_at_call 124;(with_reducible refine HJ.mono ?_);rintro e w3 ⟨rfl,hw⟩;have hw':=hw.symm;clear hw;subst hw';clear HJ))
  all_goals go_ret
  all_goals exact ⟨ret_bool (by simp [hsB,g]),HB.out⟩
end Go.Proofs.YtacaanhnlfpbhaaGreat
