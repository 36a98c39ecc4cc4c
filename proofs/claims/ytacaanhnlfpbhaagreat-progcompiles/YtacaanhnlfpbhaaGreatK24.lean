/- HELPERS: texts of ours put together. -/
import Derived.Test.YtacaanhnlfpbhaaGreatK23
import Derived.Test.YtacaanhnlfpbhaaGreatK10
import Derived.Test.YtacaanhnlfpbhaaGreatK18
import Derived.Test.YtacaanhnlfpbhaaGreatK20
import Derived.Test.YtacaanhnlfpbhaaGreatK03
import Derived.Test.YtacaanhnlfpbhaaGreatK19
import Derived.WalkKit
import Derived.ProofKit
import Derived.BigQuiet
import Derived.WalkSmall
import Derived.Deep.QuietTactic
import Derived.Deep.RegionWith
import Derived.Lib.SmallJoins
import Derived.Lib.MinMax
import Derived.Maps.AppendAt
import Derived.Laws.AppendOwnNone
import Derived.Test.YtacaanhnlfpbhaaGreatK05
import Derived.LoopN
import Derived.Deep.OwnRows
import Derived.Laws.IdiomCopy
import Derived.Laws.BitsLemmas
import Derived.Laws.EntriesVeiled
import Derived.WalkLawsBesides
import Derived.Lib.LazyBuf
import Derived.Deep.Cut
import Derived.Laws.Rows
import Derived.Deep.MidRow
import Derived.Test.YtacaanhnlfpbhaaGreatK04
import Derived.Test.YtacaanhnlfpbhaaGreatK02
import Derived.Test.YtacaanhnlfpbhaaGreatProg
import Derived.Deep.WholeRow
import Derived.Test.YtacaanhnlfpbhaaGreatK01
import Derived.Test.YtacaanhnlfpbhaaGreatK17
import Derived.Deep.SlicePairs
import Derived.RowKit
import Derived.Lib.Small
import Derived.Deep.CutRange
namespace Go.Proofs.YtacaanhnlfpbhaaGreat
open Go.RowKit
set_option linter.unusedVariables false
set_option linter.unusedSimpArgs false
def layC:List Tn→Nat→List In
 | [],_=>[]
 | t :: ts,n=>⟨2,((n + 1:Nat):Int),((n + t.len + 2:Nat):Int),0,[]⟩ :: (t.lay (n + 1) ++ ⟨7,((n + t.len + 2:Nat):Int),0,0,[]⟩ :: layC ts (n + t.len + 2))
theorem layC_len:∀ (s:List Tn) (n:Nat),(layC s n).length=lenL s + 2 * s.length
 | [],n=>rfl
 | t :: s,n=>by simp only [layC,lenL,List.length_cons,List.length_append,lay_len,layC_len s];omega
theorem layC_app:∀ (s:List Tn) (t:Tn) (n:Nat),layC (s ++ [t]) n=layC s n ++ (⟨2,((n + lenL s + 2 * s.length + 1:Nat):Int),((n + lenL s + 2 * s.length + t.len + 2:Nat):Int),0,[]⟩ :: (t.lay (n + lenL s + 2 * s.length + 1) ++ [⟨7,((n + lenL s + 2 * s.length + t.len + 2:Nat):Int),0,0,[]⟩]))
 | [],t,n=>by simp [layC,lenL]
 | v :: s,t,n=>by
  have ih:=layC_app s t (n + v.len + 2)
  simp only [List.cons_append,layC,ih,lenL,List.length_cons,List.append_assoc]
  rw [show n + v.len + 2 + lenL s + 2 * s.length=n + (v.len + lenL s) + 2 * (s.length + 1) by omega]
theorem setAll_C (f:Int):∀ (s:List Tn) (n:Nat) (pre suf:List In),pre.length=n→setAll f (pre ++ (layC s n ++ suf)) (endsB s n)=pre ++ (layB s n f ++ suf)
 | [],n,pre,suf,h=>rfl
 | t :: s,n,pre,suf,h=>by
  show setAll f ((pre ++ (layC (t :: s) n ++ suf)).modify (n + 1 + t.len) (In.setX f)) (endsB s (n + t.len + 2))=_
  have e1:pre ++ (layC (t :: s) n ++ suf)=(pre ++ ⟨2,((n + 1:Nat):Int),((n + t.len + 2:Nat):Int),0,[]⟩ :: t.lay (n + 1)) ++ ⟨7,((n + t.len + 2:Nat):Int),0,0,[]⟩ :: (layC s (n + t.len + 2) ++ suf):=by simp [layC,List.append_assoc]
  have e2:(pre ++ (⟨2,((n + 1:Nat):Int),((n + t.len + 2:Nat):Int),0,[]⟩:In) :: t.lay (n + 1)).length=n + 1 + t.len:=by simp [lay_len,h];omega
  rw [e1,← e2,modify_mid]
  have ih:=setAll_C f s (n + t.len + 2) ((pre ++ ⟨2,((n + 1:Nat):Int),((n + t.len + 2:Nat):Int),0,[]⟩ :: t.lay (n + 1)) ++ [⟨7,f,0,0,[]⟩]) suf (by rw [List.length_append,e2];simp;omega)
  have e3:(pre ++ ⟨2,((n + 1:Nat):Int),((n + t.len + 2:Nat):Int),0,[]⟩ :: t.lay (n + 1)) ++ In.setX f ⟨7,((n + t.len + 2:Nat):Int),0,0,[]⟩ :: (layC s (n + t.len + 2) ++ suf)=((pre ++ ⟨2,((n + 1:Nat):Int),((n + t.len + 2:Nat):Int),0,[]⟩ :: t.lay (n + 1)) ++ [⟨7,f,0,0,[]⟩]) ++ (layC s (n + t.len + 2) ++ suf):=by simp [In.setX,List.append_assoc]
  rw [e3,ih]
  simp [layB,List.append_assoc]
theorem nodesL_appD (a b:List Tn):nodesL (a ++ b)=nodesL a + nodesL b:=by
 induction a with
 | nil=>simp [nodesL]
 | cons t a ih=>simp only [List.cons_append,nodesL,ih];omega
theorem RDx.as {w w':World} {m base c:Nat} {z1:Option Addr} {is:List Iv} {l:List In} (h:RDx w m base z1 c is l) (hk:∀ (b:Nat) (cs:Array Value) (t:TypeId) (fr:Nat × Nat),w.heap[b]?=some (.cells cs t fr)→t≠3→w'.heap[b]?=some (.cells cs t fr)):RDx w' m base z1 c is l:=by
 have row:∀ {b0 e size n:Nat} {v:Value} {xs:List Value},w.ownsRow b0 e size v n xs→e≠3→w'.ownsRow b0 e size v n xs:=fun ho h1=>row_kept ho fun b hb=>by
  obtain ⟨cs,hc⟩:=own_atD ho hb
  rw [hk b cs _ (0,0) hc h1,hc]
 exact ⟨hk _ _ _ _ h.bx (by decide),row h.row (by decide),h.len,fun k hk1 hk2=>by obtain ⟨a1,a2,a3,a4,a5,a6,a7⟩:=h.im k hk1 hk2;exact ⟨a1,a2,a3,a4,a5,a6,row a7 (by decide)⟩⟩
abbrev NJ (js:List Nat):List Value:=js.map fun j=>Value.int .i64 ((j:Nat):Int)
theorem jump_push {base:Nat} {U w X w3:World} {v v':Value} {m:Nat} {l:List In} (hb:base≤U.heap.size) (hU:FrD base U w) (hX:Below w.heap.size w X) (hm:Moved X w3 v v') {n:Nat} {xs:List Value} (ho:w.ownsRow U.heap.size 3 1 v n xs) (hM:RD w m base l):FrD base U w3∧RD w3 m base l∧w.heap.size≤w3.heap.size:=by
 have hold:∀ b,b < w.heap.size→v.ownBlock≠some b→w3.heap[b]?=w.heap[b]?:=fun b hb hn=>(moved_old' hm (Nat.lt_of_lt_of_le hb hX.size) hn).trans (hX.block b hb)
 have hf:=hm.frm
 have hge:∀ b,v.ownBlock=some b→U.heap.size≤b:=fun b h=>(ho.lt b h).1
 have hsz:w.heap.size≤w3.heap.size:=Nat.le_trans hX.size hf.size
 refine ⟨⟨(hf.os.trans hX.os).trans hU.os,(hf.tape.trans hX.tape).trans hU.tape,(hf.output.trans hX.output).trans hU.output,Nat.le_trans hU.size hsz,fun b cs t fr e h1 h2=>?_,fun b hb'=>?_⟩,?_,hsz⟩
 ·have hbl:=(Array.getElem?_eq_some_iff.1 e).1
  have h3:=hU.blk b cs t fr e h1 h2
  exact (hold b (by have:=hU.size;omega) (fun e'=>by have:=hge b e';omega)).trans h3
 ·exact (hold b (by have:=hU.size;omega) (fun e'=>by have:=hge b e';omega)).trans (hU.low b hb')
 ·obtain ⟨z1,c,is,h⟩:=hM
  refine ⟨z1,c,is,h.as fun b cs t fr e h3=>(hold b (Array.getElem?_eq_some_iff.1 e).1 (own_ne ho e h3)).trans e⟩
set_option maxRecDepth 100000 in
set_option maxHeartbeats 8000000 in
theorem dalt {base:Nat} {a2 a4 a5 a7:Int} {a6:Bool} {a8:ByteArray} {r1 s1:Option Addr} {r2 r3 s2 s3:Nat} {R:List (Int × Int)} {ts:List Tn} (h2:2≤ts.length) (hIH:∀ i (hi:i < ts.length) N,LD 58 base N ts[i]):LD 98 base ⟨5,r1,r2,r3,a2,s1,s2,s3,a4,a5,a6,a7,a8⟩ (.mk 5 R a2 ts a4 a5 a6 a7 a8):=by
 intro w m l hM hm hb hT hlen
 obtain ⟨U,hU⟩:∃ U,U=w.alloc (.cells #[.int .i64 5,.slice r1 r2 r3,.int .i64 a2,.slice s1 s2 s3,.int .i64 a4,.int .i64 a5,.bool a6,.int .i64 a7,.string a8] 25):=⟨_,rfl⟩
 have hbU:Below w.heap.size w U:=by rw [hU];exact Joins.below_alloc1 w _
 have hQ:BNo U w.heap.size ⟨5,r1,r2,r3,a2,s1,s2,s3,a4,a5,a6,a7,a8⟩:=by rw [hU];exact heap_alloc_new w _
 have hMU:=hM.below hbU
 have hbU2:base≤U.heap.size:=Nat.le_trans hb hbU.size
 have hTU:TI U base ⟨5,r1,r2,r3,a2,s1,s2,s3,a4,a5,a6,a7,a8⟩ (.mk 5 R a2 ts a4 a5 a6 a7 a8):=hT.kept (fun b hb'=>hbU.block b (by omega))
 have HF:=hid (FrD.of_below hbU hb)
 have hpU:w.heap.size < U.heap.size:=(Array.getElem?_eq_some_iff.1 hQ).1
 obtain ⟨c0,c1,c2,c3,c4,c5,c6,c7,c8⟩:=nine' hQ
 obtain ⟨p,hp⟩:∃ p,p=w.heap.size:=⟨_,rfl⟩
 have HMU:=hid hMU
 have HTU:=hid hTU
 rw [← hp] at c0 c1 c2 c3 c4 c5 c6 c7 c8 hpU hQ
 have HQ:Hid (∀ W,FrD base U W→BNo W p ⟨5,r1,r2,r3,a2,s1,s2,s3,a4,a5,a6,a7,a8⟩∧TI W base ⟨5,r1,r2,r3,a2,s1,s2,s3,a4,a5,a6,a7,a8⟩ (.mk 5 R a2 ts a4 a5 a6 a7 a8)∧base≤W.heap.size∧FrD base w W):=fun W hW=>⟨hW.blk _ _ _ _ hQ (by decide) (by decide),hTU.kept hW.low,Nat.le_trans hbU2 hW.size,HF.out.trans hW⟩
 clear hM hMU hbU hQ hT hTU
 obtain ⟨ND,hs2,hS⟩:∃ ND:Nat→Nv,s2=ts.length∧(0 < ts.length→∃ b o,s1=some ⟨b,o,none⟩∧b < base∧∀ i (hi:i < ts.length),N9 U b o i (ND i)∧TI U base (ND i) ts[i]):=by
  cases HTU.out with
  | @mk _ _ _ ND ok hr hR hRk hs hS hk =>
   exact ⟨ND,hs,fun hp=>by obtain ⟨b,o,h1,h2,h3⟩:=hS hp;exact ⟨b,o,h1,h2,fun i hi=>⟨h3 i hi,hk i hi⟩⟩⟩
 obtain ⟨i0,hi0,hz0,hz1,hz2⟩:=info_parts info3
 have hnd:(Tn.mk 5 R a2 ts a4 a5 a6 a7 a8).nodes=1 + nodesL ts:=by simp [Tn.nodes]
 have hel:(Tn.mk 5 R a2 ts a4 a5 a6 a7 a8).lay l.length=layA ts l.length ((l.length + (lenL ts + 2 * (ts.length - 1)):Nat):Int):=by simp [Tn.lay]
 have HND:=hid hnd
 have HEL:=hid hel
 have HS2:=hid hs2
 have hsz:ts.length≤nodesL ts:=nodes_ge ts
 have HLEN:=hid hlen
 have hs2b:s2≤1000000:=by omega
 have hs22:2≤s2:=by omega
 obtain ⟨b,o,hs1,hbl,hch⟩:=hS (by omega)
 subst hs1
 have HCH:=hid hch
 have HT2:=hid h2
 clear hnd hel hs2 hS hsz hlen hch h2
 go_enter Tryz.func98,Tryz.ntmps98
 go_upto_region 1 with fail
 rw [← hU,← hp]
 clear hU hp
 go_upto_region 3 with fail
 clear c0 c1 c2 c3 c4 c5 c6 c7 c8
 go_loopw [4,5] (fun u y wq=>∃ (i:Nat) (j1:Option Addr) (j3:Nat),u=.slice j1 i j3∧y=.int .i64 (i:Int)∧i < s2∧Hid (∃ (l':List In) (js:List Nat),RD wq m base l'∧js.length=i∧wq.ownsRow U.heap.size 3 1 (.slice j1 i j3) i (NJ js)∧(∀ e ∈ js,e < l'.length)∧l.length≤l'.length∧(l'.length≤l.length + 5 * nodesL (ts.take i)∧l'.length≤l.length + lenL (ts.take i) + 2 * i)∧(l'.length≤20000→l'=l ++ layC (ts.take i) l.length∧js=endsB (ts.take i) l.length))∧Hid (FrD base U wq)) (fun _ y _=>s2 - (intOf y).toNat)
 case atStart=>exact ⟨0,none,0,rfl,rfl,by omega,⟨l,[],HMU.out,rfl,World.ownsRow_nil _ _ _ _,by simp,Nat.le_refl _,by simp,fun _=>by simp [layC,endsB]⟩,FrD.refl _ _⟩
 case round =>
  obtain ⟨i,j1,j3,rfl,rfl,hi,HL,HFQ⟩:=hrel
  obtain ⟨hQ1,_,hbV1,hFw⟩:=HQ.out wr HFQ.out
  obtain ⟨c0,c1,c2,c3,c4,c5,c6,c7,c8⟩:=nine' hQ1
  have b1:decide ((i:Int) < (s2:Int))=true:=by simp;omega
  have b2:(i:Int) < (s2:Int):=by omega
  have a1:IntKind.i64.wrap ((i:Int) + 1)=(i:Int) + 1:=by rw [wrap_ok _ (by omega) (by omega)]
  have a0:IntKind.i64.wrap ((s2:Int) - 1)=((s2 - 1:Nat):Int):=by rw [wrap_ok _ (by omega) (by omega)];omega
  obtain ⟨sl,hsl⟩:∃ sl,sl=s2 - 1:=⟨_,rfl⟩
  rw [← hsl] at a0
  have HSL:=hid hsl
  have hit:i < ts.length:=by have:=HS2.out;omega
  obtain ⟨h9,hTM⟩:=HCH.out i hit
  obtain ⟨d0,d1,d2,d3,d4,d5,d6,d7,d8⟩:=h9.kept (HFQ.out.low b hbl)
  have hTM1:=hTM.kept HFQ.out.low
  obtain ⟨l',js,x0,x4,x5,x6,x1,x2,x3⟩:=HL.out
  have htk:nodesL (ts.take (i + 1))=nodesL (ts.take i) + ts[i].nodes:=by
   rw [List.take_succ_eq_append_getElem hit,nodesL_appD];simp [nodesL]
  have hle:nodesL (ts.take (i + 1))≤nodesL ts:=by
   have e:=nodesL_appD (ts.take (i + 1)) (ts.drop (i + 1))
   rw [List.take_append_drop] at e
   omega
  have hbig:l'.length + 5 * ts[i].nodes≤2000000:=by have:=HLEN.out;have:=HND.out;omega
  have hnp:=nodes_pos ts[i]
  clear hsl
  by_cases hil:i=sl
  case pos =>
   subst hil
   have b3:((i:Int) == (i:Int))=true:=by simp
   have HS:=hIH i hit (ND i) wr m l' x0 hm hbV1 hTM1 hbig
   have HX:=hid (show (l.length≤l'.length∧(l'.length≤l.length + 5 * nodesL (ts.take i)∧l'.length≤l.length + lenL (ts.take i) + 2 * i))∧(l'.length≤20000→l'=l ++ layC (ts.take i) l.length∧js=endsB (ts.take i) l.length) from ⟨⟨x1,x2⟩,x3⟩)
   have HTL:=hid (show lenL (ts.take (i + 1))=lenL (ts.take i) + ts[i].len by rw [List.take_succ_eq_append_getElem hit,lenL_append];simp [lenL])
   have HX5:=hid x5
   have HX6:=hid x6
   have HX4:=hid x4
   have HTK:=hid htk
   have HLE:=hid hle
   clear hQ1 hFw h9 hTM hTM1 x0 x1 x2 x3 x4 x5 x6 HL htk hle hbig
   go_upto_region 12 with (first | (go_at_call 58;(with_reducible refine HS.mono ?_);rintro e V2 ⟨rfl,⟨l2,hM2,hL2⟩,hf2⟩;have HM2:=hid hM2;have HL2:=hid hL2;have HF2:=hid (HFQ.out.trans hf2);have HJ2:=hid (hf2.row HX5.out (by decide) (by decide));clear hM2 hf2 hL2 HS))
   clear c0 c1 c2 c3 c4 c5 c6 c7 c8 d0 d1 d2 d3 d4 d5 d6 d7 d8
   obtain ⟨nn,hnn⟩:∃ nn,nn=l2.length:=⟨_,rfl⟩
   have HNN:=hid hnn
   have hnb:nn≤2000000:=by have h1:=HL2.out.2.1;have h2:=HX.out.1;have h3:=HLEN.out;have h4:=HND.out;have h5:=HTK.out;have h6:=HLE.out;omega
   have HJL:Hid (∀ e ∈ js,e < nn):=fun e he=>by have:=HX6.out e he;have:=HL2.out.1;rw [hnn];omega
   have HEND:Hid (Laid (.mk 5 R a2 ts a4 a5 a6 a7 a8) l (setAll (nn:Int) l2 js)):=by
    obtain ⟨y1,y2,y3⟩:=HL2.out
    obtain ⟨⟨x1,x2⟩,x3⟩:=HX.out
    have h3:=HND.out
    have h4:=HTK.out
    have h5:=HLE.out
    have hie:i + 1=ts.length:=by have:=HS2.out;have:=HSL.out;omega
    have hln:(Tn.mk 5 R a2 ts a4 a5 a6 a7 a8).len=lenL ts + 2 * (ts.length - 1):=by simp [Tn.len]
    have h6:=HTL.out
    rw [hie,List.take_length] at h6
    refine ⟨by rw [setAll_len];omega,by rw [setAll_len];omega,fun h=>?_⟩
    rw [setAll_len] at h
    have e1:=y3 h
    obtain ⟨e2,e3⟩:=x3 (by omega)
    have ets:ts.take i ++ [ts[i]]=ts:=by rw [← List.take_succ_eq_append_getElem hit,hie,List.take_length]
    have el':l'.length=l.length + lenL (ts.take i) + 2 * (ts.take i).length:=by rw [e2,List.length_append,layC_len];omega
    have enn:(nn:Int)=((l.length + (lenL ts + 2 * (ts.length - 1)):Nat):Int):=by
     rw [HNN.out,e1,List.length_append,lay_len,el']
     have h8:lenL ts=lenL (ts.take i) + ts[i].len:=by
      have:=lenL_append (ts.take i) [ts[i]]
      rw [ets] at this
      simpa [lenL] using this
     have h9:(ts.take i).length=i:=by rw [List.length_take];omega
     rw [h8,h9]
     omega
    have h10:=layA_B (ts.take i) ts[i] l.length (nn:Int)
    rw [ets] at h10
    rw [HEL.out,← enn,e1,e3,h10,el',e2,List.append_assoc]
    exact setAll_C (nn:Int) (ts.take i) l.length l _ rfl
   clear hnn
   go_upto_region 13 with fail
   go_loopw [8] (fun y wq=>∃ k:Nat,y=.int .i64 (k:Int)∧k≤i∧Hid (RD wq m base (setAll (nn:Int) l2 (js.take k)))∧Hid (wq.ownsRow U.heap.size 3 1 (.slice j1 i j3) i (NJ js))∧Hid (FrD base U wq)) (fun y _=>i - (intOf y).toNat)
   case atStart=>exact ⟨0,rfl,Nat.zero_le _,by simp [setAll];exact HM2.out,HJ2.out,HF2.out⟩
   case round =>
    obtain ⟨k,rfl,hk,HRD,HJ,HFK⟩:=hrel
    by_cases hki:k < i
    case neg =>
     have g1:decide ((k:Int) < (i:Int))=false:=by simp;omega
     have HFW:=hid (HQ.out wr HFK.out).2.2.2
     go_wp2
     all_goals first | go_end0 | (refine bodyPost_ret (results_none rfl _ _ _) rfl ?_)
     all_goals have hke:js.take k=js:=List.take_of_length_le (by have:=HX4.out;omega)
     all_goals have hrd:=HRD.out
     all_goals rw [hke] at hrd
     all_goals exact ⟨rfl,⟨_,hrd,HEND.out⟩,HFW.out⟩
    have g1:decide ((k:Int) < (i:Int))=true:=by simp;omega
    have g2:(k:Int) < (i:Int):=by omega
    have a2:IntKind.i64.wrap ((k:Int) + 1)=(k:Int) + 1:=by rw [wrap_ok _ (by omega) (by omega)]
    have hkj:k < js.length:=by have:=HX4.out;omega
    obtain ⟨gj,cj,hj1⟩:=Joins.ownsRow_form HJ.out (by omega)
    simp only [Value.slice.injEq,true_and] at hj1
    obtain ⟨rfl,rfl⟩:=hj1
    obtain ⟨e,he⟩:∃ e,e=js[k]:=⟨_,rfl⟩
    have kj:wr.cell? ⟨gj,k,none⟩=some (.int .i64 (e:Int)):=by
     rw [HJ.out.cellAt k (by omega)]
     simp [hkj,he]
    have hen:e < nn:=by rw [he];exact HJL.out _ (List.getElem_mem hkj)
    obtain ⟨z1,c,is,hx⟩:=HRD.out
    have hln:(setAll (nn:Int) l2 (js.take k)).length=nn:=by rw [setAll_len];exact HNN.out.symm
    obtain ⟨g,rfl⟩:=hx.form (by omega)
    have k0:=hx.cell
    rw [hln] at k0
    have ht:=hx.there e (by omega)
    obtain ⟨v1,hv1⟩:=Option.isSome_iff_exists.1 (ht 1 (by omega)).1
    have f1:=(ht 1 (by omega)).2
    have b5:(e:Int) < (nn:Int):=by omega
    obtain ⟨qx0,qf0⟩:=hx.setX hm e (by omega) (nn:Int)
    have qx:=qx0.below (drew_below _)
    have qf:=qf0.trans (FrD.drew base _)
    obtain ⟨W2,hW2⟩:∃ W2,W2=(wr.setCell ⟨g,e * 5 + 1,none⟩ (.int .i64 (nn:Int))).drew:=⟨_,rfl⟩
    rw [← hW2] at qx qf
    have eset:(setAll (nn:Int) l2 (js.take k)).modify e (In.setX (nn:Int))=setAll (nn:Int) l2 (js.take (k + 1)):=by rw [setAll_take _ _ _ k hkj,he]
    rw [eset] at qx
    have HQX:Hid (RD W2 m base (setAll (nn:Int) l2 (js.take (k + 1)))):=⟨_,_,_,qx⟩
    have HQJ:=hid (qf.row HJ.out (by decide) (by decide))
    have HQF:=hid (HFK.out.trans qf)
    have HW2:=hid hW2
    clear hx ht qx0 qf0 qx qf hW2 eset he HRD HJ HFK hln
    go_upto_region 15 with fail
    refine wp_region_lexK [0,1,2,3,4,5,6,7,8,9,10,11,12] [13,14,15] 15 (fun X=>X.cell? ⟨m,0,none⟩=some (.slice (some ⟨g,0,none⟩) nn c)∧X.cell? ⟨gj,k,none⟩=some (.int .i64 (e:Int))) (by kernel_rfl) (by kernel_rfl) rfl (by kernel_rfl) (by kernel_rfl) ⟨k0,kj⟩ ?_
    simp only [opsAt,opsNo,List.getElem?_toArray,List.getElem?_cons_zero,List.getElem?_cons_succ]
    iterate 13
     refine lex_cons ?_ rfl (fun X hX=>?_) (fun _ _ _ h=>h) ?_
     rotate_left
     ·obtain ⟨s0,s2⟩:=hX
      go_simp <;> with_reducible rfl
     simp only [Act.put,List.setIfInBounds_toArray,List.set_cons_zero,List.set_cons_succ]
    refine lex_nil (tailK_cons fun K hK=>?_)
    go_simp
    refine hK.out _ _ (fun _=>⟨k0,kj⟩) (tailK_cons fun K hK=>?_)
    simp only [Act.put,List.setIfInBounds_toArray,List.set_cons_zero,List.set_cons_succ]
    go_simp
    refine hK.out _ _ (fun _=>⟨k0,kj⟩) (tailK_cons fun K hK=>?_)
    simp only [Act.put,List.setIfInBounds_toArray,List.set_cons_zero,List.set_cons_succ]
    go_simp
    refine hK.out _ _ (fun h=>absurd rfl h) (tailK_nil ?_)
    try simp only [Act.put,List.setIfInBounds_toArray,List.set_cons_zero,List.set_cons_succ]
    rw [← HW2.out]
    clear k0 kj hv1 f1
    go_wp2
    refine ⟨⟨k + 1,by push_cast;rfl,by omega,HQX.out,HQJ.out,HQF.out⟩,by simp [intOf];omega⟩
  have b3:((i:Int) == (sl:Int))=false:=by simp;omega
  have HI2:=hid (show i + 1 < s2 by have:=HSL.out;omega)
  have HP:=put57 2 0 x0 hm (by omega) hbV1
  obtain ⟨ia,hia⟩:∃ ia,ia=l'.length:=⟨_,rfl⟩
  have HIE:=hid hia
  rw [← hia] at HP
  have HX:=hid (show (l.length≤l'.length∧(l'.length≤l.length + 5 * nodesL (ts.take i)∧l'.length≤l.length + lenL (ts.take i) + 2 * i))∧(l'.length≤20000→l'=l ++ layC (ts.take i) l.length∧js=endsB (ts.take i) l.length) from ⟨⟨x1,x2⟩,x3⟩)
  have HTL:=hid (show lenL (ts.take (i + 1))=lenL (ts.take i) + ts[i].len by rw [List.take_succ_eq_append_getElem hit,lenL_append];simp [lenL])
  have HX5:=hid x5
  have HX6:=hid x6
  have HX4:=hid x4
  have HTK:=hid htk
  have HLE:=hid hle
  have HBIG:=hid hbig
  have H9:=hid h9
  have HTM:=hid hTM
  clear hQ1 hFw h9 hTM hTM1 x0 x1 x2 x3 x4 x5 x6 HL htk hle hia hbig d0 d1 d2 d3 d4 d5 d6 d7 d8
  go_upto_region 8 with (first | (go_at_call 57;(with_reducible refine HP.mono ?_);rintro e V1 ⟨rfl,hM1,hf1⟩;have HM1:=hid hM1;have HF1:=hid (HFQ.out.trans hf1);have HJ1:=hid (hf1.row HX5.out (by decide) (by decide));clear hM1 hf1 HP))
  clear c0 c1 c2 c3 c4 c5 c6 c7 c8
  obtain ⟨hQ1,_,hbV1',_⟩:=HQ.out V1 HF1.out
  obtain ⟨c0,c1,c2,c3,c4,c5,c6,c7,c8⟩:=nine' hQ1
  obtain ⟨d0,d1,d2,d3,d4,d5,d6,d7,d8⟩:=H9.out.kept (HF1.out.low b hbl)
  have HS:=hIH i hit (ND i) V1 m _ HM1.out hm hbV1' (HTM.out.kept HF1.out.low) (by have h1:=HLEN.out;have h2:=HND.out;have h3:=HX.out.1;have h4:=HTK.out;have h5:=HLE.out;rw [List.length_append];simp only [List.length_cons,List.length_nil];omega)
  clear hQ1
  go_upto_region 9 with (first | (go_at_call 58;(with_reducible refine HS.mono ?_);rintro e V2 ⟨rfl,⟨l2,hM2,hL2⟩,hf2⟩;have HM2:=hid hM2;have HL2:=hid hL2;have HF2:=hid (HF1.out.trans hf2);have HJ2:=hid (hf2.row HJ1.out (by decide) (by decide));clear hM2 hf2 hL2 HS))
  clear c0 c1 c2 c3 c4 c5 c6 c7 c8 d0 d1 d2 d3 d4 d5 d6 d7 d8
  have hl2:l2.length≤2000000:=by have h1:=HL2.out.2.1;have h2:=HX.out.1;have h3:=HLEN.out;have h4:=HND.out;have h5:=HTK.out;have h6:=HLE.out;simp only [List.length_append,List.length_cons,List.length_nil] at h1;omega
  have HP2:=put57 7 0 HM2.out hm hl2 (HQ.out V2 HF2.out).2.2.1
  obtain ⟨ja,hja⟩:∃ ja,ja=l2.length:=⟨_,rfl⟩
  have HJE:=hid hja
  rw [← hja] at HP2 hl2
  have hiaja:ia < ja:=by rw [hja,HIE.out];have:=HL2.out.1;simp only [List.length_append,List.length_cons,List.length_nil] at this;omega
  clear hja
  go_upto_region 10 with (first | (go_at_call 57;(with_reducible refine HP2.mono ?_);rintro e V3 ⟨rfl,hM3,hf3⟩;have HM3:=hid hM3;have HF3:=hid (HF2.out.trans hf3);have HJ3:=hid (hf3.row HJ2.out (by decide) (by decide));clear hM3 hf3 HP2))
  have hUV3:U.heap.size≤V3.heap.size:=HF3.out.size
  have HAPP:Hid (∀ v' w3,w3.ownsRow U.heap.size 3 1 v' (i + 1) (NJ js ++ [Value.int .i64 (ja:Int)])→Moved (V3.alloc (.cells #[.int .i64 (ja:Int)] 3)) w3 (.slice j1 i j3) v'→FrD base U w3∧RD w3 m base (l2 ++ [⟨7,((ja + 1:Nat):Int),0,0,[]⟩])):=fun v' w3 ho hmv=>by
   obtain ⟨q1,q2,_⟩:=jump_push hbU2 HF3.out (Joins.below_alloc1 V3 _) hmv HJ3.out HM3.out
   exact ⟨q1,q2⟩
  have HHON:=hid HJ3.out
  have hHOLD:=(HJ3.out.alloc (.cells #[.int .i64 (ja:Int)] 3))
  have HOW:=hid hHOLD
  clear hHOLD
  go_upto_region 11 with (first | (at_builtin;refine wpList_append_move rfl (.tmp 40) (.tmp 42) 26 rfl U.heap.size 3 i0 (.int .i64 0) 8 Tryz.underlying26 hi0 hz0 hz1 hz2 rfl (.slice j1 i j3) i (NJ js) rfl HOW.out ⟨V3.heap.size,0,none⟩ 1 1 [.int .i64 (ja:Int)] rfl rfl (by decide) (one_new V3 _ 3) (by intro u hu;simp at hu;subst hu;rfl) (by unfold maxLen;omega) (by omega) (by simp;omega) ?_;intro v' w3 ho3 hm3;obtain ⟨vb,vc,rfl⟩:=Joins.ownsRow_form ho3.out (by omega);obtain ⟨q1,q2⟩:=HAPP.out _ w3 ho3.out hm3.out;have HF4:=hid q1;have HM4:=hid q2;have HJ4:Hid (w3.ownsRow U.heap.size 3 1 (.slice (some ⟨vb,0,none⟩) (i + 1) vc) (i + 1) (NJ (js ++ [ja]))):=(by rw [show NJ (js ++ [ja])=NJ js ++ [Value.int .i64 (ja:Int)] by simp];exact ho3.out);clear ho3 hm3 q1 q2))
  obtain ⟨z1,c,is,hx⟩:=HM4.out
  obtain ⟨n3,hn3⟩:∃ n3,n3=(l2 ++ [(⟨7,((ja + 1:Nat):Int),0,0,[]⟩:In)]).length:=⟨_,rfl⟩
  have hn3e:n3=ja + 1:=by rw [hn3,List.length_append,HJE.out];rfl
  obtain ⟨g,rfl⟩:=hx.form (by omega)
  have k0:=hx.cell
  rw [← hn3] at k0
  have ht:=hx.there ia (by omega)
  obtain ⟨v1,hv1⟩:=Option.isSome_iff_exists.1 (ht 2 (by omega)).1
  have f1:=(ht 2 (by omega)).2
  have b5:(ia:Int) < (n3:Int):=by omega
  have a5:IntKind.i64.wrap ((ja:Int) + 1)=(ja:Int) + 1:=by rw [wrap_ok _ (by omega) (by omega)]
  obtain ⟨qx,qf⟩:=hx.setY hm ia (by omega) ((ja:Int) + 1)
  have HQX:=hid qx
  have HQF:=hid (HF4.out.trans qf)
  have HQJ:=hid (qf.row HJ4.out (by decide) (by decide))
  clear hx ht qx qf hn3 hn3e HM4 HJ4
  go_wp2
  refine ⟨⟨i + 1,_,_,rfl,by push_cast;rfl,HI2.out,⟨_,js ++ [ja],⟨_,_,_,HQX.out⟩,by rw [List.length_append,HX4.out];rfl,HQJ.out,?_⟩,HQF.out⟩,by simp [intOf];omega⟩
  obtain ⟨y1,y2,y3⟩:=HL2.out
  obtain ⟨⟨x1,x2⟩,x3⟩:=HX.out
  have h4:=HTK.out
  have h6:=HTL.out
  simp only [List.length_append,List.length_cons,List.length_nil] at y1 y2
  have hl4:((l2 ++ [(⟨7,((ja + 1:Nat):Int),0,0,[]⟩:In)]).modify ia (In.setY ((ja:Int) + 1))).length=l2.length + 1:=by rw [List.length_modify,List.length_append];rfl
  refine ⟨fun e he=>?_,by rw [hl4];omega,by rw [hl4];omega,fun h=>?_⟩
  ·rw [hl4]
   rcases List.mem_append.1 he with he | he
   ·have:=HX6.out e he;omega
   ·simp at he;rw [he,HJE.out];omega
  ·rw [hl4] at h
   have e1:=y3 (by omega)
   obtain ⟨e2,e3⟩:=x3 (by omega)
   have el':l'.length=l.length + lenL (ts.take i) + 2 * (ts.take i).length:=by rw [e2,List.length_append,layC_len];omega
   have e1':l2=l' ++ (⟨2,((l'.length + 1:Nat):Int),0,0,[]⟩:In) :: ts[i].lay (l'.length + 1):=by rw [e1,HIE.out];simp
   have ejl:l2.length=l'.length + 1 + ts[i].len:=by rw [e1'];simp [lay_len];omega
   rw [List.take_succ_eq_append_getElem hit]
   refine ⟨?_,?_⟩
   ·rw [layC_app,← List.append_assoc,← e2]
    have e5:l2 ++ [(⟨7,((ja + 1:Nat):Int),0,0,[]⟩:In)]=l' ++ (⟨2,((l'.length + 1:Nat):Int),0,0,[]⟩:In) :: (ts[i].lay (l'.length + 1) ++ [⟨7,((ja + 1:Nat):Int),0,0,[]⟩]):=by rw [e1'];simp
    rw [e5,HIE.out,modify_mid,el']
    have e6:ja=l.length + lenL (ts.take i) + 2 * (ts.take i).length + 1 + ts[i].len:=by rw [HJE.out,ejl,el']
    have e7:((ja:Int) + 1)=((l.length + lenL (ts.take i) + 2 * (ts.take i).length + ts[i].len + 2:Nat):Int):=by rw [e6];omega
    have e8:((ja + 1:Nat):Int)=((l.length + lenL (ts.take i) + 2 * (ts.take i).length + ts[i].len + 2:Nat):Int):=by rw [e6];omega
    rw [e7,e8]
    rfl
   ·rw [endsB_app,e3,HJE.out,ejl,el']
abbrev CN (r1:Option Addr) (r2 r3:Nat):Nv:=⟨2,r1,r2,r3,0,none,0,0,0,0,false,0,⟨#[]⟩⟩
set_option maxRecDepth 100000 in
set_option maxHeartbeats 4000000 in
theorem length45c (r1:Option Addr) (r2 r3:Nat) (w:World):Calls Tryz.prog 90 #[(CN r1 r2 r3).v] w fun e w'=>e=.returned (.int .i64 1)∧Below w.heap.size w w':=by
 have hb0:=Joins.below_alloc1 w (.cells (Array.mk (CN r1 r2 r3).cs) 25)
 have HB:=hid hb0
 clear hb0
 go_enter Tryz.func90,Tryz.ntmps90
 go_wp2_with fail
 go_loopw [9] (fun y wq=>y=.int .i64 0∧wq=w.alloc (.cells (Array.mk (CN r1 r2 r3).cs) 25)) (fun _ _=>0)
 case atStart=>exact ⟨rfl,rfl⟩
 case round =>
  obtain ⟨rfl,rfl⟩:=hrel
  go_wp2
  all_goals go_ret
  all_goals exact ⟨rfl,HB.out⟩
set_option maxRecDepth 100000 in
set_option maxHeartbeats 4000000 in
theorem whole29c (r1:Option Addr) (r2 r3:Nat) (w:World):Calls Tryz.prog 51 #[(CN r1 r2 r3).v] w fun e w'=>e=.returned (.int .i64 4)∧Below w.heap.size w w':=by
 have hb0:=Joins.below_alloc1 w (.cells (Array.mk (CN r1 r2 r3).cs) 25)
 have HC:=length45c r1 r2 r3 (w.alloc (.cells (Array.mk (CN r1 r2 r3).cs) 25))
 have HB:=hid hb0
 clear hb0
 go_enter Tryz.func51,Tryz.ntmps51
 go_wp2_with (first | (go_at_call 90;(with_reducible refine HC.mono ?_);rintro e w2 ⟨rfl,hb2⟩;have HB2:=hid hb2;clear hb2 HC))
 all_goals go_ret
 all_goals exact ⟨rfl,HB.out.trans (Joins.below_le HB2.out HB.out.size)⟩
set_option maxRecDepth 100000 in
set_option maxHeartbeats 4000000 in
theorem great33c (r1:Option Addr) (r2 r3:Nat) (w:World):Calls Tryz.prog 55 #[(CN r1 r2 r3).v] w fun e w'=>e=.returned (.int .i64 0)∧Below w.heap.size w w':=by
 have hb0:=Joins.below_alloc1 w (.cells (Array.mk (CN r1 r2 r3).cs) 25)
 have HB:=hid hb0
 clear hb0
 go_enter Tryz.func55,Tryz.ntmps55
 go_wp2_with fail
 go_loopw [3,11] (fun u y wq=>u=.int .i64 0∧y=.int .i64 0∧wq=w.alloc (.cells (Array.mk (CN r1 r2 r3).cs) 25)) (fun _ _ _=>0)
 case atStart=>exact ⟨rfl,rfl,rfl⟩
 case round =>
  obtain ⟨rfl,rfl,rfl⟩:=hrel
  go_wp2
  all_goals go_ret
  all_goals exact ⟨rfl,HB.out⟩
abbrev Fc (r1:Option Addr) (r2 r3:Nat):Array Value:=#[.int .i64 2,.slice r1 r2 r3,.int .i64 0,.slice none 0 0,.int .i64 0,.int .i64 0,.bool false,.int .i64 0,.string ⟨#[]⟩,.func (.func 203) #[] #[],.int .i64 1,.int .i64 1]
set_option maxRecDepth 100000 in
set_option maxHeartbeats 4000000 in
theorem leaf73c (r1:Option Addr) (r2 r3:Nat) (w:World):Calls Tryz.prog 135 #[(CN r1 r2 r3).v] w fun e w'=>∃ f,e=.returned (pt f)∧w'.heap[f]?=some (.cells (Fc r1 r2 r3) 151 (0,0))∧w.heap.size≤f∧Below w.heap.size w w':=by
 go_enter Tryz.func135,Tryz.ntmps135
 go_wp2
 all_goals go_ret
 all_goals exact ⟨w.heap.size + 1,rfl,two_new w _ _ _,by omega,below_two' w _ _⟩
set_option maxRecDepth 100000 in
set_option maxHeartbeats 4000000 in
theorem form46c (r1:Option Addr) (r2 r3:Nat) (w:World):Calls Tryz.prog 91 #[(CN r1 r2 r3).v] w fun e w'=>∃ f,e=.returned (pt f)∧w'.heap[f]?=some (.cells (Fc r1 r2 r3) 151 (0,0))∧w.heap.size≤f∧Below w.heap.size w w':=by
 have hb0:=Joins.below_alloc1 w (.cells (Array.mk (CN r1 r2 r3).cs) 25)
 have HC:=leaf73c r1 r2 r3 (w.alloc (.cells (Array.mk (CN r1 r2 r3).cs) 25))
 have HB:=hid hb0
 clear hb0
 go_enter Tryz.func91,Tryz.ntmps91
 go_wp2_with (first | (go_at_call 135;(with_reducible refine HC.mono ?_);rintro e w2 ⟨f,rfl,hf,hl,hb2⟩;have HB2:=hid hb2;have HF:=hid hf;have HLF:=hid hl;clear hb2 HC hf hl))
 all_goals go_ret
 all_goals exact ⟨f,rfl,HF.out,by have:=HLF.out;have:=HB.out.size;omega,HB.out.trans (Joins.below_le HB2.out HB.out.size)⟩
abbrev mkI (k:Int):Iv:=⟨k,0,0,0,none,0,0⟩
abbrev BxC (w:World) (b:Nat) (r1:Option Addr) (r2 r3:Nat):Prop:=w.heap[b]?=some (.cells #[.int .i64 2,.slice r1 r2 r3,.int .i64 0,.slice none 0 0,.int .i64 0,.int .i64 0,.bool false,.int .i64 0,.string ⟨#[]⟩] 25 (0,0))
theorem ninec {w:World} {b:Nat} {r1:Option Addr} {r2 r3:Nat} (h:BxC w b r1 r2 r3):w.cell? ⟨b,0,none⟩=some (.int .i64 2)∧w.cell? ⟨b,1,none⟩=some (.slice r1 r2 r3)∧w.cell? ⟨b,2,none⟩=some (.int .i64 0)∧w.cell? ⟨b,3,none⟩=some (.slice none 0 0)∧w.cell? ⟨b,4,none⟩=some (.int .i64 0)∧w.cell? ⟨b,5,none⟩=some (.int .i64 0)∧w.cell? ⟨b,6,none⟩=some (.bool false)∧w.cell? ⟨b,7,none⟩=some (.int .i64 0)∧w.cell? ⟨b,8,none⟩=some (.string ⟨#[]⟩):=
 ⟨Joins.cell_of_block h 0,Joins.cell_of_block h 1,Joins.cell_of_block h 2,Joins.cell_of_block h 3,Joins.cell_of_block h 4,Joins.cell_of_block h 5,Joins.cell_of_block h 6,Joins.cell_of_block h 7,Joins.cell_of_block h 8⟩
set_option maxRecDepth 100000 in
set_option maxHeartbeats 4000000 in
theorem class94 {w:World} {m base n:Nat} {xs:List Value} (r1:Option Addr) (r3:Nat) (h:MK w m base n xs) (hm:base≤m) (hn:n≤20000) (hb:base≤w.heap.size) :
  Calls Tryz.prog 204 #[pt m,(CN r1 1 r3).v] w fun e w'=>e=.returned (.tuple #[])∧MK w' m base (n + 1) (xs ++ Iv.cs ⟨1,(n:Int) + 1,0,0,r1,1,r3⟩)∧Fr base w w':=by
 obtain ⟨U,hU⟩:∃ U,U=w.alloc (.cells (Array.mk (CN r1 1 r3).cs) 25):=⟨_,rfl⟩
 have hbU:Below w.heap.size w U:=by rw [hU];exact Joins.below_alloc1 w _
 have hQ:BxC U w.heap.size r1 1 r3:=by rw [hU];exact heap_alloc_new w _
 have HS:∀ W,Below U.heap.size U W→Calls Tryz.prog 93 #[pt m,(⟨1,0,0,0,r1,1,r3⟩:Iv).v] W fun e w'=>e=.returned (.tuple #[])∧MK w' m base (n + 1) (xs ++ Iv.cs ⟨1,(n:Int) + 1,0,0,r1,1,r3⟩)∧Fr base W w':=fun W hW =>
  step48 1 0 0 r1 1 r3 ((h.below hbU).below hW) hm hn (Nat.le_trans hb (Nat.le_trans hbU.size hW.size))
 have HF:=hid (Fr.of_below hbU hb)
 have HSS:=hid HS
 have hbU2:base≤U.heap.size:=Nat.le_trans hb hbU.size
 obtain ⟨c0,c1,c2,c3,c4,c5,c6,c7,c8⟩:=ninec hQ
 obtain ⟨p,hp⟩:∃ p,p=w.heap.size:=⟨_,rfl⟩
 clear h hbU hQ HS
 go_enter Tryz.func204,Tryz.ntmps204
 go_upto_region 1 with fail
 rw [← hU,← hp]
 rw [← hp] at c0 c1 c2 c3 c4 c5 c6 c7 c8
 clear hU hp
 go_upto_region 3 with fail
 go_region_with (first | (go_at_call 93;(with_reducible refine (HSS.out _ ?_).mono ?_);(exact ⟨rfl,rfl,rfl,Nat.le_refl _,fun _ _=>rfl⟩);rintro e w3 ⟨rfl,hM,hf⟩;have HM:=hid hM;have HF3:=hid hf;clear hM hf))
 all_goals go_wp2_with fail
 all_goals go_end0
 all_goals exact ⟨rfl,HM.out,HF.out.trans ((Fr.of_below (w:=U) (w':=U.drew) ⟨rfl,rfl,rfl,Nat.le_refl _,fun _ _=>rfl⟩ hbU2).trans HF3.out)⟩
set_option maxRecDepth 100000 in
set_option maxHeartbeats 4000000 in
theorem way75 (m:Nat) (r1:Option Addr) (r3:Nat) (w:World):Calls Tryz.prog 138 #[pt m,(CN r1 1 r3).v] w fun e w'=>e=.returned (.func (.func 204) #[pt m] #[])∧Below w.heap.size w w':=by
 go_enter Tryz.func138,Tryz.ntmps138
 go_wp2
 all_goals go_ret
 all_goals exact ⟨rfl,Joins.below_alloc1 w _⟩
set_option maxRecDepth 100000 in
set_option maxHeartbeats 4000000 in
theorem lay49 {w:World} {m base n:Nat} {xs:List Value} (r1:Option Addr) (r3:Nat) (h:MK w m base n xs) (hm:base≤m) (hn:n≤20000) (hb:base≤w.heap.size) :
  Calls Tryz.prog 94 #[pt m,(CN r1 1 r3).v] w fun e w'=>e=.returned (.tuple #[])∧MK w' m base (n + 1) (xs ++ Iv.cs ⟨1,(n:Int) + 1,0,0,r1,1,r3⟩)∧Fr base w w':=by
 obtain ⟨U,hU⟩:∃ U,U=w.alloc (.cells (Array.mk (CN r1 1 r3).cs) 25):=⟨_,rfl⟩
 have hbU:Below w.heap.size w U:=by rw [hU];exact Joins.below_alloc1 w _
 have hQ:BxC U w.heap.size r1 1 r3:=by rw [hU];exact heap_alloc_new w _
 have hpU:w.heap.size < U.heap.size:=(Array.getElem?_eq_some_iff.1 hQ).1
 have HS:∀ W,Below U.heap.size U W→Calls Tryz.prog 204 #[pt m,(CN r1 1 r3).v] W fun e w'=>e=.returned (.tuple #[])∧MK w' m base (n + 1) (xs ++ Iv.cs ⟨1,(n:Int) + 1,0,0,r1,1,r3⟩)∧Fr base W w':=fun W hW =>
  class94 r1 r3 ((h.below hbU).below hW) hm hn (Nat.le_trans hb (Nat.le_trans hbU.size hW.size))
 have HF:=hid (Fr.of_below hbU hb)
 have HSS:=hid HS
 have HW:=fun W=>way75 m r1 r3 W
 have hbU2:base≤U.heap.size:=Nat.le_trans hb hbU.size
 have HQ:=hid hQ
 obtain ⟨c0,c1,c2,c3,c4,c5,c6,c7,c8⟩:=ninec hQ
 obtain ⟨p,hp⟩:∃ p,p=w.heap.size:=⟨_,rfl⟩
 clear h hbU hQ HS
 go_enter Tryz.func94,Tryz.ntmps94
 go_upto_region 1 with fail
 rw [← hU,← hp]
 rw [← hp] at c0 c1 c2 c3 c4 c5 c6 c7 c8 hpU HQ
 clear hU hp
 go_region_held3 (fun W=>W.cell? ⟨p,0,none⟩=some (.int .i64 2)∧W.cell? ⟨p,1,none⟩=some (.slice r1 1 r3)∧W.cell? ⟨p,2,none⟩=some (.int .i64 0)∧W.cell? ⟨p,3,none⟩=some (.slice none 0 0)∧W.cell? ⟨p,4,none⟩=some (.int .i64 0)∧W.cell? ⟨p,5,none⟩=some (.int .i64 0)∧W.cell? ⟨p,6,none⟩=some (.bool false)∧W.cell? ⟨p,7,none⟩=some (.int .i64 0)∧W.cell? ⟨p,8,none⟩=some (.string ⟨#[]⟩)) (first | (exact ⟨j0,j1,j2,j3,j4,j5,j6,j7,j8⟩) | (exact ⟨k0,k1,k2,k3,k4,k5,k6,k7,k8⟩) | (simp [*];done)) (first | (go_at_call 138;(with_reducible refine (HW _).mono ?_);rintro e w2 ⟨rfl,hb2⟩;have hbb:Below U.heap.size U w2:=⟨hb2.os,hb2.tape,hb2.output,hb2.size,hb2.block⟩;obtain ⟨k0,k1,k2,k3,k4,k5,k6,k7,k8⟩:=ninec ((hbb.block p hpU).trans HQ.out);have HC:=HSS.out w2 hbb;have HBB:=hid hbb;clear hbb hb2) | (go_at_call 204;(with_reducible refine HC.mono ?_);rintro e w3 ⟨rfl,hM,hf⟩;obtain ⟨j0,j1,j2,j3,j4,j5,j6,j7,j8⟩:=ninec (hf.blk p _ _ _ ((HBB.out.block p hpU).trans HQ.out) (by decide) (by decide));have HM:=hid hM;have HF3:=hid hf;clear hM hf))
 all_goals go_wp2_with fail
 all_goals go_end0
 all_goals exact ⟨rfl,HM.out,HF.out.trans ((Fr.of_below HBB.out hbU2).trans HF3.out)⟩
end Go.Proofs.YtacaanhnlfpbhaaGreat
