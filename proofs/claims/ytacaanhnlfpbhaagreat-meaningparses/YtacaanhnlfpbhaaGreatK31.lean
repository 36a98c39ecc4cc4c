/- HELPERS: texts of ours put together. -/
import Derived.Test.YtacaanhnlfpbhaaGreatK29
import Derived.Test.YtacaanhnlfpbhaaGreatK30
import Derived.Test.YtacaanhnlfpbhaaGreatK18
import Derived.Test.YtacaanhnlfpbhaaGreatK19
import Derived.Test.YtacaanhnlfpbhaaGreatK17
namespace Go.Proofs.YtacaanhnlfpbhaaGreat
open Go.RowKit Go.Lk
set_option linter.unusedVariables false
set_option linter.unusedSimpArgs false
structure BodyC (C:WC) (lb:Nat) (k:Int) (R:List (Int × Int)) (a:Int) (s:List Lt) (mn mx:Int) (ix:Int) (p:Nat) (g g1:Sg):Prop where
 c1:k=1→WCall C 82 lb p g g1
 c2:k=2→(p < C.tn→hsB R (C.tx.getD p 0)=true→WCall C 82 lb (p + 1) g g1)∧(¬ (p < C.tn∧hsB R (C.tx.getD p 0)=true)→g1=g)
 c3:k=3→(holdsB a (atP C.tx p)=true→WCall C 82 lb p g g1)∧(holdsB a (atP C.tx p)=false→g1=g)
 c4:k=4∨k=6∧mx < 0∧mn≠0→∀ h:0 < s.length,WCall C 47 (s[0]).lb p g g1
 c5:k=5→∃ gs:Nat→Sg,gs 0=g∧gs s.length=g1∧∀ i (hi:i < s.length),WCall C 47 (s[i]).lb p (gs i) (gs (i + 1))∧(gs i).notes=g.notes∧(gs i).parses.length≤70
 c7:k=7→∀ h:0 < s.length,∃ g2,WCall C 47 (s[0]).lb p { g with notes:=g.notes.set (2 * ix.toNat) (p:Int) } g2∧g2.done=g1.done∧g2.parses=g1.parses
 cq:k=6→¬ mx < 0→WCall C 87 lb p g g1
 cs:k=6→mx < 0→mn=0→WCall C 88 lb p g g1
set_option maxRecDepth 100000 in
set_option maxHeartbeats 32000000 in
theorem begin47 {C:WC} (hk:WCk C) {lb:Nat} {k:Int} {R:List (Int × Int)} {a:Int} {s:List Lt} {mn mx:Int} {lz:Bool} {ix:Int} {nm:ByteArray} {B:Way} {up:Int} {nth:Nat} {p:Nat} {g g1:Sg}
  (he:(⟨.mk lb k R a s mn mx lz ix nm,B,up,nth⟩:Pl) ∈ C.L)
  (hS:Hid ((kb lb,(p:Int)) ∈ g.done→g1=g)) (hO:Hid ((kb lb,(p:Int)) ∉ g.done→BodyC C lb k R a s mn mx ix p { g with done:=g.done ++ [(kb lb,(p:Int))] } g1)):WCall C 47 lb p g g1:=by
 intro W caps cv h
 have hF:=kinds_sub hk he
 have hlb:=hk.num _ he
 have hnn:=hk.nn
 have htn:=hk.tn64
 have hp:=h.p64
 simp only [Lt.lb] at hlb
 have hsl:s.length≤300000:=hk.subs _ he
 obtain ⟨k0,k1,k2,k3,k4,k5,t0⟩:=h.fm.cells
 have g0:=h.fm.beg.cell hlb
 have f0:=(h.fm.fl.b lb hlb).cell (i:=p) (by omega)
 have u0:=(h.fm.fl.b lb hlb).free p
 have i1:(lb:Int) < (C.n:Int):=by omega
 have i2:(lb:Int)≤300000:=by omega
 have i3:(p:Int) < ((C.tn + 1:Nat):Int):=by omega
 have i4:(p:Int)≤64:=by omega
 have i7:(s.length:Int)≤300000:=by omega
 obtain ⟨d,hd⟩:∃ d,d=decide ((kb lb,(p:Int)) ∈ g.done):=⟨_,rfl⟩
 rw [← hd] at f0
 have HD:=hid hd
 obtain ⟨m,hm⟩:∃ m,m=C.tn + 1:=⟨_,rfl⟩
 rw [← hm] at i3 g0
 obtain ⟨W1,hW1⟩:∃ W1,W1=W.setCell ⟨C.rb lb,p,none⟩ (.bool true):=⟨_,rfl⟩
 obtain ⟨fm1,fr1⟩:=h.fm.begun hk hlb hp
 rw [← hW1] at fm1 fr1
 obtain ⟨l0,-,-,-,-,-,lt0⟩:=fm1.cells
 obtain ⟨a',ix',r1,r2,r3,sa,sc,lz',⟨n0,n1,n2,n3,n4,n5,n6,n7⟩,hnd⟩:=fm1.pl _ he
 obtain ⟨kv,hkv⟩:∃ kv,kv=Lt.kk (.mk lb k R a s mn mx lz ix nm):=⟨_,rfl⟩
 rw [← hkv] at n0
 obtain ⟨V,hV⟩:∃ V,V=W1.alloc (.cells #[.int .i64 kv,.int .i64 a',.int .i64 ix',.slice r1 r2 r3,.slice sa s.length sc,.bool lz',.int .i64 up,.int .i64 (nth:Int)] 141):=⟨_,rfl⟩
 have hbV:Below W1.heap.size W1 V:=by rw [hV];exact Joins.below_alloc1 W1 _
 obtain ⟨fmV,frV⟩:=fm1.below hk hbV
 have hY:V.heap[W1.heap.size]?=some (.cells #[.int .i64 kv,.int .i64 a',.int .i64 ix',.slice r1 r2 r3,.slice sa s.length sc,.bool lz',.int .i64 up,.int .i64 (nth:Int)] 141 (0,0)):=by rw [hV];exact heap_alloc_new W1 _
 obtain ⟨y,hy⟩:∃ y,y=W1.heap.size:=⟨_,rfl⟩
 rw [← hy] at hY
 have hfrV:=fr1.trans frV
 have HST:Hid (∀ w',WFr C V w'→(w'.cell? ⟨y,0,none⟩=some (.int .i64 kv)∧w'.cell? ⟨y,1,none⟩=some (.int .i64 a')∧w'.cell? ⟨y,2,none⟩=some (.int .i64 ix')∧w'.cell? ⟨y,3,none⟩=some (.slice r1 r2 r3)∧w'.cell? ⟨y,4,none⟩=some (.slice sa s.length sc))∧Rw w' cv caps∧Rw w' (.slice sa s.length sc) (s.map fun t=>(t.lb:Int))):=fun w' f=>by
  obtain ⟨y0,y1,y2,y3,y4,y5⟩:=box8 (f.typ _ _ _ (by decide) (by decide) (by decide) hY)
  exact ⟨⟨y0,y1,y2,y3,y4⟩,f.row (hfrV.row h.cap),f.row (frV.row hnd.su)⟩
 have HIN:Hid (WIn C V { g with done:=g.done ++ [(kb lb,(p:Int))] } p caps cv):=hid (h.go (s':={ g with done:=g.done ++ [(kb lb,(p:Int))] }) fmV hp (hfrV.row h.cap) rfl h.nt h.ol)
 have HFV:=hid hfrV
 have HNV:=hid (hnd.kept frV)
 have HV:=hid hV
 have HYE:=hid hy
 have HW1:=hid hW1
 have HH:=hid h
 have HHK:=hid hk
 have HHE:=hid he
 have HFN:=hid hF
 have HKV:=hid hkv
 have HPW:=hid hp
 clear hd hk he h hF hlb hnn htn hp hsl hnd hV hbV fmV frV hfrV hY hy hkv fm1 fr1 hW1 hm
 obtain ⟨sl,hsl⟩:∃ sl,sl=s.length:=⟨_,rfl⟩
 rw [← hsl] at i7 n4 HST HV
 have HSL:=hid hsl
 clear hsl
 go_enter Tryz.func47,Tryz.ntmps47
 cases d
 rotate_left
 ·go_wp2_with fail
  refine bodyPost_ret (results_none rfl _ _ _) rfl ?_
  have e:=hS.out (of_decide_eq_true HD.out.symm)
  rw [e]
  exact ⟨rfl,HH.out.fm,WFr.refl _ _⟩
 have HO:=hid (hO.out (of_decide_eq_false HD.out.symm))
 clear hS hO HD
 generalize { g with done:=g.done ++ [(kb lb,(p:Int))] }=g' at HIN HO
 go_upto_region 2 with fail
 rw [← HW1.out]
 clear k0 k1 k2 k3 k4 k5 t0 g0 f0 u0
 go_upto_region 3 with fail
 rw [← HV.out,← HYE.out]
 clear n0 n1 n2 n3 n4 n5 n6 n7 l0 lt0
 obtain ⟨⟨y0,y1,y2,y3,y4⟩,-,-⟩:=HST.out V (WFr.refl _ _)
 obtain ⟨v0,v1,-,-,-,-,vt⟩:=HIN.out.fm.cells
 rcases HFN.out.kind with rfl | rfl | rfl | rfl | rfl | rfl | rfl
 ·obtain rfl:kv=1:=HKV.out
  have HC:=HO.out.c1 rfl V caps cv HIN.out
  go_wp2_with (first | (go_at_call 82;(with_reducible refine HC.mono ?_);rintro e w2 hq;have HQ:=hid (hq.pre HFV.out);obtain ⟨rfl,-⟩:=hq;clear HC))
  go_end0
  exact HQ.out
 ·obtain rfl:kv=2:=HKV.out
  obtain ⟨hc1,hc2⟩:=HO.out.c2 rfl
  have hstop:Hid (∀ w',¬ (p < C.tn∧hsB R (C.tx.getD p 0)=true)→Below V.heap.size V w'→WPost C g1 W (.returned (.tuple #[])) w'):=fun w' hn hb=>by
   obtain ⟨fm2,fr2⟩:=HIN.out.fm.below HHK.out hb
   rw [hc2 hn]
   exact ⟨rfl,fm2,HFV.out.trans fr2⟩
  by_cases hpl:p < C.tn
  ·have b1:decide ((p:Int) < (C.tn:Int))=true:=by simp;omega
   have b2:(p:Int) < (C.tn:Int):=by omega
   obtain ⟨tb,toff,hte,htb,htc⟩:∃ b off,C.tad=some ⟨b,off,none⟩∧b < C.N0∧∀ k,k < C.tn→V.cell? ⟨b,off + k,none⟩=some (.int .i64 (C.tx.getD k 0)):=by
    obtain ⟨_,_,h | h⟩:=HIN.out.fm.tx
    ·omega
    ·exact h
   have t0:=htc p hpl
   obtain ⟨rn,hrn⟩:∃ rn,rn=C.tx.getD p 0:=⟨_,rfl⟩
   rw [← hrn] at t0 hc1 hstop
   rw [hte] at v1
   obtain ⟨ad2,cap2,hrv,hra⟩:=HNV.out.cl rfl
   simp only [Value.slice.injEq] at hrv
   obtain ⟨e1,e2,e3⟩:=hrv
   subst e1 e2 e3
   have hN0:C.N0≤V.heap.size:=by have:=HHK.out.wbN;have:=HIN.out.fm.nb;omega
   have hRA:RowAt V.heap.size V (.slice r1 R.length r3) R:=by
    rcases hra with h | ⟨b,off,e,h1,h2,h3⟩
    ·exact ⟨_,_,rfl,.inl h⟩
    ·exact ⟨_,_,rfl,.inr ⟨b,off,e,by omega,h2,h3⟩⟩
   have hR5:R.length≤5000:=rightB_len (HFN.out.cls rfl)
   have HRR:Hid (∀ W':World,W'.heap=V.heap→W'.os=V.os→W'.tape=V.tape→W'.output=V.output→Calls Tryz.prog 83 #[.slice r1 R.length r3,.int .i64 rn] W' fun e w'=>e=.returned (.bool (hsB R rn))∧Below V.heap.size V w'):=by
    intro W' e1 e2 e3 e4
    have hbW:Below V.heap.size V W':=⟨e2,e3,e4,by rw [e1];exact Nat.le_refl _,fun k hk=>by rw [e1]⟩
    refine (has56 R rn r1 R.length r3 W' rfl (by omega) (hRA.below hbW (Nat.le_refl _) hbW.size)).mono ?_
    rintro e w' ⟨h1,h2⟩
    exact ⟨h1,hbW.trans (Joins.below_le h2 hbW.size)⟩
   have hyV:y < V.heap.size:=World.block_lt_of_cell? _ _ y0
   have hwV:C.wb < V.heap.size:=World.block_lt_of_cell? _ _ v0
   have htV:tb < V.heap.size:=by omega
   obtain ⟨rl,hrl⟩:∃ rl,rl=R.length:=⟨_,rfl⟩
   rw [← hrl] at y3 HRR
   have HC1:Hid (hsB R rn=true→∀ w2,Below V.heap.size V w2→Calls Tryz.prog 82 #[.pointer (some ⟨C.wb,0,none⟩),.int .i64 (lb:Int),.int .i64 ((p + 1:Nat):Int),cv] w2 (WPost C g1 W)):=fun hh w2 hb=>by
    obtain ⟨fm2,fr2⟩:=HIN.out.fm.below HHK.out hb
    exact ((hc1 hpl hh) w2 caps cv (HIN.out.go fm2 (by omega) (HST.out w2 fr2).2.1 rfl HIN.out.nt HIN.out.ol)).mono fun e w' hq=>(hq.pre fr2).pre HFV.out
   have hst2:=hid (fun w' (hn:hsB R rn=false) hb=>hstop.out w' (fun h=>by rw [hn] at h;simp at h) hb)
   have a1:IntKind.i64.wrap ((p:Int) + 1)=(p:Int) + 1:=by simp [IntKind.wrap,IntKind.bits,IntKind.signed];omega
   generalize hsB R rn=hb0 at HRR HC1 hst2
   clear hc1 hc2 hstop htc hrn hra hRA hR5 hrl hN0 htb hte
   go_upto_region 7 with fail
   go_region_held3 (fun W'=>W'.cell? ⟨C.wb,1,none⟩=some (.slice (some ⟨tb,toff,none⟩) C.tn C.tc)∧W'.cell? ⟨y,3,none⟩=some (.slice r1 rl r3)∧W'.cell? ⟨tb,toff + p,none⟩=some (.int .i64 rn)) (first | (exact ⟨v1,y3,t0⟩) | (exact ⟨s1,s2,s3⟩) | (simp [*];done)) (first | (go_at_call 83;(with_reducible refine (HRR.out _ ?_ ?_ ?_ ?_).mono ?_);(rfl);(rfl);(rfl);(rfl);rintro e w2 ⟨rfl,hb2⟩;have s1:=(cell_eq (hb2.block C.wb hwV) _).trans v1;have s2:=(cell_eq (hb2.block y hyV) _).trans y3;have s3:=(cell_eq (hb2.block tb htV) _).trans t0;have HBB:=hid hb2;clear hb2))
   clear y0 y1 y2 y3 y4 v0 v1 vt t0 HRR s1 s2 s3
   cases hb0
   ·have hq:=hst2.out w2 rfl HBB.out
    go_wp2_with fail
    go_end0
    exact hq
   ·have HC:=HC1.out rfl w2 HBB.out
    rw [show ((p + 1:Nat):Int)=(p:Int) + 1 by omega] at HC
    go_wp2_with (first | (go_at_call 82;(with_reducible refine HC.mono ?_);rintro e w3 hq;have HQ:=hid hq;obtain ⟨rfl,-⟩:=hq;clear HC))
    go_end0
    exact HQ.out
  ·have b1:decide ((p:Int) < (C.tn:Int))=false:=by simp;omega
   have hq:Hid (∀ m,WPost C g1 W (.returned (.tuple #[])) (V.drewN m)):=fun m=>hstop.out (V.drewN m) (fun h=>hpl h.1) ⟨rfl,rfl,rfl,Nat.le_refl _,fun _ _=>rfl⟩
   have b1':decide (p < C.tn)=false:=by simp;omega
   have b1n:¬ p < C.tn:=hpl
   clear hc1 hc2 hstop hpl
   go_upto_region 7 with fail
   go_big_quiet (fail)
   go_wp2_with fail
   go_end0
   first | exact hq.out _ | exact hq.out 0
 ·obtain rfl:kv=3:=HKV.out
  obtain ⟨hc1,hc2⟩:=HO.out.c3 rfl
  have hae:a'=a:=HNV.out.asr rfl
  subst hae
  have HAT:=at58 C.tx C.tad C.tn C.tc (p:Int) V C.N0 HIN.out.fm.tx
  have hat:atN C.tx (p:Int)=atP C.tx p:=by
   have h1:=HHK.out.tnl
   have h2:=HPW.out
   unfold atN
   rw [if_neg (by omega)]
   rfl
  rw [hat] at HAT
  have HHO:Hid (∀ W',Calls Tryz.prog 85 #[.int .i64 a',.int .i64 (atP C.tx p)] W' fun e w'=>e=.returned (.bool (holdsB a' (atP C.tx p)))∧w'=W'):=fun W'=>holds57 a' (atP C.tx p) W'
  generalize atP C.tx p=ap at HAT HHO hc1 hc2
  cases hb0:holdsB a' ap
  ·rw [hb0] at HHO
   have hq:Hid (WPost C g1 W (.returned (.tuple #[])) V):=by rw [hc2 hb0];exact hid ⟨rfl,HIN.out.fm,HFV.out⟩
   have HHV:=HHO.out V
   clear hc1 hc2 hb0 hat
   go_wp2_with (first | (go_at_call 84;(with_reducible refine HAT.mono ?_);rintro e w2 ⟨rfl,hw2⟩;have hw2:=hw2.symm;subst hw2;clear HAT) | (go_at_call 85;(with_reducible refine HHV.mono ?_);rintro e w2 ⟨rfl,hw2⟩;have hw2:=hw2.symm;subst hw2;clear HHV))
   go_end0
   exact hq.out
  ·rw [hb0] at HHO
   have HHV:=HHO.out V
   have HC:=hc1 hb0 V caps cv HIN.out
   clear hc1 hc2 hb0 hat
   go_wp2_with (first | (go_at_call 84;(with_reducible refine HAT.mono ?_);rintro e w2 ⟨rfl,hw2⟩;have hw2:=hw2.symm;subst hw2;clear HAT) | (go_at_call 85;(with_reducible refine HHV.mono ?_);rintro e w2 ⟨rfl,hw2⟩;have hw2:=hw2.symm;subst hw2;clear HHV) | (go_at_call 82;(with_reducible refine HC.mono ?_);rintro e w3 hq;have HQ:=hid (hq.pre HFV.out);obtain ⟨rfl,-⟩:=hq;clear HC))
   go_end0
   exact HQ.out
 ·obtain rfl:kv=4:=HKV.out
  have h0:0 < s.length:=by have:=HFN.out.two (by omega);omega
  have HC:=HO.out.c4 (.inl rfl) h0 V caps cv HIN.out
  obtain ⟨gg,rfl,hg⟩:=sub_at (by have:=(HST.out V (WFr.refl _ _)).2.2;rw [HSL.out] at this;exact this) h0
  have i8:(0:Int) < (sl:Int):=by have:=HSL.out;omega
  have i9:0 < sl:=by omega
  generalize (s[0]).lb=nx at HC hg
  go_wp2_with (first | (go_at_call 47;(with_reducible refine HC.mono ?_);rintro e w2 hq;have HQ:=hid (hq.pre HFV.out);obtain ⟨rfl,-⟩:=hq;clear HC))
  go_end0
  exact HQ.out
 ·obtain rfl:kv=5:=HKV.out
  obtain ⟨gs,e0,e1,hgs⟩:=HO.out.c5 rfl
  subst e0 e1
  have HGS:=hid hgs
  clear hgs
  go_upto_region 20 with fail
  go_loopw [12] (fun u wq=>∃ i:Nat,u=.int .i64 (i:Int)∧i≤sl∧Hid (FM C wq (gs i).done (gs i).parses)∧Hid (WFr C V wq)) (fun u _=>sl - (intOf u).toNat)
  case atStart=>exact ⟨0,rfl,Nat.zero_le _,HIN.out.fm,WFr.refl _ _⟩
  case round =>
   obtain ⟨i,rfl,hi,HFQ,HRQ⟩:=hrel
   clear y0 y1 y2 y3 y4 v0 v1 vt
   obtain ⟨⟨y0,y1,y2,y3,y4⟩,hcv,hsu⟩:=HST.out wr HRQ.out
   by_cases hit:i < sl
   ·have b1:decide ((i:Int) < (sl:Int))=true:=by simp;omega
    have b2:(i:Int) < (sl:Int):=by omega
    have a1:IntKind.i64.wrap ((i:Int) + 1)=(i:Int) + 1:=by simp [IntKind.wrap,IntKind.bits,IntKind.signed];omega
    have hil:i < s.length:=by have:=HSL.out;omega
    obtain ⟨c1,c2,c3⟩:=HGS.out i hil
    obtain ⟨gg,hsa,hg⟩:=sub_at (by rw [HSL.out] at hsu;exact hsu) hil
    subst hsa
    have HC:=c1 wr caps cv (HIN.out.go HFQ.out HPW.out hcv rfl (by rw [c2];exact HIN.out.nt) c3)
    generalize (s[i]).lb=nx at HC hg
    clear c1 c2 c3 hcv hsu hil
    go_wp2_with (first | (go_at_call 47;(with_reducible refine HC.mono ?_);rintro e w2 ⟨rfl,hf2,hr2⟩;have HF2:=hid hf2;have HR2:=hid (HRQ.out.trans hr2);clear HC hf2 hr2))
    exact ⟨⟨i + 1,by push_cast;rfl,by omega,HF2.out,HR2.out⟩,by simp [intOf];omega⟩
   ·have b1:decide ((i:Int) < (sl:Int))=false:=by simp;omega
    have hie:i=s.length:=by have:=HSL.out;omega
    subst hie
    clear hcv hsu
    go_wp2_with fail
    go_end0
    exact ⟨rfl,HFQ.out,HFV.out.trans HRQ.out⟩
 ·by_cases hm:mx < 0
  ·by_cases hn:mn=0
   ·obtain rfl:kv=101:=by rw [HKV.out];simp [Lt.kk,hm,hn]
    have HC:=HO.out.cs rfl hm hn V caps cv HIN.out
    clear hm hn
    go_wp2_with (first | (go_at_call 88;(with_reducible refine HC.mono ?_);rintro e w2 hq;have HQ:=hid (hq.pre HFV.out);obtain ⟨rfl,-⟩:=hq;clear HC))
    go_end0
    exact HQ.out
   ·obtain rfl:kv=102:=by rw [HKV.out];simp [Lt.kk,hm,hn]
    have h0:0 < s.length:=by have:=(HFN.out.rep rfl).1;omega
    have HC:=HO.out.c4 (.inr ⟨rfl,hm,hn⟩) h0 V caps cv HIN.out
    obtain ⟨gg,rfl,hg⟩:=sub_at (by have:=(HST.out V (WFr.refl _ _)).2.2;rw [HSL.out] at this;exact this) h0
    have i8:(0:Int) < (sl:Int):=by have:=HSL.out;omega
    have i9:0 < sl:=by omega
    generalize (s[0]).lb=nx at HC hg
    clear hm hn
    go_wp2_with (first | (go_at_call 47;(with_reducible refine HC.mono ?_);rintro e w2 hq;have HQ:=hid (hq.pre HFV.out);obtain ⟨rfl,-⟩:=hq;clear HC))
    go_end0
    exact HQ.out
  ·obtain rfl:kv=103:=by rw [HKV.out];simp [Lt.kk,hm]
   have HC:=HO.out.cq rfl hm V caps cv HIN.out
   clear hm
   go_wp2_with (first | (go_at_call 87;(with_reducible refine HC.mono ?_);rintro e w2 hq;have HQ:=hid (hq.pre HFV.out);obtain ⟨rfl,-⟩:=hq;clear HC))
   go_end0
   exact HQ.out
 ·obtain rfl:kv=7:=HKV.out
  have h0:0 < s.length:=by have:=(HFN.out.grp rfl).1;omega
  obtain ⟨g2,hc2,hd2,hp2⟩:=HO.out.c7 rfl h0
  obtain ⟨x1,x2⟩:=HHK.out.grp _ _ _ _ _ _ _ _ _ _ _ _ _ HHE.out rfl
  have hxe:=HNV.out.gr rfl
  subst hxe
  obtain ⟨z,rfl⟩:=Int.eq_ofNat_of_zero_le (show 0≤ix' by omega)
  have hkk:=HHK.out.k2
  have hcl:=HH.out.capl
  have hz2:2 * z < caps.length:=by omega
  have m1:IntKind.i64.wrap (2 * (z:Int))=2 * (z:Int):=by simp [IntKind.wrap,IntKind.bits,IntKind.signed];omega
  have HS:Hid (∀ W',W'.heap=V.heap→W'.os=V.os→W'.tape=V.tape→W'.output=V.output→Calls Tryz.prog 86 #[cv,.int .i64 (2 * (z:Int)),.int .i64 (p:Int)] W' fun e w'=>∃ v',e=.returned v'∧w'.ownsRow V.heap.size 3 1 v' caps.length (I64 (caps.set (2 * z) (p:Int)))∧Below V.heap.size V w'):=by
   intro W' e1 e2 e3 e4
   have hbW:Below V.heap.size V W':=⟨e2,e3,e4,by rw [e1];exact Nat.le_refl _,fun k hk=>by rw [e1]⟩
   have hsrc:SrcOf W' cv caps:=(((HIN.out.fm.below HHK.out hbW).2).row HIN.out.cap).src
   have h1:=set39 caps cv (2 * z) (p:Int) W' hsrc hz2 (by omega)
   rw [show ((2 * z:Nat):Int)=2 * (z:Int) by omega,e1] at h1
   refine h1.mono fun e w' ⟨v',q1,q2,q3⟩=>⟨v',q1,q2,?_⟩
   exact hbW.trans (Joins.below_le (by rw [e1];exact q3) hbW.size)
  obtain ⟨gg,hsa,hg⟩:=sub_at (by have:=(HST.out V (WFr.refl _ _)).2.2;rw [HSL.out] at this;exact this) h0
  subst hsa
  have i8:(0:Int) < (sl:Int):=by have:=HSL.out;omega
  have i9:0 < sl:=by omega
  have HCC:Hid (∀ w2 v',w2.ownsRow V.heap.size 3 1 v' caps.length (I64 (caps.set (2 * z) (p:Int)))→Below V.heap.size V w2→Calls Tryz.prog 47 #[.pointer (some ⟨C.wb,0,none⟩),.int .i64 ((s[0]).lb:Int),.int .i64 (p:Int),v'] w2 (fun e w'=>WPost C g1 W e w'∧w'.cell? ⟨y,4,none⟩=some (.slice (some ⟨gg,0,none⟩) sl sc)∧w'.cell? ⟨y,2,none⟩=some (.int .i64 (z:Int))∧w'.cell? ⟨gg,0,none⟩=some (.int .i64 ((s[0]).lb:Int)))):=fun w2 v' ho hb=>by
   obtain ⟨fm2,fr2⟩:=HIN.out.fm.below HHK.out hb
   have hr:Rw w2 v' (caps.set (2 * z) (p:Int)):=Rw.of ho (by omega)
   refine (hc2 w2 (caps.set (2 * z) (p:Int)) v' (HIN.out.go (s':={ g' with notes:=g'.notes.set (2 * z) (p:Int) }) fm2 HIN.out.p64 hr (by simp) ?_ HIN.out.ol)).mono fun e w' hq=>?_
   ·show g'.notes.set (2 * z) (p:Int)=(caps.set (2 * z) (p:Int)).set 0 C.frm
    rw [HIN.out.nt,List.set_comm _ _ (by omega)]
   ·obtain ⟨q1,q2,q3⟩:=hq
    obtain ⟨⟨_,_,z2,_,z4⟩,_,zs⟩:=HST.out w' (fr2.trans q3)
    obtain ⟨g9,e9,h9⟩:=sub_at (by rw [HSL.out] at zs;exact zs) h0
    simp only [Option.some.injEq,Addr.mk.injEq] at e9
    exact ⟨⟨q1,by rw [← hd2,← hp2];exact q2,HFV.out.trans (fr2.trans q3)⟩,z4,z2,by rw [e9.1];exact h9⟩
  generalize (s[0]).lb=nx at HCC hg
  have hyV:y < V.heap.size:=World.block_lt_of_cell? _ _ y0
  have hgV:gg < V.heap.size:=World.block_lt_of_cell? _ _ hg
  clear hc2 hd2 hp2 x1 x2 hkk hcl hz2
  go_upto_region 24 with fail
  go_region_held3 (fun W'=>W'.cell? ⟨y,4,none⟩=some (.slice (some ⟨gg,0,none⟩) sl sc)∧W'.cell? ⟨y,2,none⟩=some (.int .i64 (z:Int))∧W'.cell? ⟨gg,0,none⟩=some (.int .i64 (nx:Int))) (first | (exact ⟨y4,y2,hg⟩) | (exact ⟨s4,s5,s6⟩) | (exact ⟨s1,s2,s3⟩) | (simp [*];done)) (first | (go_at_call 86;(with_reducible refine (HS.out _ ?_ ?_ ?_ ?_).mono ?_);(rfl);(rfl);(rfl);(rfl);rintro e w2 ⟨v',rfl,ho,hb2⟩;have s1:=(cell_eq (hb2.block y hyV) _).trans y4;have s2:=(cell_eq (hb2.block y hyV) _).trans y2;have s3:=(cell_eq (hb2.block gg hgV) _).trans hg;have HC:=HCC.out w2 v' ho hb2;clear hb2 ho) | (go_at_call 47;(with_reducible refine HC.mono ?_);rintro e w3 ⟨hq,s4,s5,s6⟩;have HQ:=hid hq;obtain ⟨rfl,-⟩:=hq;clear HC))
  go_wp2_with fail
  go_end0
  exact HQ.out
end Go.Proofs.YtacaanhnlfpbhaaGreat
namespace Go.Proofs.YtacaanhnlfpbhaaGreat
open Go.RowKit
set_option linter.unusedVariables false
set_option linter.unusedSimpArgs false



end Go.Proofs.YtacaanhnlfpbhaaGreat
