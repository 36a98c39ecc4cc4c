/- HELPERS: texts of ours put together. -/
import Derived.Test.YtacaanhnlfpbhaaGreatK35
import Derived.Test.YtacaanhnlfpbhaaGreatK01
import Derived.Deep.SlicePairs
import Derived.RowKit
import Derived.Test.YtacaanhnlfpbhaaGreatProg
import Derived.WalkKit
import Derived.ProofKit
import Derived.BigQuiet
import Derived.WalkSmall
import Derived.Deep.QuietTactic
import Derived.Deep.RegionWith
import Derived.Lib.SmallJoins
import Derived.Lib.MinMax
import Derived.Maps.AppendAt
import Derived.Laws.AppendOwnNone
import Derived.Test.YtacaanhnlfpbhaaGreatK04
import Derived.Test.YtacaanhnlfpbhaaGreatK08
import Derived.Test.YtacaanhnlfpbhaaGreatK18
namespace Go.Proofs.YtacaanhnlfpbhaaGreat
open Go.RowKit
set_option linter.unusedVariables false
set_option linter.unusedSimpArgs false
theorem UM.start {tb:Nat} {W:World} {N0:Nat} (h:W.heap[tb]?=some (.cells #[.slice none 0 0] 77 (0,0))) (hN:N0≤tb):UM tb N0 W (.slice none 0 0) []:=⟨h,World.ownsRow_nil _ _ _ _,hN⟩
theorem ri_rw {nb c:Nat} {W:World} (h:RI nb c c W) (hc:1≤c∧c≤10000):Rw W (.slice (some ⟨nb,0,none⟩) c c) (List.replicate c (-1)):=by
 obtain ⟨arr,h1,h2,h3⟩:=h
 have ho:W.ownsRow 0 3 1 (.slice (some ⟨nb,0,none⟩) c c) c (I64 (List.replicate c (-1))):=by
  refine ⟨by simp [I64],.inr ⟨nb,c,arr,rfl,Nat.zero_le _,h1,Nat.le_refl _,by unfold maxLen;omega,by omega,?_⟩⟩
  refine List.ext_getElem? fun i=>?_
  by_cases hi:i < c
  ·rw [List.getElem?_take_of_lt (by omega),Array.getElem?_toList,h3 i hi]
   simp [I64,hi]
  ·rw [List.getElem?_eq_none (by simp;omega),List.getElem?_eq_none (by simp [I64];omega)]
 exact Rw.of ho (by omega)
theorem aft14 {t:Tn} {N0 tb wb eb tn tcap p i pb pc bg bc dg dc cb K:Nat} {w W6 V:World} {ad:Option Addr} {tx:List Int} {Q4:List E8} {LB LD:List Nat} {z1:Int} {P:Ending→World→Prop} {XC:Obj} (hf:t.fine=true) (hsz:t.sz≤2000) (htn:tn≤64) (hp:p≤tn) (HTX:Look.TextAt w.heap.size w ad tn tx) (HN0:N0=w.heap.size)
  (hT:V.heap[tb]?=some (.cells #[.slice (some ⟨pb,0,none⟩) i pc] 77 (0,0))∧V.heap[N0]?=some XC∧BRw V eb (tn + 1) (fun _=>false)∧(∀ b,b < N0→V.heap[b]?=w.heap[b]?)∧UM tb N0 V (.slice (some ⟨pb,0,none⟩) i pc) Q4∧(t.spread.pn 0).inQ V N0 Q4 (-1) 0∧V.os=w.os∧V.tape=w.tape∧V.output=w.output∧N0≤V.heap.size)
  (HNN:i=t.spread.nodes) (fr:FRw N0 (tn + 1) wb W6 V (.slice (some ⟨bg,0,none⟩) i bc) (.slice (some ⟨dg,0,none⟩) i dc) LB LD) (HLB:LB.length=i) (HLD:LD.length=i)
  (bx:V.heap[wb]?=some (.cells #[.pointer (some ⟨tb,0,none⟩),.slice ad tn tcap,.int .i64 (p:Int),.slice (some ⟨bg,0,none⟩) i bc,.slice (some ⟨dg,0,none⟩) i dc,.slice (some ⟨eb,0,none⟩) (tn + 1) (tn + 1),.slice none 0 0] 82 (0,0)))
  (HEBL:N0≤eb∧eb < W6.heap.size) (hR:RI cb K K V) (hK10:2≤K∧K≤1002) (HKK:K=t.notes) (HEZ:z1=((t.spread.pn 0).lb:Int)) (HE0:errP t tn (p:Int)=0) (HP:P=AnsW t tx tn (p:Int) w) :
  Calls Tryz.prog 47 #[.pointer (some ⟨wb,0,none⟩),.int .i64 z1,.int .i64 (p:Int),.slice (some ⟨cb,0,none⟩) K K] V fun e w'=>e=.returned (.tuple #[])∧∃ pv,w'.cell? ⟨wb,6,none⟩=some pv∧P (.returned (.tuple #[pv,.int .i64 0])) w':=by
 obtain ⟨T1,T2,T3,T4,T5,T6,T7,T8,T9,T10⟩:=hT
 have htxV:Look.TextAt N0 V ad tn tx:=by
  obtain ⟨h1,h2,h3 | ⟨b,off,h4,h5,h6⟩⟩:=HTX
  ·exact ⟨h1,h2,.inl h3⟩
  ·have hb':b < N0:=by rw [HN0];exact h5
   exact ⟨h1,h2,.inr ⟨b,off,h4,hb',fun k hk=>(cell_eq (T4 b hb') _).trans (h6 k hk)⟩⟩
 have hrw:=ri_rw hR (by omega)
 subst HEZ
 have hrw':Rw V (.slice (some ⟨cb,0,none⟩) K K) (List.replicate t.notes (-1)):=by rw [← HKK];exact hrw
 refine (walk_ready hf hsz htn hp T5 HNN T6 fr HLB HLD bx T3 HEBL htxV hrw').mono fun e w' hq=>?_
 obtain ⟨rfl,pv,l,h1,⟨cs,F,h2,h2'⟩,h3,h4,h5,h6,h7,h8,h9⟩:=hq
 refine ⟨rfl,pv,h1,?_⟩
 have hle:w.heap.size≤V.heap.size:=by rw [← HN0];exact T10
 rw [HP]
 refine ⟨pv,l,by rw [HE0],⟨cs,F,Joins.ownsRow_le h2 hle,h2'.le hle⟩,fun _=>⟨by rw [Int.toNat_natCast];exact h3,h4⟩,fun h=>absurd HE0 h,h5.trans T7,h6.trans T8,h7.trans T9,Nat.le_trans hle h8,fun b hb=>?_⟩
 have hb':b < N0:=by rw [HN0];exact hb
 exact (h9 b hb').trans (T4 b hb')
theorem info79w:(Tryz.prog.info? 79).map (fun i=>(i.zero,i.size,i.bytes))=some (some (.slice none 0 0),1,24):=by kernel_rfl
set_option maxRecDepth 100000 in
set_option maxHeartbeats 32000000 in
theorem parses14_main (N:Nv) (t:Tn) (tx:List Int) (ad:Option Addr) (tn tcap p:Nat) (w:World) (hTI:TI w w.heap.size N t) (htx:Look.TextAt w.heap.size w ad tn tx) (htc:tn≤tcap) (htn:tn≤64) (hs:t.sound=true) (hsz:t.sz≤2000) (hp:p≤tn) :
  Calls Tryz.prog 14 #[N.v,.slice ad tn tcap,.int .i64 (p:Int)] w (AnsW t tx tn (p:Int) w):=by
 obtain ⟨hf,_,hno⟩:=sound_parts hs
 have hsn:=spread_nodes t hf
 have he0:errP t tn (p:Int)=0:=by
  have c1:¬ 64 < tn:=by omega
  have c3:¬ 2000 < t.sz:=by omega
  simp [errP,c1,hs,c3];omega
 obtain ⟨U0,hU0⟩:∃ U,U=w.alloc (.cells #[.int .i64 N.k,.slice N.r1 N.r2 N.r3,.int .i64 N.a2,.slice N.s1 N.s2 N.s3,.int .i64 N.a4,.int .i64 N.a5,.bool N.a6,.int .i64 N.a7,.string N.a8] 25):=⟨_,rfl⟩
 obtain ⟨N0,hN0⟩:∃ N0,N0=w.heap.size:=⟨_,rfl⟩
 have hb0:Below w.heap.size w U0:=by rw [hU0];exact Joins.below_alloc1 w _
 have hs0:U0.heap.size=N0 + 1:=by rw [hU0,hN0];simp
 have hXU:U0.heap[N0]?=some (.cells #[.int .i64 N.k,.slice N.r1 N.r2 N.r3,.int .i64 N.a2,.slice N.s1 N.s2 N.s3,.int .i64 N.a4,.int .i64 N.a5,.bool N.a6,.int .i64 N.a7,.string N.a8] 25 (0,0)):=by rw [hU0,hN0];exact heap_alloc_new w _
 have H29:=sound25 (w:=U0) ((hTI.kept fun b hb=>hb0.block b hb).le hb0.size)
 rw [hs] at H29
 simp only [if_true] at H29
 have HSZ:Hid (∀ w1,Below w.heap.size w w1→Calls Tryz.prog 33 #[N.v] w1 fun e w'=>e=.returned (.int .i64 (min 1073741824 t.sz:Nat))∧Below w1.heap.size w1 w'):=fun w1 h=>refsize28 hTI hf w1 h.size (fun b hb=>h.block b hb)
 have HGR:Hid (∀ w1,w.heap.size≤w1.heap.size→(∀ b,b < w.heap.size→w1.heap[b]?=w.heap[b]?)→Calls Tryz.prog 40 #[N.v] w1 fun e w'=>e=.returned (.int .i64 t.gi)∧Below w1.heap.size w1 w'):=fun w1 h1 h2=>greatest15 hTI w1 h1 h2
 obtain ⟨sz,hszz⟩:∃ sz,sz=min 1073741824 t.sz:=⟨_,rfl⟩
 rw [← hszz] at HSZ
 have b3:decide (((sz:Nat):Int) > 2000)=false:=by simp;omega
 have b3':decide (2000 < ((sz:Nat):Int))=false:=by simp;omega
 have b1:decide ((tn:Int) > 64)=false:=by simp;omega
 have b1':decide (64 < (tn:Int))=false:=by simp;omega
 have b5:decide ((p:Int) < 0)=false:=by simp
 have b6:decide ((p:Int) > (tn:Int))=false:=by simp;omega
 have b6':decide ((tn:Int) < (p:Int))=false:=by simp;omega
 have hUn:∀ tb,UnfC tb N0 w N t.spread:=fun tb=>unfold46 (by rw [hN0];exact hTI) hf
 have HUN:=hid hUn
 obtain ⟨P,hP⟩:∃ P,P=AnsW t tx tn (p:Int) w:=⟨_,rfl⟩
 rw [← hP]
 have HP:=hid hP
 have HB0:=hid hb0
 have HU0:=hid hU0
 have HN0:=hid hN0
 have HXU:=hid hXU
 have HS0:=hid hs0
 have HTX:=hid htx
 have HSN:=hid hsn
 have HE0:=hid he0
 obtain ⟨x0,x1,x2,x3,x4,x5,x6,x7,x8⟩:=nine' hXU
 obtain ⟨k,r1,r2,r3,a2,s1,s2,s3,a4,a5,a6,a7,a8⟩:=N
 dsimp only at H29 HSZ HGR HUN HXU x0 x1 x2 x3 x4 x5 x6 x7 x8 HU0
 have HTI:=hid hTI
 clear hTI htx hU0 hN0 hb0 hs0 hXU hUn hP he0 hszz hsn
 go_enter Tryz.func14,Tryz.ntmps14
 go_upto_region 1 with fail
 rw [← HU0.out,← HN0.out]
 go_upto_region 11 with (first | (go_at_call 32;(with_reducible refine H29.mono ?_);rintro e w1 ⟨rfl,hb1⟩;have hx1:=(hb1.block N0 (by rw [HS0.out];omega)).trans HXU.out;clear x0 x1 x2 x3 x4 x5 x6 x7 x8;obtain ⟨x0,x1,x2,x3,x4,x5,x6,x7,x8⟩:=nine' hx1;have HC1:=HSZ.out w1 (HB0.out.trans (Joins.below_le hb1 HB0.out.size));have HB1:=hid hb1;have HX1:=hid hx1;clear hb1 H29 hx1) | (go_at_call 33;(with_reducible refine HC1.mono ?_);rintro e w2 ⟨rfl,hb2⟩;have hx2:=(hb2.block N0 (Array.getElem?_eq_some_iff.1 HX1.out).1).trans HX1.out;clear x0 x1 x2 x3 x4 x5 x6 x7 x8;obtain ⟨x0,x1,x2,x3,x4,x5,x6,x7,x8⟩:=nine' hx2;have HB2:=hid hb2;have HX2:=hid hx2;clear hb2 HC1 hx2))
 go_upto_region 12 with fail
 obtain ⟨W3,hW3⟩:∃ W3,W3=w2.alloc (.cells #[.slice none 0 0] 77):=⟨_,rfl⟩
 obtain ⟨tb,htb⟩:∃ tb,tb=w2.heap.size:=⟨_,rfl⟩
 rw [← hW3,← htb]
 have hb3:Below w2.heap.size w2 W3:=by rw [hW3];exact Joins.below_alloc1 w2 _
 have hbw2:Below w.heap.size w w2:=HB0.out.trans (Joins.below_le (HB1.out.trans (Joins.below_le HB2.out HB1.out.size)) HB0.out.size)
 have hbw3:Below w.heap.size w W3:=hbw2.trans (Joins.below_le hb3 hbw2.size)
 have hTB:W3.heap[tb]?=some (.cells #[.slice none 0 0] 77 (0,0)):=by rw [hW3,htb];exact heap_alloc_new w2 _
 have hxl2:=(Array.getElem?_eq_some_iff.1 HX2.out).1
 have hx3:=(hb3.block N0 hxl2).trans HX2.out
 have hs3:W3.heap.size=tb + 1:=by rw [hW3,htb];simp
 have hlow3:∀ b,b < N0→W3.heap[b]?=w.heap[b]?:=fun b hb=>hbw3.block b (by rw [← HN0.out];exact hb)
 have hn0tb:N0 < tb:=by rw [htb];exact hxl2
 have HC:=HUN.out tb W3 _ [] (UM.start hTB (by omega)) (by omega) hlow3 (by have:=HSN.out;simp;omega)
 clear x0 x1 x2 x3 x4 x5 x6 x7 x8
 obtain ⟨x0,x1,x2,x3,x4,x5,x6,x7,x8⟩:=nine' hx3
 obtain ⟨P1,hP1⟩:∃ P1,P1=BPost tb N0 W3.heap.size t.spread ([]:List E8).length [] W3 (.slice none 0 0):=⟨_,rfl⟩
 rw [← hP1] at HC
 have HP1:=hid hP1
 have HPR1:Hid (∀ e w',P1 e w'→∃ z,e=.returned (.int .i64 z)):=fun e w' hp=>by rw [hP1] at hp;exact hp.ret
 have HBW3:=hid hbw3
 have HX3:=hid hx3
 have HLOW3:=hid hlow3
 have HTBN:=hid hn0tb
 have HS3:=hid hs3
 clear hW3 htb hb3 hbw2 hbw3 hTB hxl2 hx3 hs3 hlow3 hn0tb hP1 HB1 HB2 HX1 HX2 HXU HSZ
 go_upto_region 13 with (first | (go_at_call 46;(with_reducible refine HC.mono ?_);rintro e w4 hp;obtain ⟨z1,rfl⟩:=HPR1.out _ _ hp;have HB4:=hid hp;clear hp HC))
 have hb4:=HB4.out
 rw [HP1.out] at hb4
 obtain ⟨v4,Q4,ez,um4,fr4,hl4,_,hr4⟩:=hb4
 simp only [Ending.returned.injEq,Value.int.injEq,true_and,List.length_nil] at ez
 simp only [List.length_nil,Nat.zero_add] at hl4
 have hnp:=nodes_pos t.spread
 have hrow4:=um4.row
 obtain ⟨pb,pc,hv4⟩:=Joins.ownsRow_form hrow4 (by omega)
 obtain ⟨n,hn⟩:∃ n,n=t.spread.nodes:=⟨_,rfl⟩
 rw [hl4,← hn] at hv4
 subst hv4
 have hx4:w4.heap[N0]?=some (.cells #[.int .i64 k,.slice r1 r2 r3,.int .i64 a2,.slice s1 s2 s3,.int .i64 a4,.int .i64 a5,.bool a6,.int .i64 a7,.string a8] 25 (0,0)):=(fr4.old N0 (by have:=HTBN.out;have:=HS3.out;omega) (by have:=HTBN.out;omega) (by simp [Value.ownBlock])).trans HX3.out
 have hlow4:∀ b,b < N0→w4.heap[b]?=w.heap[b]?:=fun b hb=>(fr4.old b (by have:=HTBN.out;have:=HS3.out;omega) (by have:=HTBN.out;omega) (by simp [Value.ownBlock])).trans (HLOW3.out b hb)
 have hsz4:=fr4.size
 have HUM4:=hid um4
 have HR4:=hid hr4
 have HX4:=hid hx4
 have HLOW4:=hid hlow4
 have HEZ:=hid ez
 have HNN:=hid hn
 have hsn4:N0 < w4.heap.size:=by have:=HTBN.out;have:=HS3.out;omega
 have HSN4:=hid hsn4
 have HFR4:Hid (w4.os=w.os∧w4.tape=w.tape∧w4.output=w.output):=⟨fr4.os.trans HBW3.out.os,fr4.tape.trans HBW3.out.tape,fr4.output.trans HBW3.out.output⟩
 have hmk:=makeB (tn + 1) (by omega) w4
 rw [show ((tn + 1:Nat):Int)=(tn:Int) + 1 by push_cast;rfl] at hmk
 have ad0:IntKind.i64.wrap ((tn:Int) + 1)=(tn:Int) + 1:=by simp [IntKind.wrap,IntKind.bits,IntKind.signed];omega
 have hB5:=BRw.made w4 (tn + 1)
 have hb5:=Joins.below_alloc1 w4 (.cells (madeCells #[.bool false] (tn + 1)) 4)
 obtain ⟨W5,hW5⟩:∃ V,V=w4.alloc (.cells (madeCells #[.bool false] (tn + 1)) 4):=⟨_,rfl⟩
 obtain ⟨eb,heb⟩:∃ eb,eb=w4.heap.size:=⟨_,rfl⟩
 have hs5:W5.heap.size=eb + 1:=by rw [hW5,heb];simp
 rw [← hW5] at hmk hB5 hb5
 rw [← heb] at hmk hB5
 have HB5:=hid hb5
 have HBR5:=hid hB5
 have HEB:=hid heb
 have HS5:=hid hs5
 clear hW5 heb hb5 hB5 hs5 um4 fr4 hl4 hr4 hnp hrow4 hx4 hlow4 ez hn hsz4 hsn4 x0 x1 x2 x3 x4 x5 x6 x7 x8 HB4 HP1 HPR1
 go_upto_region 14 with fail
 obtain ⟨W6,hW6⟩:∃ W6,W6=W5.alloc (.cells #[.pointer (some ⟨tb,0,none⟩),.slice ad tn tcap,.int .i64 (p:Int),.slice none 0 0,.slice none 0 0,.slice (some ⟨eb,0,none⟩) (tn + 1) (tn + 1),.slice none 0 0] 82):=⟨_,rfl⟩
 obtain ⟨wb,hwb⟩:∃ wb,wb=W5.heap.size:=⟨_,rfl⟩
 rw [← hW6,← hwb]
 have hb6:Below W5.heap.size W5 W6:=by rw [hW6];exact Joins.below_alloc1 W5 _
 have hbx6:W6.heap[wb]?=some (.cells #[.pointer (some ⟨tb,0,none⟩),.slice ad tn tcap,.int .i64 (p:Int),.slice none 0 0,.slice none 0 0,.slice (some ⟨eb,0,none⟩) (tn + 1) (tn + 1),.slice none 0 0] 82 (0,0)):=by rw [hW6,hwb];exact heap_alloc_new W5 _
 have hb46:Below w4.heap.size w4 W6:=HB5.out.trans (Joins.below_le hb6 HB5.out.size)
 have hs5':=HS5.out
 have hs6:W6.heap.size=wb + 1:=by rw [hW6,hwb];simp
 have hwN:N0≤wb:=by have:=HSN4.out;have:=HB5.out.size;omega
 have htf4:TF N0 w4 W6:=TF.below hb46 (by have:=HSN4.out;omega)
 have heb6:BRw W6 eb (tn + 1) (fun _=>false):=HBR5.out.kept (hb6.block eb (by omega))
 have hebl:N0≤eb∧eb < W6.heap.size:=⟨by rw [HEB.out];have:=HSN4.out;omega,by omega⟩
 have HT6:Hid (∀ V,TF N0 W6 V→V.heap[tb]?=some (.cells #[.slice (some ⟨pb,0,none⟩) n pc] 77 (0,0))∧V.heap[N0]?=some (.cells #[.int .i64 k,.slice r1 r2 r3,.int .i64 a2,.slice s1 s2 s3,.int .i64 a4,.int .i64 a5,.bool a6,.int .i64 a7,.string a8] 25 (0,0))∧BRw V eb (tn + 1) (fun _=>false)∧(∀ b,b < N0→V.heap[b]?=w.heap[b]?)∧UM tb N0 V (.slice (some ⟨pb,0,none⟩) n pc) Q4∧(t.spread.pn 0).inQ V N0 Q4 (-1) 0∧V.os=w.os∧V.tape=w.tape∧V.output=w.output∧N0≤V.heap.size):=fun V f=>by
  have g:=htf4.trans f
  refine ⟨g.typ _ _ _ (by decide) (by decide) HUM4.out.box,g.typ _ _ _ (by decide) (by decide) HX4.out,heb6.tf f,fun b hb=>(g.low b hb).trans (HLOW4.out b hb),⟨g.typ _ _ _ (by decide) (by decide) HUM4.out.box,?_,HUM4.out.tbN⟩,HR4.out V Q4 ⟨g.low,fun b cur _ _ hx=>g.typ b cur 3 (by decide) (by decide) hx⟩ (fun _ _=>rfl),g.os.trans HFR4.out.1,g.tape.trans HFR4.out.2.1,g.output.trans HFR4.out.2.2,by have:=g.size;have:=HSN4.out;omega⟩
  refine ⟨HUM4.out.row.1,?_⟩
  rcases HUM4.out.row.2 with hn | ⟨g0,cap,cur,hv,hb,hg,rest⟩
  ·exact .inl hn
  ·exact .inr ⟨g0,cap,cur,hv,hb,g.typ _ _ _ (by decide) (by decide) hg,rest⟩
 have HF6:Hid (FRw N0 (tn + 1) wb W6 W6 (.slice none 0 0) (.slice none 0 0) [] []):=FRw.nil hbx6 hwN
 have HBX6:=hid hbx6
 have HEBL:=hid hebl
 have hnl:n≤6000:=by have:=HSN.out;have:=HNN.out;omega
 have HMK:Hid (∀ V:World,(Instr.makeSlice 79 (.int .i64 ((tn:Int) + 1)) (.int .i64 ((tn:Int) + 1))).run Tryz.prog V=.ok (.slice (some ⟨V.heap.size,0,none⟩) (tn + 1) (tn + 1)) (V.alloc (.cells (madeCells #[.bool false] (tn + 1)) 4))):=fun V=>by
  have:=makeB (tn + 1) (by omega) V
  rw [show ((tn + 1:Nat):Int)=(tn:Int) + 1 by push_cast;rfl] at this
  exact this
 obtain ⟨i0,hi0,hz0,hz1,hz2⟩:=info_parts info79w
 clear hW6 hwb hb6 hbx6 hb46 hs5' hs6 hwN htf4 heb6 hebl hmk
 go_wp2_with fail
 go_loopw [13] (fun y wq=>∃ i:Nat,y=.int .i64 (i:Int)∧i≤n∧∃ sa sc da dc LB LD,LB.length=i∧LD.length=i∧Hid (FRw N0 (tn + 1) wb W6 wq (.slice sa i sc) (.slice da i dc) LB LD)∧Hid (wq.heap[wb]?=some (.cells #[.pointer (some ⟨tb,0,none⟩),.slice ad tn tcap,.int .i64 (p:Int),.slice sa i sc,.slice da i dc,.slice (some ⟨eb,0,none⟩) (tn + 1) (tn + 1),.slice none 0 0] 82 (0,0)))) (fun y _=>n - (intOf y).toNat)
 case atStart=>exact ⟨0,rfl,by omega,none,0,none,0,[],[],rfl,rfl,HF6.out,HBX6.out⟩
 case round =>
  obtain ⟨i,rfl,hi,sa,sc,da,dc,LB,LD,hLB,hLD,HF,HBX⟩:=hrel
  have ht0:wr.cell? ⟨tb,0,none⟩=some (.slice (some ⟨pb,0,none⟩) n pc):=Joins.cell_of_block (HT6.out wr HF.out.tf).1 0
  by_cases hil:i < n
  ·have c1:decide ((i:Int) < (n:Int))=true:=by simp;omega
   have c2:(i:Int) < (n:Int):=by omega
   have ad1:IntKind.i64.wrap ((i:Int) + 1)=(i:Int) + 1:=by simp [IntKind.wrap,IntKind.bits,IntKind.signed];omega
   have HLB:=hid hLB
   have HLD:=hid hLD
   clear hLB hLD
   have HFS:=HF
   have bxA:=HBX.out
   have sA:wr.cell? ⟨wb,3,none⟩=some (.slice sa i sc):=Joins.cell_of_block bxA 3
   go_upto_region 17 with fail
   refine wp_region_lexK [0,1,2,3,4,5,6,7] [8,9,10,11,12,13] 13 (fun V=>V.cell? ⟨wb,3,none⟩=some (.slice sa i sc)) (by kernel_rfl) (by kernel_rfl) rfl (by kernel_rfl) (by kernel_rfl) sA ?_
   simp only [opsAt,opsNo,List.getElem?_toArray,List.getElem?_cons_zero,List.getElem?_cons_succ]
   iterate 8
    refine lex_cons ?_ rfl (fun V hV=>?_) (fun _ _ _ h=>h) ?_
    rotate_left
    ·have s0:=hV
     go_simp <;> with_reducible rfl
    simp only [Act.put,List.setIfInBounds_toArray,List.set_cons_zero,List.set_cons_succ]
   refine lex_nil (tailK_cons fun K hK=>?_)
   have hdA:Below wr.heap.size wr wr.drew:=⟨rfl,rfl,rfl,Nat.le_refl _,fun _ _=>rfl⟩
   have hmkA:=HMK.out wr.drew
   have hBA:=BRw.made wr.drew (tn + 1)
   have hvA:=hdA.trans (Joins.below_alloc1 wr.drew (.cells (madeCells #[.bool false] (tn + 1)) 4))
   obtain ⟨VA,hVA⟩:∃ V,V=wr.drew.alloc (.cells (madeCells #[.bool false] (tn + 1)) 4):=⟨_,rfl⟩
   obtain ⟨nbA,hnbA⟩:∃ nb,nb=wr.drew.heap.size:=⟨_,rfl⟩
   rw [← hVA] at hmkA hBA hvA
   rw [← hnbA] at hmkA hBA
   have hnA:wr.heap.size≤nbA:=by rw [hnbA];exact Nat.le_refl _
   have HVA:=hid hvA
   have hv2A:Below wr.heap.size wr (VA.alloc (.cells #[.slice (some ⟨nbA,0,none⟩) (tn + 1) (tn + 1)] 79)):=hvA.trans (Joins.below_le (Joins.below_alloc1 VA _) hvA.size)
   have HV2A:=hid hv2A
   have HB2A:Hid (BRw (VA.alloc (.cells #[.slice (some ⟨nbA,0,none⟩) (tn + 1) (tn + 1)] 79)) nbA (tn + 1) (fun _=>false)):=hBA.kept (heap_alloc_old VA _ hBA.lt)
   have hSKA:∀ V,Below wr.heap.size wr V→V.cell? ⟨wb,3,none⟩=some (.slice sa i sc):=fun V hb=>(cell_eq (hb.block wb (Array.getElem?_eq_some_iff.1 bxA).1) _).trans sA
   have HSKA:=hid hSKA
   have HNA:=hid hnA
   clear hVA hnbA hBA hvA hv2A hSKA hnA hdA sA bxA
   go_simp
   refine hK.out _ _ (fun _=>HSKA.out _ HVA.out) (tailK_cons fun K hK=>?_)
   clear hmkA
   simp only [Act.put,List.setIfInBounds_toArray,List.set_cons_zero,List.set_cons_succ]
   go_simp
   refine hK.out _ _ (fun _=>HSKA.out _ HV2A.out) (tailK_cons fun K hK=>?_)
   have gA:=HFS.out.mid HV2A.out
   have hownA:=gA.rb
   rw [HLB.out] at hownA
   have hbsA:=gA.tf.size
   refine step_append rfl (.tmp 62) (.tmp 67) 80 rfl W6.heap.size 79 i0 (.slice none 0 0) 1 24 Tryz.underlying80 hi0 hz0 hz1 hz2 rfl (by decide) (.slice sa i sc) i _ rfl hownA ⟨VA.heap.size,0,none⟩ 1 1 [.slice (some ⟨nbA,0,none⟩) (tn + 1) (tn + 1)] rfl rfl (by decide) (one_new VA _ 79) (by intro u hu;simp at hu;subst hu;rfl) (by unfold maxLen;omega) (by omega) hbsA ?_
   intro vA wA hoA hmA
   obtain ⟨ebA,frA⟩:=HFS.out.snoc HV2A.out HNA.out HB2A.out hmA.out (by rw [HLB.out];exact hoA.out) 3 vA
   obtain ⟨gbA,gcA,rfl⟩:=Joins.ownsRow_form hoA.out (by omega)
   have bwA:=ebA.trans HBX.out
   have qA:wA.cell? ⟨wb,3,none⟩=some (.slice sa i sc):=Joins.cell_of_block bwA 3
   have uqA:=Joins.unfrozen_of_block bwA 3
   have HQA:=hid qA
   have HFRA:=hid frA
   have HBXA:=hid (Joins.block_setCell (i:=3) bwA (.slice (some ⟨gbA,0,none⟩) (i + 1) gcA))
   clear gA hownA hbsA hoA hmA ebA frA bwA HSKA HVA HV2A HB2A HNA
   refine hK.out _ _ (fun _=>HQA.out) (tailK_cons fun K hK=>?_)
   simp only [Act.put,List.setIfInBounds_toArray,List.set_cons_zero,List.set_cons_succ]
   go_simp
   refine hK.out _ _ (fun _=>HQA.out) (tailK_cons fun K hK=>?_)
   simp only [Act.put,List.setIfInBounds_toArray,List.set_cons_zero,List.set_cons_succ]
   go_simp
   refine hK.out _ _ (fun _=>HQA.out) (tailK_cons fun K hK=>?_)
   simp only [Act.put,List.setIfInBounds_toArray,List.set_cons_zero,List.set_cons_succ]
   go_simp
   refine hK.out _ _ (fun h=>absurd rfl h) (tailK_nil ?_)
   obtain ⟨WA,hWA⟩:∃ W,W=wA.setCell ⟨wb,3,none⟩ (.slice (some ⟨gbA,0,none⟩) (i + 1) gcA):=⟨_,rfl⟩
   rw [← hWA] at HFRA HBXA ⊢
   clear hWA qA uqA
   have HFW:=hid HFRA.out.swap
   have bxB:=HBXA.out
   have sB:WA.cell? ⟨wb,4,none⟩=some (.slice da i dc):=Joins.cell_of_block bxB 4
   go_upto_region 18 with fail
   refine wp_region_lexK [0,1,2,3,4,5,6,7] [8,9,10,11,12,13] 13 (fun V=>V.cell? ⟨wb,4,none⟩=some (.slice da i dc)) (by kernel_rfl) (by kernel_rfl) rfl (by kernel_rfl) (by kernel_rfl) sB ?_
   simp only [opsAt,opsNo,List.getElem?_toArray,List.getElem?_cons_zero,List.getElem?_cons_succ]
   iterate 8
    refine lex_cons ?_ rfl (fun V hV=>?_) (fun _ _ _ h=>h) ?_
    rotate_left
    ·have s0:=hV
     go_simp <;> with_reducible rfl
    simp only [Act.put,List.setIfInBounds_toArray,List.set_cons_zero,List.set_cons_succ]
   refine lex_nil (tailK_cons fun K hK=>?_)
   have hdB:Below WA.heap.size WA WA.drew:=⟨rfl,rfl,rfl,Nat.le_refl _,fun _ _=>rfl⟩
   have hmkB:=HMK.out WA.drew
   have hBB:=BRw.made WA.drew (tn + 1)
   have hvB:=hdB.trans (Joins.below_alloc1 WA.drew (.cells (madeCells #[.bool false] (tn + 1)) 4))
   obtain ⟨VB,hVB⟩:∃ V,V=WA.drew.alloc (.cells (madeCells #[.bool false] (tn + 1)) 4):=⟨_,rfl⟩
   obtain ⟨nbB,hnbB⟩:∃ nb,nb=WA.drew.heap.size:=⟨_,rfl⟩
   rw [← hVB] at hmkB hBB hvB
   rw [← hnbB] at hmkB hBB
   have hnB:WA.heap.size≤nbB:=by rw [hnbB];exact Nat.le_refl _
   have HVB:=hid hvB
   have hv2B:Below WA.heap.size WA (VB.alloc (.cells #[.slice (some ⟨nbB,0,none⟩) (tn + 1) (tn + 1)] 79)):=hvB.trans (Joins.below_le (Joins.below_alloc1 VB _) hvB.size)
   have HV2B:=hid hv2B
   have HB2B:Hid (BRw (VB.alloc (.cells #[.slice (some ⟨nbB,0,none⟩) (tn + 1) (tn + 1)] 79)) nbB (tn + 1) (fun _=>false)):=hBB.kept (heap_alloc_old VB _ hBB.lt)
   have hSKB:∀ V,Below WA.heap.size WA V→V.cell? ⟨wb,4,none⟩=some (.slice da i dc):=fun V hb=>(cell_eq (hb.block wb (Array.getElem?_eq_some_iff.1 bxB).1) _).trans sB
   have HSKB:=hid hSKB
   have HNB:=hid hnB
   clear hVB hnbB hBB hvB hv2B hSKB hnB hdB sB bxB
   go_simp
   refine hK.out _ _ (fun _=>HSKB.out _ HVB.out) (tailK_cons fun K hK=>?_)
   clear hmkB
   simp only [Act.put,List.setIfInBounds_toArray,List.set_cons_zero,List.set_cons_succ]
   go_simp
   refine hK.out _ _ (fun _=>HSKB.out _ HV2B.out) (tailK_cons fun K hK=>?_)
   have gB:=HFW.out.mid HV2B.out
   have hownB:=gB.rb
   rw [HLD.out] at hownB
   have hbsB:=gB.tf.size
   refine step_append rfl (.tmp 75) (.tmp 80) 80 rfl W6.heap.size 79 i0 (.slice none 0 0) 1 24 Tryz.underlying80 hi0 hz0 hz1 hz2 rfl (by decide) (.slice da i dc) i _ rfl hownB ⟨VB.heap.size,0,none⟩ 1 1 [.slice (some ⟨nbB,0,none⟩) (tn + 1) (tn + 1)] rfl rfl (by decide) (one_new VB _ 79) (by intro u hu;simp at hu;subst hu;rfl) (by unfold maxLen;omega) (by omega) hbsB ?_
   intro vB wB hoB hmB
   obtain ⟨ebB,frB⟩:=HFW.out.snoc HV2B.out HNB.out HB2B.out hmB.out (by rw [HLD.out];exact hoB.out) 4 vB
   obtain ⟨gbB,gcB,rfl⟩:=Joins.ownsRow_form hoB.out (by omega)
   have bwB:=ebB.trans HBXA.out
   have qB:wB.cell? ⟨wb,4,none⟩=some (.slice da i dc):=Joins.cell_of_block bwB 4
   have uqB:=Joins.unfrozen_of_block bwB 4
   have HQB:=hid qB
   have HFRB:=hid frB
   have HBXB:=hid (Joins.block_setCell (i:=4) bwB (.slice (some ⟨gbB,0,none⟩) (i + 1) gcB))
   clear gB hownB hbsB hoB hmB ebB frB bwB HSKB HVB HV2B HB2B HNB
   refine hK.out _ _ (fun _=>HQB.out) (tailK_cons fun K hK=>?_)
   simp only [Act.put,List.setIfInBounds_toArray,List.set_cons_zero,List.set_cons_succ]
   go_simp
   refine hK.out _ _ (fun _=>HQB.out) (tailK_cons fun K hK=>?_)
   simp only [Act.put,List.setIfInBounds_toArray,List.set_cons_zero,List.set_cons_succ]
   go_simp
   refine hK.out _ _ (fun _=>HQB.out) (tailK_cons fun K hK=>?_)
   simp only [Act.put,List.setIfInBounds_toArray,List.set_cons_zero,List.set_cons_succ]
   go_simp
   refine hK.out _ _ (fun h=>absurd rfl h) (tailK_nil ?_)
   obtain ⟨WB,hWB⟩:∃ W,W=wB.setCell ⟨wb,4,none⟩ (.slice (some ⟨gbB,0,none⟩) (i + 1) gcB):=⟨_,rfl⟩
   rw [← hWB] at HFRB HBXB ⊢
   clear hWB qB uqB
   clear ht0
   go_wp2
   refine ⟨⟨i + 1,by push_cast;rfl,by omega,some ⟨gbA,0,none⟩,gcA,some ⟨gbB,0,none⟩,gcB,LB ++ [nbA],LD ++ [nbB],by simp [HLB.out],by simp [HLD.out],HFRB.out.swap,HBXB.out⟩,?_⟩
   simp [intOf]
   omega
  ·obtain rfl:i=n:=by omega
   have c1:decide ((i:Int) < (i:Int))=false:=by simp
   have hi1:1≤i:=by rw [HNN.out];exact nodes_pos _
   obtain ⟨T1,T2,T3,T4,T5,T6,T7,T8,T9,T10⟩:=HT6.out wr HF.out.tf
   obtain ⟨x0,x1,x2,x3,x4,x5,x6,x7,x8⟩:=nine' T2
   have hrbf:=HF.out.rb
   have hrdf:=HF.out.rd
   rw [hLB] at hrbf
   rw [hLD] at hrdf
   obtain ⟨bg,bc,eB⟩:=Joins.ownsRow_form hrbf (by omega)
   obtain ⟨dg,dc',eD⟩:=Joins.ownsRow_form hrdf (by omega)
   simp only [Value.slice.injEq,true_and] at eB eD
   obtain ⟨rfl,rfl⟩:=eB
   obtain ⟨rfl,rfl⟩:=eD
   have HC40:=HGR.out wr (by rw [← HN0.out];exact T10) (fun b hb=>T4 b (by rw [HN0.out];exact hb))
   obtain ⟨q1,q2⟩:=fine_gi t hf
   obtain ⟨g,hg⟩:∃ g,g=t.gi:=⟨_,rfl⟩
   rw [← hg] at HC40 q1 q2
   obtain ⟨K,hK⟩:∃ K:Nat,K=t.notes:=⟨_,rfl⟩
   have hKg:(K:Int)=2 * g + 2:=by rw [hK,hg];simp only [Tn.notes];omega
   have adK1:IntKind.i64.wrap (2 * g)=2 * g:=by simp [IntKind.wrap,IntKind.bits,IntKind.signed];omega
   have adK2:IntKind.i64.wrap (2 * g + 2)=(K:Int):=by rw [hKg];simp [IntKind.wrap,IntKind.bits,IntKind.signed];omega
   have hK10:2≤K∧K≤1002:=by omega
   have HMN:Hid (∀ V:World,(Instr.makeSlice 26 (.int .i64 (K:Int)) (.int .i64 (K:Int))).run Tryz.prog V=.ok (.slice (some ⟨V.heap.size,0,none⟩) K K) (V.alloc (.cells (madeCells #[.int .i64 0] K) 3))):=fun V=>makeN K (by omega) V
   have HKK:=hid hK
   have HK10:=hid hK10
   have HLB:=hid hLB
   have HLD:=hid hLD
   have HT5:=hid T5
   have HT3:=hid T3
   clear hg hK hKg hrbf hrdf T1 T2 T3 T5 T6 T7 T8 T9 hLB hLD T4 T10
   go_upto_region 20 with (first | (go_at_call 40;(with_reducible refine HC40.mono ?_);rintro e wg ⟨rfl,hbg⟩;have HBG:=hid hbg;have hmkg:=HMN.out wg;clear hbg HC40))
   obtain ⟨W9,hW9⟩:∃ W9,W9=wg.alloc (.cells (madeCells #[.int .i64 0] K) 3):=⟨_,rfl⟩
   obtain ⟨cb,hcb⟩:∃ cb,cb=wg.heap.size:=⟨_,rfl⟩
   rw [← hW9,← hcb]
   have hb9:Below wg.heap.size wg W9:=by rw [hW9];exact Joins.below_alloc1 wg _
   have hR9:RI cb K 0 W9:=by rw [hW9,hcb];exact ⟨_,heap_alloc_new wg _,by simp [madeCells],fun i hi=>by omega⟩
   have HB9:=hid hb9
   have HR9:=hid hR9
   have HCB:=hid hcb
   clear hW9 hcb hb9 hR9 hmkg ht0 x0 x1 x2 x3 x4 x5 x6 x7 x8
   have HAFT:Hid (∀ V,Below wg.heap.size wg V→RI cb K K V→Calls Tryz.prog 47 #[.pointer (some ⟨wb,0,none⟩),.int .i64 z1,.int .i64 (p:Int),.slice (some ⟨cb,0,none⟩) K K] V fun e w'=>e=.returned (.tuple #[])∧∃ pv,w'.cell? ⟨wb,6,none⟩=some pv∧P (.returned (.tuple #[pv,.int .i64 0])) w'):=fun V hV hR=>by
    have hbV:Below wr.heap.size wr V:=HBG.out.trans (Joins.below_le hV HBG.out.size)
    have fr:=HF.out.mid hbV
    exact aft14 hf hsz htn hp HTX.out HN0.out (HT6.out V fr.tf) HNN.out fr HLB.out HLD.out ((hbV.block wb (Array.getElem?_eq_some_iff.1 HBX.out).1).trans HBX.out) HEBL.out hR HK10.out HKK.out HEZ.out HE0.out HP.out
   go_wp2_with fail
   go_loopw [15] (fun y wq=>∃ j:Nat,y=.int .i64 (j:Int)∧j≤K∧Hid (RI cb K j wq)∧Hid (Below wg.heap.size wg wq)) (fun y _=>K - (intOf y).toNat)
   case atStart=>exact ⟨0,rfl,by omega,HR9.out,HB9.out⟩
   case round =>
    obtain ⟨j,rfl,hj,HR,HBQ⟩:=hrel
    by_cases hjl:j < K
    ·have d1:decide ((j:Int) < (K:Int))=true:=by simp;omega
     have d2:(j:Int) < (K:Int):=by omega
     have hsm:=HR.out.some hjl
     obtain ⟨cu,hcu⟩:=Option.isSome_iff_exists.1 hsm
     have hfz:=HR.out.free j
     have ad1:IntKind.i64.wrap ((j:Int) + 1)=(j:Int) + 1:=by simp [IntKind.wrap,IntKind.bits,IntKind.signed];omega
     clear hsm
     go_wp2
     refine ⟨⟨j + 1,by push_cast;rfl,by omega,HR.out.next hjl,HBQ.out.setCell (by rw [HCB.out];exact Nat.le_refl _) _⟩,?_⟩
     simp [intOf]
     omega
    ·obtain rfl:j=K:=by omega
     have d1:decide ((j:Int) < (j:Int))=false:=by simp
     have HC47:=HAFT.out wr HBQ.out HR.out
     clear HAFT
     go_wp2_with (first | (go_at_call 47;(with_reducible refine HC47.mono ?_);rintro e w8 ⟨rfl,pv,hpv,hPP⟩;have HPP:=hid hPP;clear hPP HC47))
     all_goals first | exact HPP.out | (go_ret2;exact HPP.out)
end Go.Proofs.YtacaanhnlfpbhaaGreat
namespace Go.Proofs.YtacaanhnlfpbhaaGreat
open Go.RowKit
theorem parses14 (N:Nv) (t:Tn) (tx:List Int) (ad:Option Addr) (tn tcap:Nat) (at_:Int) (w:World) (hTI:TI w w.heap.size N t) (htx:Look.TextAt w.heap.size w ad tn tx) (htc:tn≤tcap) :
  Calls Tryz.prog 14 #[N.v,.slice ad tn tcap,.int .i64 at_] w (AnsW t tx tn at_ w):=
 parses14_but N t tx ad tn tcap at_ w hTI htx htc fun h1 h2 h3 p hp hpt=>by
  subst hp
  exact parses14_main N t tx ad tn tcap p w hTI htx htc h1 h2 h3 hpt
end Go.Proofs.YtacaanhnlfpbhaaGreat
namespace Go.Proofs.YtacaanhnlfpbhaaGreat
open Go.RowKit
set_option linter.unusedVariables false
set_option linter.unusedSimpArgs false
theorem great14 {w:World} {N:Nv} {t:Tn} (h:TI w w.heap.size N t):Calls Tryz.prog 11 #[N.v] w fun e w'=>e=.returned (.bool (decide (200000 < t.nodes)))∧Below w.heap.size w w':=by
 have HC:=great27 h 200000 (w.alloc (.cells (Array.mk N.cs) 25)) (by omega) (by simp) (fun b hb=>heap_alloc_old w _ hb)
 have HS:=Tn.gr_spec t 200000 (by omega)
 obtain ⟨k,r1,r2,r3,a2,s1,s2,s3,a4,a5,a6,a7,a8⟩:=N
 obtain ⟨g,hg⟩:∃ g,g=t.gr 200000:=⟨_,rfl⟩
 rw [← hg] at HC HS
 have e1:decide (g < 0)=decide (200000 < t.nodes):=by rw [Bool.eq_iff_iff];simp;omega
 clear hg HS
 go_enter Tryz.func11,Tryz.ntmps11
 go_wp2_with (first | (go_at_call 39;(with_reducible refine HC.mono ?_);rintro e w2 ⟨rfl,hb2⟩;have HB2:=hid' hb2;clear hb2 HC))
 go_ret
 exact ⟨by first | rfl | exact ret_bool e1,(Joins.below_alloc1 w _).trans (Joins.below_le HB2.out (by simp))⟩
theorem fold_none {α β:Type} (g:β→α→Option α) (l:List β):l.foldl (fun o d=>o.bind (g d)) none=none:=by
 induction l with
 | nil=>rfl
 | cons d l ih=>simpa using ih
theorem fold_steps {P:Way→Sg→Sg→Prop} {g:Way→Sg→Option Sg} (hg:∀ d s s',g d s=some s'→P d s s'):∀ (l:List Way) (s s':Sg),l.foldl (fun o d=>o.bind (g d)) (some s)=some s'→∃ ss:Nat→Sg,ss 0=s∧ss l.length=s'∧∀ i (hi:i < l.length),P (l[i]'hi) (ss i) (ss (i + 1)):=by
 intro l
 induction l with
 | nil=>intro s s' h;simp at h;subst h;exact ⟨fun _=>s,rfl,rfl,fun i hi=>by simp at hi⟩
 | cons d l ih =>
  intro s s' h
  simp only [List.foldl_cons,Option.bind_some] at h
  cases hd:g d s with
  | none=>rw [hd,fold_none] at h;cases h
  | some s1 =>
   rw [hd] at h
   obtain ⟨ss,h1,h2,h3⟩:=ih s1 s' h
   refine ⟨fun i=>match i with | 0=>s | i + 1=>ss i,rfl,h2,fun i hi=>?_⟩
   cases i with
   | zero=>show P d s (ss 0);rw [h1];exact hg d s s1 hd
   | succ i=>exact h3 i (by simpa using hi)
theorem ev_sound {tx:List Int} {E:Nat→Way}:∀ (f:Nat) (W:Way) (p:Nat) (s s':Sg),ev tx E f W p s=some s'→Ex tx E W p s s':=by
 intro f
 induction f with
 | zero=>intro W p s s' h;simp [ev] at h
 | succ f ih =>
  intro W p s s' h
  cases W with
  | through=>simp only [ev,Option.some.injEq] at h;subst h;exact .through p s
  | once n d =>
   simp only [ev] at h
   split at h
   ·rename_i hm;simp at h;subst h;exact .skip hm
   ·rename_i hm;exact .once hm (ih _ _ _ _ h)
  | noted c d =>
   simp only [ev,Option.map_eq_some_iff] at h
   obtain ⟨s1,h1,rfl⟩:=h
   exact .noted (ih _ _ _ _ h1)
  | runeOf L d =>
   simp only [ev] at h
   split at h
   ·rename_i hm;simp at h;subst h;exact .over hm
   ·rename_i hm
    split at h
    ·rename_i hr;exact .rune (by omega) hr (ih _ _ _ _ h)
    ·rename_i hr;simp at h;subst h;exact .other (by omega) (by simpa using hr)
  | ifHolds a d =>
   simp only [ev] at h
   split at h
   ·rename_i h2;exact .holds h2 (ih _ _ _ _ h)
   ·rename_i h2;simp only [Option.some.injEq] at h;subst h;exact .fails (by simpa using h2)
  | inOrder l =>
   simp only [ev] at h
   obtain ⟨ss,rfl,rfl,h3⟩:=fold_steps (P:=fun d s s'=>Ex tx E d p s s') (fun d s s' hd=>ih d p s s' hd) l s s' h
   exact .inOrder ss h3
  | again b=>exact .again (ih _ _ _ _ h)
def Dw (b:Nat):Way:=.once 2 (.inOrder [.again b,.once 1 .through])
def Ww (b:Nat):Way:=.once 6 (.noted 2 (.once 5 (.inOrder [.once 3 (.noted 3 (Dw b)),.once 4 (.runeOf [(97,97)] (.noted 3 (Dw b)))])))
theorem example_goes (b:Nat):∃ s',Ex [97] (fun _=>Ww b) (Ww b) 0 ⟨[],[0,-1,-1,-1],[]⟩ s'∧s'.parses=[(0,[0,0,0,0]),(1,[0,1,0,1])]:=by
 have h:(ev [97] (fun _=>Ww b) 40 (Ww b) 0 ⟨[],[0,-1,-1,-1],[]⟩).map (·.parses)=some [(0,[0,0,0,0]),(1,[0,1,0,1])]:=by rfl
 obtain ⟨s',h1,h2⟩:=Option.map_eq_some_iff.1 h
 exact ⟨s',ev_sound 40 _ _ _ _ h1,h2⟩
end Go.Proofs.YtacaanhnlfpbhaaGreat
