/- HELPERS: texts of ours put together. -/
import Derived.Test.YtacaanhnlfpbhaaGreatK34
import Derived.Test.YtacaanhnlfpbhaaGreatK17
import Derived.Test.YtacaanhnlfpbhaaGreatK06
namespace Go.Proofs.YtacaanhnlfpbhaaGreat
open Go.RowKit
set_option linter.unusedVariables false
set_option linter.unusedSimpArgs false
def AnsW (t:Tn) (tx:List Int) (tn:Nat) (at_:Int) (w:World) (e:Ending) (w':World):Prop:=
 ∃ pv l,e=.returned (.tuple #[pv,.int .i64 (errP t tn at_)])∧Parsed w.heap.size w' pv l∧(errP t tn at_=0→PS t.spread t.notes tx at_.toNat l∧l.length≤65)∧(errP t tn at_≠0→pv=.slice none 0 0∧l=[])∧Below w.heap.size w w'
theorem answersW_none {t:Tn} {tx:List Int} {tn:Nat} {at_ x:Int} {w w':World} (hx:errP t tn at_=x) (h0:x≠0) (hb:Below w.heap.size w w'):AnsW t tx tn at_ w (.returned (.tuple #[.slice none 0 0,.int .i64 x])) w':=by
 subst hx
 exact ⟨.slice none 0 0,[],rfl,⟨[],[],World.ownsRow_nil _ _ _ _,.nil⟩,fun h=>absurd h h0,fun _=>⟨rfl,rfl⟩,hb⟩
set_option maxRecDepth 100000 in
set_option maxHeartbeats 4000000 in
theorem parses14_but (N:Nv) (t:Tn) (tx:List Int) (ad:Option Addr) (tn tcap:Nat) (at_:Int) (w:World) (hTI:TI w w.heap.size N t) (htx:Look.TextAt w.heap.size w ad tn tx) (htc:tn≤tcap) (hmain:tn≤64→t.sound=true→t.sz≤2000→∀ p:Nat,at_=(p:Int)→p≤tn→Calls Tryz.prog 14 #[N.v,.slice ad tn tcap,.int .i64 at_] w fun e w'=>AnsW t tx tn at_ w e w') :
  Calls Tryz.prog 14 #[N.v,.slice ad tn tcap,.int .i64 at_] w fun e w'=>AnsW t tx tn at_ w e w':=by
 have htm:tn≤35184372088832:=htx.2.1
 have hb0:Below w.heap.size w (w.alloc (.cells #[.int .i64 N.k,.slice N.r1 N.r2 N.r3,.int .i64 N.a2,.slice N.s1 N.s2 N.s3,.int .i64 N.a4,.int .i64 N.a5,.bool N.a6,.int .i64 N.a7,.string N.a8] 25)):=Joins.below_alloc1 w _
 have HB0:=hid hb0
 by_cases c1:64 < tn
 ·have e1:errP t tn at_=2:=by simp [errP,c1]
  have HA:∀ w',Below w.heap.size w w'→AnsW t tx tn at_ w (.returned (.tuple #[.slice none 0 0,.int .i64 2])) w':=fun w' h=>answersW_none e1 (by decide) h
  have HHA:=hid HA
  have b1:decide ((tn:Int) > 64)=true:=by simp;omega
  have b1':decide (64 < (tn:Int))=true:=by simp;omega
  obtain ⟨k,r1,r2,r3,a2,s1,s2,s3,a4,a5,a6,a7,a8⟩:=N
  obtain ⟨Q,hQ⟩:∃ Q,Q=AnsW t tx tn at_ w:=⟨_,rfl⟩
  rw [← hQ] at HHA ⊢
  clear HA hTI htx e1 hQ hb0
  go_enter Tryz.func14,Tryz.ntmps14
  go_wp2
  try go_ret2
  exact HHA.out _ HB0.out
 have b1:decide ((tn:Int) > 64)=false:=by simp;omega
 have b1':decide (64 < (tn:Int))=false:=by simp;omega
 have hT1:∀ w1,Below w.heap.size w w1→TI w1 w1.heap.size N t:=fun w1 h=>(hTI.kept fun b hb=>h.block b hb).le h.size
 have H29:=sound25 (hT1 _ hb0)
 cases hs:t.sound with
 | false =>
  have e1:errP t tn at_=50:=by simp [errP,c1,hs]
  have HA:∀ w',Below w.heap.size w w'→AnsW t tx tn at_ w (.returned (.tuple #[.slice none 0 0,.int .i64 50])) w':=fun w' h=>answersW_none e1 (by decide) h
  have HHA:=hid HA
  rw [hs] at H29
  obtain ⟨k,r1,r2,r3,a2,s1,s2,s3,a4,a5,a6,a7,a8⟩:=N
  obtain ⟨Q,hQ⟩:∃ Q,Q=AnsW t tx tn at_ w:=⟨_,rfl⟩
  rw [← hQ] at HHA ⊢
  dsimp only at H29
  simp only [Bool.false_eq_true,if_false] at H29
  clear HA hTI htx e1 hQ hb0 hT1 hs
  go_enter Tryz.func14,Tryz.ntmps14
  go_wp2_with (first | (go_at_call 32;(with_reducible refine H29.mono ?_);rintro e w1 ⟨rfl,hb1⟩;have HB1:=hid hb1;clear hb1 H29))
  try go_ret2
  exact HHA.out _ (HB0.out.trans (Joins.below_le HB1.out (by simp)))
 | true =>
  obtain ⟨hf,_,hno⟩:=sound_parts hs
  have hT2:∀ w1,Below w.heap.size w w1→Calls Tryz.prog 33 #[N.v] w1 fun e w'=>e=.returned (.int .i64 (min 1073741824 t.sz:Nat))∧Below w1.heap.size w1 w':=fun w1 h=>refsize28 hTI hf w1 h.size (fun b hb=>h.block b hb)
  have hnode:∀ w1,Below (w.alloc (.cells #[.int .i64 N.k,.slice N.r1 N.r2 N.r3,.int .i64 N.a2,.slice N.s1 N.s2 N.s3,.int .i64 N.a4,.int .i64 N.a5,.bool N.a6,.int .i64 N.a7,.string N.a8] 25)).heap.size (w.alloc (.cells #[.int .i64 N.k,.slice N.r1 N.r2 N.r3,.int .i64 N.a2,.slice N.s1 N.s2 N.s3,.int .i64 N.a4,.int .i64 N.a5,.bool N.a6,.int .i64 N.a7,.string N.a8] 25)) w1→w1.heap[w.heap.size]?=some (.cells #[.int .i64 N.k,.slice N.r1 N.r2 N.r3,.int .i64 N.a2,.slice N.s1 N.s2 N.s3,.int .i64 N.a4,.int .i64 N.a5,.bool N.a6,.int .i64 N.a7,.string N.a8] 25 (0,0)):=fun w1 h=>(h.block w.heap.size (by simp)).trans (heap_alloc_new w _)
  rw [hs] at H29
  simp only [if_true] at H29
  have HN:=hid hnode
  have HT2:=hid hT2
  by_cases c3:2000 < t.sz
  ·have e1:errP t tn at_=3:=by simp [errP,c1,hs,c3]
   have HA:∀ w',Below w.heap.size w w'→AnsW t tx tn at_ w (.returned (.tuple #[.slice none 0 0,.int .i64 3])) w':=fun w' h=>answersW_none e1 (by decide) h
   have HHA:=hid HA
   have b3:decide (((min 1073741824 t.sz:Nat):Int) > 2000)=true:=by simp;omega
   have b3':decide (2000 < ((min 1073741824 t.sz:Nat):Int))=true:=by simp;omega
   obtain ⟨r,hr⟩:∃ r,r=min 1073741824 t.sz:=⟨_,rfl⟩
   rw [← hr] at HT2 b3 b3'
   obtain ⟨k,r1,r2,r3,a2,s1,s2,s3,a4,a5,a6,a7,a8⟩:=N
   obtain ⟨Q,hQ⟩:∃ Q,Q=AnsW t tx tn at_ w:=⟨_,rfl⟩
   rw [← hQ] at HHA ⊢
   dsimp only at H29 HN
   clear HA hTI htx e1 hQ hb0 hT1 hT2 hnode hs hf hno hr
   go_enter Tryz.func14,Tryz.ntmps14
   go_wp2_with (first | (go_at_call 32;(with_reducible refine H29.mono ?_);rintro e w1 ⟨rfl,hb1⟩;obtain ⟨o0,o1,o2,o3,o4,o5,o6,o7,o8⟩:=nine' (HN.out w1 hb1);have HC1:=HT2.out w1 (HB0.out.trans (Joins.below_le hb1 (by simp)));have HB1:=hid hb1;clear hb1 H29) | (go_at_call 33;(with_reducible refine HC1.mono ?_);rintro e w2 ⟨rfl,hb2⟩;have HB2:=hid hb2;clear hb2 HC1))
   try go_ret2
   exact HHA.out _ (HB0.out.trans (Joins.below_le (HB1.out.trans (Joins.below_le HB2.out HB1.out.size)) (by simp)))
  ·have b3:decide (((min 1073741824 t.sz:Nat):Int) > 2000)=false:=by simp;omega
   have b3':decide (2000 < ((min 1073741824 t.sz:Nat):Int))=false:=by simp;omega
   obtain ⟨r,hr⟩:∃ r,r=min 1073741824 t.sz:=⟨_,rfl⟩
   rw [← hr] at HT2 b3 b3'
   by_cases c4:at_ < 0∨(tn:Int) < at_
   ·have e1:errP t tn at_=1:=by simp [errP,c1,hs,c3,c4]
    have HA:∀ w',Below w.heap.size w w'→AnsW t tx tn at_ w (.returned (.tuple #[.slice none 0 0,.int .i64 1])) w':=fun w' h=>answersW_none e1 (by decide) h
    have HHA:=hid HA
    obtain ⟨k,r1,r2,r3,a2,s1,s2,s3,a4,a5,a6,a7,a8⟩:=N
    obtain ⟨Q,hQ⟩:∃ Q,Q=AnsW t tx tn at_ w:=⟨_,rfl⟩
    rw [← hQ] at HHA ⊢
    dsimp only at H29 HN
    clear HA hTI htx e1 hQ hb0 hT1 hT2 hnode hs hf hno hr
    by_cases c5:at_ < 0
    ·have b5:decide (at_ < 0)=true:=by simp;omega
     go_enter Tryz.func14,Tryz.ntmps14
     go_wp2_with (first | (go_at_call 32;(with_reducible refine H29.mono ?_);rintro e w1 ⟨rfl,hb1⟩;obtain ⟨o0,o1,o2,o3,o4,o5,o6,o7,o8⟩:=nine' (HN.out w1 hb1);have HC1:=HT2.out w1 (HB0.out.trans (Joins.below_le hb1 (by simp)));have HB1:=hid hb1;clear hb1 H29) | (go_at_call 33;(with_reducible refine HC1.mono ?_);rintro e w2 ⟨rfl,hb2⟩;have HB2:=hid hb2;clear hb2 HC1))
     try go_ret2
     exact HHA.out _ (HB0.out.trans (Joins.below_le (HB1.out.trans (Joins.below_le HB2.out HB1.out.size)) (by simp)))
    ·have b5:decide (at_ < 0)=false:=by simp;omega
     have b6:decide (at_ > (tn:Int))=true:=by simp;omega
     have b6':decide ((tn:Int) < at_)=true:=by simp;omega
     go_enter Tryz.func14,Tryz.ntmps14
     go_wp2_with (first | (go_at_call 32;(with_reducible refine H29.mono ?_);rintro e w1 ⟨rfl,hb1⟩;obtain ⟨o0,o1,o2,o3,o4,o5,o6,o7,o8⟩:=nine' (HN.out w1 hb1);have HC1:=HT2.out w1 (HB0.out.trans (Joins.below_le hb1 (by simp)));have HB1:=hid hb1;clear hb1 H29) | (go_at_call 33;(with_reducible refine HC1.mono ?_);rintro e w2 ⟨rfl,hb2⟩;have HB2:=hid hb2;clear hb2 HC1))
     try go_ret2
     exact HHA.out _ (HB0.out.trans (Joins.below_le (HB1.out.trans (Joins.below_le HB2.out HB1.out.size)) (by simp)))
   ·exact hmain (by omega) hs (by omega) at_.toNat (by omega) (by omega)
theorem ex_fw {T:Lt} {K:Nat} {tx:List Int} {p:Nat} (hp:p≤tx.length):∃ s',Ex tx T.env (T.fw (.once 1 .through)) p ⟨[],(List.replicate K (-1)).set 0 (p:Int),[]⟩ s'∧s'.parses.length≤tx.length + 1:=by
 obtain ⟨top,htop⟩:∃ top:Nat,1≤top∧∀ lb ∈ T.lbs,2 * lb + 3≤top:=by
  refine ⟨2 * T.lbs.sum + 3,by omega,fun lb hl=>?_⟩
  have:=le_sum_mem hl
  omega
 have h1:(Way.once 1 .through).tg top:=by simp only [Way.tg];exact ⟨⟨by omega,by omega⟩,.inl ⟨trivial,trivial⟩⟩
 obtain ⟨g1,g2⟩:=fw_tg T (.once 1 .through) htop.2 h1
 have hEt:∀ b,(T.env b).tg top∧(T.env b).ua=[]:=fun b=>by
  show (envOf (T.le (.once 1 .through)) b).tg top∧(envOf (T.le (.once 1 .through)) b).ua=[]
  unfold envOf
  cases hf:(T.le (.once 1 .through)).find? fun p=>p.1 == b with
  | none=>exact ⟨by simp [Way.tg,tgL],by simp [Way.ua,uaL]⟩
  | some x=>exact g2 x (List.mem_of_find?_eq_some hf)
 obtain ⟨s',he,hpar,_⟩:=good_all (E:=T.env) (tx:=tx) (top:=top) hEt _ ⟨[],(List.replicate K (-1)).set 0 (p:Int),[]⟩ _ p (Nat.le_refl _) g1 hp
 refine ⟨s',he,?_⟩
 have h1:left1 tx.length ⟨[],(List.replicate K (-1)).set 0 (p:Int),[]⟩≤tx.length + 1:=by
  unfold left1
  exact Nat.le_trans List.countP_le_length (by simp)
 simp only [List.length_nil] at hpar
 omega
theorem getD_row {L:List Nat} {i:Nat} (h:i < L.length):L.getD i 0=L[i]:=by simp [List.getD_eq_getElem?_getD,List.getElem?_eq_getElem h]
theorem rrb_of {W:World} {base g n m bc:Nat} {L:List Nat} (h:W.ownsRow base 79 1 (.slice (some ⟨g,0,none⟩) n bc) L.length (I79 m L)) (hn:L.length=n):RRb W g n m (fun i=>L.getD i 0):=by
 rcases h.2 with ⟨e,_⟩ | ⟨g',cap,cur,he,hb,hg,h1,h2,h3,h4⟩
 ·cases e
 ·simp only [Value.slice.injEq,Option.some.injEq,Addr.mk.injEq] at he
  obtain ⟨⟨rfl,_⟩,_,rfl⟩:=he
  refine ⟨cur,hg,fun i hi=>?_⟩
  have hL:i < L.length:=by omega
  have h5:(cur.toList.take (L.length * 1))[i]?=(I79 m L)[i]?:=by rw [h4]
  rw [List.getElem?_take_of_lt (by omega)] at h5
  rw [← Array.getElem?_toList,h5]
  show (I79 m L)[i]?=some (.slice (some ⟨L.getD i 0,0,none⟩) m m)
  rw [getD_row hL]
  simp [I79,hL]
theorem nodup_inj {L:List Nat} (h:L.Nodup) {i j:Nat} (hi:i < L.length) (hj:j < L.length) (e:L.getD i 0=L.getD j 0):i=j:=by
 rw [getD_row hi,getD_row hj] at e
 rcases Nat.lt_trichotomy i j with h1 | h1 | h1
 ·exact absurd e (List.pairwise_iff_getElem.1 h i j hi hj h1)
 ·exact h1
 ·exact absurd e.symm (List.pairwise_iff_getElem.1 h j i hj hi h1)
theorem walk_ready {t:Tn} {N0 tb wb eb tn tcap p n pb pc bg bc dg dc:Nat} {W1 V:World} {ad:Option Addr} {tx:List Int} {Q:List E8} {LB LD:List Nat} {cv:Value} (hf:t.fine=true) (hsz:t.sz≤2000) (htn:tn≤64) (hp:p≤tn)
  (hU:UM tb N0 V (.slice (some ⟨pb,0,none⟩) n pc) Q) (hn:n=t.spread.nodes) (hq:(t.spread.pn 0).inQ V N0 Q (-1) 0)
  (hF:FRw N0 (tn + 1) wb W1 V (.slice (some ⟨bg,0,none⟩) n bc) (.slice (some ⟨dg,0,none⟩) n dc) LB LD) (hLB:LB.length=n) (hLD:LD.length=n)
  (hbx:V.heap[wb]?=some (.cells #[.pointer (some ⟨tb,0,none⟩),.slice ad tn tcap,.int .i64 (p:Int),.slice (some ⟨bg,0,none⟩) n bc,.slice (some ⟨dg,0,none⟩) n dc,.slice (some ⟨eb,0,none⟩) (tn + 1) (tn + 1),.slice none 0 0] 82 (0,0)))
  (heb:BRw V eb (tn + 1) (fun _=>false)) (hebN:N0≤eb∧eb < W1.heap.size) (htx:Look.TextAt N0 V ad tn tx) (hcv:Rw V cv (List.replicate t.notes (-1))) :
  Calls Tryz.prog 47 #[.pointer (some ⟨wb,0,none⟩),.int .i64 ((t.spread.pn 0).lb:Int),.int .i64 (p:Int),cv] V fun e w'=>e=.returned (.tuple #[])∧∃ pv l,w'.cell? ⟨wb,6,none⟩=some pv∧Parsed V.heap.size w' pv l∧PS t.spread t.notes tx p l∧l.length≤65∧w'.os=V.os∧w'.tape=V.tape∧w'.output=V.output∧V.heap.size≤w'.heap.size∧∀ b,b < N0→w'.heap[b]?=V.heap[b]?:=by
 obtain ⟨f1,f2⟩:=spread_ok t hf
 have h3:=spread_nodes t hf
 obtain ⟨q1,q2⟩:=fine_gi t hf
 have htl:=htx.1
 obtain ⟨l,hl⟩:=PS.of_sf f1 f2 (by omega) t.notes tx p (by omega)
 obtain ⟨s',hx,hcnt⟩:=ex_fw (T:=t.spread.pn 0) (K:=t.notes) (tx:=tx) (p:=p) (by omega)
 have heo:=env_eo (pn_nodup t.spread 0) (pn_sf _ 0 f2)
 have e1:=full_ps (pn_nodup t.spread 0) heo (by rw [pn_tn];exact hl) hx
 have hll:l.length≤65:=by rw [← e1];omega
 have hgi:=(spread_gi t hf t.gi q1).1 (Int.le_refl _)
 have hs1:=hF.tf.size
 have hlow:=hF.low
 have hwl:=(Array.getElem?_eq_some_iff.1 hbx).1
 have mem:∀ (L:List Nat) i,i < L.length→L.getD i 0 ∈ L:=fun L i hi=>by rw [getD_row hi];exact List.getElem_mem hi
 have hdup:=hF.dup
 rw [List.nodup_append] at hdup
 obtain ⟨C,hC⟩:∃ C:WC,C=⟨N0,wb,tb,pb,n,pc,V.heap.size,bg,bc,dg,dc,fun i=>LB.getD i 0,fun i=>LD.getD i 0,eb,tn,tcap,ad,(p:Int),tx,(t.spread.pn 0).ents (.once 1 .through) (-1) 0,(t.spread.pn 0).env,t.notes⟩:=⟨_,rfl⟩
 have hnt:(t.notes:Int)=2 * t.gi + 2:=by simp only [Tn.notes];omega
 have hk:WCk C:=by
  subst hC
  refine wck_of (t:=t.spread) f1 rfl heo hn (by omega) htn htl ⟨by show 2≤t.notes;omega,by show t.notes≤1002;omega⟩ (by show 2 * t.spread.gi + 1 < (t.notes:Int);omega) ⟨hF.wbN,hwl⟩ (fun i hi=>?_) (fun i hi=>?_) ⟨hebN.1,heb.lt⟩ (fun i j hi hj e=>?_) (fun i j hi hj e=>?_) (fun i j hi hj e=>?_) (fun i hi e=>?_) (fun i hi e=>?_)
  ·have hi':i < LB.length:=by rw [hLB];exact hi
   have h1:=hF.fb _ (mem LB i hi')
   exact ⟨Nat.le_trans hlow h1.2,h1.1.lt⟩
  ·have hi':i < LD.length:=by rw [hLD];exact hi
   have h1:=hF.fd _ (mem LD i hi')
   exact ⟨Nat.le_trans hlow h1.2,h1.1.lt⟩
  ·exact nodup_inj hdup.1 (by rw [hLB];exact hi) (by rw [hLB];exact hj) e
  ·exact nodup_inj hdup.2.1 (by rw [hLD];exact hi) (by rw [hLD];exact hj) e
  ·exact hdup.2.2 _ (mem LB i (by rw [hLB];exact hi)) _ (mem LD j (by rw [hLD];exact hj)) e
  ·have h1:=(hF.fb _ (mem LB i (by rw [hLB];exact hi))).2
   have e':LB.getD i 0=eb:=e
   have:=hebN.2
   omega
  ·have h1:=(hF.fd _ (mem LD i (by rw [hLD];exact hi))).2
   have e':LD.getD i 0=eb:=e
   have:=hebN.2
   omega
 have hFM:FM C V [] []:=by
  subst hC
  refine ⟨⟨.slice none 0 0,hbx,[],[],World.ownsRow_nil _ _ _ _,.nil⟩,Nat.le_refl _,hU.box,rrb_of hF.rb hLB,rrb_of hF.rd hLD,⟨fun i hi=>?_,fun i hi=>?_,?_⟩,?_,pl_of hU _ _ _ _ hq,htx⟩
  ·exact (hF.fb _ (mem LB i (by rw [hLB];exact hi))).1.as (fun q hq=>by simp)
  ·exact (hF.fd _ (mem LD i (by rw [hLD];exact hi))).1.as (fun q hq=>by simp)
  ·exact heb.as (fun q hq=>by simp)
  ·rcases hU.row.2 with ⟨e,_⟩ | ⟨g,cap,cur,e,_,hg,_⟩
   ·cases e
   ·simp only [Value.slice.injEq,Option.some.injEq,Addr.mk.injEq] at e
    obtain ⟨⟨rfl,_⟩,_⟩:=e
    exact ⟨cur,hg⟩
 have hW:=(walk_all hk (p:=p) (s:=⟨[],(List.replicate t.notes (-1)).set 0 (p:Int),[]⟩) (s1:=s') (Wy:=(t.spread.pn 0).fw (.once 1 .through)) (by subst hC;exact hx) (by rw [e1];omega) (by subst hC;exact hp)).bg
 have hcall:=hW.at (e:=⟨t.spread.pn 0,.once 1 .through,-1,0⟩) (by subst hC;exact ents_root _ _ _ _) rfl rfl
 have hin:WIn C V ⟨[],(List.replicate t.notes (-1)).set 0 (p:Int),[]⟩ p (List.replicate t.notes (-1)) cv:=by
  refine ⟨hFM,by subst hC;exact hp,hcv,by subst hC;simp,by subst hC;rfl,by simp⟩
 have hwb:C.wb=wb:=by subst hC;rfl
 have hNB:C.NB=V.heap.size:=by subst hC;rfl
 have hN0:C.N0=N0:=by subst hC;rfl
 have hc:=hcall V _ cv hin
 rw [hwb] at hc
 refine hc.mono fun e w' hq=>?_
 obtain ⟨rfl,hfm,hfr⟩:=hq
 obtain ⟨pv,hb1,hb2⟩:=hfm.box
 refine ⟨rfl,pv,s'.parses,?_,by rw [← hNB];exact hb2,by rw [e1];exact hl,by rw [e1];exact hll,hfr.os,hfr.tape,hfr.output,hfr.size,fun b hb=>hfr.low b (by rw [hN0];exact hb)⟩
 rw [← hwb]
 exact Joins.cell_of_block hb1 6
end Go.Proofs.YtacaanhnlfpbhaaGreat
