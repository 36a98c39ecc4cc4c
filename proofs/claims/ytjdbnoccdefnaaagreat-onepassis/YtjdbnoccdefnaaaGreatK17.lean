/- HELPERS: texts of ours put together. -/
import Derived.Test.YtjdbnoccdefnaaaGreatK16
namespace Go.Proofs.YtjdbnoccdefnaaaGreat
open Go.RowKit
set_option linter.unusedVariables false
set_option linter.unusedSimpArgs false
variable {l:List In} {k:Int} {N sb o n g of mg kg nk c:Nat} {ad:Option Addr} {Fk:List Nat} {Kl:List Int} {G:List (Int × Int)} {vg:Value}
def CT (l:List In) (N sb o n g of mg kg nk c:Nat) (ad:Option Addr) (Fk:List Nat) (Kl:List Int) (G:List (Int × Int)) (vg:Value) (s0:Nat):Prop:=
  ∀ (w:World) (A:Array Value) (S:List Int) (R:List Nat) (m:Nat) (D:List Int) (Fm:List Nat) (vr vd:Value) (i:Nat),s0 < S.length →
    CV N w sb o A (.slice ad n c) n g of S R G m D mg Fm vr vg vd → CE N w ad n g of l kg Fk nk Kl → (∀ b ∈ Fk,b ∉ FC sb Fm vr vg vd) → i < n → N ≤ w.heap.size → D.length + n + 1 ≤ 1000000 + S.length → m ≤ S.length → R.length ≤ S.length →
    Calls Tryz.prog 98 #[.pointer (some ⟨sb,o,none⟩),.int .i64 (i:Int),.pointer (some ⟨kg,0,none⟩)] w (CPost N w sb o A (.slice ad n c) n g of S R G m D mg Fm vr vg vd l Kl [i])
theorem ks_not {Kl:List Int} {S:List Int} {i:Nat} {l:List In} {q d:List Nat} (hk:¬ KS Kl i) (hs:(i:Int) ∈ S) (h:Uk (pd l).eps (KS Kl) [i] q d):¬ (S ++ Ix q).Nodup:=by
  intro hn
  cases h with
  | door hk' _ => exact hk hk'
  | go _ h =>
    have:=(List.nodup_append.1 hn).2.2 (i:Int) hs (i:Int) (by simp [Ix])
    exact this rfl
theorem uk_inv {l:List In} {Kl:List Int} {i:Nat} {q d:List Nat} (hk:¬ KS Kl i) (h:Uk (pd l).eps (KS Kl) [i] q d):∃ q',q = i :: q' ∧ Uk (pd l).eps (KS Kl) ((pd l).eps i) q' d:=by
  cases h with
  | door hk' _ => exact absurd hk' hk
  | go _ h => rw [List.append_nil] at h;exact ⟨_,rfl,h⟩
theorem uk_mk {l:List In} {Kl:List Int} {i:Nat} {q d:List Nat} (hk:¬ KS Kl i) (h:Uk (pd l).eps (KS Kl) ((pd l).eps i) q d):Uk (pd l).eps (KS Kl) [i] (i :: q) d:=.go hk (by rw [List.append_nil];exact h)
theorem nodup_pre {S:List Int} {i:Nat} {q:List Nat} (h:(S ++ Ix (i :: q)).Nodup):((S ++ [(i:Int)]) ++ Ix q).Nodup:=by
  have e:S ++ Ix (i :: q) = (S ++ [(i:Int)]) ++ Ix q:=by simp [Ix]
  rw [← e];exact h
theorem CPost.one {w w2:World} {A:Array Value} {S:List Int} {R:List Nat} {m:Nat} {D:List Int} {Fm Fm2:List Nat} {vr vd:Value} {i x:Nat} {e:Ending} {w':World}
    (hk:¬ KS Kl i) (he:(pd l).eps i = [x]) (h1:(pd l).rd i = false) (h2:(pd l).mt i = false) (hc:Chg w w2 (FC sb Fm vr vg vd) (FC sb Fm2 vr vg vd))
    (h:CPost N w2 sb o A (.slice ad n c) n g of (S ++ [(i:Int)]) R G m D mg Fm2 vr vg vd l Kl [x] e w'):CPost N w sb o A (.slice ad n c) n g of S R G m D mg Fm vr vg vd l Kl [i] e w':=by
  obtain ⟨b,A',S',R',m',D',Fm',vr',vd',rfl,c1,c2,c3,c4,c5⟩:=h
  refine ⟨b,A',S',R',m',D',Fm',vr',vd',rfl,c1,c2,hc.trans c3,fun hb => ?_,fun hb q d hq hn => ?_⟩
  · obtain ⟨q,d,hq,q1,q2,q3,q4,q5⟩:=c4 hb
    refine ⟨i :: q,d,uk_mk hk (by rw [he];exact hq),by rw [q1];simp [Ix],by rw [q2];simp [h1],by rw [q3];simp [h2],q4,?_⟩
    rw [List.length_append] at q5
    simp at q5 ⊢
    omega
  · obtain ⟨q',rfl,hq'⟩:=uk_inv hk hq
    rw [he] at hq'
    exact c5 hb q' d hq' (nodup_pre hn)
theorem CPost.none {w w':World} {A A':Array Value} {S:List Int} {R R':List Nat} {m m':Nat} {D:List Int} {Fm Fm':List Nat} {vr vr' vd:Value} {i:Nat}
    (hk:¬ KS Kl i) (he:(pd l).eps i = []) (hc:Chg w w' (FC sb Fm vr vg vd) (FC sb Fm' vr' vg vd)) (hr:Rest A A' o) (h:CV N w' sb o A' (.slice ad n c) n g of (S ++ [(i:Int)]) R' G m' D mg Fm' vr' vg vd)
    (hR:R' = R ++ [i].filter (pd l).rd) (hm:m' = m + ([i].filter (pd l).mt).length):CPost N w sb o A (.slice ad n c) n g of S R G m D mg Fm vr vg vd l Kl [i] (.returned (.bool true)) w':=
  ⟨true,A',_,R',m',D,Fm',vr',vd,rfl,h,hr,hc,fun _ => ⟨[i],[],uk_mk hk (by rw [he];exact .nil),rfl,hR,hm,by simp,by simp;omega⟩,fun h => (by cases h)⟩
theorem info95:(Tryz.prog.info? 95).map (fun i => (i.zero,i.size,i.bytes)) = some (some (.pointer none),1,8):=by kernel_rfl
theorem CPost.or {w:World} {A:Array Value} {S:List Int} {R:List Nat} {m:Nat} {D:List Int} {Fm:List Nat} {vr vd:Value} {a:List Nat} {e:Ending} {w':World} (h:CPost N w sb o A (.slice ad n c) n g of S R G m D mg Fm vr vg vd l Kl a e w') :
    (∃ A' S' R' m' D' Fm' vr' vd',e = .returned (.bool false) ∧ Hid (CV N w' sb o A' (.slice ad n c) n g of S' R' G m' D' mg Fm' vr' vg vd' ∧ Rest A A' o ∧ Chg w w' (FC sb Fm vr vg vd) (FC sb Fm' vr' vg vd')) ∧ Hid (∀ q d,Uk (pd l).eps (KS Kl) a q d → ¬ (S ++ Ix q).Nodup)) ∨
    (∃ A' S' R' m' D' Fm' vr' vd',e = .returned (.bool true) ∧ Hid (CV N w' sb o A' (.slice ad n c) n g of S' R' G m' D' mg Fm' vr' vg vd' ∧ Rest A A' o ∧ Chg w w' (FC sb Fm vr vg vd) (FC sb Fm' vr' vg vd')) ∧ Hid (∃ q d,Uk (pd l).eps (KS Kl) a q d ∧ S' = S ++ Ix q ∧ R' = R ++ q.filter (pd l).rd ∧ m' = m + (q.filter (pd l).mt).length ∧ D' = D ++ Ix (d.map (fol l)) ∧ D'.length + S.length ≤ D.length + S'.length + a.length)):=by
  obtain ⟨b,A',S',R',m',D',Fm',vr',vd',rfl,c1,c2,c3,c4,c5⟩:=h
  cases b with
  | false => exact .inl ⟨A',S',R',m',D',Fm',vr',vd',rfl,⟨c1,c2,c3⟩,c5 rfl⟩
  | true => exact .inr ⟨A',S',R',m',D',Fm',vr',vd',rfl,⟨c1,c2,c3⟩,c4 rfl⟩
theorem come_ready {w w':World} {A:Array Value} {S S':List Int} {R R':List Nat} {m m':Nat} {D D':List Int} {Fm Fm':List Nat} {vr vd vr' vd':Value} {a:List Nat}
    (hC:CV N w sb o A (.slice ad n c) n g of S R G m D mg Fm vr vg vd) (hE:CE N w ad n g of l kg Fk nk Kl) (hd:∀ b ∈ Fk,b ∉ FC sb Fm vr vg vd) (hN:N ≤ w.heap.size) (hm:m ≤ S.length) (hR:R.length ≤ S.length)
    (hc:Chg w w' (FC sb Fm vr vg vd) (FC sb Fm' vr' vg vd')) (hq:∃ q d,Uk (pd l).eps (KS Kl) a q d ∧ S' = S ++ Ix q ∧ R' = R ++ q.filter (pd l).rd ∧ m' = m + (q.filter (pd l).mt).length ∧ D' = D ++ Ix (d.map (fol l)) ∧ D'.length + S.length ≤ D.length + S'.length + a.length) :
    CE N w' ad n g of l kg Fk nk Kl ∧ (∀ b ∈ Fk,b ∉ FC sb Fm' vr' vg vd') ∧ N ≤ w'.heap.size ∧ D'.length + S.length ≤ D.length + S'.length + a.length ∧ m' ≤ S'.length ∧ R'.length ≤ S'.length ∧ S.length ≤ S'.length:=by
  obtain ⟨q,d,_,rfl,rfl,rfl,rfl,q5⟩:=hq
  have hB:Below N w w':=hc.below hN (fun k hk => (hC.low k hk).1)
  have l1:=List.length_filter_le (pd l).rd q
  have l2:=List.length_filter_le (pd l).mt q
  refine ⟨hE.kept hB (fun b hb => hc.block b (hE.ks.low b hb).2 (hd b hb)),fun b hb hm => ?_,Nat.le_trans hN hc.size,q5,by simp;omega,by simp;omega,by simp⟩
  rcases hc.new b hm with h | h
  · exact hd b hb h
  · have:=(hE.ks.low b hb).2;omega
theorem two_no {i X Y:Nat} {S:List Int} (hk:¬ KS Kl i) (he:(pd l).eps i = [X,Y]) (h:∀ q d,Uk (pd l).eps (KS Kl) [X] q d → ¬ ((S ++ [(i:Int)]) ++ Ix q).Nodup):∀ q d,Uk (pd l).eps (KS Kl) [i] q d → ¬ (S ++ Ix q).Nodup:=by
  intro q d hq hn
  obtain ⟨q',rfl,hq'⟩:=uk_inv hk hq
  rw [he] at hq'
  obtain ⟨q1,d1,q2,d2,h1,h2,rfl,rfl⟩:=hq'.split (a:=[X]) (b:=[Y]) rfl
  have h3:=nodup_pre hn
  have e:(S ++ [(i:Int)]) ++ Ix (q1 ++ q2) = ((S ++ [(i:Int)]) ++ Ix q1) ++ Ix q2:=by simp [Ix]
  rw [e] at h3
  exact h q1 d1 h1 (List.nodup_append.1 h3).1
theorem two_no2 {i X Y:Nat} {S S':List Int} (hk:¬ KS Kl i) (he:(pd l).eps i = [X,Y]) {q0 d0:List Nat} (h0:Uk (pd l).eps (KS Kl) [X] q0 d0) (hS:S' = (S ++ [(i:Int)]) ++ Ix q0) (h:∀ q d,Uk (pd l).eps (KS Kl) [Y] q d → ¬ (S' ++ Ix q).Nodup):∀ q d,Uk (pd l).eps (KS Kl) [i] q d → ¬ (S ++ Ix q).Nodup:=by
  intro q d hq hn
  obtain ⟨q',rfl,hq'⟩:=uk_inv hk hq
  rw [he] at hq'
  obtain ⟨q1,d1,q2,d2,h1,h2,rfl,rfl⟩:=hq'.split (a:=[X]) (b:=[Y]) rfl
  obtain ⟨rfl,rfl⟩:=h0.det h1
  have h3:=nodup_pre hn
  have e:(S ++ [(i:Int)]) ++ Ix (q0 ++ q2) = ((S ++ [(i:Int)]) ++ Ix q0) ++ Ix q2:=by simp [Ix]
  rw [e,← hS] at h3
  exact h q2 d2 h2 h3
set_option maxRecDepth 100000 in
set_option maxHeartbeats 8000000 in
theorem come_step (hF:∀ I ∈ l,Fit (l.length:Int) k I) (hU:∀ i,KS Kl i → ∃ q,Us (pd l).eps [i] q) {w:World} {A:Array Value} {S:List Int} {R:List Nat} {m:Nat} {D:List Int} {Fm:List Nat} {vr vd:Value} {i:Nat}
    (IH:CT l N sb o n g of mg kg nk c ad Fk Kl G vg S.length)
    (hC:CV N w sb o A (.slice ad n c) n g of S R G m D mg Fm vr vg vd) (hE:CE N w ad n g of l kg Fk nk Kl) (hd:∀ b ∈ Fk,b ∉ FC sb Fm vr vg vd) (hi:i < n) (hN:N ≤ w.heap.size) (hD:D.length + n + 1 ≤ 1000000 + S.length) (hm:m ≤ S.length) (hR:R.length ≤ S.length) :
    Calls Tryz.prog 98 #[.pointer (some ⟨sb,o,none⟩),.int .i64 (i:Int),.pointer (some ⟨kg,0,none⟩)] w (CPost N w sb o A (.slice ad n c) n g of S R G m D mg Fm vr vg vd l Kl [i]):=by
  by_cases hk:KS Kl i
  · exact come_door hF hU hC hE hi hN hD hk
  have C48:=has12 N kg Fk nk Kl (i:Int) w hE.ks
  rw [decide_eq_false hk] at C48
  by_cases hs:(i:Int) ∈ S
  · have C54:∀ kd,_:=fun kd => add10_no N mg Fm n S (i:Int) (w.drewN kd) (hC.set.drew kd) (fun h => h.2.2 hs)
    have h1:∀ kd,(w.drewN kd).cell? ⟨sb,o + 1,none⟩ = some (.pointer (some ⟨mg,0,none⟩)):=fun kd => (hC.cell (o + 1)).trans hC.c1
    have HC:=hid hC
    have HS:=hid hs
    have HK:=hid hk
    have H1:=hid h1
    have HC54:=hid C54
    clear hC hE hd hs hk h1 C54 IH hU hF
    go_enter Tryz.func98,Tryz.ntmps98
    go_upto_region 4 with (go_at_call 48;(with_reducible refine C48.mono ?_);rintro e w1 ⟨rfl,kd,rfl⟩;have k1:=H1.out kd;have D54:=HC54.out kd;clear C48)
    go_wp2_with (go_at_call 54;(with_reducible refine D54.mono ?_);rintro e w2 ⟨rfl,hs2,hc2⟩;have HS2:=hid hs2;have HC2:=hid hc2;clear hs2 hc2 D54)
    all_goals go_ret
    all_goals
      obtain ⟨q1,q2⟩:=(HC.out.kept (w':=w.drewN kd) (fun _ _ => rfl)).setMet HS2.out HC2.out
      exact ⟨false,A,S,R,m,D,Fm,vr,vd,rfl,q1,Rest.refl A o,q2.draws,fun h => (by cases h),fun _ q d hq => ks_not HK.out HS.out hq⟩
  have hlt:=hC.set.lt hi hs
  have hn2:=hE.n2
  have C54:∀ kd,_:=fun kd => add10_yes N mg Fm n S i (w.drewN kd) (hC.set.drew kd) hi hs (by have:=hE.n2;omega) hN
  have h1:∀ kd,(w.drewN kd).cell? ⟨sb,o + 1,none⟩ = some (.pointer (some ⟨mg,0,none⟩)):=fun kd => (hC.cell (o + 1)).trans hC.c1
  have hz0:=hE.pi.len
  obtain rfl:ad = some ⟨g,of,none⟩:=hE.at_ (by omega)
  have nxt:∀ (w2:World) (kd:Nat) (Fm2:List Nat),SetS N w2 mg Fm2 n (S ++ [(i:Int)]) → Chg (w.drewN kd) w2 Fm Fm2 → CV N w2 sb o A (.slice (some ⟨g,of,none⟩) n c) n g of (S ++ [(i:Int)]) R G m D mg Fm2 vr vg vd ∧ Chg w w2 (FC sb Fm vr vg vd) (FC sb Fm2 vr vg vd) ∧ CE N w2 (some ⟨g,of,none⟩) n g of l kg Fk nk Kl ∧ (∀ b ∈ Fk,b ∉ FC sb Fm2 vr vg vd) ∧ N ≤ w2.heap.size:=by
    intro w2 kd Fm2 q1 q2
    obtain ⟨r1,r2⟩:=(hC.kept (w':=w.drewN kd) (fun _ _ => rfl)).setMet q1 q2
    have r3:=r2.draws
    have hB:Below N w w2:=r3.below hN (fun k hk => (hC.low k hk).1)
    refine ⟨r1,r3,hE.kept hB (fun b hb => r3.block b (hE.ks.low b hb).2 (hd b hb)),fun b hb hm => ?_,Nat.le_trans hN r3.size⟩
    rcases r3.new b hm with h | h
    · exact hd b hb h
    · have:=(hE.ks.low b hb).2;omega
  obtain ⟨I,hI⟩:∃ I,I = at0 l i:=⟨_,rfl⟩
  have hil:i < l.length:=by omega
  have hfit:Fit (l.length:Int) k I:=by rw [hI,at0_lt hil];exact hF _ (List.getElem_mem hil)
  have cells:∀ (w2:World),CE N w2 (some ⟨g,of,none⟩) n g of l kg Fk nk Kl → w2.cell? ⟨g,of + i * 5,none⟩ = some (.int .i64 I.op) ∧ w2.cell? ⟨g,of + i * 5 + 1,none⟩ = some (.int .i64 I.x) ∧ w2.cell? ⟨g,of + i * 5 + 2,none⟩ = some (.int .i64 I.y):=by
    intro w2 h
    obtain ⟨g',of',ND,e,hg,hcs⟩:=h.pi.mem (by omega)
    simp only [Option.some.injEq,Addr.mk.injEq,and_true] at e
    obtain ⟨rfl,rfl⟩:=e
    obtain ⟨m0,m1,m2,m3,m4⟩:=(hcs i hil).1
    have hIM:=(hcs i hil).2
    rw [hI,at0_lt hil,← hIM.op,← hIM.x,← hIM.y]
    exact ⟨m0,m1,m2⟩
  have heps:(pd l).eps i = I.eps:=by rw [hI];rfl
  have hrd:(pd l).rd i = decide (I.op = 1):=by rw [hI];rfl
  have hmt:(pd l).mt i = decide (I.op = 5):=by rw [hI];rfl
  have hep:=eps_lt hF i hil
  rw [heps] at hep
  have HC54:=hid C54
  have H1:=hid h1
  have NXT:=hid nxt
  have CEL:=hid cells
  have HK:=hid hk
  have HEP:=hid heps
  have HRD:=hid hrd
  have HMT:=hid hmt
  have HIH:=hid IH
  have HLN:=hid hz0
  have HCX:=hid hC
  clear hC hE hd hs hk h1 C54 IH hU hF nxt cells heps hrd hmt hz0 hI
  cases hfit with
  | fail =>
    go_enter Tryz.func98,Tryz.ntmps98
    go_upto_region 4 with (go_at_call 48;(with_reducible refine C48.mono ?_);rintro e w1 ⟨rfl,kd,rfl⟩;have k1:=H1.out kd;have D54:=HC54.out kd;clear C48)
    go_upto_region 6 with (go_at_call 54;(with_reducible refine D54.mono ?_);rintro e w2 ⟨rfl,Fm2,hs2,hc2⟩;obtain ⟨n1,n2,n3,n4,n5⟩:=NXT.out _ _ _ hs2 hc2;have j0:=(n1.cell o).trans n1.c0;obtain ⟨m0,m1,m2⟩:=CEL.out _ n3;have N1:=hid n1;have N2:=hid n2;clear hs2 hc2 n1 n2 n3 n4 D54)
    go_wp2
    all_goals go_ret
    all_goals exact CPost.none HK.out (by rw [HEP.out];rfl) N2.out (Rest.refl A o) N1.out (by simp [HRD.out]) (by simp [HMT.out])
  | cap x a hx0 hx1 ha0 ha1 =>
    obtain ⟨X,rfl⟩:∃ X:Nat,x = (X:Int):=⟨x.toNat,by omega⟩
    have hX:X < n:=by have:=HLN.out;omega
    go_enter Tryz.func98,Tryz.ntmps98
    go_upto_region 4 with (go_at_call 48;(with_reducible refine C48.mono ?_);rintro e w1 ⟨rfl,kd,rfl⟩;have k1:=H1.out kd;have D54:=HC54.out kd;clear C48)
    go_upto_region 6 with (go_at_call 54;(with_reducible refine D54.mono ?_);rintro e w2 ⟨rfl,Fm2,hs2,hc2⟩;obtain ⟨n1,n2,n3,n4,n5⟩:=NXT.out _ _ _ hs2 hc2;have j0:=(n1.cell o).trans n1.c0;obtain ⟨m0,m1,m2⟩:=CEL.out _ n3;have N1:=hid n1;have N2:=hid n2;have N3:=hid n3;have N4:=hid n4;have N5:=hid n5;clear hs2 hc2 n1 n2 n3 n4 n5 D54)
    have D98:=HIH.out w2 A (S ++ [(i:Int)]) R m D Fm2 vr vd X (by simp) N1.out N3.out N4.out hX N5.out (by simp;omega) (by simp;omega) (by simp;omega)
    go_wp2_with (go_at_call 98;(with_reducible refine D98.mono ?_);rintro e w3 hp;have hp2:=CPost.one HK.out (by rw [HEP.out];rfl) (by rw [HRD.out];rfl) (by rw [HMT.out];rfl) N2.out hp;clear hp D98;obtain ⟨b,A',S',R',m',D',Fm',vr',vd',rfl,hq⟩:=hp2;have HQ:=hid hq;clear hq)
    all_goals go_ret
    all_goals exact ⟨b,A',S',R',m',D',Fm',vr',vd',rfl,HQ.out⟩
  | assert x a hx0 hx1 ha0 ha1 =>
    obtain ⟨X,rfl⟩:∃ X:Nat,x = (X:Int):=⟨x.toNat,by omega⟩
    have hX:X < n:=by have:=HLN.out;omega
    go_enter Tryz.func98,Tryz.ntmps98
    go_upto_region 4 with (go_at_call 48;(with_reducible refine C48.mono ?_);rintro e w1 ⟨rfl,kd,rfl⟩;have k1:=H1.out kd;have D54:=HC54.out kd;clear C48)
    go_upto_region 6 with (go_at_call 54;(with_reducible refine D54.mono ?_);rintro e w2 ⟨rfl,Fm2,hs2,hc2⟩;obtain ⟨n1,n2,n3,n4,n5⟩:=NXT.out _ _ _ hs2 hc2;have j0:=(n1.cell o).trans n1.c0;obtain ⟨m0,m1,m2⟩:=CEL.out _ n3;have N1:=hid n1;have N2:=hid n2;have N3:=hid n3;have N4:=hid n4;have N5:=hid n5;clear hs2 hc2 n1 n2 n3 n4 n5 D54)
    have D98:=HIH.out w2 A (S ++ [(i:Int)]) R m D Fm2 vr vd X (by simp) N1.out N3.out N4.out hX N5.out (by simp;omega) (by simp;omega) (by simp;omega)
    go_wp2_with (go_at_call 98;(with_reducible refine D98.mono ?_);rintro e w3 hp;have hp2:=CPost.one HK.out (by rw [HEP.out];rfl) (by rw [HRD.out];rfl) (by rw [HMT.out];rfl) N2.out hp;clear hp D98;obtain ⟨b,A',S',R',m',D',Fm',vr',vd',rfl,hq⟩:=hp2;have HQ:=hid hq;clear hq)
    all_goals go_ret
    all_goals exact ⟨b,A',S',R',m',D',Fm',vr',vd',rfl,HQ.out⟩
  | nop x hx0 hx1 =>
    obtain ⟨X,rfl⟩:∃ X:Nat,x = (X:Int):=⟨x.toNat,by omega⟩
    have hX:X < n:=by have:=HLN.out;omega
    go_enter Tryz.func98,Tryz.ntmps98
    go_upto_region 4 with (go_at_call 48;(with_reducible refine C48.mono ?_);rintro e w1 ⟨rfl,kd,rfl⟩;have k1:=H1.out kd;have D54:=HC54.out kd;clear C48)
    go_upto_region 6 with (go_at_call 54;(with_reducible refine D54.mono ?_);rintro e w2 ⟨rfl,Fm2,hs2,hc2⟩;obtain ⟨n1,n2,n3,n4,n5⟩:=NXT.out _ _ _ hs2 hc2;have j0:=(n1.cell o).trans n1.c0;obtain ⟨m0,m1,m2⟩:=CEL.out _ n3;have N1:=hid n1;have N2:=hid n2;have N3:=hid n3;have N4:=hid n4;have N5:=hid n5;clear hs2 hc2 n1 n2 n3 n4 n5 D54)
    have D98:=HIH.out w2 A (S ++ [(i:Int)]) R m D Fm2 vr vd X (by simp) N1.out N3.out N4.out hX N5.out (by simp;omega) (by simp;omega) (by simp;omega)
    go_wp2_with (go_at_call 98;(with_reducible refine D98.mono ?_);rintro e w3 hp;have hp2:=CPost.one HK.out (by rw [HEP.out];rfl) (by rw [HRD.out];rfl) (by rw [HMT.out];rfl) N2.out hp;clear hp D98;obtain ⟨b,A',S',R',m',D',Fm',vr',vd',rfl,hq⟩:=hp2;have HQ:=hid hq;clear hq)
    all_goals go_ret
    all_goals exact ⟨b,A',S',R',m',D',Fm',vr',vd',rfl,HQ.out⟩
  | mtch a ha0 ha1 =>
    go_enter Tryz.func98,Tryz.ntmps98
    go_upto_region 4 with (go_at_call 48;(with_reducible refine C48.mono ?_);rintro e w1 ⟨rfl,kd,rfl⟩;have k1:=H1.out kd;have D54:=HC54.out kd;clear C48)
    go_upto_region 6 with (go_at_call 54;(with_reducible refine D54.mono ?_);rintro e w2 ⟨rfl,Fm2,hs2,hc2⟩;obtain ⟨n1,n2,n3,n4,n5⟩:=NXT.out _ _ _ hs2 hc2;have j0:=(n1.cell o).trans n1.c0;obtain ⟨m0,m1,m2⟩:=CEL.out _ n3;have N1:=hid n1;have N2:=hid n2;have N3:=hid n3;have N4:=hid n4;have N5:=hid n5;clear hs2 hc2 n1 n2 n3 n4 n5 D54)
    have j4:=(N1.out.cell (o + 4)).trans N1.out.c4
    have f4:=N1.out.frz (o + 4)
    have ad4:IntKind.i64.wrap ((m:Int) + 1) = ((m + 1:Nat):Int):=by have:=hm;simp [IntKind.wrap,IntKind.bits,IntKind.signed];omega
    go_wp2
    all_goals go_ret
    all_goals
      obtain ⟨q1,q2⟩:=N1.out.setMatches (m':=m + 1)
      exact CPost.none HK.out (by rw [HEP.out];rfl) (N2.out.trans q2) ((Rest.refl A o).set (by omega) _) q1 (by simp [HRD.out]) (by simp [HMT.out])
  | rune x R0 hx0 hx1 hR0 hR1 =>
    obtain ⟨ra,rc,rfl,-,-⟩:=row_shape HCX.out.rr
    have hrl:R.length ≤ 20000:=by omega
    go_enter Tryz.func98,Tryz.ntmps98
    go_upto_region 4 with (go_at_call 48;(with_reducible refine C48.mono ?_);rintro e w1 ⟨rfl,kd,rfl⟩;have k1:=H1.out kd;have D54:=HC54.out kd;clear C48)
    go_upto_region 6 with (go_at_call 54;(with_reducible refine D54.mono ?_);rintro e w2 ⟨rfl,Fm2,hs2,hc2⟩;obtain ⟨n1,n2,n3,n4,n5⟩:=NXT.out _ _ _ hs2 hc2;have j0:=(n1.cell o).trans n1.c0;obtain ⟨m0,m1,m2⟩:=CEL.out _ n3;have N1:=hid n1;have N2:=hid n2;have N3:=hid n3;have N4:=hid n4;have N5:=hid n5;clear hs2 hc2 n1 n2 n3 n4 n5 D54)
    have j2:=(N1.out.cell (o + 2)).trans N1.out.c2
    have hrr:=N1.out.rr
    have HRR:=hid hrr
    have h5:=N5.out
    clear hrr
    go_wp2_with (at_builtin;refine wpList_append_one rfl (.tmp 75) (.tmp 77) 76 rfl N 95 (.pointer none) 8 Tryz.underlying76 info95 rfl (.slice ra R.length rc) (.pointer (some ⟨g,of + i * 5,none⟩)) R.length 1 (Ptrs g of R) rfl HRR.out w2.heap.size rfl rfl rfl (by unfold maxLen;omega) (by omega) h5 ?_;intro v5 w5 ho5 hm5;obtain ⟨ya,yc,rfl,-,-⟩:=row_shape ho5.out;obtain ⟨C1,C2,k5,f5⟩:=N1.out.setReaders (R':=R ++ [i]) hm5.out (by rw [List.length_append];simpa [Ptrs] using ho5.out);have HC1:=hid C1;have HC2:=hid C2;clear C1 C2 ho5 hm5)
    all_goals go_ret
    all_goals exact CPost.none HK.out (by rw [HEP.out];rfl) (N2.out.trans HC2.out) ((Rest.refl A o).set (by omega) _) HC1.out (by simp [HRD.out]) (by simp [HMT.out])
  | alt x y hx0 hx1 hy0 hy1 =>
    obtain ⟨X,rfl⟩:∃ X:Nat,x = (X:Int):=⟨x.toNat,by omega⟩
    obtain ⟨Y,rfl⟩:∃ Y:Nat,y = (Y:Int):=⟨y.toNat,by omega⟩
    have hX:X < n:=by have:=HLN.out;omega
    have hY:Y < n:=by have:=HLN.out;omega
    have he2:(pd l).eps i = [X,Y]:=by rw [HEP.out];rfl
    have HE2:=hid he2
    clear he2
    go_enter Tryz.func98,Tryz.ntmps98
    go_upto_region 4 with (go_at_call 48;(with_reducible refine C48.mono ?_);rintro e w1 ⟨rfl,kd,rfl⟩;have k1:=H1.out kd;have D54:=HC54.out kd;clear C48)
    go_upto_region 6 with (go_at_call 54;(with_reducible refine D54.mono ?_);rintro e w2 ⟨rfl,Fm2,hs2,hc2⟩;obtain ⟨n1,n2,n3,n4,n5⟩:=NXT.out _ _ _ hs2 hc2;have j0:=(n1.cell o).trans n1.c0;obtain ⟨m0,m1,m2⟩:=CEL.out _ n3;have N1:=hid n1;have N2:=hid n2;have N3:=hid n3;have N4:=hid n4;have N5:=hid n5;clear hs2 hc2 n1 n2 n3 n4 n5 D54)
    have D98:=HIH.out w2 A (S ++ [(i:Int)]) R m D Fm2 vr vd X (by simp) N1.out N3.out N4.out hX N5.out (by simp;omega) (by simp;omega) (by simp;omega)
    have tok:True:=trivial
    have HD:=hid hD
    go_wp2_with (first
      | (go_at_call 98;have _t:=tok;(with_reducible refine D98.mono ?_);rintro e w3 hp;rcases hp.or with ⟨A1,S1,R1,m1',D1,Fm1,vr1,vd1,rfl,c1,c2⟩ | ⟨A1,S1,R1,m1',D1,Fm1,vr1,vd1,rfl,c1,c2⟩;all_goals clear hp tok D98 j0 m0 m1 m2 k1;all_goals try (have P2:=come_ready N1.out N3.out N4.out N5.out (by simp;omega) (by simp;omega) c1.out.2.2 c2.out;obtain ⟨z0,z1,z2⟩:=CEL.out _ P2.1;have D98:=HIH.out w3 A1 S1 R1 m1' D1 Fm1 vr1 vd1 Y (by have:=P2.2.2.2.2.2.2;simp at this;omega) c1.out.1 P2.1 P2.2.1 hY P2.2.2.1 (by have h1:=P2.2.2.2.1;have h2:=HD.out;simp at h1;omega) P2.2.2.2.2.1 P2.2.2.2.2.2.1;have HP2:=hid P2;clear P2))
      | (go_at_call 98;(with_reducible refine D98.mono ?_);rintro e w4 hp;rcases hp.or with ⟨A2,S2,R2,m2',D2,Fm2',vr2,vd2,rfl,c3,c4⟩ | ⟨A2,S2,R2,m2',D2,Fm2',vr2,vd2,rfl,c3,c4⟩;all_goals clear hp D98))
    all_goals go_ret
    · exact ⟨false,A1,S1,R1,m1',D1,Fm1,vr1,vd1,rfl,c1.out.1,c1.out.2.1,N2.out.trans c1.out.2.2,fun h => (by cases h),fun _ => two_no HK.out HE2.out c2.out⟩
    · obtain ⟨q0,d0,h0,hS,_⟩:=c2.out
      exact ⟨false,A2,S2,R2,m2',D2,Fm2',vr2,vd2,rfl,c3.out.1,c1.out.2.1.trans c3.out.2.1,(N2.out.trans c1.out.2.2).trans c3.out.2.2,fun h => (by cases h),fun _ => two_no2 HK.out HE2.out h0 hS c4.out⟩
    · obtain ⟨q1,d1,h1,e1,e2,e3,e4,e5⟩:=c2.out
      obtain ⟨q2,d2,h2,u1,u2,u3,u4,u5⟩:=c4.out
      refine ⟨true,A2,S2,R2,m2',D2,Fm2',vr2,vd2,rfl,c3.out.1,c1.out.2.1.trans c3.out.2.1,(N2.out.trans c1.out.2.2).trans c3.out.2.2,fun _ => ⟨i :: (q1 ++ q2),d1 ++ d2,uk_mk HK.out (by rw [HE2.out];exact h1.app h2),?_,?_,?_,?_,?_⟩,fun h => (by cases h)⟩
      · rw [u1,e1];simp [Ix]
      · rw [u2,e2];simp [HRD.out]
      · rw [u3,e3];simp [HMT.out];omega
      · rw [u4,e4];simp [Ix]
      · simp at e5 u5 ⊢;omega
theorem comeTo98 (hF:∀ I ∈ l,Fit (l.length:Int) k I) (hU:∀ i,KS Kl i → ∃ q,Us (pd l).eps [i] q):∀ (f:Nat) {w:World} {A:Array Value} {S:List Int} {R:List Nat} {m:Nat} {D:List Int} {Fm:List Nat} {vr vd:Value} {i:Nat},n ≤ S.length + f →
    CV N w sb o A (.slice ad n c) n g of S R G m D mg Fm vr vg vd → CE N w ad n g of l kg Fk nk Kl → (∀ b ∈ Fk,b ∉ FC sb Fm vr vg vd) → i < n → N ≤ w.heap.size → D.length + n + 1 ≤ 1000000 + S.length → m ≤ S.length → R.length ≤ S.length →
    Calls Tryz.prog 98 #[.pointer (some ⟨sb,o,none⟩),.int .i64 (i:Int),.pointer (some ⟨kg,0,none⟩)] w (CPost N w sb o A (.slice ad n c) n g of S R G m D mg Fm vr vg vd l Kl [i]):=by
  intro f
  induction f with
  | zero =>
    intro w A S R m D Fm vr vd i hf hC hE hd hi hN hD hm hR
    refine come_step hF hU (fun w2 A2 S2 R2 m2 D2 Fm2 vr2 vd2 i2 hl hC2 _ _ _ _ _ _ _ => ?_) hC hE hd hi hN hD hm hR
    have:=hC2.set.len.1
    omega
  | succ f ih =>
    intro w A S R m D Fm vr vd i hf hC hE hd hi hN hD hm hR
    exact come_step hF hU (fun w2 A2 S2 R2 m2 D2 Fm2 vr2 vd2 i2 hl hC2 hE2 hd2 hi2 hN2 hD2 hm2 hR2 => ih (by omega) hC2 hE2 hd2 hi2 hN2 hD2 hm2 hR2) hC hE hd hi hN hD hm hR
end Go.Proofs.YtjdbnoccdefnaaaGreat
