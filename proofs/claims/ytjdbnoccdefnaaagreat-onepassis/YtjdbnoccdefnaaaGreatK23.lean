/- HELPERS: texts of ours put together. -/
import Derived.Test.YtjdbnoccdefnaaaGreatK22
import Derived.Test.YtjdbnoccdefnaaaGreatK08
import Derived.Test.YtjdbnoccdefnaaaGreatK21
import Derived.Test.YtjdbnoccdefnaaaGreatK14
import Derived.Deep.QuietTactic
import Derived.BigQuiet
namespace Go.Proofs.YtjdbnoccdefnaaaGreat
open Go.RowKit
set_option linter.unusedVariables false
set_option linter.unusedSimpArgs false
theorem drewN_below (w:World) (m:Nat):Below w.heap.size w (w.drewN m):=⟨rfl,rfl,rfl,Nat.le_refl _,fun _ _ => rfl⟩
set_option maxRecDepth 100000 in
set_option maxHeartbeats 4000000 in
theorem goesWith75 {w:World} {sb o sb2 o2 n c n2 c2 m m2:Nat} {ad ad2:Option Addr} {G G2:List (Int × Int)} (h4:w.cell? ⟨sb,o + 4,none⟩ = some (.int .i64 (m:Int))) (h42:w.cell? ⟨sb2,o2 + 4,none⟩ = some (.int .i64 (m2:Int)))
    (h3:w.cell? ⟨sb,o + 3,none⟩ = some (.slice ad n c)) (hG:RowAt w.heap.size w (.slice ad n c) G) (hn:n = G.length) (hn2:n ≤ 100000000)
    (h32:w.cell? ⟨sb2,o2 + 3,none⟩ = some (.slice ad2 n2 c2)) (hG2:RowAt w.heap.size w (.slice ad2 n2 c2) G2) (hnn:n2 = G2.length) (hnn2:n2 ≤ 100000000) (hsb:sb2 < w.heap.size) (hs:G2.Pairwise fun x y => x.2 < y.1) (hok:∀ x ∈ G2,x.1 ≤ x.2) (hm:m ≤ 100000) (hm2:m2 ≤ 100000) :
    Calls Tryz.prog 75 #[.pointer (some ⟨sb,o,none⟩),.pointer (some ⟨sb2,o2,none⟩)] w fun e w' => e = .returned (.bool (decide (m + m2 ≤ 1) && !G.any (hits G2))) ∧ Below w.heap.size w w':=by
  have D101:=fun W (hW:Below w.heap.size w W) => contains101 (p:=hits G2) (P:=.pointer (some ⟨sb2,o2,none⟩)) (RowAt.below hG hW (Nat.le_refl _) hW.size) hn hn2 (fun W2 lo hi hW2 => by
    have hb:=hW.trans (hW2.mono hW.size)
    exact (shares102 (lo:=lo) (hi:=hi) ((hb.cell (p:=⟨sb2,o2 + 3,none⟩) hsb).trans h32) (Nat.lt_of_lt_of_le hsb hb.size) (RowAt.below hG2 hb (Nat.le_refl _) hb.size) hnn hnn2 hs hok).mono (fun e w' h => ⟨h.1,hW2.trans (h.2.mono hW2.size)⟩))
  clear hG hn hG2 hnn hs hok
  have ad1:IntKind.i64.wrap ((m:Int) + (m2:Int)) = (m:Int) + (m2:Int):=by simp [IntKind.wrap,IntKind.bits,IntKind.signed];omega
  generalize hq:G.any (hits G2) = bb at D101 ⊢
  go_enter Tryz.func75,Tryz.ntmps75
  go_upto_region 1 with fail
  by_cases hle:m + m2 ≤ 1
  · have b1:decide ((m:Int) + (m2:Int) ≤ 1) = true:=by simp;omega
    have b2:(m:Int) + (m2:Int) ≤ 1:=by omega
    go_region_with (first | (go_at_call 101;(with_reducible refine (D101 _ ?_).mono ?_);(exact drewN_below _ _);rintro e w1 ⟨rfl,hbw⟩;have HB:=hid ((drewN_below w _).trans hbw);clear hbw))
    all_goals
      go_wp2
      go_ret
      refine ⟨?_,HB.out⟩
      have e1:(decide (m + m2 ≤ 1) && !bb) = !bb:=by simp [hle]
      rw [e1]
      rfl
  · have b1:decide ((m:Int) + (m2:Int) ≤ 1) = false:=by simp;omega
    have b2:(1:Int) < (m:Int) + (m2:Int):=by omega
    go_simp
    go_big_quiet (fail)
    go_wp2
    go_ret
    exact ⟨by simp [hle],drewN_below _ _⟩
end Go.Proofs.YtjdbnoccdefnaaaGreat
namespace Go.Proofs.YtjdbnoccdefnaaaGreat
set_option linter.unusedVariables false
variable {P:PD} {ch:Nat → Prop} {F:Nat → Nat}
theorem Fo.mem {a o:List Nat} {x f:Nat} (hu:Us P.eps a o) (hx:x ∈ o) (h:Fo P.eps ch x f):f ∈ o:=by
  obtain ⟨p,q,s,h1,rfl⟩:=hu.sub x hx
  obtain ⟨c,q2,rfl,h2,-,-⟩:=h.us h1
  have:=h2.mem f (by simp)
  simp [this]
theorem Fo.clo {i f:Nat} (hp:P.Pl i) (h:Fo P.eps ch i f):∃ c,P.clo i = c ++ P.clo f ∧ Us P.eps [f] (P.clo f) ∧ (∀ j ∈ c,ch j ∧ Fo P.eps ch j f) ∧ (P.clo f).Nodup ∧ P.PL (P.clo f):=by
  obtain ⟨h1,h2,h3⟩:=hp.clo
  obtain ⟨c,q,e,h4,h5,-⟩:=h.us h1
  have e2:=PD.clo_eq h4
  rw [e2]
  rw [e] at h2 h3
  exact ⟨c,e,h4,h5,(List.nodup_append.1 h2).2.1,(PD.PL_app.1 h3).2.1⟩
variable (hch:∀ i,ch i → P.rd i = false ∧ P.mt i = false)
include hch
theorem fol_plain:∀ {d:List Nat},(∀ i ∈ d,P.Pl i ∧ Fo P.eps ch i (F i)) →
    Us P.eps (d.map F) ((d.map F).flatMap P.clo) ∧ (d.flatMap P.clo).filter P.rd = ((d.map F).flatMap P.clo).filter P.rd ∧ (d.flatMap P.clo).filter P.mt = ((d.map F).flatMap P.clo).filter P.mt ∧ ((d.flatMap P.clo).Nodup ↔ ((d.map F).flatMap P.clo).Nodup)
  | [],_ => ⟨.nil,rfl,rfl,Iff.rfl⟩
  | i :: r,h => by
    obtain ⟨hp,hf⟩:=h i (by simp)
    have hr:∀ j ∈ r,P.Pl j ∧ Fo P.eps ch j (F j):=fun j hj => h j (by simp [hj])
    obtain ⟨h1,h2,h3,h4⟩:=fol_plain hr
    obtain ⟨c,e,h5,h6,h7,h8⟩:=hf.clo hp
    have hc1:c.filter P.rd = []:=List.filter_eq_nil_iff.2 (fun j hj => by simp [(hch j (h6 j hj).1).1])
    have hc2:c.filter P.mt = []:=List.filter_eq_nil_iff.2 (fun j hj => by simp [(hch j (h6 j hj).1).2])
    have e3:(i :: r).flatMap P.clo = P.clo i ++ r.flatMap P.clo:=by simp
    have e4:((i :: r).map F).flatMap P.clo = P.clo (F i) ++ (r.map F).flatMap P.clo:=by simp
    rw [e3,e4]
    refine ⟨h5.app h1,?_,?_,?_⟩
    · rw [e,List.filter_append,List.filter_append,List.filter_append,hc1,h2,List.nil_append]
    · rw [e,List.filter_append,List.filter_append,List.filter_append,hc2,h3,List.nil_append]
    · rw [List.nodup_append,List.nodup_append,h4]
      constructor
      · rintro ⟨n1,n2,n3⟩
        refine ⟨h7,n2,fun x hx y hy e5 => ?_⟩
        obtain ⟨f,hff,hyf⟩:=List.mem_flatMap.1 hy
        obtain ⟨j,hj,rfl⟩:=List.mem_map.1 hff
        obtain ⟨cj,ej,-⟩:=(hr j hj).2.clo (hr j hj).1
        exact n3 x (by rw [e];simp [hx]) y (List.mem_flatMap.2 ⟨j,hj,by rw [ej];simp [hyf]⟩) e5
      · rintro ⟨n1,n2,n3⟩
        refine ⟨hp.clo.2.1,n2,fun x hx y hy e5 => ?_⟩
        subst e5
        obtain ⟨j,hj,hxj⟩:=List.mem_flatMap.1 hy
        obtain ⟨hpj,hfj⟩:=hr j hj
        obtain ⟨cj,ej,u5,u6,-⟩:=hfj.clo hpj
        have key:∀ y,y ∈ P.clo (F i) → y ∈ P.clo (F j) → False:=fun y y1 y2 => n3 y y1 y (List.mem_flatMap.2 ⟨F j,List.mem_map.2 ⟨j,hj,rfl⟩,y2⟩) rfl
        rw [e] at hx
        rw [ej] at hxj
        have mi:=h5.mem (F i) (by simp)
        have mj:=u5.mem (F j) (by simp)
        rcases List.mem_append.1 hx with hx | hx <;> rcases List.mem_append.1 hxj with hxj | hxj
        · have e6:=(h6 x hx).2.det (u6 x hxj).2
          exact key (F i) mi (by rw [e6];exact mj)
        · exact key (F i) mi (Fo.mem u5 hxj (h6 x hx).2)
        · exact key (F j) (Fo.mem h5 hx (u6 x hxj).2) mj
        · exact key x hx hxj
theorem KI.plainF {K:Nat → Prop} (h:KI P K) {n:Nat} {o d:List Nat} (hk:Uk P.eps K [n] o d) (hF:∀ i ∈ d,Fo P.eps ch i (F i)) :
    P.Pl n ↔ o.Nodup ∧ P.PL o ∧ ∃ q,Us P.eps (d.map F) q ∧ q.Nodup ∧ P.PL q ∧ P.cross o q:=by
  obtain ⟨h1,h2,h3,h4⟩:=fol_plain (P:=P) (F:=F) hch (d:=d) (fun i hi => ⟨h.pl i (hk.notK.2 i hi),hF i hi⟩)
  rw [h.plain hk,h4]
  have e1:P.PL (d.flatMap P.clo) ↔ P.PL ((d.map F).flatMap P.clo):=by unfold PD.PL;rw [h2,h3]
  have e2:P.cross o (d.flatMap P.clo) ↔ P.cross o ((d.map F).flatMap P.clo):=by unfold PD.cross;rw [h2,h3]
  rw [e1,e2]
  constructor
  · rintro ⟨a1,a2,a3,a4,a5⟩
    exact ⟨a1,a2,_,h1,a3,a4,a5⟩
  · rintro ⟨a1,a2,q,b1,b2,b3,b4⟩
    obtain rfl:=b1.det h1
    exact ⟨a1,a2,b2,b3,b4⟩
theorem KI.more {K:Nat → Prop} (h:KI P K) {n i:Nat} {o a q:List Nat} (hk:Uk P.eps K [n] o [i]) (hF:Fo P.eps ch i (F i)) (hn:o.Nodup) (hp:P.PL o) (hu:Us P.eps a q) (hi:F i ∈ q) (hq:q.Nodup) (hpq:P.PL q) (hc:P.cross o q):P.Pl n:=by
  obtain ⟨p,r,s,h1,rfl⟩:=hu.sub _ hi
  refine (h.plainF hch hk (F:=F) (fun j hj => by simp at hj;rw [hj];exact hF)).2 ⟨hn,hp,r,h1,(List.nodup_append.1 (List.nodup_append.1 hq).2.1).1,(PD.PL_app.1 (PD.PL_app.1 hpq).2.1).1,?_⟩
  obtain ⟨c1,c2⟩:=hc
  simp only [List.filter_append,List.length_append,List.mem_append] at c1 c2
  exact ⟨by omega,fun x hx y hy => c2 x hx y (.inr (.inl hy))⟩
theorem KI.blank {K:Nat → Prop} (h:KI P K) {n i:Nat} {o:List Nat} (hk:Uk P.eps K [n] o [i]) (hF:Fo P.eps ch i (F i)) (hn:o.Nodup) (hr:o.filter P.rd = []) (hm:o.filter P.mt = []):P.Pl n:=by
  have hp:=h.pl i (hk.notK.2 i (by simp))
  obtain ⟨c,-,h1,-,h2,h3⟩:=hF.clo hp
  refine (h.plainF hch hk (F:=F) (fun j hj => by simp at hj;rw [hj];exact hF)).2 ⟨hn,⟨by rw [hm];simp,by rw [hr];exact .nil⟩,_,h1,h2,h3,?_⟩
  exact ⟨by rw [hm];simpa using h3.1,fun x hx => by rw [hr] at hx;cases hx⟩
end Go.Proofs.YtjdbnoccdefnaaaGreat
namespace Go.Proofs.YtjdbnoccdefnaaaGreat
open Go.RowKit
set_option linter.unusedVariables false
set_option linter.unusedSimpArgs false
variable {N:Nat} {w:World} {sb o:Nat} {A:Array Value} {iv:Value} {n g of:Nat} {S:List Int} {R:List Nat} {G:List (Int × Int)} {m:Nat} {D:List Int} {mg:Nat} {Fm:List Nat} {vr vg vd:Value} {l:List In} {k:Int}
structure Gat (l:List In) (q:List Nat) (S:List Int) (R:List Nat) (G:List (Int × Int)) (m:Nat):Prop where
  s:S = Ix q
  r:R = q.filter (pd l).rd
  m:m = (q.filter (pd l).mt).length
  p:G.Perm (R.flatMap (Rg l))
  so:G.Pairwise fun x y => x.1 ≤ y.1
  dj:G.Pairwise Dj
  nd:q.Nodup
  pl:(pd l).PL q
  lt:∀ i ∈ q,i < l.length
theorem Gat.rune {q:List Nat} (h:Gat l q S R G m):∀ i ∈ R,i < l.length ∧ (at0 l i).op = 1:=fun i hi => by
  rw [h.r,List.mem_filter] at hi
  exact ⟨h.lt i hi.1,by simpa [pd] using hi.2⟩
theorem Gat.okr (hF:∀ I ∈ l,Fit (l.length:Int) k I) {q:List Nat} (h:Gat l q S R G m):∀ x ∈ G,Okr x:=fun x hx => by
  obtain ⟨i,hi,hxi⟩:=List.mem_flatMap.1 (h.p.mem_iff.1 hx)
  obtain ⟨h1,h2⟩:=h.rune i hi
  exact (right_okr (rune_right hF h1 h2).1).1 x hxi
theorem Gat.apart (hF:∀ I ∈ l,Fit (l.length:Int) k I) {q:List Nat} (h:Gat l q S R G m):G.Pairwise fun x y => x.2 < y.1:=by
  have hok:=h.okr hF
  refine List.Pairwise.imp_of_mem ?_ (h.so.and h.dj)
  rintro x y hx hy ⟨h1,h2⟩
  have ox:=hok x hx
  have oy:=hok y hy
  unfold Okr at ox oy
  unfold Dj at h2
  omega
theorem Gat.glen (hF:∀ I ∈ l,Fit (l.length:Int) k I) {q:List Nat} (h:Gat l q S R G m) (hq:q.length ≤ 20000):G.length ≤ 100000000:=by
  rw [h.p.length_eq]
  have h1:=flat_len R (fun i hi => by
    obtain ⟨u1,u2⟩:=h.rune i hi
    exact (right_okr (rune_right hF u1 u2).1).2.2)
  have h2:R.length ≤ q.length:=by rw [h.r];exact List.length_filter_le _ _
  omega
theorem goes_cross {q q2:List Nat} {S2:List Int} {R2:List Nat} {G2:List (Int × Int)} {m2:Nat} (h:Gat l q S R G m) (h2:Gat l q2 S2 R2 G2 m2) :
    (decide (m + m2 ≤ 1) && !G.any (hits G2)) = true ↔ (pd l).cross q q2:=by
  rw [Bool.and_eq_true,decide_eq_true_eq,Bool.not_eq_true',List.any_eq_false]
  unfold PD.cross
  rw [← h.m,← h2.m,← h.r,← h2.r]
  refine and_congr_right (fun _ => ?_)
  constructor
  · intro h3 i hi j hj a ha b hb e
    have h4:=h3 a (h.p.mem_iff.2 (List.mem_flatMap.2 ⟨i,hi,ha⟩))
    unfold hits at h4
    rw [decide_eq_true_eq] at h4
    exact h4 ⟨b,h2.p.mem_iff.2 (List.mem_flatMap.2 ⟨j,hj,hb⟩),e.2,e.1⟩
  · intro h3 a ha
    unfold hits
    rw [decide_eq_true_eq]
    rintro ⟨b,hb,e1,e2⟩
    obtain ⟨i,hi,hai⟩:=List.mem_flatMap.1 (h.p.mem_iff.1 ha)
    obtain ⟨j,hj,hbj⟩:=List.mem_flatMap.1 (h2.p.mem_iff.1 hb)
    exact h3 i hi j hj a hai b hbj ⟨e2,e1⟩
theorem CV.rowAt (h:CV N w sb o A iv n g of S R G m D mg Fm vr vg vd):∃ a c,vg = .slice a G.length c ∧ RowAt w.heap.size w (.slice a G.length c) G:=by
  obtain ⟨a,c,e,-,-⟩:=row_shape h.rg
  have h1:=h.rg
  rw [e] at h1
  exact ⟨a,c,e,own_row h1⟩
theorem goesCV {q q2:List Nat} {o2:Nat} {iv2:Value} {S2:List Int} {R2:List Nat} {G2:List (Int × Int)} {m2:Nat} {D2:List Int} {mg2:Nat} {Fm2:List Nat} {vr2 vg2 vd2:Value} (hF:∀ I ∈ l,Fit (l.length:Int) k I) (hn2:n ≤ 20000)
    (hC:CV N w sb o A iv n g of S R G m D mg Fm vr vg vd) (hC2:CV N w sb o2 A iv2 n g of S2 R2 G2 m2 D2 mg2 Fm2 vr2 vg2 vd2) (h:Gat l q S R G m) (h2:Gat l q2 S2 R2 G2 m2) :
    Calls Tryz.prog 75 #[.pointer (some ⟨sb,o,none⟩),.pointer (some ⟨sb,o2,none⟩)] w fun e w' => ∃ b:Bool,e = .returned (.bool b) ∧ (b = true ↔ (pd l).cross q q2) ∧ Below w.heap.size w w':=by
  obtain ⟨a,c,rfl,r1⟩:=hC.rowAt
  obtain ⟨a2,c2,rfl,r2⟩:=hC2.rowAt
  have hq:q.length ≤ 20000:=by have:=hC.set.len.1;rw [h.s] at this;simp [Ix] at this;omega
  have hq2:q2.length ≤ 20000:=by have:=hC2.set.len.1;rw [h2.s] at this;simp [Ix] at this;omega
  have hm:m ≤ q.length:=by rw [h.m];exact List.length_filter_le _ _
  have hm2:m2 ≤ q2.length:=by rw [h2.m];exact List.length_filter_le _ _
  refine (goesWith75 ((hC.cell _).trans hC.c4) ((hC2.cell _).trans hC2.c4) ((hC.cell _).trans hC.c3) r1 rfl (h.glen hF hq) ((hC2.cell _).trans hC2.c3) r2 rfl (h2.glen hF hq2) hC.sblt (h2.apart hF) (fun x hx => (h2.okr hF x hx).2.1) (by omega) (by omega)).mono ?_
  rintro e w' ⟨rfl,hb⟩
  exact ⟨_,rfl,goes_cross h h2,hb⟩
theorem CV.other {w':World} {A':Array Value} (h:CV N w sb o A iv n g of S R G m D mg Fm vr vg vd) (hb:w'.heap[sb]? = some (.cells A' 81 (0,0))) (hs:A'.size = A.size) (hA:∀ j,j < 6 → A'[o + j]? = A[o + j]?)
    (hk:∀ k ∈ FC sb Fm vr vg vd,k ≠ sb → w'.heap[k]? = w.heap[k]?):CV N w' sb o A' iv n g of S R G m D mg Fm vr vg vd:=by
  have f:∀ k,(k ∈ Fm ∨ vr.ownBlock = some k ∨ vg.ownBlock = some k ∨ vd.ownBlock = some k) → k ≠ sb → w'.heap[k]? = w.heap[k]?:=fun k h1 hne => hk k (by simp only [List.mem_cons,List.mem_append,Option.mem_toList,Option.mem_def];exact .inr h1) hne
  exact ⟨hb,hs.trans h.sz,h.ho,h.lo,(hA 0 (by omega)).trans h.c0,(hA 1 (by omega)).trans h.c1,(hA 2 (by omega)).trans h.c2,(hA 3 (by omega)).trans h.c3,(hA 4 (by omega)).trans h.c4,(hA 5 (by omega)).trans h.c5,
    h.set.kept (fun k hk' => f k (.inl hk') (fun e => h.sb_set (e ▸ hk'))),row_kept h.rr (fun b hb' => f b (.inr (.inl hb')) (h.rr_ne b hb').1),row_kept h.rg (fun b hb' => f b (.inr (.inr (.inl hb'))) (h.rg_ne b hb').1),row_kept h.rd (fun b hb' => f b (.inr (.inr (.inr hb'))) (h.rd_ne b hb')),h.ap⟩
end Go.Proofs.YtjdbnoccdefnaaaGreat
namespace Go.Proofs.YtjdbnoccdefnaaaGreat
open Go.RowKit
set_option linter.unusedVariables false
set_option linter.unusedSimpArgs false
set_option maxRecDepth 100000 in
set_option maxHeartbeats 4000000 in
theorem isBlank72 {w:World} {sb o rn rc m:Nat} {ra:Option Addr} (h2:w.cell? ⟨sb,o + 2,none⟩ = some (.slice ra rn rc)) (h4:w.cell? ⟨sb,o + 4,none⟩ = some (.int .i64 (m:Int))) :
    Calls Tryz.prog 72 #[.pointer (some ⟨sb,o,none⟩)] w fun e w' => e = .returned (.bool (decide (rn = 0 ∧ m = 0))) ∧ w' = w:=by
  go_enter Tryz.func72,Tryz.ntmps72
  by_cases h0:rn = 0
  · subst h0
    by_cases h1:m = 0
    · subst h1
      go_wp2
      go_ret
      exact ⟨by simp,rfl⟩
    · have b1:decide (m = 0) = false:=by simpa using h1
      have b2:decide ((m:Int) = 0) = false:=by simp;exact h1
      go_wp2
      go_ret
      exact ⟨by simp [h1],rfl⟩
  · have b1:decide (rn = 0) = false:=by simpa using h0
    have b2:decide ((rn:Int) = 0) = false:=by simp;exact h0
    go_wp2
    go_ret
    exact ⟨by simp [h0],rfl⟩
def IntAt (w:World) (v:Value) (L:List Int):Prop:=∃ ad cap,v = .slice ad L.length cap ∧ (L.length = 0 ∨ ∃ b off,ad = some ⟨b,off,none⟩ ∧ ∀ i (hi:i < L.length),w.cell? ⟨b,off + i,none⟩ = some (.int .i64 L[i]))
set_option maxRecDepth 100000 in
set_option maxHeartbeats 4000000 in
theorem equal100 {w:World} {ad ad2:Option Addr} {n c n2 c2:Nat} {A B:List Int} (hA:IntAt w (.slice ad n c) A) (hB:IntAt w (.slice ad2 n2 c2) B) (hn2:n ≤ 100000000) :
    Calls Tryz.prog 100 #[.slice ad n c,.slice ad2 n2 c2] w fun e w' => e = .returned (.bool (decide (A = B))) ∧ ∃ m,w' = w.drewN m:=by
  obtain ⟨a',c',e1,hA⟩:=hA
  simp only [Value.slice.injEq] at e1
  obtain ⟨rfl,hn,rfl⟩:=e1
  obtain ⟨a',c',e1,hB⟩:=hB
  simp only [Value.slice.injEq] at e1
  obtain ⟨rfl,hnn,rfl⟩:=e1
  by_cases hl:n = n2
  · subst hl
    have HA:=hid hA
    have HB:=hid hB
    have HN:=hid hn
    have HNN:=hid hnn
    clear hA hB hn hnn
    go_enter Tryz.func100,Tryz.ntmps100
    go_upto_region 4 with fail
    go_loopw [13] (fun y wq => ∃ i:Nat,y = .int .i64 (i:Int) ∧ i ≤ n ∧ Hid (∀ q (hq:q < A.length) (hq2:q < B.length),q < i → A[q] = B[q]) ∧ Hid (∃ m,wq = w.drewN m)) (fun y _ => n - (intOf y).toNat)
    case atStart => exact ⟨0,rfl,by omega,fun q _ _ h => by omega,0,rfl⟩
    case round =>
      obtain ⟨i,rfl,hi,HI,HD⟩:=hrel
      obtain ⟨dm,rfl⟩:=HD.out
      by_cases hil:i < n
      · have b1:decide ((i:Int) < (n:Int)) = true:=by simp;omega
        have b2:(i:Int) < (n:Int):=by omega
        have b6:(0:Int) ≤ (i:Int):=by omega
        have ad1:IntKind.i64.wrap ((i:Int) + 1) = (i:Int) + 1:=by simp [IntKind.wrap,IntKind.bits,IntKind.signed];omega
        have hla:i < A.length:=by have:=HN.out;omega
        have hlb:i < B.length:=by have:=HNN.out;omega
        obtain ⟨b,off,rfl,k0⟩:=HA.out.resolve_left (by omega)
        obtain ⟨b',off',rfl,k1⟩:=HB.out.resolve_left (by omega)
        have q0:=k0 i hla
        have q1:=k1 i hlb
        obtain ⟨x,hx⟩:∃ x,A[i] = x:=⟨_,rfl⟩
        obtain ⟨y,hy⟩:∃ y,B[i] = y:=⟨_,rfl⟩
        rw [hx] at q0
        rw [hy] at q1
        have HX:=hid hx
        have HY:=hid hy
        clear k0 k1 hx hy
        by_cases hxy:x = y
        · subst hxy
          go_wp2
          go_quiet (fail)
          go_wp2
          exact ⟨⟨i + 1,by push_cast;rfl,by omega,fun q hq hq2 hqi => by
            by_cases e:q = i
            · subst e;rw [HX.out,HY.out]
            · exact HI.out q hq hq2 (by omega),_,rfl⟩,by simp [intOf];omega⟩
        · have b7:decide (x = y) = false:=by simpa using hxy
          go_wp2
          go_quiet (fail)
          go_wp2
          all_goals go_ret
          all_goals
            have e2:decide (A = B) = false:=decide_eq_false (fun e => hxy (by
              have h1:=HX.out
              have h2:=HY.out
              subst e
              exact h1.symm.trans h2))
            exact ⟨by rw [e2];rfl,_,World.drewN_drewN _ _ _⟩
      · have b1:decide ((i:Int) < (n:Int)) = false:=by simp;omega
        have b3:decide (i < n) = false:=by simpa using hil
        have e2:decide (A = B) = true:=decide_eq_true (List.ext_getElem (by have:=HN.out;have:=HNN.out;omega) (fun q h1 h2 => HI.out q h1 h2 (by have:=HN.out;omega)))
        have hin:i = n:=by omega
        clear hil
        go_wp2
        all_goals go_ret
        all_goals exact ⟨by rw [e2];rfl,_,rfl⟩
  · have b1:decide (n = n2) = false:=by simpa using hl
    have b2:decide ((n:Int) = (n2:Int)) = false:=by simp;omega
    have e2:decide (A = B) = false:=decide_eq_false (fun e => hl (by rw [hn,hnn,e]))
    clear hA hB hn hnn
    go_enter Tryz.func100,Tryz.ntmps100
    go_wp2
    all_goals go_ret
    all_goals exact ⟨by rw [e2];rfl,0,rfl⟩
end Go.Proofs.YtjdbnoccdefnaaaGreat
