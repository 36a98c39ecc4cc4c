/- HELPERS: texts of ours put together. -/
import Derived.Test.YtjdbnoccdefnaaaGreatK29
import Derived.Test.YtjdbnoccdefnaaaGreatK30
namespace Go.Proofs.YtjdbnoccdefnaaaGreat
open Go.RowKit
set_option linter.unusedVariables false
set_option linter.unusedSimpArgs false
variable {N:Nat} {w:World} {sb:Nat} {ad:Option Addr} {c n g of:Nat} {l:List In} {kg:Nat} {mg mg2 mb:Nat} {Kl Lf:List Int} {F:List Nat} {k:Int} {s:Nat}
structure Parts (B n:Nat) (w:World) (mo:Option Nat) (ks:List (Nat × List Nat)):Prop where
  le:B ≤ w.heap.size
  mp:∀ mb,mo = some mb → MpS w mb [] ∧ B ≤ mb ∧ ∀ a ∈ ks,mb ∉ a.2
  st:∀ a ∈ ks,SetS B w a.1 a.2 n []
  ap:ks.Pairwise fun a b => ∀ x ∈ a.2,x ∉ b.2
variable {B:Nat} {mo:Option Nat} {ks:List (Nat × List Nat)}
theorem Parts.nil (hB:B ≤ w.heap.size):Parts B n w none []:=⟨hB,fun _ h => (by cases h),fun a h => (by cases h),.nil⟩
theorem Parts.draw (h:Parts B n w mo ks):Parts B n w.drew mo ks:=⟨h.le,fun mb e => ⟨(h.mp mb e).1.kept rfl,(h.mp mb e).2⟩,fun a ha => (h.st a ha).kept fun _ _ => rfl,h.ap⟩
theorem Parts.map (h:Parts B n w none ks):Parts B n (w.alloc (.map #[] 0)) (some w.heap.size) ks:=
  ⟨by have:=h.le;simp;omega,fun mb e => by
    injection e with e
    subst e
    exact ⟨MpS.made w,h.le,fun a ha hm => by have:=((h.st a ha).low _ hm).2;omega⟩,fun a ha => (h.st a ha).kept fun b hb => heap_alloc_old w _ ((h.st a ha).low b hb).2,h.ap⟩
theorem Parts.set {w':World} {gg:Nat} {G:List Nat} (h:Parts B n w mo ks) (hs:SetS w.heap.size w' gg G n []) (hb:Below w.heap.size w w'):Parts B n w' mo (ks ++ [(gg,G)]):=
  ⟨Nat.le_trans h.le hb.size,fun mb e => by
    obtain ⟨h1,h2,h3⟩:=h.mp mb e
    refine ⟨h1.kept (hb.block mb h1.lt),h2,fun a ha => ?_⟩
    rcases List.mem_append.1 ha with ha | ha
    · exact h3 a ha
    · obtain rfl:=List.mem_singleton.1 ha
      exact fun hm => by have:=(hs.low _ hm).1;have:=h1.lt;omega,fun a ha => by
    rcases List.mem_append.1 ha with ha | ha
    · exact (h.st a ha).kept fun b hm => hb.block b ((h.st a ha).low b hm).2
    · obtain rfl:=List.mem_singleton.1 ha
      exact hs.mono h.le,List.pairwise_append.2 ⟨h.ap,by simp,fun a ha b hm x hx hx2 => by
    obtain rfl:=List.mem_singleton.1 hm
    have:=((h.st a ha).low x hx).2
    have:=(hs.low x hx2).1
    omega⟩⟩
abbrev mkS (mb kg mg mg2:Nat) (ad:Option Addr) (n c:Nat):Array Value:=#[.map (some mb),.pointer (some ⟨kg,0,none⟩),.slice ad n c,.pointer (some ⟨mg,0,none⟩),.slice none 0 0,.slice none 0 0,.int .i64 0,.slice none 0 0,.slice ad n c,.pointer (some ⟨mg2,0,none⟩),.slice none 0 0,.slice none 0 0,.int .i64 0,.slice none 0 0,.slice none 0 0]
theorem SW.start {Fk Fm Fm2:List Nat} (h:Parts B n w (some mb) [(kg,Fk),(mg,Fm),(mg2,Fm2)]) (hpi:PI w B ad n l) (hat:0 < n → ad = some ⟨g,of,none⟩) (hn:n ≤ 20000) :
    SW B (w.alloc (.cells (mkS mb kg mg mg2 ad n c) 81)) w.heap.size ad c n g of l kg mb mg mg2 [] [] (mb :: (Fk ++ Fs w.heap.size Fm (.slice none 0 0) (.slice none 0 0) (.slice none 0 0) Fm2 (.slice none 0 0) (.slice none 0 0) (.slice none 0 0) (.slice none 0 0))):=by
  obtain ⟨hm1,hm2,hm3⟩:=h.mp mb rfl
  have hk:=h.st (kg,Fk) (by simp)
  have h1:=h.st (mg,Fm) (by simp)
  have h2:=h.st (mg2,Fm2) (by simp)
  have hap:=h.ap
  simp only [List.pairwise_cons,List.mem_cons,List.not_mem_nil,or_false,forall_eq_or_imp,forall_eq,false_imp_iff,implies_true,and_true,List.Pairwise.nil] at hap
  obtain ⟨⟨a1,a2⟩,a3⟩:=hap
  have hold:∀ b,b < w.heap.size → (w.alloc (.cells (mkS mb kg mg mg2 ad n c) 81)).heap[b]? = w.heap[b]?:=fun b hb => heap_alloc_old w _ hb
  have hnew:=heap_alloc_new w (.cells (mkS mb kg mg mg2 ad n c) 81)
  have hB:=h.le
  refine ⟨mkS mb kg mg mg2 ad n c,Fk,[],[],[],0,[],Fm,_,_,_,[],[],[],0,[],Fm2,_,_,_,_,[],⟨⟨hnew,rfl,by omega,hB,rfl,rfl,rfl,rfl,rfl,rfl,h1.kept fun b hb => hold b (h1.low b hb).2,World.ownsRow_nil _ _ _ _,World.ownsRow_nil _ _ _ _,World.ownsRow_nil _ _ _ _,fun b hb => (by cases hb)⟩,
    ⟨hnew,rfl,by omega,hB,rfl,rfl,rfl,rfl,rfl,rfl,h2.kept fun b hb => hold b (h2.low b hb).2,World.ownsRow_nil _ _ _ _,World.ownsRow_nil _ _ _ _,World.ownsRow_nil _ _ _ _,fun b hb => (by cases hb)⟩,
    ⟨hpi.kept ((Below.refl _ _).alloc h.le _) (Nat.le_refl _),hat,hk.kept fun b hb => hold b (hk.low b hb).2,hn⟩,rfl,rfl,World.ownsRow_nil _ _ _ _,fun b hb hne hm => ?_,fun b hb => (by cases hb),fun b hb => ⟨fun hm => ?_,fun hm => ?_,fun e => (by cases e)⟩⟩,
    ⟨[],[],rfl,.nil,rfl,rfl,rfl,by simp,.nil,.nil,.nil,⟨by simp,.nil⟩,fun i hi => (by cases hi)⟩,rfl,hm1.kept (hold mb hm1.lt),hm2,fun hm => ?_,hm3 (kg,Fk) (by simp),fun x hx => (by cases hx),rfl⟩
  · simp [FC,Value.ownBlock] at hb hm
    rcases hb with rfl | hb
    · exact hne rfl
    · rcases hm with rfl | hm
      · exact hne rfl
      · exact a3 b hb hm
  · simp [FC,Value.ownBlock] at hm
    rcases hm with rfl | hm
    · have:=(hk.low _ hb).2;omega
    · exact a1 b hb hm
  · simp [FC,Value.ownBlock] at hm
    rcases hm with rfl | hm
    · have:=(hk.low _ hb).2;omega
    · exact a2 b hb hm
  · have hlt:=hm1.lt
    simp [Fs,FC,Value.ownBlock] at hm
    rcases hm with rfl | hm | rfl | hm
    · omega
    · exact hm3 (mg,Fm) (by simp) hm
    · omega
    · exact hm3 (mg2,Fm2) (by simp) hm
theorem reachSW {x:Int} (h:SW N w sb ad c n g of l kg mb mg mg2 Kl Lf F) (hx:0 ≤ x ∧ x < n) :
    Calls Tryz.prog 36 #[.pointer (some ⟨sb,0,none⟩),.int .i64 x] w fun e w' => e = .returned (.tuple #[]) ∧ SW N w' sb ad c n g of l kg mb mg mg2 Kl (put1 Kl Lf x) F ∧ Chg w w' F F:=by
  obtain ⟨A,Fk,S,R,G,m,D,Fm,vr,vg,vd,S2,R2,G2,m2,D2,Fm2,vr2,vg2,vd2,vb,DD,hS,hfar,h0,hM,hmN,hmF,hmK,hLf,rfl⟩:=h
  refine (reach36 hS h0 hM hx (nodup_len n _ hM.nodup hLf)).mono ?_
  rintro e w' ⟨rfl,z1,z2⟩
  refine ⟨rfl,⟨A,Fk,S,R,G,m,D,Fm,vr,vg,vd,S2,R2,G2,m2,D2,Fm2,vr2,vg2,vd2,vb,DD,hS.beside hmN z2 hmF hmK,hfar,h0,z1,hmN,hmF,hmK,fun y hy => ?_,rfl⟩,grown_chg z2⟩
  unfold put1 at hy
  split at hy
  · exact hLf y hy
  · rcases mem_ins.1 hy with rfl | hy
    · exact hx
    · exact hLf y hy
def setLen (w:World) (kg:Nat):Nat:=match w.cell? ⟨kg,2,none⟩ with | some (.slice _ m _) => m | _ => 0
theorem SetS.len_is {N:Nat} {w:World} {g:Nat} {F:List Nat} {n:Nat} {S:List Int} (h:SetS N w g F n S):setLen w g = S.length:=by
  obtain ⟨b,c,ov,M,h1,h2,hn,h3,h4,h5,h6,rfl⟩:=h
  obtain ⟨a,c2,rfl,-,-⟩:=row_shape h4
  unfold setLen
  rw [Joins.cell_of_block h1 2]
  rfl
theorem SW.len_is (h:SW N w sb ad c n g of l kg mb mg mg2 Kl Lf F):setLen w kg = Kl.length ∧ Kl.length ≤ n:=by
  obtain ⟨A,Fk,S,R,G,m,D,Fm,vr,vg,vd,S2,R2,G2,m2,D2,Fm2,vr2,vg2,vd2,vb,DD,hS,hfar,h0,hM,hmN,hmF,hmK,hLf,rfl⟩:=h
  exact ⟨hS.env.ks.len_is,hS.env.ks.len.1⟩
theorem SW.map (h:SW N w sb ad c n g of l kg mb mg mg2 Kl Lf F):w.cell? ⟨sb,0,none⟩ = some (.map (some mb)) ∧ MpS w mb Lf ∧ (∀ x ∈ Lf,0 ≤ x ∧ x < n) ∧ n ≤ 20000 ∧ n = l.length:=by
  obtain ⟨A,Fk,S,R,G,m,D,Fm,vr,vg,vd,S2,R2,G2,m2,D2,Fm2,vr2,vg2,vd2,vb,DD,hS,hfar,h0,hM,hmN,hmF,hmK,hLf,rfl⟩:=h
  exact ⟨(hS.near.cell _).trans h0,hM,hLf,hS.env.n2,hS.env.pi.len⟩
theorem SW.low (h:SW N w sb ad c n g of l kg mb mg mg2 Kl Lf F):∀ b ∈ F,N ≤ b ∧ b < w.heap.size:=by
  obtain ⟨A,Fk,S,R,G,m,D,Fm,vr,vg,vd,S2,R2,G2,m2,D2,Fm2,vr2,vg2,vd2,vb,DD,hS,hfar,h0,hM,hmN,hmF,hmK,hLf,rfl⟩:=h
  intro b hb
  rcases List.mem_cons.1 hb with rfl | hb
  · exact ⟨hmN,hM.lt⟩
  · rcases List.mem_append.1 hb with hb | hb
    · exact hS.env.ks.low b hb
    · exact hS.low b hb
theorem SW.at_ {W:World} (h:SW N w sb ad c n g of l kg mb mg mg2 Kl Lf F) (hW:Below w.heap.size w W):SW N W sb ad c n g of l kg mb mg mg2 Kl Lf F:=by
  obtain ⟨A,Fk,S,R,G,m,D,Fm,vr,vg,vd,S2,R2,G2,m2,D2,Fm2,vr2,vg2,vd2,vb,DD,hS,hfar,h0,hM,hmN,hmF,hmK,hLf,rfl⟩:=h
  exact ⟨A,Fk,S,R,G,m,D,Fm,vr,vg,vd,S2,R2,G2,m2,D2,Fm2,vr2,vg2,vd2,vb,DD,hS.at_ hW,hfar,h0,hM.kept (hW.block mb hM.lt),hmN,hmF,hmK,hLf,rfl⟩
end Go.Proofs.YtjdbnoccdefnaaaGreat
