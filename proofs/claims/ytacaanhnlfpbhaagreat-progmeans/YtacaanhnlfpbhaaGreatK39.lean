/- HELPERS: texts of ours put together. -/
import Derived.Test.YtacaanhnlfpbhaaGreatK31
import Derived.Test.YtacaanhnlfpbhaaGreatK17
import Derived.Test.YtacaanhnlfpbhaaGreatK20
import Derived.Test.YtacaanhnlfpbhaaGreatK21
import Derived.Test.YtacaanhnlfpbhaaGreatK30
import Derived.Test.YtacaanhnlfpbhaaGreatK04
import Derived.Test.YtacaanhnlfpbhaaGreatK05
import Derived.Deep.Onto
namespace Go.Proofs.YtacaanhnlfpbhaaGreat
open Go.RowKit
set_option linter.unusedVariables false
set_option linter.unusedSimpArgs false
section
variable {E E':Nat → Way} {n n1 n2 n' n1' n2':Int} {B W V B' W' V':Way}
theorem SiL.app {G:Mau} {M N:List Int} {l l' k k':List Way} (h:SiL G M l l') (h':SiL G N k k'):SiL G (M ++ N) (l ++ k) (l' ++ k'):=by
 induction l generalizing M l' with
 | nil =>
  cases h
  exact h'
 | cons d l ih =>
  cases h with
  | cons h t => exact .cons h (ih t)
  | flat h t =>
   rw [List.append_assoc,List.append_assoc]
   exact .flat h (ih t)
theorem snocRec {α:Type} {C:List α → Prop} (h0:C []) (h1:∀ l x,C l → C (l ++ [x])):∀ l,C l:=fun l => by
 rw [← List.reverse_reverse l]
 induction l.reverse with
 | nil => exact h0
 | cons x m ih => rw [List.reverse_cons];exact h1 _ _ ih
theorem sa (P:List (Tn × Tn)):(∀ x ∈ P,Gp E E' x.1 x.2) → ∀ {n n1 n' n1':Int} {B B':Way} {Ws Ws':List Way},BegA E (P.map Prod.fst) n B n1 Ws → BegA E' (P.flatMap fun x => within 5 x.2) n' B' n1' Ws' →
  ∀ G,Miu n n' G → Siu G B B' → (∃ h,Hdu G B h) → ∃ G' M,Miu n1 n1' G' ∧ Gru E E' n n' G n1 n1' G' ∧ SiL G' M Ws Ws' ∧ M.Nodup ∧ ∀ m ∈ M,n < m ∧ m ≤ n1 ∧ G'.free m:=by
 refine snocRec (C:=fun P => (∀ x ∈ P,Gp E E' x.1 x.2) → ∀ {n n1 n' n1':Int} {B B':Way} {Ws Ws':List Way},BegA E (P.map Prod.fst) n B n1 Ws → BegA E' (P.flatMap fun x => within 5 x.2) n' B' n1' Ws' →
  ∀ G,Miu n n' G → Siu G B B' → (∃ h,Hdu G B h) → ∃ G' M,Miu n1 n1' G' ∧ Gru E E' n n' G n1 n1' G' ∧ SiL G' M Ws Ws' ∧ M.Nodup ∧ ∀ m ∈ M,n < m ∧ m ≤ n1 ∧ G'.free m) ?_ ?_ P
 ·intro hP n n1 n' n1' B B' Ws Ws' h h' G hI hS hH
  obtain ⟨rfl,rfl⟩:=BegA.none h
  obtain ⟨rfl,rfl⟩:=BegA.none h'
  exact ⟨G,[],hI,.refl _ _ _,.nil,List.nodup_nil,fun m hm => by cases hm⟩
 ·intro P x ih hP n n1 n' n1' B B' Ws Ws' h h' G hI hS hH
  rw [List.map_append,List.map_cons,List.map_nil] at h
  rw [List.flatMap_append,List.flatMap_cons,List.flatMap_nil,List.append_nil] at h'
  obtain ⟨m,Wa,V,rfl,h1,h2⟩:=h.last
  obtain ⟨m',Wa',Wb',rfl,h3,h4⟩:=begA_app' h'
  have hx:=hP x (by simp)
  obtain ⟨G1,M1,i1,g1,s1,hM1,hf1⟩:=ih (fun y hy => hP y (by simp [hy])) h1 h3 G hI hS hH
  have hS1:=g1.sim hI hS
  have hH1:∃ h,Hdu G1 B h:=by obtain ⟨h0,hh⟩:=hH;exact ⟨h0,hh.up g1.c g1.x⟩
  by_cases h5:x.2.kind = 5
  ·have e:within 5 x.2 = x.2.subs:=by unfold within;rw [if_pos h5]
   rw [e] at h4
   obtain ⟨G2,M2,i2,g2,s2,hM2,hf2⟩:=hx.al h5 h2 h4 G1 i1 hS1 hH1
   refine ⟨G2,M1 ++ (M2 ++ []),i2,g1.trans g2 i1,(g2.simL i1 s1).app ?_,?_,fun y hy => ?_⟩
   ·have:=SiL.flat s2 SiL.nil
    rw [List.append_nil Wb'] at this
    exact this
   ·rw [List.append_nil,List.nodup_append]
    exact ⟨hM1,hM2,fun a ha b hb e => by have:=(hf1 a ha).2.1;have:=(hf2 b hb).1;omega⟩
   ·rw [List.append_nil] at hy
    rcases List.mem_append.1 hy with hy | hy
    ·exact ⟨(hf1 y hy).1,by have:=(hf1 y hy).2.1;have:=g2.l1;omega,g2.fr y (hf1 y hy).2.1 (hf1 y hy).2.2⟩
    ·exact ⟨by have:=(hf2 y hy).1;have:=g1.l1;omega,(hf2 y hy).2⟩
  ·have e:within 5 x.2 = [x.2]:=by unfold within;rw [if_neg h5]
   rw [e] at h4
   obtain ⟨V',rfl,h4'⟩:=begA_one h4
   obtain ⟨G2,i2,g2,s2,_⟩:=hx.sb h2 h4' G1 i1 hS1 hH1
   refine ⟨G2,M1 ++ [],i2,g1.trans g2 i1,(g2.simL i1 s1).app (.cons s2 .nil),by rw [List.append_nil];exact hM1,fun y hy => ?_⟩
   rw [List.append_nil] at hy
   exact ⟨(hf1 y hy).1,by have:=(hf1 y hy).2.1;have:=g2.l1;omega,g2.fr y (hf1 y hy).2.1 (hf1 y hy).2.2⟩
theorem gp_quest {a u:Tn} (lz:Bool) (h:Gp E E' a u):Gp E E' (loopN a 0 1 lz) (loopT 0 1 lz u):=by
 refine ⟨.loop (.inl ⟨rfl,rfl⟩) h.nf,fun h1 h2 => ?_,fun hk => by simp [Tn.kind] at hk,fun hk => by simp [Tn.kind] at hk⟩
 obtain ⟨t,e,h1⟩:=Beg.rep h1
 simp only [List.cons.injEq,and_true] at e
 subst e
 obtain ⟨t,e,h2⟩:=Beg.rep h2
 simp only [List.cons.injEq,and_true] at e
 subst e
 rcases h1 with ⟨b,_,e,_⟩ | ⟨b,c,n2,_,e,_⟩ | ⟨c,m,k1,W1,e1,e2,hO,hT⟩
 ·exact absurd e (by decide)
 ·exact absurd e (by decide)
 rcases h2 with ⟨b,_,e,_⟩ | ⟨b,c,n2,_,e,_⟩ | ⟨c',m',k1',W1',e1',e2',hO',hT'⟩
 ·exact absurd e (by decide)
 ·exact absurd e (by decide)
 obtain rfl:c = 0:=by omega
 obtain rfl:c' = 0:=by omega
 obtain rfl:m = 1:=by omega
 obtain rfl:m' = 1:=by omega
 obtain ⟨rfl,rfl⟩:=hT.none
 obtain ⟨rfl,rfl⟩:=hT'.none
 obtain ⟨q1,q2,V1,V2,rfl,rfl,o1,o2⟩:=hO.next
 obtain ⟨q1',q2',V1',V2',rfl,rfl,o1',o2'⟩:=hO'.next
 obtain ⟨rfl,rfl⟩:=o1.none
 obtain ⟨rfl,rfl⟩:=o1'.none
 exact (h.sb o2 o2').two
theorem gp_star {a u:Tn} (lz:Bool) (h:Gp E E' a u):Gp E E' (loopN a 0 (-1) lz) (loopT 0 (-1) lz u):=by
 refine ⟨.loop (.inr (.inl ⟨rfl,rfl⟩)) h.nf,fun h1 h2 => ?_,fun hk => by simp [Tn.kind] at hk,fun hk => by simp [Tn.kind] at hk⟩
 obtain ⟨t,e,h1⟩:=Beg.rep h1
 simp only [List.cons.injEq,and_true] at e
 subst e
 obtain ⟨t,e,h2⟩:=Beg.rep h2
 simp only [List.cons.injEq,and_true] at e
 subst e
 rcases h1 with ⟨b,_,_,r1,rfl⟩ | ⟨b,c,n2,e,_⟩ | ⟨c,m,k1,W1,e1,e2,hO,hT⟩
 rotate_left
 ·omega
 ·omega
 rcases h2 with ⟨b',_,_,r2,rfl⟩ | ⟨b,c,n2,e,_⟩ | ⟨c',m',k1',W1',e1',e2',hO',hT'⟩
 rotate_left
 ·omega
 ·omega
 intro G hI hS hH
 obtain ⟨G1,i1,g1,_,s1,_,d1⟩:=(h.sb r1 r2).round G hI hS
 exact ⟨G1,i1,g1,s1,d1⟩
theorem gp_plus {a u:Tn} (lz:Bool) (h:Gp E E' a u):Gp E E' (loopN a 1 (-1) lz) (loopT 1 (-1) lz u):=by
 refine ⟨.loop (.inr (.inr ⟨rfl,rfl⟩)) h.nf,fun h1 h2 => ?_,fun hk => by simp [Tn.kind] at hk,fun hk => by simp [Tn.kind] at hk⟩
 obtain ⟨t,e,h1⟩:=Beg.rep h1
 simp only [List.cons.injEq,and_true] at e
 subst e
 obtain ⟨t,e,h2⟩:=Beg.rep h2
 simp only [List.cons.injEq,and_true] at e
 subst e
 rcases h1 with ⟨b,e,_⟩ | ⟨b,c,n2,e,_,r1,t1⟩ | ⟨c,m,k1,W1,e1,e2,hO,hT⟩
 ·exact absurd e (by decide)
 rotate_left
 ·omega
 rcases h2 with ⟨b',e,_⟩ | ⟨b',c',n2',e',_,r2,t2⟩ | ⟨c',m',k1',W1',e1',e2',hO',hT'⟩
 ·exact absurd e (by decide)
 rotate_left
 ·omega
 obtain rfl:c = 0:=by omega
 obtain rfl:c' = 0:=by omega
 obtain ⟨rfl,rfl⟩:=t1.none
 obtain ⟨rfl,rfl⟩:=t2.none
 intro G hI hS hH
 obtain ⟨G1,i1,g1,s1,_,d1,_⟩:=(h.sb r1 r2).round G hI hS
 exact ⟨G1,i1,g1,s1,d1⟩
theorem map_pair {α:Type} (f:α → Tn) (g:α → Tn) (l:List α):(l.map fun x => (f x,g x)).map Prod.fst = l.map f ∧ ((l.map fun x => (f x,g x)).flatMap fun x => jn x.2) = (l.map g).flatMap jn:=by
 constructor
 ·simp
 ·rw [List.flatMap_map,List.flatMap_map]
theorem gp_opt {x y:Tn} (lz:Bool) (h:Gp E E' x y):∀ k,Gp E E' (optN x lz k) (optT y lz (k + 1))
 | 0 => gp_quest lz h
 | k + 1 => by
  have ih:=gp_opt lz h k
  have e:joinT [(y,1),(optT y lz (k + 1),1)] = joinU ([(x,y),(optN x lz k,optT y lz (k + 1))].flatMap fun z => jn z.2):=by
   rw [← joinT_runs 1 h.nf ih.nf,joinT_jn]
   ·simp
   ·intro z hz
    simp at hz
    rcases hz with rfl | rfl
    ·exact h.nf
    ·exact ih.nf
  have hn:=nf_opt lz h.nf (k + 2)
  show Gp E E' (loopN (rowN [x,optN x lz k]) 0 1 lz) (loopT 0 1 lz (joinT [(y,1),(optT y lz (k + 1),1)]))
  refine gp_quest lz ?_
  have hn2:Nf (joinT [(y,1),(optT y lz (k + 1),1)]):=by
   have:Nf (loopT 0 1 lz (joinT [(y,1),(optT y lz (k + 1),1)])):=hn
   cases this with
   | loop _ hy => exact hy
  rw [e] at hn2 ⊢
  refine gp_join _ (by simp) (fun z hz => ?_) (fun hb => ?_) hn2
  ·simp at hz
   rcases hz with rfl | rfl
   ·exact h
   ·exact ih
  ·exact begC_row (by simp) hb
theorem gp_rep {x y o v:Tn} (c:Nat) (h:Gp E E' x y) (ho:Gp E E' o v) (hn:Nf (joinT [(y,c),(v,1)])):Gp E E' (rowN (List.replicate c x ++ [o])) (joinT [(y,c),(v,1)]):=by
 have e:joinT [(y,c),(v,1)] = joinU ((List.replicate c (x,y) ++ [(o,v)]).flatMap fun z => jn z.2):=by
  rw [← joinT_runs c h.nf ho.nf,joinT_jn]
  ·simp [List.flatMap_append,List.flatMap_replicate]
  ·intro z hz
   rcases List.mem_append.1 hz with hz | hz
   ·rw [List.eq_of_mem_replicate hz];exact h.nf
   ·simp at hz;rw [hz];exact ho.nf
 rw [e] at hn ⊢
 refine gp_join _ (by simp) (fun z hz => ?_) (fun hb => ?_) hn
 ·rcases List.mem_append.1 hz with hz | hz
  ·rw [List.eq_of_mem_replicate hz];exact h
  ·simp at hz;rw [hz];exact ho
 ·rw [List.map_append,List.map_replicate]
  exact begC_row (by simp) hb
theorem gp_reps {x y:Tn} (c:Nat) (h:Gp E E' x y) (hn:Nf (joinT [(y,c + 1),(emptyT,1)])):Gp E E' (rowN (List.replicate (c + 1) x)) (joinT [(y,c + 1),(emptyT,1)]):=by
 have e:joinT [(y,c + 1),(emptyT,1)] = joinU ((List.replicate (c + 1) (x,y)).flatMap fun z => jn z.2):=by
  rw [← joinT_runs (c + 1) h.nf nf_empty,joinT_jn]
  ·rw [List.flatMap_append,List.flatMap_replicate,List.flatMap_replicate]
   simp [jn,Tn.kind]
  ·intro z hz
   rcases List.mem_append.1 hz with hz | hz
   ·rw [List.eq_of_mem_replicate hz];exact h.nf
   ·simp at hz;rw [hz];exact nf_empty
 rw [e] at hn ⊢
 refine gp_join _ (by simp) (fun z hz => ?_) (fun hb => ?_) hn
 ·rw [List.eq_of_mem_replicate hz];exact h
 ·rw [List.map_replicate]
  exact begC_row (by simp) hb
theorem gp_empty {R:List (Int × Int)} {a:Int} {s:List Tn} {mn mx:Int} {lz:Bool} {ix:Int} {nm:ByteArray} {u:Tn} (hu:u.kind = 1) (hn:Nf u):Gp E E' (.mk 1 R a s mn mx lz ix nm) u:=by
 refine ⟨hn,fun h1 h2 => ?_,fun _ n n1 B W h1 => ?_,fun hk => absurd (hu.symm.trans hk) (by decide)⟩
 ·obtain ⟨k,R',a',s',mn',mx',lz',ix',nm'⟩:=u
  simp only [Tn.kind] at hu
  subst hu
  obtain ⟨rfl,rfl⟩:=h1.empties
  obtain ⟨rfl,rfl⟩:=h2.empties
  exact SMu.pair fun G hI hS _ => ⟨G,hI,.refl _ _ _,hS⟩
 ·obtain ⟨rfl,rfl⟩:=h1.empties
  exact .one
theorem spr0 (x:Tn) (lz:Bool):sprN x 0 (-1) lz = loopN x 0 (-1) lz:=by simp [sprN]
theorem rep0 (y:Tn) (lz:Bool):repT y 0 (-1) lz = loopT 0 (-1) lz y:=by simp [repT]
theorem sprP (x:Tn) (c:Nat) (lz:Bool):sprN x ((c:Int) + 1) (-1) lz = rowN (List.replicate c x ++ [loopN x 1 (-1) lz]):=by
 unfold sprN
 rw [if_pos (by omega)]
 cases c with
 | zero => simp [rowN]
 | succ c => rw [if_neg (by omega),show (((c + 1:Nat):Int) + 1 - 1).toNat = c + 1 by omega]
theorem repP (y:Tn) (c:Nat) (lz:Bool):repT y ((c:Int) + 1) (-1) lz = joinT [(y,c),(loopT 1 (-1) lz y,1)]:=by
 unfold repT
 rw [if_neg (by simp),if_neg (by omega),show ((c:Int) + 1 - 1).toNat = c by omega]
theorem repB (y:Tn) (c k:Nat) (lz:Bool):repT y (c:Int) ((c:Int) + (k:Int)) lz = joinT [(y,c),(optT y lz k,1)]:=by
 unfold repT
 rw [if_pos (by omega),show ((c:Int) + (k:Int) - (c:Int)).toNat = k by omega,show ((c:Int)).toNat = c by omega]
theorem sprB0 (x:Tn) (c:Nat) (lz:Bool):sprN x (c:Int) (c:Int) lz = rowN (List.replicate c x):=by
 unfold sprN
 rw [if_neg (by omega),if_neg (by omega),List.append_nil,show ((c:Int)).toNat = c by omega]
theorem sprB (x:Tn) (c k:Nat) (lz:Bool):sprN x (c:Int) ((c:Int) + ((k:Int) + 1)) lz = rowN (List.replicate c x ++ [optN x lz k]):=by
 unfold sprN
 rw [if_neg (by omega),if_pos (by omega),show ((c:Int)).toNat = c by omega,show ((c:Int) + ((k:Int) + 1) - (c:Int) - 1).toNat = k by omega]
theorem rowS_ones5 (l:List Tn):rowS 5 (ones l) = l.flatMap (within 5):=by
 simp [rowS,ones,List.flatMap_map]
mutual
theorem gp_S:∀ t:Tn,t.fine = true → Gp E E' t.spread t.S
 | .mk k R a s mn mx lz ix nm,hf0 => by
  have hN:=nf_S _ hf0
  have hf:=hf0
  simp only [Tn.fine,Bool.and_eq_true] at hf
  have hF:=fine_nodeZ hf.1
  have ih:=gp_SL s hf.2
  rcases hF.kind with rfl | rfl | rfl | rfl | rfl | rfl | rfl
  ·have e:(Tn.mk 1 R a s mn mx lz ix nm).spread = .mk 1 R a (spreadL s) mn mx lz ix nm:=by simp [Tn.spread]
   rw [e]
   exact gp_empty (by simp [Tn.S,Tn.kind]) hN
  ·have e:(Tn.mk 2 R a s mn mx lz ix nm).spread = .mk 2 R a (spreadL s) mn mx lz ix nm:=by simp [Tn.spread]
   have e':(Tn.mk 2 R a s mn mx lz ix nm).S = .mk 2 R a [] mn mx lz ix nm:=by simp [Tn.S]
   rw [e'] at hN
   rw [e,e']
   refine ⟨hN,fun h1 h2 => ?_,fun hk => by simp [Tn.kind] at hk,fun hk => by simp [Tn.kind] at hk⟩
   obtain ⟨rfl,rfl⟩:=h1.classes
   obtain ⟨rfl,rfl⟩:=h2.classes
   exact SMu.pair fun G hI hS _ => ⟨G,hI,.refl _ _ _,.runeOf hS⟩
  ·have e:(Tn.mk 3 R a s mn mx lz ix nm).spread = .mk 3 R a (spreadL s) mn mx lz ix nm:=by simp [Tn.spread]
   have e':(Tn.mk 3 R a s mn mx lz ix nm).S = .mk 3 R a [] mn mx lz ix nm:=by simp [Tn.S]
   rw [e'] at hN
   rw [e,e']
   refine ⟨hN,fun h1 h2 => ?_,fun hk => by simp [Tn.kind] at hk,fun hk => by simp [Tn.kind] at hk⟩
   obtain ⟨rfl,rfl⟩:=h1.asserts
   obtain ⟨rfl,rfl⟩:=h2.asserts
   exact SMu.pair fun G hI hS _ => ⟨G,hI,.refl _ _ _,.ifHolds hS⟩
  ·have e:(Tn.mk 4 R a s mn mx lz ix nm).spread = .mk 4 R a (spreadL s) mn mx lz ix nm:=by simp [Tn.spread]
   obtain ⟨m1,m2⟩:=map_pair Tn.spread Tn.S s
   have e':(Tn.mk 4 R a s mn mx lz ix nm).S = joinU ((s.map fun x => (x.spread,x.S)).flatMap fun x => jn x.2):=by
    rw [m2,← SL_map,← joinT_jn (nf_SL s hf.2)]
    simp [Tn.S]
   rw [e'] at hN
   rw [e,e']
   refine gp_join _ ?_ (fun z hz => ?_) (fun hb => ?_) hN
   ·have:=hF.two (.inl rfl)
    intro h
    rw [List.map_eq_nil_iff] at h
    rw [h] at this
    simp at this
   ·obtain ⟨t,ht,rfl⟩:=List.mem_map.1 hz
    exact ih t ht
   ·rw [m1,← spreadL_map]
    exact hb.cats
  ·have e:(Tn.mk 5 R a s mn mx lz ix nm).spread = .mk 5 R a (spreadL s) mn mx lz ix nm:=by simp [Tn.spread]
   obtain ⟨m1,_⟩:=map_pair Tn.spread Tn.S s
   have e':(Tn.mk 5 R a s mn mx lz ix nm).S = zN 5 ((s.map fun x => (x.spread,x.S)).flatMap fun x => within 5 x.2):=by
    have:(Tn.mk 5 R a s mn mx lz ix nm).S = zN 5 (rowS 5 (ones (SL s))):=by simp [Tn.S]
    rw [this,rowS_ones5,SL_map,List.flatMap_map,List.flatMap_map]
   rw [e'] at hN
   rw [e,e']
   have hP:∀ z ∈ (s.map fun x => (x.spread,x.S)),Gp E E' z.1 z.2:=fun z hz => by
    obtain ⟨t,ht,rfl⟩:=List.mem_map.1 hz
    exact ih t ht
   refine ⟨hN,fun h1 h2 => ?_,fun hk => by simp [Tn.kind] at hk,fun _ n n1 n' n1' B W B' Ws' h1 h2 => ?_⟩
   ·obtain ⟨q,Ws,rfl,rfl,r1⟩:=h1.alts
    obtain ⟨q',Ws',rfl,rfl,r2⟩:=h2.alts
    rw [spreadL_map,← m1] at r1
    exact SMu.alts (sa _ hP r1 r2)
   ·obtain ⟨q,Ws,rfl,rfl,r1⟩:=h1.alts
    rw [spreadL_map,← m1] at r1
    intro G hI hS hH
    obtain ⟨G1,M,i1,g1,s1,hM,hfr⟩:=sa _ hP r1 h2 G hI hS hH
    refine ⟨G1,(q + 1) :: M,i1.wide (by omega) (Int.le_refl _),g1.trans (.wide _ _ _ (by omega) (Int.le_refl _)) i1,.alt s1,List.nodup_cons.2 ⟨fun hm => by have:=(hfr _ hm).2.1;omega,hM⟩,fun m hm => ?_⟩
    rcases List.mem_cons.1 hm with rfl | hm
    ·exact ⟨by have:=g1.l1;omega,Int.le_refl _,i1.new (by omega)⟩
    ·exact ⟨(hfr m hm).1,by have:=(hfr m hm).2.1;omega,(hfr m hm).2.2⟩
  ·obtain ⟨q1,q2,q3,q4⟩:=hF.rep rfl
   obtain ⟨t,rfl⟩:∃ t,s = [t]:=List.length_eq_one_iff.1 q1
   have h:=ih t (by simp)
   have e:(Tn.mk 6 R a [t] mn mx lz ix nm).spread = sprN t.spread mn mx lz:=by simp [Tn.spread,spreadL]
   have e':(Tn.mk 6 R a [t] mn mx lz ix nm).S = repT t.S mn mx lz:=by simp [Tn.S,SL]
   rw [e'] at hN
   rw [e,e']
   obtain ⟨c,rfl⟩:=Int.eq_ofNat_of_zero_le q2
   rcases q4 with rfl | ⟨q4,_⟩
   ·cases c with
    | zero =>
     show Gp E E' (sprN t.spread 0 (-1) lz) (repT t.S 0 (-1) lz)
     rw [spr0,rep0]
     exact gp_star lz h
    | succ c =>
     have e1:=sprP t.spread c lz
     have e2:=repP t.S c lz
     rw [show ((c + 1:Nat):Int) = (c:Int) + 1 by omega] at hN ⊢
     rw [e2] at hN
     rw [e1,e2]
     exact gp_rep _ h (gp_plus lz h) hN
   ·obtain ⟨k,rfl⟩:∃ k:Nat,mx = (c:Int) + (k:Int):=⟨(mx - c).toNat,by omega⟩
    have e2:=repB t.S c k lz
    rw [e2] at hN
    rw [e2]
    cases k with
    | zero =>
     have e1:=sprB0 t.spread c lz
     rw [show (c:Int) + ((0:Nat):Int) = (c:Int) by omega,e1]
     cases c with
     | zero => exact gp_empty (by simp [optT,joinT,List.filter,keep,joinK,timesOf,Tn.kind]) hN
     | succ c => exact gp_reps c h hN
    | succ k =>
     have e1:=sprB t.spread c k lz
     rw [show (c:Int) + ((k + 1:Nat):Int) = (c:Int) + ((k:Int) + 1) by omega,e1]
     exact gp_rep _ h (gp_opt lz h k) hN
  ·obtain ⟨q1,q2,q3⟩:=hF.grp rfl
   obtain ⟨t,rfl⟩:∃ t,s = [t]:=List.length_eq_one_iff.1 q1
   have h:=ih t (by simp)
   have e:(Tn.mk 7 R a [t] mn mx lz ix nm).spread = .mk 7 R a [t.spread] mn mx lz ix nm:=by simp [Tn.spread,spreadL]
   have e':(Tn.mk 7 R a [t] mn mx lz ix nm).S = .mk 7 [] 0 [t.S] 0 0 false ix nm:=by simp [Tn.S,SL]
   rw [e'] at hN
   rw [e,e']
   refine ⟨hN,fun h1 h2 => ?_,fun hk => by simp [Tn.kind] at hk,fun hk => by simp [Tn.kind] at hk⟩
   obtain ⟨u,i,m1,W1,e1,e2,rfl,rfl,r1⟩:=h1.group
   obtain ⟨u',i',m1',W1',e1',e2',rfl,rfl,r1'⟩:=h2.group
   simp only [List.cons.injEq,and_true] at e1 e1'
   subst e1 e1'
   obtain rfl:i = i':=by omega
   refine SMu.pair fun G hI hS ⟨h0,hH⟩ => ?_
   obtain ⟨G1,i1,g1,s1,_⟩:=h.sb r1 r1' G hI (.noted hS) ⟨h0,.noted hH⟩
   exact ⟨G1,i1,g1,.noted s1⟩
theorem gp_SL:∀ ts:List Tn,fineL ts = true → ∀ t ∈ ts,Gp E E' t.spread t.S
 | [],_,t,ht => by cases ht
 | u :: ts,hf,t,ht => by
  simp only [fineL,Bool.and_eq_true] at hf
  rcases List.mem_cons.1 ht with h | ht
  ·rw [h];exact gp_S u hf.1
  ·exact gp_SL ts hf.2 t ht
end
end
theorem PS.simp_eq {t:Tn} {K:Nat} {tx:List Int} {p:Nat} {l m:List (Int × List Int)} (hf:t.fine = true) (h:PS t.spread K tx p l) (h':PS t.S K tx p m):l = m:=by
 obtain ⟨E,W,n1,s1,hB,hE,hg,hx,rfl⟩:=h.ex
 obtain ⟨E',W',n1',s1',hB',hE',hg',hx',rfl⟩:=h'.ex
 obtain ⟨G0,hG0⟩:∃ G0:Mau,G0 = ⟨fun a a' => a = 1 ∧ a' = 1,fun _ _ => False,fun _ _ => False,fun _ => .through,fun _ _ => False⟩:=⟨_,rfl⟩
 have i0:Miu 1 1 G0:=by
  rw [hG0]
  exact ⟨fun a a' h => by simp at h;omega,fun _ _ h => h.elim,fun _ _ h => h.elim,fun a a' m m' h1 h2 => by simp at h1 h2;omega,fun _ _ _ h => h.elim,fun _ _ _ h => h.elim,fun _ _ _ h => h.elim,fun _ _ _ h => h.elim,fun _ _ _ h => h.elim⟩
 obtain ⟨G,hI,hgr,hS,h0,hH⟩:=(gp_S (E:=E) (E':=E') t hf).sb hB hB' G0 i0 (by rw [hG0];exact .once ⟨rfl,rfl⟩ .through) ⟨1,by rw [hG0];exact .once (n':=1) ⟨rfl,rfl⟩⟩
 have hok:G.Ok E E':=by
  refine ⟨hI.one,hI.noC,hI.oneX,hI.yC,hI.yX,hI.oneY,fun b b' hb => ?_⟩
  rcases hgr.new b b' hb with hb | hb
  ·rw [hG0] at hb;exact hb.elim
  ·exact hb
 obtain ⟨s2,hx2,hA,_⟩:=(siu_ex (E':=E') hok hx).one W' ⟨[],(List.replicate K (-1)).set 0 (p:Int),[]⟩ NoP hS ⟨fun a a' q _ => by simp,fun m n0 q _ hm => by simp at hm,fun m n0 q _ hm => by simp at hm,rfl,rfl⟩ (Peu.no _ _)
 have e:=hx'.det hx2
 subst e
 exact hA.pr
theorem Nf.spread_eq {t:Tn} (h:Nf t):t.spread = t:=by
 have key:∀ s:List Tn,(∀ u ∈ s,u.spread = u) → spreadL s = s:=fun s hs => by
  rw [spreadL_map]
  conv => rhs;rw [← List.map_id s]
  exact List.map_congr_left fun u hu => hs u hu
 induction h with
 | @leaf k R a mn mx lz ix nm hk hn => rcases hk with rfl | rfl | rfl <;> simp [Tn.spread,spreadL]
 | cat _ _ _ ih => simp [Tn.spread,key _ ih]
 | alt _ _ _ ih => simp [Tn.spread,key _ ih]
 | @loop mn mx lz y h hy ih =>
  have e:(loopT mn mx lz y).spread = sprN y.spread mn mx lz:=by simp [Tn.spread,spreadL]
  rw [e,ih]
  rcases h with ⟨rfl,rfl⟩ | ⟨rfl,rfl⟩ | ⟨rfl,rfl⟩
  ·simp [sprN,rowN,optN,loopN]
  ·simp [sprN,loopN]
  ·simp [sprN,loopN]
 | grp _ _ ih => simp [Tn.spread,spreadL,ih]
theorem next65c (m ad:Nat) (z1:Option Addr) (n c:Nat) (w:World) (h:w.cell? ⟨m,0,none⟩ = some (.slice z1 n c)):Calls Tryz.prog 137 #[pt m] w fun e w' => e = .returned (.int .i64 (n:Int)) ∧ w' = w:=by
 go_enter Tryz.func137,Tryz.ntmps137
 go_wp2
 all_goals go_ret
 all_goals exact ⟨rfl,rfl⟩
theorem rowAt_own {w:World} {base n:Nat} {ad:Option Addr} {c:Nat} {R:List (Int × Int)} (h:w.ownsRow base 70 2 (.slice ad n c) R.length (O2 R)) (hn:n = R.length):RowAt w.heap.size w (.slice ad n c) R:=by
 subst hn
 refine ⟨ad,c,rfl,?_⟩
 rcases h.2 with ⟨_,h0⟩ | ⟨b,cap,cur,e,_⟩
 ·exact .inl h0
 ·right
  simp only [Value.slice.injEq] at e
  have hb:=(h.lt b (by rw [e.1];rfl)).2
  rw [e.1] at h
  refine ⟨b,0,e.1,hb,fun k hk => ?_,fun k hk => ?_⟩
  ·rw [Nat.zero_add,h.cellAt (k * 2) (by omega),(O2_at R k hk).1]
   simp [List.getD_eq_getElem?_getD,List.getElem?_eq_getElem hk]
  ·rw [Nat.zero_add,h.cellAt (k * 2 + 1) (by omega),(O2_at R k hk).2]
   simp [List.getD_eq_getElem?_getD,List.getElem?_eq_getElem hk]
theorem RowAt.src {w:World} {B:Nat} {ad:Option Addr} {n c:Nat} {R:List (Int × Int)} (h:RowAt B w (.slice ad n c) R) (hp:0 < n) (hn:n = R.length):∃ b f,ad = some ⟨b,f,none⟩ ∧ ∀ j u,(O2 R)[j]? = some u → w.cell? ⟨b,f + j,none⟩ = some u:=by
 obtain ⟨ad',cap,e,h1⟩:=h
 simp only [Value.slice.injEq] at e
 obtain ⟨rfl,_,rfl⟩:=e
 rcases h1 with h0 | ⟨b,off,rfl,_,h2,h3⟩
 ·omega
 ·refine ⟨b,off,rfl,fun j u hj => ?_⟩
  have hjl:j < (O2 R).length:=(List.getElem?_eq_some_iff.1 hj).1
  rw [O2_len] at hjl
  have hk:j / 2 < R.length:=by omega
  obtain ⟨o1,o2⟩:=O2_at R (j / 2) hk
  have g:R.getD (j / 2) (0,0) = R[j / 2]:=by simp [List.getD_eq_getElem?_getD,List.getElem?_eq_getElem hk]
  rcases Nat.mod_two_eq_zero_or_one j with h0 | h0
  ·have e:j = j / 2 * 2:=by omega
   rw [e] at hj ⊢
   rw [o1] at hj
   rw [h2 (j / 2) hk,g]
   exact hj
  ·have e:j = j / 2 * 2 + 1:=by omega
   rw [e] at hj ⊢
   rw [o2] at hj
   rw [← Nat.add_assoc,h3 (j / 2) hk,g]
   exact hj
abbrev Z5:Value:=.agg #[.int .i64 0,.int .i64 0,.int .i64 0,.int .i64 0,.slice none 0 0]
abbrev BxM (w:World) (m:Nat) (z1:Option Addr) (n c:Nat):Prop:=w.heap[m]? = some (.cells #[.slice z1 n c] 93 (0,0))
set_option maxRecDepth 100000 in
set_option maxHeartbeats 4000000 in
theorem add42 {w:World} {m:Nat} {z1:Option Addr} {n c base:Nat} {xs:List Value} (N:Iv) (hm:BxM w m z1 n c) (hrow:w.ownsRow base 86 5 (.slice z1 n c) n xs) (hn:n ≤ 20000) (hb:base ≤ w.heap.size) :
  Calls Tryz.prog 95 #[pt m,N.v] w fun e w' => e = .returned (.tuple #[]) ∧ ∃ z1' c',BxM w' m z1' (n + 1) c' ∧ w'.ownsRow base 86 5 (.slice z1' (n + 1) c') (n + 1) (xs ++ Iv.cs N) ∧ (∀ b,(Value.slice z1' (n + 1) c').ownBlock = some b → (Value.slice z1 n c).ownBlock = some b ∨ w.heap.size ≤ b) ∧ Chs (fun b => b = m ∨ (Value.slice z1 n c).ownBlock = some b) w w':=by
 obtain ⟨i2,hi2,hz20,hz21,hz22⟩:=info_parts info51
 obtain ⟨op,xx,yy,aa,r1,r2,r3⟩:=N
 have hml:m < w.heap.size:=(Array.getElem?_eq_some_iff.1 hm).1
 have hmz:(Value.slice z1 n c).ownBlock ≠ some m:=own_ne hrow hm (by decide)
 obtain ⟨U,hU⟩:∃ U,U = w.alloc (.cells #[.int .i64 op,.int .i64 xx,.int .i64 yy,.int .i64 aa,.slice r1 r2 r3] 86):=⟨_,rfl⟩
 have hbU:Below w.heap.size w U:=by rw [hU];exact Joins.below_alloc1 w _
 have hQ:U.heap[w.heap.size]? = some (.cells #[.int .i64 op,.int .i64 xx,.int .i64 yy,.int .i64 aa,.slice r1 r2 r3] 86 (0,0)):=by rw [hU];exact heap_alloc_new w _
 have hmU:U.heap[m]? = some (.cells #[.slice z1 n c] 93 (0,0)):=(hbU.block m hml).trans hm
 have hsU:w.heap.size < U.heap.size:=(Array.getElem?_eq_some_iff.1 hQ).1
 have hmlU:m < U.heap.size:=by omega
 obtain ⟨d0,d1,d2,d3,d4⟩:=five hQ
 have p0:U.cell? ⟨m,0,none⟩ = some (.slice z1 n c):=Joins.cell_of_block hmU 0
 have HRU:Hid (U.ownsRow base 86 5 (.slice z1 n c) n xs):=row_kept hrow (fun b hb' => hbU.block b (hrow.lt b hb').2)
 have HO6:Hid ((U.drew.alloc (.cells #[.int .i64 op,.int .i64 xx,.int .i64 yy,.int .i64 aa,.slice r1 r2 r3] 86)).ownsRow base 86 5 (.slice z1 n c) n xs):=(HRU.out.drew).alloc _
 have HBU:=hid hbU
 have HMU:=hid hmU
 have HROW:=hid hrow
 obtain ⟨p,hp⟩:∃ p,p = w.heap.size:=⟨_,rfl⟩
 clear hbU hQ hmU hm hrow
 go_enter Tryz.func95,Tryz.ntmps95
 go_upto_region 1 with fail
 rw [← hU,← hp]
 rw [← hp] at d0 d1 d2 d3 d4
 have HPE:=hid hp
 have hpU:p < U.heap.size:=by omega
 clear hU hp
 refine wp_region_lex 6 10 (fun W => W.cell? ⟨m,0,none⟩ = some (.slice z1 n c) ∧ W.cell? ⟨p,0,none⟩ = some (.int .i64 op) ∧ W.cell? ⟨p,1,none⟩ = some (.int .i64 xx) ∧ W.cell? ⟨p,2,none⟩ = some (.int .i64 yy) ∧ W.cell? ⟨p,3,none⟩ = some (.int .i64 aa) ∧ W.cell? ⟨p,4,none⟩ = some (.slice r1 r2 r3)) (by kernel_rfl) (by kernel_rfl) (by decide) (by kernel_rfl) (by kernel_rfl) ⟨by simpa using p0,by simpa using d0,by simpa using d1,by simpa using d2,by simpa using d3,by simpa using d4⟩ ?_
 simp only [List.take_succ_cons,List.take_zero,List.drop_succ_cons,List.drop_zero]
 iterate 6
  refine lex_cons ?_ rfl (fun W hW => ?_) (fun _ _ _ h => h) ?_
  rotate_left
  ·obtain ⟨s0,s1,s2,s3,s4,s5⟩:=hW
   go_simp <;> with_reducible rfl
  simp only [Act.put,List.setIfInBounds_toArray,List.set_cons_zero,List.set_cons_succ]
 refine lex_nil (tail_cons fun K hK => ?_)
 go_simp
 refine hK.out _ _ (fun _ => ⟨by simp [p0,hmlU,World.cell?_alloc_lt],by simp [d0,hpU,World.cell?_alloc_lt],by simp [d1,hpU,World.cell?_alloc_lt],by simp [d2,hpU,World.cell?_alloc_lt],by simp [d3,hpU,World.cell?_alloc_lt],by simp [d4,hpU,World.cell?_alloc_lt]⟩) (tail_cons fun K hK => ?_)
 refine step_append_row rfl (.tmp 8) (.tmp 10) 44 rfl base 86 i2 Z5 5 56 Tryz.underlying44 hi2 hz20 hz21 hz22 rfl (by decide) (.slice z1 n c) n xs (by simp [Act.eval,Act.put]) (by exact HO6.out) U.heap.size 1 1 #[.int .i64 op,.int .i64 xx,.int .i64 yy,.int .i64 aa,.slice r1 r2 r3] 86 (by simp [Act.eval,Act.put]) (by exact heap_alloc_new U.drew _) rfl (by decide) (by simp [Value.oneCell']) (by unfold maxLen;omega) (by omega) (by (try simp) <;> omega) ?_
 intro v3 w3 ho3 hf3
 obtain ⟨y1,y3,rfl,_⟩:=row_shape ho3.out
 have hz3:U.heap.size + 1 ≤ w3.heap.size:=(by have:=hf3.out.size;simpa using this)
 have hpz:(Value.slice z1 n c).ownBlock ≠ some p:=fun e => by have:=(HROW.out.lt p e).2;have:=HPE.out;omega
 have e1:w3.heap[m]? = U.heap[m]?:=(hf3.out.block m (by (try simp) <;> omega) hmz).trans (heap_alloc_old _ _ (by (try simp) <;> omega))
 have e2:w3.heap[p]? = U.heap[p]?:=(hf3.out.block p (by (try simp) <;> omega) hpz).trans (heap_alloc_old _ _ (by (try simp) <;> omega))
 have q0:=(cell_eq e1 0).trans p0
 have q1:=(frz_eq e1 0).trans (Joins.unfrozen_of_block HMU.out 0)
 have E1:=hid e1
 have t0:=(cell_eq e2 0).trans d0
 have t1:=(cell_eq e2 1).trans d1
 have t2:=(cell_eq e2 2).trans d2
 have t3:=(cell_eq e2 3).trans d3
 have t4:=(cell_eq e2 4).trans d4
 clear e1 e2
 refine hK.out _ _ (fun _ => ⟨q0,t0,t1,t2,t3,t4⟩) (tail_cons fun K hK => ?_)
 simp only [Act.put,List.setIfInBounds_toArray,List.set_cons_zero,List.set_cons_succ]
 go_simp
 refine hK.out _ _ (fun _ => ⟨q0,t0,t1,t2,t3,t4⟩) (tail_cons fun K hK => ?_)
 simp only [Act.put,List.setIfInBounds_toArray,List.set_cons_zero,List.set_cons_succ]
 go_simp
 refine hK.out _ _ (fun _ => ⟨q0,t0,t1,t2,t3,t4⟩) (tail_cons fun K hK => ?_)
 simp only [Act.put,List.setIfInBounds_toArray,List.set_cons_zero,List.set_cons_succ]
 go_simp
 refine hK.out _ _ (fun h => absurd rfl h) (tail_nil ?_)
 go_wp2_with fail
 go_end0
 have hy1:∀ b,(Value.slice y1 (n + 1) y3).ownBlock = some b → (Value.slice z1 n c).ownBlock = some b ∨ U.heap.size ≤ b:=fun b hb => (hf3.out.own b hb).imp id (fun h => by (try simp at h) <;> omega)
 have hmy:(Value.slice y1 (n + 1) y3).ownBlock ≠ some m:=fun e => by
  rcases hy1 m e with h | h
  ·exact hmz h
  ·omega
 refine ⟨rfl,y1,y3,?_,own_setCell ho3.out hmy,fun b hb => (hy1 b hb).imp id (fun h => by omega),⟨?_,?_,?_,?_,fun b hb hn' => ?_⟩⟩
 ·exact Joins.block_setCell (i:=0) (E1.out.trans HMU.out) _
 ·exact hf3.out.os.trans HBU.out.os
 ·exact hf3.out.tape.trans HBU.out.tape
 ·exact hf3.out.output.trans HBU.out.output
 ·simp [World.setCell];omega
 ·exact (Below.heap_setCell _ _ _ _ (fun e => hn' (.inl e))).trans ((hf3.out.block b (by (try simp) <;> omega) (fun h => hn' (.inr h))).trans ((heap_alloc_old _ _ (by (try simp) <;> omega)).trans (HBU.out.block b hb)))
end Go.Proofs.YtacaanhnlfpbhaaGreat
