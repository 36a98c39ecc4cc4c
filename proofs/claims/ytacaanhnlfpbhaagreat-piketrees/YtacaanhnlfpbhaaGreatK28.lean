/- HELPERS: texts of ours put together. -/
import Derived.Test.YtacaanhnlfpbhaaGreatK22
import Derived.Test.YtacaanhnlfpbhaaGreatK09
import Derived.Test.YtacaanhnlfpbhaaGreatK11
import Derived.Test.YtacaanhnlfpbhaaGreatK12
import Derived.Test.YtacaanhnlfpbhaaGreatK21
import Derived.Test.YtacaanhnlfpbhaaGreatK02
import Derived.Deep.Onto
import Derived.Test.YtacaanhnlfpbhaaGreatK01
import Derived.Laws.Rows
import Derived.Deep.RegionHeld2
namespace Go.Proofs.YtacaanhnlfpbhaaGreat
open Go.RowKit
set_option linter.unusedVariables false
set_option linter.unusedSimpArgs false
section
variable {E E':Nat→Way} {n n1 n2 n' n1' n2':Int} {B W V B' W' V':Way}
theorem SiL.app {G:Mau} {M N:List Int} {l l' k k':List Way} (h:SiL G M l l') (h':SiL G N k k'):SiL G (M ++ N) (l ++ k) (l' ++ k'):=by
 induction l generalizing M l' with
 | nil =>
  cases h
  exact h'
 | cons d l ih =>
  cases h with
  | cons h t=>exact .cons h (ih t)
  | flat h t =>
   rw [List.append_assoc,List.append_assoc]
   exact .flat h (ih t)
theorem snocRec {α:Type} {C:List α→Prop} (h0:C []) (h1:∀ l x,C l→C (l ++ [x])):∀ l,C l:=fun l=>by
 rw [← List.reverse_reverse l]
 induction l.reverse with
 | nil=>exact h0
 | cons x m ih=>rw [List.reverse_cons];exact h1 _ _ ih
theorem sa (P:List (Tn × Tn)):(∀ x ∈ P,Gp E E' x.1 x.2)→∀ {n n1 n' n1':Int} {B B':Way} {Ws Ws':List Way},BegA E (P.map Prod.fst) n B n1 Ws→BegA E' (P.flatMap fun x=>within 5 x.2) n' B' n1' Ws' →
  ∀ G,Miu n n' G→Siu G B B'→(∃ h,Hdu G B h)→∃ G' M,Miu n1 n1' G'∧Gru E E' n n' G n1 n1' G'∧SiL G' M Ws Ws'∧M.Nodup∧∀ m ∈ M,n < m∧m≤n1∧G'.free m:=by
 refine snocRec (C:=fun P=>(∀ x ∈ P,Gp E E' x.1 x.2)→∀ {n n1 n' n1':Int} {B B':Way} {Ws Ws':List Way},BegA E (P.map Prod.fst) n B n1 Ws→BegA E' (P.flatMap fun x=>within 5 x.2) n' B' n1' Ws' →
  ∀ G,Miu n n' G→Siu G B B'→(∃ h,Hdu G B h)→∃ G' M,Miu n1 n1' G'∧Gru E E' n n' G n1 n1' G'∧SiL G' M Ws Ws'∧M.Nodup∧∀ m ∈ M,n < m∧m≤n1∧G'.free m) ?_ ?_ P
 ·intro hP n n1 n' n1' B B' Ws Ws' h h' G hI hS hH
  obtain ⟨rfl,rfl⟩:=BegA.none h
  obtain ⟨rfl,rfl⟩:=BegA.none h'
  exact ⟨G,[],hI,.refl _ _ _,.nil,List.nodup_nil,fun m hm=>by cases hm⟩
 ·intro P x ih hP n n1 n' n1' B B' Ws Ws' h h' G hI hS hH
  rw [List.map_append,List.map_cons,List.map_nil] at h
  rw [List.flatMap_append,List.flatMap_cons,List.flatMap_nil,List.append_nil] at h'
  obtain ⟨m,Wa,V,rfl,h1,h2⟩:=h.last
  obtain ⟨m',Wa',Wb',rfl,h3,h4⟩:=begA_app' h'
  have hx:=hP x (by simp)
  obtain ⟨G1,M1,i1,g1,s1,hM1,hf1⟩:=ih (fun y hy=>hP y (by simp [hy])) h1 h3 G hI hS hH
  have hS1:=g1.sim hI hS
  have hH1:∃ h,Hdu G1 B h:=by obtain ⟨h0,hh⟩:=hH;exact ⟨h0,hh.up g1.c g1.x⟩
  by_cases h5:x.2.kind=5
  ·have e:within 5 x.2=x.2.subs:=by unfold within;rw [if_pos h5]
   rw [e] at h4
   obtain ⟨G2,M2,i2,g2,s2,hM2,hf2⟩:=hx.al h5 h2 h4 G1 i1 hS1 hH1
   refine ⟨G2,M1 ++ (M2 ++ []),i2,g1.trans g2 i1,(g2.simL i1 s1).app ?_,?_,fun y hy=>?_⟩
   ·have:=SiL.flat s2 SiL.nil
    rw [List.append_nil Wb'] at this
    exact this
   ·rw [List.append_nil,List.nodup_append]
    exact ⟨hM1,hM2,fun a ha b hb e=>by have:=(hf1 a ha).2.1;have:=(hf2 b hb).1;omega⟩
   ·rw [List.append_nil] at hy
    rcases List.mem_append.1 hy with hy | hy
    ·exact ⟨(hf1 y hy).1,by have:=(hf1 y hy).2.1;have:=g2.l1;omega,g2.fr y (hf1 y hy).2.1 (hf1 y hy).2.2⟩
    ·exact ⟨by have:=(hf2 y hy).1;have:=g1.l1;omega,(hf2 y hy).2⟩
  ·have e:within 5 x.2=[x.2]:=by unfold within;rw [if_neg h5]
   rw [e] at h4
   obtain ⟨V',rfl,h4'⟩:=begA_one h4
   obtain ⟨G2,i2,g2,s2,_⟩:=hx.sb h2 h4' G1 i1 hS1 hH1
   refine ⟨G2,M1 ++ [],i2,g1.trans g2 i1,(g2.simL i1 s1).app (.cons s2 .nil),by rw [List.append_nil];exact hM1,fun y hy=>?_⟩
   rw [List.append_nil] at hy
   exact ⟨(hf1 y hy).1,by have:=(hf1 y hy).2.1;have:=g2.l1;omega,g2.fr y (hf1 y hy).2.1 (hf1 y hy).2.2⟩
theorem gp_quest {a u:Tn} (lz:Bool) (h:Gp E E' a u):Gp E E' (loopN a 0 1 lz) (loopT 0 1 lz u):=by
 refine ⟨.loop (.inl ⟨rfl,rfl⟩) h.nf,fun h1 h2=>?_,fun hk=>by simp [Tn.kind] at hk,fun hk=>by simp [Tn.kind] at hk⟩
 obtain ⟨t,e,h1⟩:=Beg.rep h1
 simp only [List.cons.injEq,and_true] at e
 subst e
 obtain ⟨t,e,h2⟩:=Beg.rep h2
 simp only [List.cons.injEq,and_true] at e
 subst e
 rcases h1 with ⟨b,_,e,_⟩ | ⟨b,c,n2,_,e,_⟩ | ⟨c,m,k1,W1,e1,e2,hO,hT⟩
 ·exact absurd e (by decide)
 ·exact absurd e (by decide)
 rcases h2 with ⟨b,_,e,_⟩ | ⟨b,c,n2,_,e,_⟩ | ⟨c',m',k1',W1',e1',e2',hO',hT'⟩
 ·exact absurd e (by decide)
 ·exact absurd e (by decide)
 obtain rfl:c=0:=by omega
 obtain rfl:c'=0:=by omega
 obtain rfl:m=1:=by omega
 obtain rfl:m'=1:=by omega
 obtain ⟨rfl,rfl⟩:=hT.none
 obtain ⟨rfl,rfl⟩:=hT'.none
 obtain ⟨q1,q2,V1,V2,rfl,rfl,o1,o2⟩:=hO.next
 obtain ⟨q1',q2',V1',V2',rfl,rfl,o1',o2'⟩:=hO'.next
 obtain ⟨rfl,rfl⟩:=o1.none
 obtain ⟨rfl,rfl⟩:=o1'.none
 exact (h.sb o2 o2').two
theorem gp_star {a u:Tn} (lz:Bool) (h:Gp E E' a u):Gp E E' (loopN a 0 (-1) lz) (loopT 0 (-1) lz u):=by
 refine ⟨.loop (.inr (.inl ⟨rfl,rfl⟩)) h.nf,fun h1 h2=>?_,fun hk=>by simp [Tn.kind] at hk,fun hk=>by simp [Tn.kind] at hk⟩
 obtain ⟨t,e,h1⟩:=Beg.rep h1
 simp only [List.cons.injEq,and_true] at e
 subst e
 obtain ⟨t,e,h2⟩:=Beg.rep h2
 simp only [List.cons.injEq,and_true] at e
 subst e
 rcases h1 with ⟨b,_,_,r1,rfl⟩ | ⟨b,c,n2,e,_⟩ | ⟨c,m,k1,W1,e1,e2,hO,hT⟩
 rotate_left
 ·omega
 ·omega
 rcases h2 with ⟨b',_,_,r2,rfl⟩ | ⟨b,c,n2,e,_⟩ | ⟨c',m',k1',W1',e1',e2',hO',hT'⟩
 rotate_left
 ·omega
 ·omega
 intro G hI hS hH
 obtain ⟨G1,i1,g1,_,s1,_,d1⟩:=(h.sb r1 r2).round G hI hS
 exact ⟨G1,i1,g1,s1,d1⟩
theorem gp_plus {a u:Tn} (lz:Bool) (h:Gp E E' a u):Gp E E' (loopN a 1 (-1) lz) (loopT 1 (-1) lz u):=by
 refine ⟨.loop (.inr (.inr ⟨rfl,rfl⟩)) h.nf,fun h1 h2=>?_,fun hk=>by simp [Tn.kind] at hk,fun hk=>by simp [Tn.kind] at hk⟩
 obtain ⟨t,e,h1⟩:=Beg.rep h1
 simp only [List.cons.injEq,and_true] at e
 subst e
 obtain ⟨t,e,h2⟩:=Beg.rep h2
 simp only [List.cons.injEq,and_true] at e
 subst e
 rcases h1 with ⟨b,e,_⟩ | ⟨b,c,n2,e,_,r1,t1⟩ | ⟨c,m,k1,W1,e1,e2,hO,hT⟩
 ·exact absurd e (by decide)
 rotate_left
 ·omega
 rcases h2 with ⟨b',e,_⟩ | ⟨b',c',n2',e',_,r2,t2⟩ | ⟨c',m',k1',W1',e1',e2',hO',hT'⟩
 ·exact absurd e (by decide)
 rotate_left
 ·omega
 obtain rfl:c=0:=by omega
 obtain rfl:c'=0:=by omega
 obtain ⟨rfl,rfl⟩:=t1.none
 obtain ⟨rfl,rfl⟩:=t2.none
 intro G hI hS hH
 obtain ⟨G1,i1,g1,s1,_,d1,_⟩:=(h.sb r1 r2).round G hI hS
 exact ⟨G1,i1,g1,s1,d1⟩
theorem map_pair {α:Type} (f:α→Tn) (g:α→Tn) (l:List α):(l.map fun x=>(f x,g x)).map Prod.fst=l.map f∧((l.map fun x=>(f x,g x)).flatMap fun x=>jn x.2)=(l.map g).flatMap jn:=by
 constructor
 ·simp
 ·rw [List.flatMap_map,List.flatMap_map]
theorem gp_opt {x y:Tn} (lz:Bool) (h:Gp E E' x y):∀ k,Gp E E' (optN x lz k) (optT y lz (k + 1))
 | 0=>gp_quest lz h
 | k + 1=>by
  have ih:=gp_opt lz h k
  have e:joinT [(y,1),(optT y lz (k + 1),1)]=joinU ([(x,y),(optN x lz k,optT y lz (k + 1))].flatMap fun z=>jn z.2):=by
   rw [← joinT_runs 1 h.nf ih.nf,joinT_jn]
   ·simp
   ·intro z hz
    simp at hz
    rcases hz with rfl | rfl
    ·exact h.nf
    ·exact ih.nf
  have hn:=nf_opt lz h.nf (k + 2)
  show Gp E E' (loopN (rowN [x,optN x lz k]) 0 1 lz) (loopT 0 1 lz (joinT [(y,1),(optT y lz (k + 1),1)]))
  refine gp_quest lz ?_
  have hn2:Nf (joinT [(y,1),(optT y lz (k + 1),1)]):=by
   have:Nf (loopT 0 1 lz (joinT [(y,1),(optT y lz (k + 1),1)])):=hn
   cases this with
   | loop _ hy=>exact hy
  rw [e] at hn2 ⊢
  refine gp_join _ (by simp) (fun z hz=>?_) (fun hb=>?_) hn2
  ·simp at hz
   rcases hz with rfl | rfl
   ·exact h
   ·exact ih
  ·exact begC_row (by simp) hb
theorem gp_rep {x y o v:Tn} (c:Nat) (h:Gp E E' x y) (ho:Gp E E' o v) (hn:Nf (joinT [(y,c),(v,1)])):Gp E E' (rowN (List.replicate c x ++ [o])) (joinT [(y,c),(v,1)]):=by
 have e:joinT [(y,c),(v,1)]=joinU ((List.replicate c (x,y) ++ [(o,v)]).flatMap fun z=>jn z.2):=by
  rw [← joinT_runs c h.nf ho.nf,joinT_jn]
  ·simp [List.flatMap_append,List.flatMap_replicate]
  ·intro z hz
   rcases List.mem_append.1 hz with hz | hz
   ·rw [List.eq_of_mem_replicate hz];exact h.nf
   ·simp at hz;rw [hz];exact ho.nf
 rw [e] at hn ⊢
 refine gp_join _ (by simp) (fun z hz=>?_) (fun hb=>?_) hn
 ·rcases List.mem_append.1 hz with hz | hz
  ·rw [List.eq_of_mem_replicate hz];exact h
  ·simp at hz;rw [hz];exact ho
 ·rw [List.map_append,List.map_replicate]
  exact begC_row (by simp) hb
theorem gp_reps {x y:Tn} (c:Nat) (h:Gp E E' x y) (hn:Nf (joinT [(y,c + 1),(emptyT,1)])):Gp E E' (rowN (List.replicate (c + 1) x)) (joinT [(y,c + 1),(emptyT,1)]):=by
 have e:joinT [(y,c + 1),(emptyT,1)]=joinU ((List.replicate (c + 1) (x,y)).flatMap fun z=>jn z.2):=by
  rw [← joinT_runs (c + 1) h.nf nf_empty,joinT_jn]
  ·rw [List.flatMap_append,List.flatMap_replicate,List.flatMap_replicate]
   simp [jn,Tn.kind]
  ·intro z hz
   rcases List.mem_append.1 hz with hz | hz
   ·rw [List.eq_of_mem_replicate hz];exact h.nf
   ·simp at hz;rw [hz];exact nf_empty
 rw [e] at hn ⊢
 refine gp_join _ (by simp) (fun z hz=>?_) (fun hb=>?_) hn
 ·rw [List.eq_of_mem_replicate hz];exact h
 ·rw [List.map_replicate]
  exact begC_row (by simp) hb
theorem gp_empty {R:List (Int × Int)} {a:Int} {s:List Tn} {mn mx:Int} {lz:Bool} {ix:Int} {nm:ByteArray} {u:Tn} (hu:u.kind=1) (hn:Nf u):Gp E E' (.mk 1 R a s mn mx lz ix nm) u:=by
 refine ⟨hn,fun h1 h2=>?_,fun _ n n1 B W h1=>?_,fun hk=>absurd (hu.symm.trans hk) (by decide)⟩
 ·obtain ⟨k,R',a',s',mn',mx',lz',ix',nm'⟩:=u
  simp only [Tn.kind] at hu
  subst hu
  obtain ⟨rfl,rfl⟩:=h1.empties
  obtain ⟨rfl,rfl⟩:=h2.empties
  exact SMu.pair fun G hI hS _=>⟨G,hI,.refl _ _ _,hS⟩
 ·obtain ⟨rfl,rfl⟩:=h1.empties
  exact .one
theorem spr0 (x:Tn) (lz:Bool):sprN x 0 (-1) lz=loopN x 0 (-1) lz:=by simp [sprN]
theorem rep0 (y:Tn) (lz:Bool):repT y 0 (-1) lz=loopT 0 (-1) lz y:=by simp [repT]
theorem sprP (x:Tn) (c:Nat) (lz:Bool):sprN x ((c:Int) + 1) (-1) lz=rowN (List.replicate c x ++ [loopN x 1 (-1) lz]):=by
 unfold sprN
 rw [if_pos (by omega)]
 cases c with
 | zero=>simp [rowN]
 | succ c=>rw [if_neg (by omega),show (((c + 1:Nat):Int) + 1 - 1).toNat=c + 1 by omega]
theorem repP (y:Tn) (c:Nat) (lz:Bool):repT y ((c:Int) + 1) (-1) lz=joinT [(y,c),(loopT 1 (-1) lz y,1)]:=by
 unfold repT
 rw [if_neg (by simp),if_neg (by omega),show ((c:Int) + 1 - 1).toNat=c by omega]
theorem repB (y:Tn) (c k:Nat) (lz:Bool):repT y (c:Int) ((c:Int) + (k:Int)) lz=joinT [(y,c),(optT y lz k,1)]:=by
 unfold repT
 rw [if_pos (by omega),show ((c:Int) + (k:Int) - (c:Int)).toNat=k by omega,show ((c:Int)).toNat=c by omega]
theorem sprB0 (x:Tn) (c:Nat) (lz:Bool):sprN x (c:Int) (c:Int) lz=rowN (List.replicate c x):=by
 unfold sprN
 rw [if_neg (by omega),if_neg (by omega),List.append_nil,show ((c:Int)).toNat=c by omega]
theorem sprB (x:Tn) (c k:Nat) (lz:Bool):sprN x (c:Int) ((c:Int) + ((k:Int) + 1)) lz=rowN (List.replicate c x ++ [optN x lz k]):=by
 unfold sprN
 rw [if_neg (by omega),if_pos (by omega),show ((c:Int)).toNat=c by omega,show ((c:Int) + ((k:Int) + 1) - (c:Int) - 1).toNat=k by omega]
theorem rowS_ones5 (l:List Tn):rowS 5 (ones l)=l.flatMap (within 5):=by
 simp [rowS,ones,List.flatMap_map]
mutual
theorem gp_S:∀ t:Tn,t.fine=true→Gp E E' t.spread t.S
 | .mk k R a s mn mx lz ix nm,hf0=>by
  have hN:=nf_S _ hf0
  have hf:=hf0
  simp only [Tn.fine,Bool.and_eq_true] at hf
  have hF:=fine_nodeZ hf.1
  have ih:=gp_SL s hf.2
  rcases hF.kind with rfl | rfl | rfl | rfl | rfl | rfl | rfl
  ·have e:(Tn.mk 1 R a s mn mx lz ix nm).spread=.mk 1 R a (spreadL s) mn mx lz ix nm:=by simp [Tn.spread]
   rw [e]
   exact gp_empty (by simp [Tn.S,Tn.kind]) hN
  ·have e:(Tn.mk 2 R a s mn mx lz ix nm).spread=.mk 2 R a (spreadL s) mn mx lz ix nm:=by simp [Tn.spread]
   have e':(Tn.mk 2 R a s mn mx lz ix nm).S=.mk 2 R a [] mn mx lz ix nm:=by simp [Tn.S]
   rw [e'] at hN
   rw [e,e']
   refine ⟨hN,fun h1 h2=>?_,fun hk=>by simp [Tn.kind] at hk,fun hk=>by simp [Tn.kind] at hk⟩
   obtain ⟨rfl,rfl⟩:=h1.classes
   obtain ⟨rfl,rfl⟩:=h2.classes
   exact SMu.pair fun G hI hS _=>⟨G,hI,.refl _ _ _,.runeOf hS⟩
  ·have e:(Tn.mk 3 R a s mn mx lz ix nm).spread=.mk 3 R a (spreadL s) mn mx lz ix nm:=by simp [Tn.spread]
   have e':(Tn.mk 3 R a s mn mx lz ix nm).S=.mk 3 R a [] mn mx lz ix nm:=by simp [Tn.S]
   rw [e'] at hN
   rw [e,e']
   refine ⟨hN,fun h1 h2=>?_,fun hk=>by simp [Tn.kind] at hk,fun hk=>by simp [Tn.kind] at hk⟩
   obtain ⟨rfl,rfl⟩:=h1.asserts
   obtain ⟨rfl,rfl⟩:=h2.asserts
   exact SMu.pair fun G hI hS _=>⟨G,hI,.refl _ _ _,.ifHolds hS⟩
  ·have e:(Tn.mk 4 R a s mn mx lz ix nm).spread=.mk 4 R a (spreadL s) mn mx lz ix nm:=by simp [Tn.spread]
   obtain ⟨m1,m2⟩:=map_pair Tn.spread Tn.S s
   have e':(Tn.mk 4 R a s mn mx lz ix nm).S=joinU ((s.map fun x=>(x.spread,x.S)).flatMap fun x=>jn x.2):=by
    rw [m2,← SL_map,← joinT_jn (nf_SL s hf.2)]
    simp [Tn.S]
   rw [e'] at hN
   rw [e,e']
   refine gp_join _ ?_ (fun z hz=>?_) (fun hb=>?_) hN
   ·have:=hF.two (.inl rfl)
    intro h
    rw [List.map_eq_nil_iff] at h
    rw [h] at this
    simp at this
   ·obtain ⟨t,ht,rfl⟩:=List.mem_map.1 hz
    exact ih t ht
   ·rw [m1,← spreadL_map]
    exact hb.cats
  ·have e:(Tn.mk 5 R a s mn mx lz ix nm).spread=.mk 5 R a (spreadL s) mn mx lz ix nm:=by simp [Tn.spread]
   obtain ⟨m1,_⟩:=map_pair Tn.spread Tn.S s
   have e':(Tn.mk 5 R a s mn mx lz ix nm).S=zN 5 ((s.map fun x=>(x.spread,x.S)).flatMap fun x=>within 5 x.2):=by
    have:(Tn.mk 5 R a s mn mx lz ix nm).S=zN 5 (rowS 5 (ones (SL s))):=by simp [Tn.S]
    rw [this,rowS_ones5,SL_map,List.flatMap_map,List.flatMap_map]
   rw [e'] at hN
   rw [e,e']
   have hP:∀ z ∈ (s.map fun x=>(x.spread,x.S)),Gp E E' z.1 z.2:=fun z hz=>by
    obtain ⟨t,ht,rfl⟩:=List.mem_map.1 hz
    exact ih t ht
   refine ⟨hN,fun h1 h2=>?_,fun hk=>by simp [Tn.kind] at hk,fun _ n n1 n' n1' B W B' Ws' h1 h2=>?_⟩
   ·obtain ⟨q,Ws,rfl,rfl,r1⟩:=h1.alts
    obtain ⟨q',Ws',rfl,rfl,r2⟩:=h2.alts
    rw [spreadL_map,← m1] at r1
    exact SMu.alts (sa _ hP r1 r2)
   ·obtain ⟨q,Ws,rfl,rfl,r1⟩:=h1.alts
    rw [spreadL_map,← m1] at r1
    intro G hI hS hH
    obtain ⟨G1,M,i1,g1,s1,hM,hfr⟩:=sa _ hP r1 h2 G hI hS hH
    refine ⟨G1,(q + 1) :: M,i1.wide (by omega) (Int.le_refl _),g1.trans (.wide _ _ _ (by omega) (Int.le_refl _)) i1,.alt s1,List.nodup_cons.2 ⟨fun hm=>by have:=(hfr _ hm).2.1;omega,hM⟩,fun m hm=>?_⟩
    rcases List.mem_cons.1 hm with rfl | hm
    ·exact ⟨by have:=g1.l1;omega,Int.le_refl _,i1.new (by omega)⟩
    ·exact ⟨(hfr m hm).1,by have:=(hfr m hm).2.1;omega,(hfr m hm).2.2⟩
  ·obtain ⟨q1,q2,q3,q4⟩:=hF.rep rfl
   obtain ⟨t,rfl⟩:∃ t,s=[t]:=List.length_eq_one_iff.1 q1
   have h:=ih t (by simp)
   have e:(Tn.mk 6 R a [t] mn mx lz ix nm).spread=sprN t.spread mn mx lz:=by simp [Tn.spread,spreadL]
   have e':(Tn.mk 6 R a [t] mn mx lz ix nm).S=repT t.S mn mx lz:=by simp [Tn.S,SL]
   rw [e'] at hN
   rw [e,e']
   obtain ⟨c,rfl⟩:=Int.eq_ofNat_of_zero_le q2
   rcases q4 with rfl | ⟨q4,_⟩
   ·cases c with
    | zero =>
     show Gp E E' (sprN t.spread 0 (-1) lz) (repT t.S 0 (-1) lz)
     rw [spr0,rep0]
     exact gp_star lz h
    | succ c =>
     have e1:=sprP t.spread c lz
     have e2:=repP t.S c lz
     rw [show ((c + 1:Nat):Int)=(c:Int) + 1 by omega] at hN ⊢
     rw [e2] at hN
     rw [e1,e2]
     exact gp_rep _ h (gp_plus lz h) hN
   ·obtain ⟨k,rfl⟩:∃ k:Nat,mx=(c:Int) + (k:Int):=⟨(mx - c).toNat,by omega⟩
    have e2:=repB t.S c k lz
    rw [e2] at hN
    rw [e2]
    cases k with
    | zero =>
     have e1:=sprB0 t.spread c lz
     rw [show (c:Int) + ((0:Nat):Int)=(c:Int) by omega,e1]
     cases c with
     | zero=>exact gp_empty (by simp [optT,joinT,List.filter,keep,joinK,timesOf,Tn.kind]) hN
     | succ c=>exact gp_reps c h hN
    | succ k =>
     have e1:=sprB t.spread c k lz
     rw [show (c:Int) + ((k + 1:Nat):Int)=(c:Int) + ((k:Int) + 1) by omega,e1]
     exact gp_rep _ h (gp_opt lz h k) hN
  ·obtain ⟨q1,q2,q3⟩:=hF.grp rfl
   obtain ⟨t,rfl⟩:∃ t,s=[t]:=List.length_eq_one_iff.1 q1
   have h:=ih t (by simp)
   have e:(Tn.mk 7 R a [t] mn mx lz ix nm).spread=.mk 7 R a [t.spread] mn mx lz ix nm:=by simp [Tn.spread,spreadL]
   have e':(Tn.mk 7 R a [t] mn mx lz ix nm).S=.mk 7 [] 0 [t.S] 0 0 false ix nm:=by simp [Tn.S,SL]
   rw [e'] at hN
   rw [e,e']
   refine ⟨hN,fun h1 h2=>?_,fun hk=>by simp [Tn.kind] at hk,fun hk=>by simp [Tn.kind] at hk⟩
   obtain ⟨u,i,m1,W1,e1,e2,rfl,rfl,r1⟩:=h1.group
   obtain ⟨u',i',m1',W1',e1',e2',rfl,rfl,r1'⟩:=h2.group
   simp only [List.cons.injEq,and_true] at e1 e1'
   subst e1 e1'
   obtain rfl:i=i':=by omega
   refine SMu.pair fun G hI hS ⟨h0,hH⟩=>?_
   obtain ⟨G1,i1,g1,s1,_⟩:=h.sb r1 r1' G hI (.noted hS) ⟨h0,.noted hH⟩
   exact ⟨G1,i1,g1,.noted s1⟩
theorem gp_SL:∀ ts:List Tn,fineL ts=true→∀ t ∈ ts,Gp E E' t.spread t.S
 | [],_,t,ht=>by cases ht
 | u :: ts,hf,t,ht=>by
  simp only [fineL,Bool.and_eq_true] at hf
  rcases List.mem_cons.1 ht with h | ht
  ·rw [h];exact gp_S u hf.1
  ·exact gp_SL ts hf.2 t ht
end
end
theorem PS.simp_eq {t:Tn} {K:Nat} {tx:List Int} {p:Nat} {l m:List (Int × List Int)} (hf:t.fine=true) (h:PS t.spread K tx p l) (h':PS t.S K tx p m):l=m:=by
 obtain ⟨E,W,n1,s1,hB,hE,hg,hx,rfl⟩:=h.ex
 obtain ⟨E',W',n1',s1',hB',hE',hg',hx',rfl⟩:=h'.ex
 obtain ⟨G0,hG0⟩:∃ G0:Mau,G0=⟨fun a a'=>a=1∧a'=1,fun _ _=>False,fun _ _=>False,fun _=>.through,fun _ _=>False⟩:=⟨_,rfl⟩
 have i0:Miu 1 1 G0:=by
  rw [hG0]
  exact ⟨fun a a' h=>by simp at h;omega,fun _ _ h=>h.elim,fun _ _ h=>h.elim,fun a a' m m' h1 h2=>by simp at h1 h2;omega,fun _ _ _ h=>h.elim,fun _ _ _ h=>h.elim,fun _ _ _ h=>h.elim,fun _ _ _ h=>h.elim,fun _ _ _ h=>h.elim⟩
 obtain ⟨G,hI,hgr,hS,h0,hH⟩:=(gp_S (E:=E) (E':=E') t hf).sb hB hB' G0 i0 (by rw [hG0];exact .once ⟨rfl,rfl⟩ .through) ⟨1,by rw [hG0];exact .once (n':=1) ⟨rfl,rfl⟩⟩
 have hok:G.Ok E E':=by
  refine ⟨hI.one,hI.noC,hI.oneX,hI.yC,hI.yX,hI.oneY,fun b b' hb=>?_⟩
  rcases hgr.new b b' hb with hb | hb
  ·rw [hG0] at hb;exact hb.elim
  ·exact hb
 obtain ⟨s2,hx2,hA,_⟩:=(siu_ex (E':=E') hok hx).one W' ⟨[],(List.replicate K (-1)).set 0 (p:Int),[]⟩ NoP hS ⟨fun a a' q _=>by simp,fun m n0 q _ hm=>by simp at hm,fun m n0 q _ hm=>by simp at hm,rfl,rfl⟩ (Peu.no _ _)
 have e:=hx'.det hx2
 subst e
 exact hA.pr
theorem Nf.spread_eq {t:Tn} (h:Nf t):t.spread=t:=by
 have key:∀ s:List Tn,(∀ u ∈ s,u.spread=u)→spreadL s=s:=fun s hs=>by
  rw [spreadL_map]
  conv=>rhs;rw [← List.map_id s]
  exact List.map_congr_left fun u hu=>hs u hu
 induction h with
 | @leaf k R a mn mx lz ix nm hk hn=>rcases hk with rfl | rfl | rfl <;> simp [Tn.spread,spreadL]
 | cat _ _ _ ih=>simp [Tn.spread,key _ ih]
 | alt _ _ _ ih=>simp [Tn.spread,key _ ih]
 | @loop mn mx lz y h hy ih =>
  have e:(loopT mn mx lz y).spread=sprN y.spread mn mx lz:=by simp [Tn.spread,spreadL]
  rw [e,ih]
  rcases h with ⟨rfl,rfl⟩ | ⟨rfl,rfl⟩ | ⟨rfl,rfl⟩
  ·simp [sprN,rowN,optN,loopN]
  ·simp [sprN,loopN]
  ·simp [sprN,loopN]
 | grp _ _ ih=>simp [Tn.spread,spreadL,ih]
abbrev Iv.rv (N:Iv):Value:=.slice N.r1 N.r2 N.r3
theorem rowAt_own {w:World} {base n:Nat} {ad:Option Addr} {c:Nat} {R:List (Int × Int)} (h:w.ownsRow base 70 2 (.slice ad n c) R.length (O2 R)) (hn:n=R.length):RowAt w.heap.size w (.slice ad n c) R:=by
 subst hn
 refine ⟨ad,c,rfl,?_⟩
 rcases h.2 with ⟨_,h0⟩ | ⟨b,cap,cur,e,_⟩
 ·exact .inl h0
 ·right
  simp only [Value.slice.injEq] at e
  have hb:=(h.lt b (by rw [e.1];rfl)).2
  rw [e.1] at h
  refine ⟨b,0,e.1,hb,fun k hk=>?_,fun k hk=>?_⟩
  ·rw [Nat.zero_add,h.cellAt (k * 2) (by omega),(O2_at R k hk).1]
   simp [List.getD_eq_getElem?_getD,List.getElem?_eq_getElem hk]
  ·rw [Nat.zero_add,h.cellAt (k * 2 + 1) (by omega),(O2_at R k hk).2]
   simp [List.getD_eq_getElem?_getD,List.getElem?_eq_getElem hk]
abbrev Z5:Value:=.agg #[.int .i64 0,.int .i64 0,.int .i64 0,.int .i64 0,.slice none 0 0]
theorem results_cell_tmp {P:Program} {fn:Func} {p u:Tmp} {ty:TypeId} (h:fn.results=#[.cell p ty,.tmp u]) (tmps:Array Value) (w:World) (g:Nat) (t:TypeId) (cs:Array Value) (fr:Nat × Nat) (d:TypeDesc)
  (hp:tmps.getD p undef=.pointer (some ⟨g,0,none⟩)) (hg:w.heap[g]?=some (.cells cs t fr))
  (hu:P.underlying ty=some d) (hd:(match d with | .struct _ | .array _ _=>true | _=>false)=true) (hi:(P.info? ty).map (·.size)=some cs.size) :
  (results fn tmps).run P w=.ok (.tuple #[.agg cs,tmps.getD u undef]) w:=by
 have hp':tmps[p]?.getD undef=.pointer (some ⟨g,0,none⟩):=by simpa using hp
 simp [results,h,hp',asAddr,run_loadVar_row w g t ty cs fr d hg hu hd hi]
end Go.Proofs.YtacaanhnlfpbhaaGreat
namespace Go.Proofs.YtacaanhnlfpbhaaGreat
open Go.RowKit Go.Lk
set_option linter.unusedVariables false
set_option linter.unusedSimpArgs false
theorem Eqw.alloc {w w':World} (h:Eqw w w') (o:Obj):Eqw (w.alloc o) (w'.alloc o):=⟨by show w'.heap.push o=w.heap.push o;rw [h.heap],h.os,h.tape,h.output⟩
theorem FD.kept {w w':World} {N K:Nat} {M:Mv} {fb:List Nat} {fd:Fd} (h:FD w N K M fb fd) (hk:∀ k ∈ fb,w'.heap[k]?=w.heap[k]?):FD w' N K M fb fd:=by
 cases fd with
 | none=>exact h
 | some y =>
  obtain ⟨g,h1,h2,h3,h4,h5,h6,h7⟩:=h
  exact ⟨g,h1,h2,h3,h4,h5,h6,row_kept h7 (fun k hk'=>hk k (by simp [Value.ownBlock] at hk';subst hk';simp [h6]))⟩
theorem FD.low {w:World} {N K:Nat} {M:Mv} {fb:List Nat} {fd:Fd} (h:FD w N K M fb fd):∀ k ∈ fb,N≤k∧k < w.heap.size:=by
 cases fd with
 | none=>obtain ⟨_,_,_,_,_,h⟩:=h;rw [h];simp
 | some y =>
  obtain ⟨g,h1,h2,h3,h4,h5,h6,h7⟩:=h
  rw [h6]
  intro k hk
  simp at hk
  subst hk
  exact h7.lt _ rfl
theorem FD.ok {w:World} {N K:Nat} {M:Mv} {fb:List Nat} {fd:Fd} (h:FD w N K M fb fd):M.fok=fd.isSome:=by
 cases fd with
 | none=>exact h.1
 | some y=>obtain ⟨g,h1,_⟩:=h;exact h1
section
variable {w w':World} {N b:Nat} {l:List In} {tx:List Int} {M:Mv} {s:Vst} {E:List En} {sF fb:List Nat}
end
theorem ri_row {nb c N:Nat} {W:World} (h:RI nb c c W) (hN:N≤nb) (hc:c≤10000):W.ownsRow N 3 1 (.slice (some ⟨nb,0,none⟩) c c) c (I64 (List.replicate c (-1))):=by
 obtain ⟨arr,h1,h2,h3⟩:=h
 refine ⟨by simp,.inr ⟨nb,c,arr,rfl,hN,h1,Nat.le_refl _,by unfold maxLen;omega,by omega,?_⟩⟩
 apply List.ext_getElem?
 intro k
 by_cases hk:k < c
 ·rw [List.getElem?_take_of_lt (by omega)]
  have:=h3 k hk
  simp only [I64,List.map_replicate,List.getElem?_replicate,hk,if_true]
  simpa using this
 ·rw [List.getElem?_eq_none (by simp;omega),List.getElem?_eq_none (by simp;omega)]
def KW (U W:World):Prop:=Below U.heap.size U W
theorem kw0 (U:World):KW U U:=Below.refl _ _
theorem kw_drew {U W:World} (h:KW U W):KW U W.drew:=Below.trans h ((Eqw.drew W).below _)
theorem kw_alloc {U W:World} {o:Obj} (h:KW U W):KW U (W.alloc o):=Below.trans h (Joins.below_le (Joins.below_alloc1 W o) h.size)
theorem kw_next {U W W':World} (h:KW U W) (h2:Below W.heap.size W W'):KW U W':=Below.trans h (Joins.below_le h2 h.size)
def FR (K:Nat) (r:Fd × Nat) (w:World) (e:Ending) (w':World):Prop:=Below w.heap.size w w'∧match r.1 with
 | none=>e=.returned (.tuple #[.agg #[.bool false,.slice none 0 0,.int .i64 0,.int .i64 (r.2:Int)],.int .i64 0])
 | some y=>∃ g,e=.returned (.tuple #[.agg #[.bool true,.slice (some ⟨g,0,none⟩) K K,.int .i64 y.1,.int .i64 (r.2:Int)],.int .i64 0])∧w'.ownsRow w.heap.size 3 1 (.slice (some ⟨g,0,none⟩) K K) K (I64 y.2)
def FE (c:Int) (w:World) (e:Ending) (w':World):Prop:=Below w.heap.size w w'∧e=.returned (.tuple #[.agg #[.bool false,.slice none 0 0,.int .i64 0,.int .i64 0],.int .i64 c])
def errR (l:List In) (s k:Int) (n:Nat) (a:Int):Int:=if 4194304 < n then 2 else if mayB l s k=false then 90 else if a < 0∨(n:Int) < a then 1 else 0
def BitA (l:List In) (tx:List Int) (s k a:Int) (anch:Bool) (r:Fd) (m':List Pt):Prop:=Da (act l tx) [] (bgs (prOf l tx s.toNat k.toNat) a.toNat anch none (tx.length + 1 - a.toNat) a.toNat) m' r
theorem errR_ok {l:List In} {s k:Int} {n:Nat} {a:Int} (h:errR l s k n a=0):n≤4194304∧mayB l s k=true∧0≤a∧a≤n:=by
 unfold errR at h
 split at h
 ·cases h
 ·split at h
  ·cases h
  ·split at h
   ·cases h
   ·rename_i h1 h2 h3
    exact ⟨by omega,by simpa using h2,by omega,by omega⟩
theorem bit_ex {l:List In} {tx:List Int} {s k a:Int} (anch:Bool) (h:errR l s k tx.length a=0):∃ r m',BitA l tx s k a anch r m'∧(lockRun (prOf l tx s.toNat k.toNat) tx.length a.toNat anch).1=r:=by
 obtain ⟨h1,h2,h3,h4⟩:=errR_ok h
 have hmo:=may_ok h2
 obtain ⟨S,rfl⟩:=Int.eq_ofNat_of_zero_le hmo.2.1
 obtain ⟨K,rfl⟩:=Int.eq_ofNat_of_zero_le (show 0≤k by omega)
 have hP:=pr_ok (tx:=tx) h2
 have hl:∀ i x,(prOf l tx S K).A tx.length i≠.rune x:=fun i x=>act_end l tx i x
 obtain ⟨m',r,hd⟩:=da_total (a:=a.toNat) hP hl (bgs (prOf l tx S K) a.toNat anch none (tx.length + 1 - a.toNat) a.toNat) [] (fun t ht=>by
  obtain ⟨g1,g2,g3,g4⟩:=bgs_from _ _ _ _ _ _ t ht
  exact ⟨by rw [g1];exact hP.S,g2,by omega,by rw [g4];simp⟩) (OkP.nil _ _ _)
 refine ⟨r,m',hd,?_⟩
 refine lock_da hP hl (by omega) (m':=m') ?_
 rw [show tx.length - a.toNat + 1=tx.length + 1 - a.toNat by omega]
 exact hd
abbrev L4:List In:=[⟨3,1,0,0,[]⟩,⟨1,2,0,0,[(97,97)]⟩,⟨3,3,0,1,[]⟩,⟨5,0,0,0,[]⟩]
abbrev F4 (q1:Option Addr) (q3:Nat):List Value:=[.int .i64 3,.int .i64 1,.int .i64 0,.int .i64 0,.slice none 0 0,.int .i64 1,.int .i64 2,.int .i64 0,.int .i64 0,.slice q1 1 q3,.int .i64 3,.int .i64 3,.int .i64 0,.int .i64 1,.slice none 0 0,.int .i64 5,.int .i64 0,.int .i64 0,.int .i64 0,.slice none 0 0]
abbrev N4 (q1:Option Addr) (q3:Nat):List Iv:=[⟨3,1,0,0,none,0,0⟩,⟨1,2,0,0,q1,1,q3⟩,⟨3,3,0,1,none,0,0⟩,⟨5,0,0,0,none,0,0⟩]
theorem pi4 {w:World} {base:Nat} {z1 q1:Option Addr} {c q3:Nat} (h:w.ownsRow base 86 5 (.slice z1 4 c) 4 (F4 q1 q3)) (hq:RowAt w.heap.size w (.slice q1 1 q3) [(97,97)]):PI w w.heap.size z1 4 L4:=by
 refine ⟨rfl,fun _=>?_⟩
 rcases h.2 with ⟨_,h0⟩ | ⟨b,cap,cur,e,_⟩
 ·omega
 ·simp only [Value.slice.injEq] at e
  have hb:=(h.lt b (by rw [e.1];rfl)).2
  rw [e.1] at h
  have hF:F4 q1 q3=(N4 q1 q3).flatMap Iv.cs:=by simp [F4,N4]
  refine ⟨b,0,fun i=>(N4 q1 q3).getD i default,e.1,hb,fun i hi=>⟨?_,?_⟩⟩
  ·have hi4:i < (N4 q1 q3).length:=by simpa using hi
   have f:∀ k,k < 5→w.cell? ⟨b,i * 5 + k,none⟩=(Iv.cs (N4 q1 q3)[i])[k]?:=fun k hk=>by
    rw [h.cellAt (i * 5 + k) (by simp at hi;omega),hF,flat5 (N4 q1 q3) i k hi4 hk]
   have f0:=f 0 (by omega)
   rw [Nat.add_zero] at f0
   show I5 w b 0 i ((N4 q1 q3).getD i default)
   rw [show (N4 q1 q3).getD i default=(N4 q1 q3)[i] by simp only [List.getD_eq_getElem?_getD,List.getElem?_eq_getElem hi4,Option.getD_some]]
   unfold I5
   rw [Nat.zero_add]
   exact ⟨f0,f 1 (by omega),f 2 (by omega),f 3 (by omega),f 4 (by omega)⟩
  ·have nil:∀ a b c d:Int,IM w w.heap.size ⟨a,b,c,d,none,0,0⟩ ⟨a,b,c,d,[]⟩:=fun a b c d=>⟨rfl,rfl,rfl,rfl,rfl,by show 0 * 16≤_;omega,⟨none,0,rfl,.inl rfl⟩⟩
   match i,hi with
   | 0,_=>exact nil _ _ _ _
   | 1,_=>exact ⟨rfl,rfl,rfl,rfl,rfl,by show 1 * 16≤_;omega,hq⟩
   | 2,_=>exact nil _ _ _ _
   | 3,_=>exact nil _ _ _ _
abbrev A4 (g:Nat):Array Value:=#[.int .i64 3,.int .i64 1,.int .i64 0,.int .i64 0,.slice none 0 0,.int .i64 1,.int .i64 2,.int .i64 0,.int .i64 0,.slice (some ⟨g,0,none⟩) 1 1,.int .i64 3,.int .i64 3,.int .i64 0,.int .i64 1,.slice none 0 0,.int .i64 5,.int .i64 0,.int .i64 0,.int .i64 0,.slice none 0 0]
def IR (w:World) (v:Value) (l:List Int):Prop:=∃ ad c,v=.slice ad l.length c∧(l.length=0∨∃ b o,ad=some ⟨b,o,none⟩∧b < w.heap.size∧∀ k,k < l.length→w.cell? ⟨b,o + k,none⟩=some (.int .i64 (l.getD k 0)))
theorem IR.below {w w':World} {v:Value} {l:List Int} (h:IR w v l) (hb:Below w.heap.size w w'):IR w' v l:=by
 obtain ⟨ad,c,e,h⟩:=h
 refine ⟨ad,c,e,?_⟩
 rcases h with h | ⟨b,o,e,hl,hc⟩
 ·exact .inl h
 ·exact .inr ⟨b,o,e,by have:=hb.size;omega,fun k hk=>(hb.cell (p:=⟨b,o + k,none⟩) hl).trans (hc k hk)⟩
theorem IR.row {w:World} {base:Nat} {v:Value} {l:List Int} {n:Nat} (h:w.ownsRow base 3 1 v n (I64 l)):IR w v l:=by
 have hn:l.length=n:=by have:=h.1;simpa [I64] using this
 subst hn
 rcases h.2 with ⟨e,h0⟩ | ⟨g,cap,cur,e,_⟩
 ·exact ⟨none,0,by rw [e,h0],.inl h0⟩
 ·refine ⟨some ⟨g,0,none⟩,cap,e,.inr ⟨g,0,rfl,?_,fun k hk=>?_⟩⟩
  ·exact (h.lt g (by rw [e];rfl)).2
  ·rw [e] at h
   rw [Nat.zero_add,h.cellAt k (by omega)]
   simp [I64,hk,List.getD_eq_getElem?_getD]
theorem IR.nil (w:World):IR w (.slice none 0 0) []:=⟨none,0,rfl,.inl rfl⟩
theorem four_cells {w:World} {b:Nat} {v0 v1 v2 v3:Value} {t:TypeId} {fr:Nat × Nat} (h:w.heap[b]?=some (.cells #[v0,v1,v2,v3] t fr)):w.cell? ⟨b,0,none⟩=some v0∧w.cell? ⟨b,1,none⟩=some v1∧w.cell? ⟨b,2,none⟩=some v2∧w.cell? ⟨b,3,none⟩=some v3:=
 ⟨Joins.cell_of_block h 0,Joins.cell_of_block h 1,Joins.cell_of_block h 2,Joins.cell_of_block h 3⟩
end Go.Proofs.YtacaanhnlfpbhaaGreat
