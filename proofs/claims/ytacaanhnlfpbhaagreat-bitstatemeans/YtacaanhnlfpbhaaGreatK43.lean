/- HELPERS: texts of ours put together. -/
import Derived.Test.YtacaanhnlfpbhaaGreatK39
import Derived.Test.YtacaanhnlfpbhaaGreatK33
import Derived.Test.YtacaanhnlfpbhaaGreatK26
import Derived.Test.YtacaanhnlfpbhaaGreatK18
import Derived.LoopN
import Derived.Deep.OwnRows
import Derived.Laws.IdiomCopy
import Derived.Laws.BitsLemmas
import Derived.Test.YtacaanhnlfpbhaaGreatK34
import Derived.Test.YtacaanhnlfpbhaaGreatK35
import Derived.Test.YtacaanhnlfpbhaaGreatK37
import Derived.Test.YtacaanhnlfpbhaaGreatK04
import Derived.Test.YtacaanhnlfpbhaaGreatK17
import Derived.Test.YtacaanhnlfpbhaaGreatK03
import Derived.Laws.EntriesVeiled
import Derived.Test.YtacaanhnlfpbhaaGreatK19
import Derived.Test.YtacaanhnlfpbhaaGreatK24
import Derived.Test.YtacaanhnlfpbhaaGreatK15
import Derived.Test.YtacaanhnlfpbhaaGreatK14
import Derived.Test.YtacaanhnlfpbhaaGreatProg
import Derived.WalkKit
import Derived.ProofKit
import Derived.BigQuiet
import Derived.WalkSmall
import Derived.Deep.QuietTactic
import Derived.Deep.RegionWith
import Derived.Deep.WholeRow
import Derived.Test.YtacaanhnlfpbhaaGreatK13
import Derived.Test.YtacaanhnlfpbhaaGreatK01
import Derived.Test.YtacaanhnlfpbhaaGreatK02
import Derived.Test.YtacaanhnlfpbhaaGreatK38
namespace Go.Proofs.YtacaanhnlfpbhaaGreat
open Go.RowKit
set_option linter.unusedVariables false
set_option linter.unusedSimpArgs false
section
variable {E E':Nat → Way} {n n1 n2 n' n1' n2':Int} {B W V B' W' V':Way}
theorem SiL.app {G:Mau} {M N:List Int} {l l' k k':List Way} (h:SiL G M l l') (h':SiL G N k k'):SiL G (M ++ N) (l ++ k) (l' ++ k'):=by
 induction l generalizing M l' with
 | nil =>
  cases h
  exact h'
 | cons d l ih =>
  cases h with
  | cons h t => exact .cons h (ih t)
  | flat h t =>
   rw [List.append_assoc,List.append_assoc]
   exact .flat h (ih t)
theorem snocRec {α:Type} {C:List α → Prop} (h0:C []) (h1:∀ l x,C l → C (l ++ [x])):∀ l,C l:=fun l => by
 rw [← List.reverse_reverse l]
 induction l.reverse with
 | nil => exact h0
 | cons x m ih => rw [List.reverse_cons];exact h1 _ _ ih
theorem sa (P:List (Tn × Tn)):(∀ x ∈ P,Gp E E' x.1 x.2) → ∀ {n n1 n' n1':Int} {B B':Way} {Ws Ws':List Way},BegA E (P.map Prod.fst) n B n1 Ws → BegA E' (P.flatMap fun x => within 5 x.2) n' B' n1' Ws' →
  ∀ G,Miu n n' G → Siu G B B' → (∃ h,Hdu G B h) → ∃ G' M,Miu n1 n1' G' ∧ Gru E E' n n' G n1 n1' G' ∧ SiL G' M Ws Ws' ∧ M.Nodup ∧ ∀ m ∈ M,n < m ∧ m ≤ n1 ∧ G'.free m:=by
 refine snocRec (C:=fun P => (∀ x ∈ P,Gp E E' x.1 x.2) → ∀ {n n1 n' n1':Int} {B B':Way} {Ws Ws':List Way},BegA E (P.map Prod.fst) n B n1 Ws → BegA E' (P.flatMap fun x => within 5 x.2) n' B' n1' Ws' →
  ∀ G,Miu n n' G → Siu G B B' → (∃ h,Hdu G B h) → ∃ G' M,Miu n1 n1' G' ∧ Gru E E' n n' G n1 n1' G' ∧ SiL G' M Ws Ws' ∧ M.Nodup ∧ ∀ m ∈ M,n < m ∧ m ≤ n1 ∧ G'.free m) ?_ ?_ P
 ·intro hP n n1 n' n1' B B' Ws Ws' h h' G hI hS hH
  obtain ⟨rfl,rfl⟩:=BegA.none h
  obtain ⟨rfl,rfl⟩:=BegA.none h'
  exact ⟨G,[],hI,.refl _ _ _,.nil,List.nodup_nil,fun m hm => by cases hm⟩
 ·intro P x ih hP n n1 n' n1' B B' Ws Ws' h h' G hI hS hH
  rw [List.map_append,List.map_cons,List.map_nil] at h
  rw [List.flatMap_append,List.flatMap_cons,List.flatMap_nil,List.append_nil] at h'
  obtain ⟨m,Wa,V,rfl,h1,h2⟩:=h.last
  obtain ⟨m',Wa',Wb',rfl,h3,h4⟩:=begA_app' h'
  have hx:=hP x (by simp)
  obtain ⟨G1,M1,i1,g1,s1,hM1,hf1⟩:=ih (fun y hy => hP y (by simp [hy])) h1 h3 G hI hS hH
  have hS1:=g1.sim hI hS
  have hH1:∃ h,Hdu G1 B h:=by obtain ⟨h0,hh⟩:=hH;exact ⟨h0,hh.up g1.c g1.x⟩
  by_cases h5:x.2.kind = 5
  ·have e:within 5 x.2 = x.2.subs:=by unfold within;rw [if_pos h5]
   rw [e] at h4
   obtain ⟨G2,M2,i2,g2,s2,hM2,hf2⟩:=hx.al h5 h2 h4 G1 i1 hS1 hH1
   refine ⟨G2,M1 ++ (M2 ++ []),i2,g1.trans g2 i1,(g2.simL i1 s1).app ?_,?_,fun y hy => ?_⟩
   ·have:=SiL.flat s2 SiL.nil
    rw [List.append_nil Wb'] at this
    exact this
   ·rw [List.append_nil,List.nodup_append]
    exact ⟨hM1,hM2,fun a ha b hb e => by have:=(hf1 a ha).2.1;have:=(hf2 b hb).1;omega⟩
   ·rw [List.append_nil] at hy
    rcases List.mem_append.1 hy with hy | hy
    ·exact ⟨(hf1 y hy).1,by have:=(hf1 y hy).2.1;have:=g2.l1;omega,g2.fr y (hf1 y hy).2.1 (hf1 y hy).2.2⟩
    ·exact ⟨by have:=(hf2 y hy).1;have:=g1.l1;omega,(hf2 y hy).2⟩
  ·have e:within 5 x.2 = [x.2]:=by unfold within;rw [if_neg h5]
   rw [e] at h4
   obtain ⟨V',rfl,h4'⟩:=begA_one h4
   obtain ⟨G2,i2,g2,s2,_⟩:=hx.sb h2 h4' G1 i1 hS1 hH1
   refine ⟨G2,M1 ++ [],i2,g1.trans g2 i1,(g2.simL i1 s1).app (.cons s2 .nil),by rw [List.append_nil];exact hM1,fun y hy => ?_⟩
   rw [List.append_nil] at hy
   exact ⟨(hf1 y hy).1,by have:=(hf1 y hy).2.1;have:=g2.l1;omega,g2.fr y (hf1 y hy).2.1 (hf1 y hy).2.2⟩
theorem gp_quest {a u:Tn} (lz:Bool) (h:Gp E E' a u):Gp E E' (loopN a 0 1 lz) (loopT 0 1 lz u):=by
 refine ⟨.loop (.inl ⟨rfl,rfl⟩) h.nf,fun h1 h2 => ?_,fun hk => by simp [Tn.kind] at hk,fun hk => by simp [Tn.kind] at hk⟩
 obtain ⟨t,e,h1⟩:=Beg.rep h1
 simp only [List.cons.injEq,and_true] at e
 subst e
 obtain ⟨t,e,h2⟩:=Beg.rep h2
 simp only [List.cons.injEq,and_true] at e
 subst e
 rcases h1 with ⟨b,_,e,_⟩ | ⟨b,c,n2,_,e,_⟩ | ⟨c,m,k1,W1,e1,e2,hO,hT⟩
 ·exact absurd e (by decide)
 ·exact absurd e (by decide)
 rcases h2 with ⟨b,_,e,_⟩ | ⟨b,c,n2,_,e,_⟩ | ⟨c',m',k1',W1',e1',e2',hO',hT'⟩
 ·exact absurd e (by decide)
 ·exact absurd e (by decide)
 obtain rfl:c = 0:=by omega
 obtain rfl:c' = 0:=by omega
 obtain rfl:m = 1:=by omega
 obtain rfl:m' = 1:=by omega
 obtain ⟨rfl,rfl⟩:=hT.none
 obtain ⟨rfl,rfl⟩:=hT'.none
 obtain ⟨q1,q2,V1,V2,rfl,rfl,o1,o2⟩:=hO.next
 obtain ⟨q1',q2',V1',V2',rfl,rfl,o1',o2'⟩:=hO'.next
 obtain ⟨rfl,rfl⟩:=o1.none
 obtain ⟨rfl,rfl⟩:=o1'.none
 exact (h.sb o2 o2').two
theorem gp_star {a u:Tn} (lz:Bool) (h:Gp E E' a u):Gp E E' (loopN a 0 (-1) lz) (loopT 0 (-1) lz u):=by
 refine ⟨.loop (.inr (.inl ⟨rfl,rfl⟩)) h.nf,fun h1 h2 => ?_,fun hk => by simp [Tn.kind] at hk,fun hk => by simp [Tn.kind] at hk⟩
 obtain ⟨t,e,h1⟩:=Beg.rep h1
 simp only [List.cons.injEq,and_true] at e
 subst e
 obtain ⟨t,e,h2⟩:=Beg.rep h2
 simp only [List.cons.injEq,and_true] at e
 subst e
 rcases h1 with ⟨b,_,_,r1,rfl⟩ | ⟨b,c,n2,e,_⟩ | ⟨c,m,k1,W1,e1,e2,hO,hT⟩
 rotate_left
 ·omega
 ·omega
 rcases h2 with ⟨b',_,_,r2,rfl⟩ | ⟨b,c,n2,e,_⟩ | ⟨c',m',k1',W1',e1',e2',hO',hT'⟩
 rotate_left
 ·omega
 ·omega
 intro G hI hS hH
 obtain ⟨G1,i1,g1,_,s1,_,d1⟩:=(h.sb r1 r2).round G hI hS
 exact ⟨G1,i1,g1,s1,d1⟩
theorem gp_plus {a u:Tn} (lz:Bool) (h:Gp E E' a u):Gp E E' (loopN a 1 (-1) lz) (loopT 1 (-1) lz u):=by
 refine ⟨.loop (.inr (.inr ⟨rfl,rfl⟩)) h.nf,fun h1 h2 => ?_,fun hk => by simp [Tn.kind] at hk,fun hk => by simp [Tn.kind] at hk⟩
 obtain ⟨t,e,h1⟩:=Beg.rep h1
 simp only [List.cons.injEq,and_true] at e
 subst e
 obtain ⟨t,e,h2⟩:=Beg.rep h2
 simp only [List.cons.injEq,and_true] at e
 subst e
 rcases h1 with ⟨b,e,_⟩ | ⟨b,c,n2,e,_,r1,t1⟩ | ⟨c,m,k1,W1,e1,e2,hO,hT⟩
 ·exact absurd e (by decide)
 rotate_left
 ·omega
 rcases h2 with ⟨b',e,_⟩ | ⟨b',c',n2',e',_,r2,t2⟩ | ⟨c',m',k1',W1',e1',e2',hO',hT'⟩
 ·exact absurd e (by decide)
 rotate_left
 ·omega
 obtain rfl:c = 0:=by omega
 obtain rfl:c' = 0:=by omega
 obtain ⟨rfl,rfl⟩:=t1.none
 obtain ⟨rfl,rfl⟩:=t2.none
 intro G hI hS hH
 obtain ⟨G1,i1,g1,s1,_,d1,_⟩:=(h.sb r1 r2).round G hI hS
 exact ⟨G1,i1,g1,s1,d1⟩
theorem map_pair {α:Type} (f:α → Tn) (g:α → Tn) (l:List α):(l.map fun x => (f x,g x)).map Prod.fst = l.map f ∧ ((l.map fun x => (f x,g x)).flatMap fun x => jn x.2) = (l.map g).flatMap jn:=by
 constructor
 ·simp
 ·rw [List.flatMap_map,List.flatMap_map]
theorem gp_opt {x y:Tn} (lz:Bool) (h:Gp E E' x y):∀ k,Gp E E' (optN x lz k) (optT y lz (k + 1))
 | 0 => gp_quest lz h
 | k + 1 => by
  have ih:=gp_opt lz h k
  have e:joinT [(y,1),(optT y lz (k + 1),1)] = joinU ([(x,y),(optN x lz k,optT y lz (k + 1))].flatMap fun z => jn z.2):=by
   rw [← joinT_runs 1 h.nf ih.nf,joinT_jn]
   ·simp
   ·intro z hz
    simp at hz
    rcases hz with rfl | rfl
    ·exact h.nf
    ·exact ih.nf
  have hn:=nf_opt lz h.nf (k + 2)
  show Gp E E' (loopN (rowN [x,optN x lz k]) 0 1 lz) (loopT 0 1 lz (joinT [(y,1),(optT y lz (k + 1),1)]))
  refine gp_quest lz ?_
  have hn2:Nf (joinT [(y,1),(optT y lz (k + 1),1)]):=by
   have:Nf (loopT 0 1 lz (joinT [(y,1),(optT y lz (k + 1),1)])):=hn
   cases this with
   | loop _ hy => exact hy
  rw [e] at hn2 ⊢
  refine gp_join _ (by simp) (fun z hz => ?_) (fun hb => ?_) hn2
  ·simp at hz
   rcases hz with rfl | rfl
   ·exact h
   ·exact ih
  ·exact begC_row (by simp) hb
theorem gp_rep {x y o v:Tn} (c:Nat) (h:Gp E E' x y) (ho:Gp E E' o v) (hn:Nf (joinT [(y,c),(v,1)])):Gp E E' (rowN (List.replicate c x ++ [o])) (joinT [(y,c),(v,1)]):=by
 have e:joinT [(y,c),(v,1)] = joinU ((List.replicate c (x,y) ++ [(o,v)]).flatMap fun z => jn z.2):=by
  rw [← joinT_runs c h.nf ho.nf,joinT_jn]
  ·simp [List.flatMap_append,List.flatMap_replicate]
  ·intro z hz
   rcases List.mem_append.1 hz with hz | hz
   ·rw [List.eq_of_mem_replicate hz];exact h.nf
   ·simp at hz;rw [hz];exact ho.nf
 rw [e] at hn ⊢
 refine gp_join _ (by simp) (fun z hz => ?_) (fun hb => ?_) hn
 ·rcases List.mem_append.1 hz with hz | hz
  ·rw [List.eq_of_mem_replicate hz];exact h
  ·simp at hz;rw [hz];exact ho
 ·rw [List.map_append,List.map_replicate]
  exact begC_row (by simp) hb
theorem gp_reps {x y:Tn} (c:Nat) (h:Gp E E' x y) (hn:Nf (joinT [(y,c + 1),(emptyT,1)])):Gp E E' (rowN (List.replicate (c + 1) x)) (joinT [(y,c + 1),(emptyT,1)]):=by
 have e:joinT [(y,c + 1),(emptyT,1)] = joinU ((List.replicate (c + 1) (x,y)).flatMap fun z => jn z.2):=by
  rw [← joinT_runs (c + 1) h.nf nf_empty,joinT_jn]
  ·rw [List.flatMap_append,List.flatMap_replicate,List.flatMap_replicate]
   simp [jn,Tn.kind]
  ·intro z hz
   rcases List.mem_append.1 hz with hz | hz
   ·rw [List.eq_of_mem_replicate hz];exact h.nf
   ·simp at hz;rw [hz];exact nf_empty
 rw [e] at hn ⊢
 refine gp_join _ (by simp) (fun z hz => ?_) (fun hb => ?_) hn
 ·rw [List.eq_of_mem_replicate hz];exact h
 ·rw [List.map_replicate]
  exact begC_row (by simp) hb
theorem gp_empty {R:List (Int × Int)} {a:Int} {s:List Tn} {mn mx:Int} {lz:Bool} {ix:Int} {nm:ByteArray} {u:Tn} (hu:u.kind = 1) (hn:Nf u):Gp E E' (.mk 1 R a s mn mx lz ix nm) u:=by
 refine ⟨hn,fun h1 h2 => ?_,fun _ n n1 B W h1 => ?_,fun hk => absurd (hu.symm.trans hk) (by decide)⟩
 ·obtain ⟨k,R',a',s',mn',mx',lz',ix',nm'⟩:=u
  simp only [Tn.kind] at hu
  subst hu
  obtain ⟨rfl,rfl⟩:=h1.empties
  obtain ⟨rfl,rfl⟩:=h2.empties
  exact SMu.pair fun G hI hS _ => ⟨G,hI,.refl _ _ _,hS⟩
 ·obtain ⟨rfl,rfl⟩:=h1.empties
  exact .one
theorem spr0 (x:Tn) (lz:Bool):sprN x 0 (-1) lz = loopN x 0 (-1) lz:=by simp [sprN]
theorem rep0 (y:Tn) (lz:Bool):repT y 0 (-1) lz = loopT 0 (-1) lz y:=by simp [repT]
theorem sprP (x:Tn) (c:Nat) (lz:Bool):sprN x ((c:Int) + 1) (-1) lz = rowN (List.replicate c x ++ [loopN x 1 (-1) lz]):=by
 unfold sprN
 rw [if_pos (by omega)]
 cases c with
 | zero => simp [rowN]
 | succ c => rw [if_neg (by omega),show (((c + 1:Nat):Int) + 1 - 1).toNat = c + 1 by omega]
theorem repP (y:Tn) (c:Nat) (lz:Bool):repT y ((c:Int) + 1) (-1) lz = joinT [(y,c),(loopT 1 (-1) lz y,1)]:=by
 unfold repT
 rw [if_neg (by simp),if_neg (by omega),show ((c:Int) + 1 - 1).toNat = c by omega]
theorem repB (y:Tn) (c k:Nat) (lz:Bool):repT y (c:Int) ((c:Int) + (k:Int)) lz = joinT [(y,c),(optT y lz k,1)]:=by
 unfold repT
 rw [if_pos (by omega),show ((c:Int) + (k:Int) - (c:Int)).toNat = k by omega,show ((c:Int)).toNat = c by omega]
theorem sprB0 (x:Tn) (c:Nat) (lz:Bool):sprN x (c:Int) (c:Int) lz = rowN (List.replicate c x):=by
 unfold sprN
 rw [if_neg (by omega),if_neg (by omega),List.append_nil,show ((c:Int)).toNat = c by omega]
theorem sprB (x:Tn) (c k:Nat) (lz:Bool):sprN x (c:Int) ((c:Int) + ((k:Int) + 1)) lz = rowN (List.replicate c x ++ [optN x lz k]):=by
 unfold sprN
 rw [if_neg (by omega),if_pos (by omega),show ((c:Int)).toNat = c by omega,show ((c:Int) + ((k:Int) + 1) - (c:Int) - 1).toNat = k by omega]
theorem rowS_ones5 (l:List Tn):rowS 5 (ones l) = l.flatMap (within 5):=by
 simp [rowS,ones,List.flatMap_map]
mutual
theorem gp_S:∀ t:Tn,t.fine = true → Gp E E' t.spread t.S
 | .mk k R a s mn mx lz ix nm,hf0 => by
  have hN:=nf_S _ hf0
  have hf:=hf0
  simp only [Tn.fine,Bool.and_eq_true] at hf
  have hF:=fine_nodeZ hf.1
  have ih:=gp_SL s hf.2
  rcases hF.kind with rfl | rfl | rfl | rfl | rfl | rfl | rfl
  ·have e:(Tn.mk 1 R a s mn mx lz ix nm).spread = .mk 1 R a (spreadL s) mn mx lz ix nm:=by simp [Tn.spread]
   rw [e]
   exact gp_empty (by simp [Tn.S,Tn.kind]) hN
  ·have e:(Tn.mk 2 R a s mn mx lz ix nm).spread = .mk 2 R a (spreadL s) mn mx lz ix nm:=by simp [Tn.spread]
   have e':(Tn.mk 2 R a s mn mx lz ix nm).S = .mk 2 R a [] mn mx lz ix nm:=by simp [Tn.S]
   rw [e'] at hN
   rw [e,e']
   refine ⟨hN,fun h1 h2 => ?_,fun hk => by simp [Tn.kind] at hk,fun hk => by simp [Tn.kind] at hk⟩
   obtain ⟨rfl,rfl⟩:=h1.classes
   obtain ⟨rfl,rfl⟩:=h2.classes
   exact SMu.pair fun G hI hS _ => ⟨G,hI,.refl _ _ _,.runeOf hS⟩
  ·have e:(Tn.mk 3 R a s mn mx lz ix nm).spread = .mk 3 R a (spreadL s) mn mx lz ix nm:=by simp [Tn.spread]
   have e':(Tn.mk 3 R a s mn mx lz ix nm).S = .mk 3 R a [] mn mx lz ix nm:=by simp [Tn.S]
   rw [e'] at hN
   rw [e,e']
   refine ⟨hN,fun h1 h2 => ?_,fun hk => by simp [Tn.kind] at hk,fun hk => by simp [Tn.kind] at hk⟩
   obtain ⟨rfl,rfl⟩:=h1.asserts
   obtain ⟨rfl,rfl⟩:=h2.asserts
   exact SMu.pair fun G hI hS _ => ⟨G,hI,.refl _ _ _,.ifHolds hS⟩
  ·have e:(Tn.mk 4 R a s mn mx lz ix nm).spread = .mk 4 R a (spreadL s) mn mx lz ix nm:=by simp [Tn.spread]
   obtain ⟨m1,m2⟩:=map_pair Tn.spread Tn.S s
   have e':(Tn.mk 4 R a s mn mx lz ix nm).S = joinU ((s.map fun x => (x.spread,x.S)).flatMap fun x => jn x.2):=by
    rw [m2,← SL_map,← joinT_jn (nf_SL s hf.2)]
    simp [Tn.S]
   rw [e'] at hN
   rw [e,e']
   refine gp_join _ ?_ (fun z hz => ?_) (fun hb => ?_) hN
   ·have:=hF.two (.inl rfl)
    intro h
    rw [List.map_eq_nil_iff] at h
    rw [h] at this
    simp at this
   ·obtain ⟨t,ht,rfl⟩:=List.mem_map.1 hz
    exact ih t ht
   ·rw [m1,← spreadL_map]
    exact hb.cats
  ·have e:(Tn.mk 5 R a s mn mx lz ix nm).spread = .mk 5 R a (spreadL s) mn mx lz ix nm:=by simp [Tn.spread]
   obtain ⟨m1,_⟩:=map_pair Tn.spread Tn.S s
   have e':(Tn.mk 5 R a s mn mx lz ix nm).S = zN 5 ((s.map fun x => (x.spread,x.S)).flatMap fun x => within 5 x.2):=by
    have:(Tn.mk 5 R a s mn mx lz ix nm).S = zN 5 (rowS 5 (ones (SL s))):=by simp [Tn.S]
    rw [this,rowS_ones5,SL_map,List.flatMap_map,List.flatMap_map]
   rw [e'] at hN
   rw [e,e']
   have hP:∀ z ∈ (s.map fun x => (x.spread,x.S)),Gp E E' z.1 z.2:=fun z hz => by
    obtain ⟨t,ht,rfl⟩:=List.mem_map.1 hz
    exact ih t ht
   refine ⟨hN,fun h1 h2 => ?_,fun hk => by simp [Tn.kind] at hk,fun _ n n1 n' n1' B W B' Ws' h1 h2 => ?_⟩
   ·obtain ⟨q,Ws,rfl,rfl,r1⟩:=h1.alts
    obtain ⟨q',Ws',rfl,rfl,r2⟩:=h2.alts
    rw [spreadL_map,← m1] at r1
    exact SMu.alts (sa _ hP r1 r2)
   ·obtain ⟨q,Ws,rfl,rfl,r1⟩:=h1.alts
    rw [spreadL_map,← m1] at r1
    intro G hI hS hH
    obtain ⟨G1,M,i1,g1,s1,hM,hfr⟩:=sa _ hP r1 h2 G hI hS hH
    refine ⟨G1,(q + 1) :: M,i1.wide (by omega) (Int.le_refl _),g1.trans (.wide _ _ _ (by omega) (Int.le_refl _)) i1,.alt s1,List.nodup_cons.2 ⟨fun hm => by have:=(hfr _ hm).2.1;omega,hM⟩,fun m hm => ?_⟩
    rcases List.mem_cons.1 hm with rfl | hm
    ·exact ⟨by have:=g1.l1;omega,Int.le_refl _,i1.new (by omega)⟩
    ·exact ⟨(hfr m hm).1,by have:=(hfr m hm).2.1;omega,(hfr m hm).2.2⟩
  ·obtain ⟨q1,q2,q3,q4⟩:=hF.rep rfl
   obtain ⟨t,rfl⟩:∃ t,s = [t]:=List.length_eq_one_iff.1 q1
   have h:=ih t (by simp)
   have e:(Tn.mk 6 R a [t] mn mx lz ix nm).spread = sprN t.spread mn mx lz:=by simp [Tn.spread,spreadL]
   have e':(Tn.mk 6 R a [t] mn mx lz ix nm).S = repT t.S mn mx lz:=by simp [Tn.S,SL]
   rw [e'] at hN
   rw [e,e']
   obtain ⟨c,rfl⟩:=Int.eq_ofNat_of_zero_le q2
   rcases q4 with rfl | ⟨q4,_⟩
   ·cases c with
    | zero =>
     show Gp E E' (sprN t.spread 0 (-1) lz) (repT t.S 0 (-1) lz)
     rw [spr0,rep0]
     exact gp_star lz h
    | succ c =>
     have e1:=sprP t.spread c lz
     have e2:=repP t.S c lz
     rw [show ((c + 1:Nat):Int) = (c:Int) + 1 by omega] at hN ⊢
     rw [e2] at hN
     rw [e1,e2]
     exact gp_rep _ h (gp_plus lz h) hN
   ·obtain ⟨k,rfl⟩:∃ k:Nat,mx = (c:Int) + (k:Int):=⟨(mx - c).toNat,by omega⟩
    have e2:=repB t.S c k lz
    rw [e2] at hN
    rw [e2]
    cases k with
    | zero =>
     have e1:=sprB0 t.spread c lz
     rw [show (c:Int) + ((0:Nat):Int) = (c:Int) by omega,e1]
     cases c with
     | zero => exact gp_empty (by simp [optT,joinT,List.filter,keep,joinK,timesOf,Tn.kind]) hN
     | succ c => exact gp_reps c h hN
    | succ k =>
     have e1:=sprB t.spread c k lz
     rw [show (c:Int) + ((k + 1:Nat):Int) = (c:Int) + ((k:Int) + 1) by omega,e1]
     exact gp_rep _ h (gp_opt lz h k) hN
  ·obtain ⟨q1,q2,q3⟩:=hF.grp rfl
   obtain ⟨t,rfl⟩:∃ t,s = [t]:=List.length_eq_one_iff.1 q1
   have h:=ih t (by simp)
   have e:(Tn.mk 7 R a [t] mn mx lz ix nm).spread = .mk 7 R a [t.spread] mn mx lz ix nm:=by simp [Tn.spread,spreadL]
   have e':(Tn.mk 7 R a [t] mn mx lz ix nm).S = .mk 7 [] 0 [t.S] 0 0 false ix nm:=by simp [Tn.S,SL]
   rw [e'] at hN
   rw [e,e']
   refine ⟨hN,fun h1 h2 => ?_,fun hk => by simp [Tn.kind] at hk,fun hk => by simp [Tn.kind] at hk⟩
   obtain ⟨u,i,m1,W1,e1,e2,rfl,rfl,r1⟩:=h1.group
   obtain ⟨u',i',m1',W1',e1',e2',rfl,rfl,r1'⟩:=h2.group
   simp only [List.cons.injEq,and_true] at e1 e1'
   subst e1 e1'
   obtain rfl:i = i':=by omega
   refine SMu.pair fun G hI hS ⟨h0,hH⟩ => ?_
   obtain ⟨G1,i1,g1,s1,_⟩:=h.sb r1 r1' G hI (.noted hS) ⟨h0,.noted hH⟩
   exact ⟨G1,i1,g1,.noted s1⟩
theorem gp_SL:∀ ts:List Tn,fineL ts = true → ∀ t ∈ ts,Gp E E' t.spread t.S
 | [],_,t,ht => by cases ht
 | u :: ts,hf,t,ht => by
  simp only [fineL,Bool.and_eq_true] at hf
  rcases List.mem_cons.1 ht with h | ht
  ·rw [h];exact gp_S u hf.1
  ·exact gp_SL ts hf.2 t ht
end
end
theorem PS.simp_eq {t:Tn} {K:Nat} {tx:List Int} {p:Nat} {l m:List (Int × List Int)} (hf:t.fine = true) (h:PS t.spread K tx p l) (h':PS t.S K tx p m):l = m:=by
 obtain ⟨E,W,n1,s1,hB,hE,hg,hx,rfl⟩:=h.ex
 obtain ⟨E',W',n1',s1',hB',hE',hg',hx',rfl⟩:=h'.ex
 obtain ⟨G0,hG0⟩:∃ G0:Mau,G0 = ⟨fun a a' => a = 1 ∧ a' = 1,fun _ _ => False,fun _ _ => False,fun _ => .through,fun _ _ => False⟩:=⟨_,rfl⟩
 have i0:Miu 1 1 G0:=by
  rw [hG0]
  exact ⟨fun a a' h => by simp at h;omega,fun _ _ h => h.elim,fun _ _ h => h.elim,fun a a' m m' h1 h2 => by simp at h1 h2;omega,fun _ _ _ h => h.elim,fun _ _ _ h => h.elim,fun _ _ _ h => h.elim,fun _ _ _ h => h.elim,fun _ _ _ h => h.elim⟩
 obtain ⟨G,hI,hgr,hS,h0,hH⟩:=(gp_S (E:=E) (E':=E') t hf).sb hB hB' G0 i0 (by rw [hG0];exact .once ⟨rfl,rfl⟩ .through) ⟨1,by rw [hG0];exact .once (n':=1) ⟨rfl,rfl⟩⟩
 have hok:G.Ok E E':=by
  refine ⟨hI.one,hI.noC,hI.oneX,hI.yC,hI.yX,hI.oneY,fun b b' hb => ?_⟩
  rcases hgr.new b b' hb with hb | hb
  ·rw [hG0] at hb;exact hb.elim
  ·exact hb
 obtain ⟨s2,hx2,hA,_⟩:=(siu_ex (E':=E') hok hx).one W' ⟨[],(List.replicate K (-1)).set 0 (p:Int),[]⟩ NoP hS ⟨fun a a' q _ => by simp,fun m n0 q _ hm => by simp at hm,fun m n0 q _ hm => by simp at hm,rfl,rfl⟩ (Peu.no _ _)
 have e:=hx'.det hx2
 subst e
 exact hA.pr
theorem PR.ends {N:Nat} {w:World} {cs:List Value} {l:List (Int × List Int)} {F:List Nat} (h:PR N w cs l F):∀ (i:Nat) (hi:i < l.length),cs[i * 2]? = some (.int .i64 l[i].1):=by
 induction h with
 | nil => intro i hi;simp at hi
 | cons h hl ih =>
  intro i hi
  cases i with
  | zero => simp
  | succ i =>
   have:=ih i (by simpa using hi)
   rw [show (i + 1) * 2 = i * 2 + 1 + 1 by omega]
   simpa using this
theorem Parsed.ends {N:Nat} {w:World} {pv:Value} {l:List (Int × List Int)} (h:Parsed N w pv l):(pv = .slice none 0 0 ∧ l = []) ∨ ∃ b cap,pv = .slice (some ⟨b,0,none⟩) l.length cap ∧ b < w.heap.size ∧ N ≤ b ∧ ∀ i (hi:i < l.length),w.cell? ⟨b,i * 2,none⟩ = some (.int .i64 l[i].1):=by
 obtain ⟨cs,F,h1,h2⟩:=h
 rcases Joins.ownsRow_forms h1 with ⟨e,h0⟩ | ⟨b,cap,e⟩
 ·exact .inl ⟨e,List.length_eq_zero_iff.1 h0⟩
 ·have hlt:=h1.lt b (by rw [e];rfl)
  rw [e] at h1
  refine .inr ⟨b,cap,e,hlt.2,hlt.1,fun i hi => ?_⟩
  have hl:cs.length = l.length * 2:=h1.1
  rw [h1.cellAt (i * 2) (by omega),h2.ends i hi]
def muchB (t:Tn) (tn:Nat):Bool:=decide (tn ≤ 64) && t.sound && decide (t.sz ≤ 2000) && decide (16777216 < (t.sz:Int) * ((tn:Int) + 1) * (2 * t.gi + 2))
theorem mul_bd {a b:Int} {A B:Int} (h1:0 ≤ a) (h2:a ≤ A) (h3:0 ≤ b) (h4:b ≤ B):0 ≤ a * b ∧ a * b ≤ A * B:=⟨Int.mul_nonneg h1 h3,Int.mul_le_mul h2 h4 h3 (by omega)⟩
set_option maxRecDepth 100000 in
set_option maxHeartbeats 4000000 in
theorem much11 (N:Nv) (t:Tn) (ad:Option Addr) (tn tcap:Nat) (w:World) (hTI:TI w w.heap.size N t) (htm:tn ≤ 35184372088832) :
  Calls Tryz.prog 9 #[N.v,.slice ad tn tcap] w fun e w' => e = .returned (.bool (muchB t tn)) ∧ Below w.heap.size w w':=by
 have hb0:Below w.heap.size w (w.alloc (.cells #[.int .i64 N.k,.slice N.r1 N.r2 N.r3,.int .i64 N.a2,.slice N.s1 N.s2 N.s3,.int .i64 N.a4,.int .i64 N.a5,.bool N.a6,.int .i64 N.a7,.string N.a8] 25)):=Joins.below_alloc1 w _
 have HB0:=hid hb0
 by_cases c1:64 < tn
 ·have e1:muchB t tn = false:=by unfold muchB;rw [decide_eq_false (by omega)];rfl
  rw [e1]
  have b1:decide ((tn:Int) > 64) = true:=by simp;omega
  have b1':decide (64 < (tn:Int)) = true:=by simp;omega
  obtain ⟨k,r1,r2,r3,a2,s1,s2,s3,a4,a5,a6,a7,a8⟩:=N
  clear hTI e1 hb0
  go_enter Tryz.func9,Tryz.ntmps9
  go_wp2
  go_ret
  exact ⟨rfl,HB0.out⟩
 have b1:decide ((tn:Int) > 64) = false:=by simp;omega
 have b1':decide (64 < (tn:Int)) = false:=by simp;omega
 have hT1:∀ w1,Below w.heap.size w w1 → TI w1 w1.heap.size N t:=fun w1 h => (hTI.kept fun b hb => h.block b hb).le h.size
 have H25:=sound25 (hT1 _ hb0)
 cases hs:t.sound with
 | false =>
  have e1:muchB t tn = false:=by unfold muchB;rw [hs];simp
  rw [e1]
  rw [hs] at H25
  simp only [Bool.false_eq_true,if_false] at H25
  obtain ⟨k,r1,r2,r3,a2,s1,s2,s3,a4,a5,a6,a7,a8⟩:=N
  dsimp only at H25
  clear hTI e1 hb0 hT1 hs
  go_enter Tryz.func9,Tryz.ntmps9
  go_wp2_with (first | (go_at_call 32;(with_reducible refine H25.mono ?_);rintro e w1 ⟨rfl,hb1⟩;have HB1:=hid hb1;clear hb1 H25))
  go_ret
  exact ⟨rfl,HB0.out.trans (Joins.below_le HB1.out (by simp))⟩
 | true =>
  obtain ⟨hf,_,hno⟩:=sound_parts hs
  have hgi:=fine_gi t hf
  have hT2:∀ w1,Below w.heap.size w w1 → Calls Tryz.prog 33 #[N.v] w1 fun e w' => e = .returned (.int .i64 (min 1073741824 t.sz:Nat)) ∧ Below w1.heap.size w1 w':=fun w1 h => refsize28 hTI hf w1 h.size (fun b hb => h.block b hb)
  have hT3:∀ w1,Below w.heap.size w w1 → Calls Tryz.prog 40 #[N.v] w1 fun e w' => e = .returned (.int .i64 t.gi) ∧ Below w1.heap.size w1 w':=fun w1 h => greatest15 hTI w1 h.size (fun b hb => h.block b hb)
  have hnode:∀ w1,Below (w.alloc (.cells #[.int .i64 N.k,.slice N.r1 N.r2 N.r3,.int .i64 N.a2,.slice N.s1 N.s2 N.s3,.int .i64 N.a4,.int .i64 N.a5,.bool N.a6,.int .i64 N.a7,.string N.a8] 25)).heap.size (w.alloc (.cells #[.int .i64 N.k,.slice N.r1 N.r2 N.r3,.int .i64 N.a2,.slice N.s1 N.s2 N.s3,.int .i64 N.a4,.int .i64 N.a5,.bool N.a6,.int .i64 N.a7,.string N.a8] 25)) w1 → w1.heap[w.heap.size]? = some (.cells #[.int .i64 N.k,.slice N.r1 N.r2 N.r3,.int .i64 N.a2,.slice N.s1 N.s2 N.s3,.int .i64 N.a4,.int .i64 N.a5,.bool N.a6,.int .i64 N.a7,.string N.a8] 25 (0,0)):=fun w1 h => (h.block w.heap.size (by simp)).trans (heap_alloc_new w _)
  rw [hs] at H25
  simp only [if_true] at H25
  have HN:=hid hnode
  have HT2:=hid hT2
  have HT3:=hid hT3
  obtain ⟨r,hr⟩:∃ r,r = min 1073741824 t.sz:=⟨_,rfl⟩
  rw [← hr] at HT2
  by_cases c3:2000 < t.sz
  ·have e1:muchB t tn = false:=by unfold muchB;rw [decide_eq_false (show ¬ t.sz ≤ 2000 by omega)];simp
   rw [e1]
   have b3:decide ((r:Int) ≤ 2000) = false:=by simp;omega
   obtain ⟨k,r1,r2,r3,a2,s1,s2,s3,a4,a5,a6,a7,a8⟩:=N
   dsimp only at H25 HN
   clear hTI e1 hb0 hT1 hT2 hT3 hnode hs hf hno hr hgi
   go_enter Tryz.func9,Tryz.ntmps9
   go_wp2_with (first | (go_at_call 32;(with_reducible refine H25.mono ?_);rintro e w1 ⟨rfl,hb1⟩;obtain ⟨o0,o1,o2,o3,o4,o5,o6,o7,o8⟩:=nine' (HN.out w1 hb1);have HC1:=HT2.out w1 (HB0.out.trans (Joins.below_le hb1 (by simp)));have HB1:=hid hb1;clear hb1 H25) | (go_at_call 33;(with_reducible refine HC1.mono ?_);rintro e w2 ⟨rfl,hb2⟩;have HB2:=hid hb2;clear hb2 HC1))
   go_ret
   exact ⟨rfl,HB0.out.trans (Joins.below_le (HB1.out.trans (Joins.below_le HB2.out HB1.out.size)) (by simp))⟩
  ·have hrz:r = t.sz:=by omega
   have b3:decide ((r:Int) ≤ 2000) = true:=by simp;omega
   have e1:muchB t tn = decide (16777216 < (r:Int) * ((tn:Int) + 1) * (2 * t.gi + 2)):=by
    unfold muchB
    rw [hs,decide_eq_true (show tn ≤ 64 by omega),decide_eq_true (show t.sz ≤ 2000 by omega),hrz]
    simp
   rw [e1]
   have k1:=mul_bd (a:=(r:Int)) (b:=(tn:Int) + 1) (A:=2000) (B:=65) (by omega) (by omega) (by omega) (by omega)
   have k2:=mul_bd (a:=(r:Int) * ((tn:Int) + 1)) (b:=2 * t.gi + 2) (A:=130000) (B:=1002) k1.1 (by omega) (by omega) (by omega)
   have w1':IntKind.i64.wrap ((tn:Int) + 1) = (tn:Int) + 1:=by simp [IntKind.wrap,IntKind.bits,IntKind.signed];omega
   have w2':IntKind.i64.wrap ((r:Int) * ((tn:Int) + 1)) = (r:Int) * ((tn:Int) + 1):=by simp [IntKind.wrap,IntKind.bits,IntKind.signed];omega
   obtain ⟨gi,hgg⟩:∃ gi,gi = t.gi:=⟨_,rfl⟩
   rw [← hgg] at k2 hgi HT3 ⊢
   have w3':IntKind.i64.wrap (2 * gi) = 2 * gi:=by simp [IntKind.wrap,IntKind.bits,IntKind.signed];omega
   have w4':IntKind.i64.wrap (2 * gi + 2) = 2 * gi + 2:=by simp [IntKind.wrap,IntKind.bits,IntKind.signed];omega
   have w5':IntKind.i64.wrap ((r:Int) * ((tn:Int) + 1) * (2 * gi + 2)) = (r:Int) * ((tn:Int) + 1) * (2 * gi + 2):=by simp [IntKind.wrap,IntKind.bits,IntKind.signed];omega
   obtain ⟨k,r1,r2,r3,a2,s1,s2,s3,a4,a5,a6,a7,a8⟩:=N
   dsimp only at H25 HN
   clear hTI e1 hb0 hT1 hT2 hT3 hnode hs hf hno hr hrz hgg k1 k2 c3
   go_enter Tryz.func9,Tryz.ntmps9
   go_wp2_with (first | (go_at_call 32;(with_reducible refine H25.mono ?_);rintro e w1 ⟨rfl,hb1⟩;obtain ⟨o0,o1,o2,o3,o4,o5,o6,o7,o8⟩:=nine' (HN.out w1 hb1);have HC1:=HT2.out w1 (HB0.out.trans (Joins.below_le hb1 (by simp)));have HB1:=hid hb1;clear hb1 H25) | (go_at_call 33;(with_reducible refine HC1.mono ?_);rintro e w2 ⟨rfl,hb2⟩;obtain ⟨p0,p1,p2,p3,p4,p5,p6,p7,p8⟩:=nine' (HN.out w2 (HB1.out.trans (Joins.below_le hb2 HB1.out.size)));have HC2:=HT3.out w2 (HB0.out.trans (Joins.below_le (HB1.out.trans (Joins.below_le hb2 HB1.out.size)) (by simp)));have HB2:=hid hb2;clear hb2 HC1 o0 o1 o2 o3 o4 o5 o6 o7 o8) | (go_at_call 40;(with_reducible refine HC2.mono ?_);rintro e w3 ⟨rfl,hb3⟩;have HB3:=hid hb3;clear hb3 HC2))
   go_ret
   exact ⟨rfl,HB0.out.trans (Joins.below_le ((HB1.out.trans (Joins.below_le HB2.out HB1.out.size)).trans (Joins.below_le HB3.out (by have:=HB1.out.size;have:=HB2.out.size;omega))) (by simp))⟩
theorem Parsed.form {N:Nat} {w:World} {pv:Value} {l:List (Int × List Int)} (h:Parsed N w pv l):∃ a c,pv = .slice a l.length c:=by
 rcases h.ends with ⟨rfl,rfl⟩ | ⟨b,cap,rfl,_⟩
 ·exact ⟨none,0,rfl⟩
 ·exact ⟨_,_,rfl⟩
theorem PR.caps {N:Nat} {w:World} {cs:List Value} {l:List (Int × List Int)} {F:List Nat} (h:PR N w cs l F):∀ (i:Nat) (hi:i < l.length),∃ cv,cs[i * 2 + 1]? = some cv ∧ w.ownsRow N 3 1 cv l[i].2.length (I64 l[i].2):=by
 induction h with
 | nil => intro i hi;simp at hi
 | cons h hl ih =>
  intro i hi
  cases i with
  | zero => exact ⟨_,by simp,h⟩
  | succ i =>
   obtain ⟨cv,h1,h2⟩:=ih i (by simpa using hi)
   refine ⟨cv,?_,by simpa using h2⟩
   rw [show (i + 1) * 2 + 1 = i * 2 + 1 + 1 + 1 by omega]
   simpa using h1
theorem Parsed.caps {N:Nat} {w:World} {b cap n:Nat} {l:List (Int × List Int)} (h:Parsed N w (.slice (some ⟨b,0,none⟩) n cap) l) (i:Nat) (hi:i < l.length) (hc:0 < l[i].2.length):∃ cb cc,w.cell? ⟨b,i * 2 + 1,none⟩ = some (.slice (some ⟨cb,0,none⟩) l[i].2.length cc) ∧ ∀ j,j < l[i].2.length → w.cell? ⟨cb,j,none⟩ = some (.int .i64 (l[i].2.getD j 0)):=by
 obtain ⟨cs,F,h1,h2⟩:=h
 obtain ⟨cv,q1,q2⟩:=h2.caps i hi
 obtain ⟨cb,cc,rfl⟩:=Joins.ownsRow_form q2 hc
 have hn:n = l.length:=by
  rcases h1.2 with ⟨e,h0⟩ | ⟨g,cap',cur,e,_⟩
  ·cases e
  ·simp only [Value.slice.injEq] at e
   exact e.2.1
 subst hn
 refine ⟨cb,cc,?_,fun j hj => ?_⟩
 ·have hl:cs.length = l.length * 2:=h1.1
  rw [h1.cellAt (i * 2 + 1) (by omega),q1]
 ·rw [q2.cellAt j (by simpa using hj)]
  simp [List.getD_eq_getElem?_getD,List.getElem?_eq_getElem hj]
theorem Nf.spread_eq {t:Tn} (h:Nf t):t.spread = t:=by
 have key:∀ s:List Tn,(∀ u ∈ s,u.spread = u) → spreadL s = s:=fun s hs => by
  rw [spreadL_map]
  conv => rhs;rw [← List.map_id s]
  exact List.map_congr_left fun u hu => hs u hu
 induction h with
 | @leaf k R a mn mx lz ix nm hk hn => rcases hk with rfl | rfl | rfl <;> simp [Tn.spread,spreadL]
 | cat _ _ _ ih => simp [Tn.spread,key _ ih]
 | alt _ _ _ ih => simp [Tn.spread,key _ ih]
 | @loop mn mx lz y h hy ih =>
  have e:(loopT mn mx lz y).spread = sprN y.spread mn mx lz:=by simp [Tn.spread,spreadL]
  rw [e,ih]
  rcases h with ⟨rfl,rfl⟩ | ⟨rfl,rfl⟩ | ⟨rfl,rfl⟩
  ·simp [sprN,rowN,optN,loopN]
  ·simp [sprN,loopN]
  ·simp [sprN,loopN]
 | grp _ _ ih => simp [Tn.spread,spreadL,ih]
end Go.Proofs.YtacaanhnlfpbhaaGreat
