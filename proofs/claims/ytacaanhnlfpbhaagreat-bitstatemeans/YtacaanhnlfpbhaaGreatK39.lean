/- HELPERS: texts of ours put together. -/
import Derived.Test.YtacaanhnlfpbhaaGreatK37
import Derived.Test.YtacaanhnlfpbhaaGreatK11
import Derived.Test.YtacaanhnlfpbhaaGreatK10
import Derived.Test.YtacaanhnlfpbhaaGreatK05
import Derived.Test.YtacaanhnlfpbhaaGreatK08
import Derived.Test.YtacaanhnlfpbhaaGreatK07
import Derived.Test.YtacaanhnlfpbhaaGreatK01
import Derived.Deep.SlicePairs
import Derived.RowKit
import Derived.Test.YtacaanhnlfpbhaaGreatK04
import Derived.Test.YtacaanhnlfpbhaaGreatK17
import Derived.Test.YtacaanhnlfpbhaaGreatK03
import Derived.Laws.EntriesVeiled
import Derived.Test.YtacaanhnlfpbhaaGreatK18
import Derived.Test.YtacaanhnlfpbhaaGreatK16
import Derived.WalkKit
import Derived.Laws.BitsLemmas
import Derived.Deep.RegionHeld2
import Derived.Lib.MinMax
import Derived.Test.YtacaanhnlfpbhaaGreatK06
import Derived.BigQuiet
import Derived.Deep.Cut
import Derived.Test.YtacaanhnlfpbhaaGreatK12
import Derived.Test.YtacaanhnlfpbhaaGreatK38
import Derived.Test.YtacaanhnlfpbhaaGreatK35
namespace Go.Proofs.YtacaanhnlfpbhaaGreat
open Go.RowKit
set_option linter.unusedVariables false
set_option linter.unusedSimpArgs false
inductive Wrp (n:Int) (B:Way):Int → Way → Prop
 | one:Wrp n B (n + 1) (.once (n + 1) B)
 | more {n1:Int} {W:Way} (h:Wrp n B n1 W):Wrp n B (n1 + 1) (.once (n1 + 1) W)
section
variable {E E':Nat → Way} {n n1 n2 n' n1' n2':Int} {B W V B' W' V':Way}
theorem Wrp.seq (h:Wrp n B n1 W) (h':Wrp n1 W n2 V):Wrp n B n2 V:=by
 induction h' with
 | one => exact .more h
 | more _ ih => exact .more ih
theorem Wrp.left (h:Wrp n B n1 W) (n':Int) (B':Way):SMu E E' n B n1 W n' B' n' B':=by
 induction h with
 | one => exact (SMu.self _ _ _ _).extra
 | more _ ih => exact ih.extra
theorem Wrp.pair (h:Wrp n B n1 W) (n':Int) (B':Way):SMu E E' n B n1 W n' B' (n' + 1) (.once (n' + 1) B'):=by
 induction h with
 | one => exact SMu.pair fun G hI hS _ => ⟨G,hI,.refl _ _ _,hS⟩
 | more _ ih => exact ih.extra
def AlO (E E':Nat → Way) (n:Int) (B:Way) (n1:Int) (W:Way) (n':Int) (B':Way) (n1':Int) (Ws':List Way):Prop:=
 ∀ G,Miu n n' G → Siu G B B' → (∃ h,Hdu G B h) → ∃ G' M,Miu n1 n1' G' ∧ Gru E E' n n' G n1 n1' G' ∧ SiF G' M W Ws' ∧ M.Nodup ∧ ∀ m ∈ M,n < m ∧ m ≤ n1 ∧ G'.free m
theorem AlO.wrap {Ws':List Way} (h:AlO E E' n B n1 W n' B' n1' Ws'):AlO E E' n B (n1 + 1) (.once (n1 + 1) W) n' B' n1' Ws':=fun G hI hS hH => by
 obtain ⟨G1,M,i1,g1,s1,hM,hf⟩:=h G hI hS hH
 refine ⟨G1,(n1 + 1) :: M,i1.wide (by omega) (Int.le_refl _),g1.trans (.wide _ _ _ (by omega) (Int.le_refl _)) i1,.wrap s1,List.nodup_cons.2 ⟨fun hm => by have:=(hf _ hm).2.1;omega,hM⟩,fun m hm => ?_⟩
 rcases List.mem_cons.1 hm with rfl | hm
 ·exact ⟨by have:=g1.l1;omega,Int.le_refl _,i1.new (by omega)⟩
 ·exact ⟨(hf m hm).1,by have:=(hf m hm).2.1;omega,(hf m hm).2.2⟩
theorem AlO.wraps {Ws':List Way} (h:AlO E E' n B n1 W n' B' n1' Ws') (hw:Wrp n1 W n2 V):AlO E E' n B n2 V n' B' n1' Ws':=by
 induction hw with
 | one => exact h.wrap
 | more _ ih => exact ih.wrap
theorem AlO.pre {Ws':List Way} (h:SMu E E' n B n1 W n' B' n1' W') (h':AlO E E' n1 W n2 V n1' W' n2' Ws'):AlO E E' n B n2 V n' B' n2' Ws':=fun G hI hS hH => by
 obtain ⟨G1,i1,g1,s1,d1⟩:=h G hI hS hH
 obtain ⟨G2,M,i2,g2,s2,hM,hf⟩:=h' G1 i1 s1 d1
 exact ⟨G2,M,i2,g1.trans g2 i1,s2,hM,fun m hm => ⟨by have:=(hf m hm).1;have:=g1.l1;omega,(hf m hm).2⟩⟩
structure Gp (E E':Nat → Way) (a u:Tn):Prop where
 nf:Nf u
 sb:∀ {n n1 n' n1':Int} {B W B' W':Way},Beg E a n B n1 W → Beg E' u n' B' n1' W' → SMu E E' n B n1 W n' B' n1' W'
 em:u.kind = 1 → ∀ {n n1:Int} {B W:Way},Beg E a n B n1 W → Wrp n B n1 W
 al:u.kind = 5 → ∀ {n n1 n' n1':Int} {B W B':Way} {Ws':List Way},Beg E a n B n1 W → BegA E' u.subs n' B' n1' Ws' → AlO E E' n B n1 W n' B' n1' Ws'
theorem begC_app {xs ys:List Tn} (h:BegC E (xs ++ ys) n B n2 V):∃ n1 W,BegC E ys n B n1 W ∧ BegC E xs n1 W n2 V:=by
 induction xs generalizing n2 V with
 | nil => exact ⟨n2,V,h,.nil⟩
 | cons x xs ih =>
  obtain ⟨n1,W,h1,h2⟩:=BegC.first h
  obtain ⟨n0,W0,h3,h4⟩:=ih h1
  exact ⟨n0,W0,h3,.cons h4 h2⟩
theorem begA_app {xs:List Tn}:∀ {ys:List Tn} {n n2:Int} {B:Way} {Ws:List Way},BegA E (xs ++ ys.reverse) n B n2 Ws → ∃ n1 Ws1 Ws2,Ws = Ws1 ++ Ws2 ∧ BegA E xs n B n1 Ws1 ∧ BegA E ys.reverse n1 B n2 Ws2
 | [],n,n2,B,Ws,h => ⟨n2,Ws,[],by simp,by simpa using h,.nil⟩
 | y :: ys,n,n2,B,Ws,h => by
  rw [List.reverse_cons,← List.append_assoc] at h
  obtain ⟨n1,Ws1,W,rfl,h1,h2⟩:=h.last
  obtain ⟨n0,Wa,Wb,rfl,h3,h4⟩:=begA_app (ys:=ys) h1
  exact ⟨n0,Wa,Wb ++ [W],by simp,h3,by rw [List.reverse_cons];exact .snoc h4 h2⟩
theorem begA_app' {xs ys:List Tn} {Ws:List Way} (h:BegA E (xs ++ ys) n B n2 Ws):∃ n1 Ws1 Ws2,Ws = Ws1 ++ Ws2 ∧ BegA E xs n B n1 Ws1 ∧ BegA E ys n1 B n2 Ws2:=by
 have h':BegA E (xs ++ ys.reverse.reverse) n B n2 Ws:=by rw [List.reverse_reverse];exact h
 have:=begA_app h'
 rw [List.reverse_reverse] at this
 exact this
theorem begA_one {u:Tn} {Ws:List Way} (h:BegA E [u] n B n2 Ws):∃ W,Ws = [W] ∧ Beg E u n B n2 W:=by
 obtain ⟨n1,Ws1,W,rfl,h1,h2⟩:=BegA.last (ts:=[]) h
 obtain ⟨rfl,rfl⟩:=h1.none
 exact ⟨W,rfl,h2⟩
theorem begC_sole {u:Tn} (h:BegC E [u] n B n2 V):Beg E u n B n2 V:=by
 obtain ⟨n1,W,h1,h2⟩:=BegC.first h
 obtain ⟨rfl,rfl⟩:=h1.none
 exact h2
theorem nf_jn_nil {u:Tn} (h:Nf u) (hj:jn u = []):u.kind = 1:=by
 unfold jn at hj
 split at hj
 ·assumption
 ·unfold within at hj
  split at hj
  ·rename_i h1 h4
   cases h with
   | leaf hk _ => simp [Tn.kind] at h4;omega
   | cat h2 _ _ => simp [Tn.subs] at hj;rw [hj] at h2;simp at h2
   | alt _ _ _ => simp [Tn.kind] at h4
   | loop _ _ => simp [Tn.kind] at h4
   | grp _ _ => simp [Tn.kind] at h4
  ·cases hj
theorem nf_jn_one {u v:Tn} (h:Nf u) (hj:jn u = [v]):u = v:=by
 unfold jn at hj
 split at hj
 ·cases hj
 ·unfold within at hj
  split at hj
  ·rename_i h1 h4
   cases h with
   | leaf hk _ => simp [Tn.kind] at h4;omega
   | cat h2 _ _ => simp [Tn.subs] at hj;rw [hj] at h2;simp at h2
   | alt _ _ _ => simp [Tn.kind] at h4
   | loop _ _ => simp [Tn.kind] at h4
   | grp _ _ => simp [Tn.kind] at h4
  ·simpa using hj
theorem nf_jn_mem {u v:Tn} (h:Nf u) (hv:v ∈ jn u):v.kind ≠ 1:=by
 unfold jn at hv
 split at hv
 ·cases hv
 ·rename_i h1
  unfold within at hv
  split at hv
  ·rename_i h4
   cases h with
   | leaf hk _ => simp [Tn.kind] at h4;omega
   | cat _ h2 _ => exact (h2 v hv).1
   | alt _ _ _ => simp [Tn.kind] at h4
   | loop _ _ => simp [Tn.kind] at h4
   | grp _ _ => simp [Tn.kind] at h4
  ·simp at hv
   rw [hv];exact h1
theorem beg_jn {u:Tn} (h:Nf u) (h1:u.kind ≠ 1) (hb:BegC E (jn u) n B n2 V):Beg E u n B n2 V:=by
 unfold jn at hb
 rw [if_neg h1] at hb
 unfold within at hb
 split at hb
 ·rename_i h4
  cases h with
  | leaf hk _ => simp [Tn.kind] at h4;omega
  | cat _ _ _ => exact .cat hb
  | alt _ _ _ => simp [Tn.kind] at h4
  | loop _ _ => simp [Tn.kind] at h4
  | grp _ _ => simp [Tn.kind] at h4
 ·exact begC_sole hb
theorem sc (P:List (Tn × Tn)) (hP:∀ x ∈ P,Gp E E' x.1 x.2):∀ {n n1 n' n1':Int} {B W B' W':Way},BegC E (P.map Prod.fst) n B n1 W → BegC E' (P.flatMap fun x => jn x.2) n' B' n1' W' → SMu E E' n B n1 W n' B' n1' W':=by
 induction P with
 | nil =>
  intro n n1 n' n1' B W B' W' h h'
  obtain ⟨rfl,rfl⟩:=h.none
  obtain ⟨rfl,rfl⟩:=BegC.none h'
  exact .self _ _ _ _
 | cons x P ih =>
  intro n n1 n' n1' B W B' W' h h'
  rw [List.map_cons] at h
  rw [List.flatMap_cons] at h'
  obtain ⟨m,V,h1,h2⟩:=h.first
  obtain ⟨m',V',h3,h4⟩:=begC_app h'
  have hx:=hP x (List.mem_cons_self ..)
  refine (ih (fun y hy => hP y (List.mem_cons_of_mem _ hy)) h1 h3).seq ?_
  by_cases h0:x.2.kind = 1
  ·have e:jn x.2 = []:=by unfold jn;rw [if_pos h0]
   rw [e] at h4
   obtain ⟨rfl,rfl⟩:=h4.none
   exact (hx.em h0 h2).left _ _
  ·exact hx.sb h2 (beg_jn hx.nf h0 h4)
theorem wrpC (P:List (Tn × Tn)) (hP:∀ x ∈ P,Gp E E' x.1 x.2 ∧ x.2.kind = 1):∀ {n n1:Int} {B W:Way},BegC E (P.map Prod.fst) n B n1 W → (P = [] ∧ n1 = n ∧ W = B) ∨ Wrp n B n1 W:=by
 induction P with
 | nil =>
  intro n n1 B W h
  obtain ⟨rfl,rfl⟩:=h.none
  exact .inl ⟨rfl,rfl,rfl⟩
 | cons x P ih =>
  intro n n1 B W h
  rw [List.map_cons] at h
  obtain ⟨m,V,h1,h2⟩:=h.first
  have hx:=hP x (List.mem_cons_self ..)
  have h3:=hx.1.em hx.2 h2
  rcases ih (fun y hy => hP y (List.mem_cons_of_mem _ hy)) h1 with ⟨_,rfl,rfl⟩ | h4
  ·exact .inr h3
  ·exact .inr (h4.seq h3)
theorem flat_one {P:List (Tn × Tn)} {v:Tn} (h:(P.flatMap fun x => jn x.2) = [v]):∃ P1 x P2,P = P1 ++ x :: P2 ∧ (∀ y ∈ P1,jn y.2 = []) ∧ (∀ y ∈ P2,jn y.2 = []) ∧ jn x.2 = [v]:=by
 induction P with
 | nil => cases h
 | cons x P ih =>
  rw [List.flatMap_cons] at h
  by_cases h0:jn x.2 = []
  ·rw [h0,List.nil_append] at h
   obtain ⟨P1,y,P2,rfl,h1,h2,h3⟩:=ih h
   exact ⟨x :: P1,y,P2,rfl,fun z hz => by rcases List.mem_cons.1 hz with rfl | hz;exact h0;exact h1 z hz,h2,h3⟩
  ·rw [List.append_eq_singleton_iff] at h
   rcases h with ⟨h1,_⟩ | ⟨h1,h2⟩
   ·exact absurd h1 h0
   ·refine ⟨[],x,P,rfl,fun z hz => (by cases hz),fun z hz => ?_,h1⟩
    rw [List.flatMap_eq_nil_iff] at h2
    exact h2 z hz
theorem joinU_kind {us:List Tn}:us = [] ∨ (∃ v,us = [v] ∧ joinU us = v) ∨ joinU us = zN 4 us:=by
 match us with
 | [] => exact .inl rfl
 | [v] => exact .inr (.inl ⟨v,rfl,rfl⟩)
 | a :: b :: s => exact .inr (.inr rfl)
theorem gp_join {a:Tn} (P:List (Tn × Tn)) (h0:P ≠ []) (hP:∀ x ∈ P,Gp E E' x.1 x.2) (ha:∀ {n n1:Int} {B W:Way},Beg E a n B n1 W → BegC E (P.map Prod.fst) n B n1 W) (hn:Nf (joinU (P.flatMap fun x => jn x.2))):Gp E E' a (joinU (P.flatMap fun x => jn x.2)):=by
 have hemp:(P.flatMap fun x => jn x.2) = [] → ∀ {n n1:Int} {B W:Way},Beg E a n B n1 W → Wrp n B n1 W:=fun he n n1 B W h => by
  rw [List.flatMap_eq_nil_iff] at he
  rcases wrpC P (fun x hx => ⟨hP x hx,nf_jn_nil (hP x hx).nf (he x hx)⟩) (ha h) with ⟨h1,_⟩ | h1
  ·exact absurd h1 h0
  ·exact h1
 have hmem:∀ v ∈ (P.flatMap fun x => jn x.2),v.kind ≠ 1:=fun v hv => by
  obtain ⟨x,hx,hv⟩:=List.mem_flatMap.1 hv
  exact nf_jn_mem (hP x hx).nf hv
 refine ⟨hn,fun h h' => ?_,fun hk => ?_,fun hk => ?_⟩
 ·rcases joinU_kind (us:=P.flatMap fun x => jn x.2) with he | ⟨v,he,hv⟩ | hv
  ·rw [he] at h'
   obtain ⟨rfl,rfl⟩:=Beg.empties h'
   exact (hemp he h).pair _ _
  ·rw [hv] at h'
   exact sc P hP (ha h) (by rw [he];exact .cons .nil h')
  ·rw [hv] at h'
   exact sc P hP (ha h) h'.cats
 ·refine hemp ?_
  rcases joinU_kind (us:=P.flatMap fun x => jn x.2) with he | ⟨v,he,hv⟩ | hv
  ·exact he
  ·rw [hv] at hk
   exact absurd hk (hmem v (by rw [he];simp))
  ·rw [hv] at hk
   simp [Tn.kind] at hk
 ·rcases joinU_kind (us:=P.flatMap fun x => jn x.2) with he | ⟨v,he,hv⟩ | hv
  ·rw [he] at hk
   simp [joinU,Tn.kind] at hk
  ·intro n n1 n' n1' B W B' Ws' h h'
   rw [hv] at h' hk
   obtain ⟨P1,x,P2,rfl,h1,h2,h3⟩:=flat_one he
   have hx:=hP x (by simp)
   have ex:=nf_jn_one hx.nf h3
   have hb:=ha h
   rw [List.map_append,List.map_cons] at hb
   obtain ⟨m1,V1,hb1,hb2⟩:=begC_app hb
   obtain ⟨m0,V0,hb3,hb4⟩:=hb1.first
   have hA:AlO E E' m0 V0 m1 V1 n' B' n1' Ws':=hx.al (by rw [ex];exact hk) hb4 (by rw [ex];exact h')
   have hB:AlO E E' n B m1 V1 n' B' n1' Ws':=by
    rcases wrpC P2 (fun y hy => ⟨hP y (by simp [hy]),nf_jn_nil (hP y (by simp [hy])).nf (h2 y hy)⟩) hb3 with ⟨_,rfl,rfl⟩ | hw
    ·exact hA
    ·exact AlO.pre (hw.left n' B') hA
   rcases wrpC P1 (fun y hy => ⟨hP y (by simp [hy]),nf_jn_nil (hP y (by simp [hy])).nf (h1 y hy)⟩) hb2 with ⟨_,rfl,rfl⟩ | hw
   ·exact hB
   ·exact hB.wraps hw
  ·rw [hv] at hk
   simp [Tn.kind] at hk
theorem begC_row {l:List Tn} (h0:l ≠ []) (h:Beg E (rowN l) n B n1 W):BegC E l n B n1 W:=by
 match l,h0,h with
 | [x],_,h => exact .cons .nil h
 | x :: y :: l,_,h => exact Beg.cats h
end
structure Mp where
 C:Int → Int → Prop
 L:Nat → Nat → Prop
 X:Int → Int → Prop
 Bd:Int → Way
 Xr:Int → Int → Prop
 Yr:Int → Int → Prop
inductive Hp (G:Mp):Way → Int → Prop
 | once {n n':Int} {d:Way} (h:G.C n n'):Hp G (.once n d) n
 | more {m n0:Int} {d:Way} (hX:G.X m n0) (h:Hp G d n0):Hp G (.once m d) n0
 | noted {c:Nat} {n0:Int} {d:Way} (h:Hp G d n0):Hp G (.noted c d) n0
mutual
inductive Sip (G:Mp) (E':Nat → Way):List Int → Way → Way → Prop
 | core {D:List Int} {W r:Way} (h:Sic G E' D W r):Sip G E' D W r
 | jump {D:List Int} {W:Way} {x:Nat} (h:Sip G E' D W (E' x)):Sip G E' D W (.again x)
 | ahead {D:List Int} {W d:Way} {j n0:Int} (hX:G.Xr j n0) (hh:Hp G W n0) (hD:j ∉ D) (h:Sip G E' (j :: D) W d):Sip G E' D W (.once j d)
inductive Sic (G:Mp) (E':Nat → Way):List Int → Way → Way → Prop
 | through {D:List Int}:Sic G E' D .through .through
 | once {D:List Int} {n n':Int} {d d':Way} (hC:G.C n n') (h:Sip G E' [] d d'):Sic G E' D (.once n d) (.once n' d')
 | onceA {D:List Int} {n n':Int} {l:List Way} {d':Way} {M:List Int} (hC:G.C n n') (h:Spa G E' M l d') (hY:∀ m ∈ M,G.Yr m n') (hM:M.Nodup):Sic G E' D (.once n (.inOrder l)) (.once n' d')
 | more {D:List Int} {m n0:Int} {d W':Way} (hX:G.X m n0) (hb:G.Bd m = d) (hh:Hp G d n0) (h:Sip G E' D d W'):Sic G E' D (.once m d) W'
 | noted {D:List Int} {c:Nat} {d d':Way} (h:Sip G E' D d d'):Sic G E' D (.noted c d) (.noted c d')
 | runeOf {D:List Int} {R:Rng} {d d':Way} (h:Sip G E' [] d d'):Sic G E' D (.runeOf R d) (.runeOf R d')
 | none {D:List Int} {R:Rng} {d:Way} (hR:R = []):Sic G E' D (.runeOf R d) (.inOrder [])
 | ifHolds {D:List Int} {a:Int} {d d':Way} (h:Sip G E' [] d d'):Sic G E' D (.ifHolds a d) (.ifHolds a d')
 | again {D:List Int} {b b':Nat} (h:G.L b b'):Sic G E' D (.again b) (.again b')
inductive Spa (G:Mp) (E':Nat → Way):List Int → List Way → Way → Prop
 | two {x y x' y':Way} (h:Sip G E' [] x x') (h':Sip G E' [] y y'):Spa G E' [] [x,y] (.inOrder [x',y'])
 | more {x x' d2:Way} {l:List Way} {b:Int} {x2:Nat} {M:List Int} (h:Sip G E' [] x x') (hE:E' x2 = .once b d2) (t:Spa G E' M l d2):Spa G E' (b :: M) (x :: l) (.inOrder [x',.again x2])
end
structure Mp.Ok (G:Mp) (E E':Nat → Way):Prop where
 one:∀ n n' m m',G.C n n' → G.C m m' → (n = m ↔ n' = m')
 noC:∀ m n0 n',G.X m n0 → ¬ G.C m n'
 oneX:∀ m n0 n1,G.X m n0 → G.X m n1 → n0 = n1
 noCr:∀ j n0 n,G.Xr j n0 → ¬ G.C n j
 oneXr:∀ j n0 n1,G.Xr j n0 → G.Xr j n1 → n0 = n1
 yC:∀ b a n,G.Yr b a → ¬ G.C n b
 yX:∀ b a n0,G.Yr b a → ¬ G.Xr b n0
 oneY:∀ b a a1,G.Yr b a → G.Yr b a1 → a = a1
 loop:∀ b b',G.L b b' → Sip G E' [] (E b) (E' b')
structure Alp (G:Mp) (P:Int → Int → Prop) (D:List Int) (p:Nat) (s s':Sg):Prop where
 dn:∀ n n' q,G.C n n' → ((n,q) ∈ s.done ↔ (n',q) ∈ s'.done)
 ex:∀ m n0 q,G.X m n0 → (m,q) ∈ s.done → (n0,q) ∈ s.done ∨ P m q
 er:∀ j n0 q,G.Xr j n0 → (j,q) ∈ s'.done → (n0,q) ∈ s.done ∨ (j ∈ D ∧ q = (p:Int))
 ya:∀ b a q,G.Yr b a → (b,q) ∈ s'.done → (a,q) ∈ s'.done
 nt:s.notes = s'.notes
 pr:s.parses = s'.parses
def Frp (G:Mp) (s' s1':Sg) (T:Int → Int → Prop):Prop:=∀ b a q,G.Yr b a → (a,q) ∈ s'.done → (b,q) ∈ s1'.done → (b,q) ∈ s'.done ∨ T b q
section
variable {G:Mp} {tx:List Int} {E E':Nat → Way}
theorem Alp.at {p:Nat} {s s':Sg} (h:Alp G NoP [] p s s') (p1:Nat):Alp G NoP [] p1 s s':=⟨h.dn,h.ex,fun j n0 q a b => (by
  rcases h.er j n0 q a b with c | ⟨c,_⟩
  ·exact .inl c
  ·cases c),h.ya,h.nt,h.pr⟩
theorem Hp.fn (hG:G.Ok E E') {W:Way} {a b:Int} (h:Hp G W a):Hp G W b → a = b:=by
 induction h with
 | @once n n' d h =>
  intro h2
  cases h2 with
  | once _ => rfl
  | more hX _ => exact absurd h (hG.noC _ _ _ hX)
 | more hX h ih =>
  intro h2
  cases h2 with
  | once h3 => exact absurd h3 (hG.noC _ _ _ hX)
  | more _ h3 => exact ih h3
 | noted h ih =>
  intro h2
  cases h2 with
  | noted h3 => exact ih h3
theorem Hp.c {W:Way} {n0:Int} (h:Hp G W n0):∃ n0',G.C n0 n0':=by
 induction h with
 | once h => exact ⟨_,h⟩
 | more _ _ ih => exact ih
 | noted _ ih => exact ih
theorem left_skip (hG:G.Ok E E') {W:Way} {n0:Int} (hh:Hp G W n0):∀ {p:Nat} {s s1:Sg},Ex tx E W p s s1 → (n0,(p:Int)) ∈ s.done → s1.notes = s.notes ∧ s1.parses = s.parses ∧ (∀ x ∈ s.done,x ∈ s1.done) ∧ ∀ x ∈ s1.done,x ∈ s.done ∨ ∃ m,G.X m n0 ∧ x = (m,(p:Int)):=by
 induction hh with
 | @once n n' d h =>
  intro p s s1 hx hd
  cases hx with
  | skip _ => exact ⟨rfl,rfl,fun x h => h,fun x h => .inl h⟩
  | once hn _ => exact absurd hd hn
 | @more m n0 d hX h ih =>
  intro p s s1 hx hd
  cases hx with
  | skip _ => exact ⟨rfl,rfl,fun x h => h,fun x h => .inl h⟩
  | once hn hx =>
   obtain ⟨a,b,c,e⟩:=ih hx (List.mem_append.2 (.inl hd))
   refine ⟨a,b,fun x h => c x (List.mem_append.2 (.inl h)),fun x h => ?_⟩
   rcases e x h with h | h
   ·rcases mem_snoc.1 h with h | h
    ·exact .inl h
    ·exact .inr ⟨m,hX,h⟩
   ·exact .inr h
 | @noted c n0 d h ih =>
  intro p s s1 hx hd
  have hno:=hx.notes
  cases hx with
  | noted hx =>
   obtain ⟨a,b,c,e⟩:=ih hx hd
   exact ⟨hno,b,c,e⟩
theorem right_skip (hG:G.Ok E E') {D:List Int} {W W':Way} (h:Sip G E' D W W'):∀ (n0 n0':Int) (p:Nat) (s':Sg),Hp G W n0 → G.C n0 n0' → (n0',(p:Int)) ∈ s'.done → ∃ s1',Ex tx E' W' p s' s1' ∧ s1'.notes = s'.notes ∧ s1'.parses = s'.parses ∧ (∀ x ∈ s'.done,x ∈ s1'.done) ∧ ∀ x ∈ s1'.done,x ∈ s'.done ∨ ∃ j,G.Xr j n0 ∧ x = (j,(p:Int)):=by
 refine Sip.rec (motive_1:=fun D W W' _ => ∀ (n0 n0':Int) (p:Nat) (s':Sg),Hp G W n0 → G.C n0 n0' → (n0',(p:Int)) ∈ s'.done → ∃ s1',Ex tx E' W' p s' s1' ∧ s1'.notes = s'.notes ∧ s1'.parses = s'.parses ∧ (∀ x ∈ s'.done,x ∈ s1'.done) ∧ ∀ x ∈ s1'.done,x ∈ s'.done ∨ ∃ j,G.Xr j n0 ∧ x = (j,(p:Int)))
  (motive_2:=fun D W W' _ => ∀ (n0 n0':Int) (p:Nat) (s':Sg),Hp G W n0 → G.C n0 n0' → (n0',(p:Int)) ∈ s'.done → ∃ s1',Ex tx E' W' p s' s1' ∧ s1'.notes = s'.notes ∧ s1'.parses = s'.parses ∧ (∀ x ∈ s'.done,x ∈ s1'.done) ∧ ∀ x ∈ s1'.done,x ∈ s'.done ∨ ∃ j,G.Xr j n0 ∧ x = (j,(p:Int)))
  (motive_3:=fun _ _ _ _ => True) ?_ ?_ ?_ ?_ ?_ ?_ ?_ ?_ ?_ ?_ ?_ ?_ ?_ ?_ h
 ·intro D W r _ ih;exact ih
 ·intro D W x _ ih n0 n0' p s' hh hc hd
  obtain ⟨s1',a,b⟩:=ih n0 n0' p s' hh hc hd
  exact ⟨s1',.again a,b⟩
 ·intro D W d j n1 hX hh1 hD _ ih n0 n0' p s' hh hc hd
  by_cases hj:(j,(p:Int)) ∈ s'.done
  ·exact ⟨s',.skip hj,rfl,rfl,fun x h => h,fun x h => .inl h⟩
  ·obtain ⟨s1',a,b,c,e,f⟩:=ih n0 n0' p { s' with done:=s'.done ++ [(j,(p:Int))] } hh hc (mem_snoc.2 (.inl hd))
   refine ⟨s1',.once hj a,b,c,fun x h => e x (mem_snoc.2 (.inl h)),fun x h => ?_⟩
   rcases f x h with h | h
   ·rcases mem_snoc.1 h with h | h
    ·exact .inl h
    ·exact .inr ⟨j,by rw [hh.fn hG hh1];exact hX,h⟩
   ·exact .inr h
 ·intro D n0 n0' p s' hh;cases hh
 ·intro D n n' d d' hC _ _ n0 n0' p s' hh hc hd
  cases hh with
  | once _ => rw [← (hG.one _ _ _ _ hC hc).1 rfl] at hd;exact ⟨s',.skip hd,rfl,rfl,fun x h => h,fun x h => .inl h⟩
  | more hX _ => exact absurd hC (hG.noC _ _ _ hX)
 ·intro D n n' l d' M hC _ _ _ _ n0 n0' p s' hh hc hd
  cases hh with
  | once _ => rw [← (hG.one _ _ _ _ hC hc).1 rfl] at hd;exact ⟨s',.skip hd,rfl,rfl,fun x h => h,fun x h => .inl h⟩
  | more hX _ => exact absurd hC (hG.noC _ _ _ hX)
 ·intro D m n1 d W' hX hb hh1 _ ih n0 n0' p s' hh hc hd
  cases hh with
  | once h3 => exact absurd h3 (hG.noC _ _ _ hX)
  | more _ h3 => exact ih n0 n0' p s' h3 hc hd
 ·intro D c d d' _ ih n0 n0' p s' hh hc hd
  cases hh with
  | noted hh =>
   obtain ⟨s1',a,b,e,f,g⟩:=ih n0 n0' p { s' with notes:=s'.notes.set c (p:Int) } hh hc hd
   have hx2:Ex tx E' (.noted c d') p s' { s1' with notes:=s1'.notes.set c (s'.notes.getD c 0) }:=Ex.noted (c:=c) a
   exact ⟨_,hx2,hx2.notes,e,f,g⟩
 ·intro D R d d' _ _ n0 n0' p s' hh;cases hh
 ·intro D R d _ n0 n0' p s' hh;cases hh
 ·intro D a d d' _ _ n0 n0' p s' hh;cases hh
 ·intro D b b' _ n0 n0' p s' hh;cases hh
 ·intros;trivial
 ·intros;trivial
def Pep (G:Mp) (P:Int → Int → Prop) (W:Way) (p:Nat):Prop:=∀ m q,P m q → q = (p:Int) ∧ (∃ n0,G.X m n0 ∧ Hp G W n0) ∧ SizeOf.sizeOf W ≤ SizeOf.sizeOf (G.Bd m)
theorem Pep.no (W:Way) (p:Nat):Pep G NoP W p:=fun m q h => h.elim
def Ded (G:Mp) (D:List Int) (W:Way):Prop:=∀ j ∈ D,∃ n0,G.Xr j n0 ∧ Hp G W n0
theorem Alp.settle (hG:G.Ok E E') {P:Int → Int → Prop} {D:List Int} {W:Way} {p:Nat} {n0:Int} {s s':Sg} (h:Alp G P D p s s') (hP:Pep G P W p) (hDd:Ded G D W) (hh:Hp G W n0) (hd:(n0,(p:Int)) ∈ s.done):Alp G NoP [] p s s':=
 ⟨h.dn,fun m n1 q a b => (by
  rcases h.ex m n1 q a b with c | c
  ·exact .inl c
  ·obtain ⟨rfl,⟨n2,h1,h2⟩,_⟩:=hP m q c
   rw [hG.oneX m n1 n2 a h1,h2.fn hG hh]
   exact .inl hd),fun j n1 q a b => (by
  rcases h.er j n1 q a b with c | ⟨c,rfl⟩
  ·exact .inl c
  ·obtain ⟨n2,h1,h2⟩:=hDd j c
   rw [hG.oneXr j n1 n2 a h1,h2.fn hG hh]
   exact .inl hd),h.ya,h.nt,h.pr⟩
theorem Alp.plain {P:Int → Int → Prop} {D:List Int} {W:Way} {p:Nat} {s s':Sg} (h:Alp G P D p s s') (hP:Pep G P W p) (hDd:Ded G D W) (hW:∀ n0,¬ Hp G W n0):Alp G NoP [] p s s':=
 ⟨h.dn,fun m n1 q a b => (by
  rcases h.ex m n1 q a b with c | c
  ·exact .inl c
  ·obtain ⟨_,⟨n2,_,h2⟩,_⟩:=hP m q c
   exact absurd h2 (hW n2)),fun j n1 q a b => (by
  rcases h.er j n1 q a b with c | ⟨c,_⟩
  ·exact .inl c
  ·obtain ⟨n2,_,h2⟩:=hDd j c
   exact absurd h2 (hW n2)),h.ya,h.nt,h.pr⟩
theorem Frp.refl (s:Sg) (T:Int → Int → Prop):Frp G s s T:=fun m n q _ _ h => .inl h
def Res (G:Mp) (tx:List Int) (E':Nat → Way) (W':Way) (p:Nat) (s1 s':Sg) (T:Int → Int → Prop):Prop:=∃ s1',Ex tx E' W' p s' s1' ∧ Alp G NoP [] p s1 s1' ∧ Frp G s' s1' T
structure Sp3 (G:Mp) (tx:List Int) (E E':Nat → Way) (W:Way) (p:Nat) (s s1:Sg):Prop where
 ex:Ex tx E W p s s1
 one:∀ (D:List Int) (r:Way) (s':Sg) (P:Int → Int → Prop),Sic G E' D W r → Alp G P D p s s' → Pep G P W p → Ded G D W → Res G tx E' r p s1 s' NoT
 row:∀ (l:List Way) (n':Int) (M:List Int) (d':Way) (s':Sg),W = .inOrder l → Spa G E' M l d' → (∀ m ∈ M,G.Yr m n') → M.Nodup → (n',(p:Int)) ∈ s'.done → (∀ m ∈ M,(m,(p:Int)) ∉ s'.done) → Alp G NoP [] p s s' → Res G tx E' d' p s1 s' (fun m q => m ∈ M ∧ q = (p:Int))
theorem sp_ahead (hG:G.Ok E E') {W:Way} {p:Nat} {s s1:Sg} (h:Sp3 G tx E E' W p s s1) {D:List Int} {W':Way} (hS:Sip G E' D W W'):∀ (s':Sg) (P:Int → Int → Prop),Alp G P D p s s' → Pep G P W p → Ded G D W → Res G tx E' W' p s1 s' NoT:=by
 revert h
 refine Sip.rec (motive_1:=fun D W W' _ => Sp3 G tx E E' W p s s1 → ∀ (s':Sg) (P:Int → Int → Prop),Alp G P D p s s' → Pep G P W p → Ded G D W → Res G tx E' W' p s1 s' NoT) (motive_2:=fun D W W' _ => True) (motive_3:=fun _ _ _ _ => True) ?_ ?_ ?_ ?_ ?_ ?_ ?_ ?_ ?_ ?_ ?_ ?_ ?_ ?_ hS
 ·intro D W r hc _ h s' P hA hP hD
  exact h.one D r s' P hc hA hP hD
 ·intro D W x _ ih h s' P hA hP hD
  obtain ⟨s1',a,b⟩:=ih h s' P hA hP hD
  exact ⟨s1',.again a,b⟩
 ·intro D W d j n0 hX hh hjD _ ih h s' P hA hP hD
  by_cases hj:(j,(p:Int)) ∈ s'.done
  ·have hd:(n0,(p:Int)) ∈ s.done:=by
    rcases hA.er j n0 _ hX hj with c | ⟨c,_⟩
    ·exact c
    ·exact absurd c hjD
   have hA2:=hA.settle hG hP hD hh hd
   obtain ⟨e1,e2,e3,e4⟩:=left_skip hG hh h.ex hd
   refine ⟨s',.skip hj,⟨fun n n' q hC => ?_,fun m n1 q hX1 hm => ?_,fun j1 n1 q hX1 hm => ?_,hA2.ya,by rw [e1];exact hA2.nt,by rw [e2];exact hA2.pr⟩,.refl _ _⟩
   ·rw [← hA2.dn n n' q hC]
    refine ⟨fun hm => ?_,fun hm => e3 _ hm⟩
    rcases e4 _ hm with hm | ⟨m,hX2,e⟩
    ·exact hm
    ·simp only [Prod.mk.injEq] at e
     exact absurd hC (by rw [e.1];exact hG.noC _ _ _ hX2)
   ·rcases e4 _ hm with hm | ⟨m2,hX2,e⟩
    ·rcases hA2.ex m n1 q hX1 hm with c | c
     ·exact .inl (e3 _ c)
     ·exact .inr c
    ·simp only [Prod.mk.injEq] at e
     obtain ⟨rfl,rfl⟩:=e
     rw [hG.oneX _ _ _ hX1 hX2]
     exact .inl (e3 _ hd)
   ·rcases hA2.er j1 n1 q hX1 hm with c | c
    ·exact .inl (e3 _ c)
    ·exact .inr c
  ·have hA1:Alp G P (j :: D) p s { s' with done:=s'.done ++ [(j,(p:Int))] }:=by
    refine ⟨fun n n' q hC => ?_,hA.ex,fun j1 n1 q hX1 hm => ?_,fun b a q hY hm => ?_,hA.nt,hA.pr⟩
    ·simp only [mem_snoc,Prod.mk.injEq]
     rw [hA.dn n n' q hC]
     refine ⟨.inl,?_⟩
     rintro (h | ⟨rfl,_⟩)
     ·exact h
     ·exact absurd hC (hG.noCr _ _ _ hX)
    ·simp only [mem_snoc,Prod.mk.injEq] at hm
     rcases hm with hm | ⟨rfl,rfl⟩
     ·rcases hA.er j1 n1 q hX1 hm with c | ⟨c,e⟩
      ·exact .inl c
      ·exact .inr ⟨List.mem_cons_of_mem _ c,e⟩
     ·exact .inr ⟨List.mem_cons_self ..,rfl⟩
    ·simp only [mem_snoc,Prod.mk.injEq] at hm ⊢
     rcases hm with hm | ⟨rfl,_⟩
     ·exact .inl (hA.ya b a q hY hm)
     ·exact absurd hX (hG.yX _ _ _ hY)
   have hD1:Ded G (j :: D) W:=fun j1 hj1 => by
    rcases List.mem_cons.1 hj1 with rfl | hj1
    ·exact ⟨n0,hX,hh⟩
    ·exact hD j1 hj1
   obtain ⟨s1',a,b,c⟩:=ih h _ P hA1 hP hD1
   refine ⟨s1',.once hj a,b,fun b1 a1 q hY ha hb => ?_⟩
   rcases c b1 a1 q hY (mem_snoc.2 (.inl ha)) hb with h | h
   ·rcases mem_snoc.1 h with h | h
    ·exact .inl h
    ·simp only [Prod.mk.injEq] at h
     exact absurd hX (by rw [← h.1];exact hG.yX _ _ _ hY)
   ·exact .inr h
 ·intros;trivial
 ·intros;trivial
 ·intros;trivial
 ·intros;trivial
 ·intros;trivial
 ·intros;trivial
 ·intros;trivial
 ·intros;trivial
 ·intros;trivial
 ·intros;trivial
 ·intros;trivial
end
section
variable {G:Mp} {tx:List Int} {E E':Nat → Way}
theorem chn_two {M:Way → Sg → Sg → Prop} {x:Way} {l:List Way} {s s2:Sg} (h:Chn M (x :: l) s s2):∃ s1,M x s s1 ∧ Chn M l s1 s2:=by cases h with | cons h t => exact ⟨_,h,t⟩
theorem chn_none {M:Way → Sg → Sg → Prop} {s s2:Sg} (h:Chn M [] s s2):s2 = s:=by cases h;rfl
theorem ex_two {x y:Way} {p:Nat} {s s1 s2:Sg} (h:Ex tx E x p s s1) (h':Ex tx E y p s1 s2):Ex tx E (.inOrder [x,y]) p s s2:=inOrder_of (.cons h (.cons h' (.nil _)))
theorem spa_chn (hG:G.Ok E E') {p:Nat} {M:List Int} {l:List Way} {d':Way} (h:Spa G E' M l d'):∀ (n':Int) (s s1 s':Sg),Chn (fun d s s1 => Sp3 G tx E E' d p s s1) l s s1 → (∀ m ∈ M,G.Yr m n') → M.Nodup → (n',(p:Int)) ∈ s'.done → (∀ m ∈ M,(m,(p:Int)) ∉ s'.done) → Alp G NoP [] p s s' → Res G tx E' d' p s1 s' (fun m q => m ∈ M ∧ q = (p:Int)):=by
 refine Spa.rec (motive_1:=fun _ _ _ _ => True) (motive_2:=fun _ _ _ _ => True) (motive_3:=fun M l d' _ => ∀ (n':Int) (s s1 s':Sg),Chn (fun d s s1 => Sp3 G tx E E' d p s s1) l s s1 → (∀ m ∈ M,G.Yr m n') → M.Nodup → (n',(p:Int)) ∈ s'.done → (∀ m ∈ M,(m,(p:Int)) ∉ s'.done) → Alp G NoP [] p s s' → Res G tx E' d' p s1 s' (fun m q => m ∈ M ∧ q = (p:Int))) ?_ ?_ ?_ ?_ ?_ ?_ ?_ ?_ ?_ ?_ ?_ ?_ ?_ ?_ h
 ·intros;trivial
 ·intros;trivial
 ·intros;trivial
 ·intros;trivial
 ·intros;trivial
 ·intros;trivial
 ·intros;trivial
 ·intros;trivial
 ·intros;trivial
 ·intros;trivial
 ·intros;trivial
 ·intros;trivial
 ·intro x y x' y' hx hy _ _ n' s s1 s' hc hY hM hn hno hA
  obtain ⟨sm,c1,hc⟩:=chn_two hc
  obtain ⟨se,c2,hc⟩:=chn_two hc
  have:=chn_none hc
  subst this
  obtain ⟨a1,x1,b1,f1⟩:=sp_ahead hG c1 hx s' NoP hA (Pep.no _ _) (fun j hj => by cases hj)
  obtain ⟨a2,x2,b2,f2⟩:=sp_ahead hG c2 hy a1 NoP b1 (Pep.no _ _) (fun j hj => by cases hj)
  refine ⟨a2,ex_two x1 x2,b2,fun b a q hY ha hb => ?_⟩
  rcases f2 b a q hY (x1.mono _ ha) hb with h | h
  ·rcases f1 b a q hY ha h with h | h
   ·exact .inl h
   ·exact h.elim
  ·exact h.elim
 ·intro x x' d2 l b x2 M hx hE ht _ iht n' s s1 s' hc hY hM hn hno hA
  obtain ⟨sm,c1,hc⟩:=chn_two hc
  obtain ⟨hbM,hM⟩:=List.nodup_cons.1 hM
  have hYb:=hY b (List.mem_cons_self ..)
  obtain ⟨a1,x1,b1,f1⟩:=sp_ahead hG c1 hx s' NoP hA (Pep.no _ _) (fun j hj => by cases hj)
  have hnot:∀ m ∈ b :: M,(m,(p:Int)) ∉ a1.done:=fun m hm hd => by
   rcases f1 m n' _ (hY m hm) hn hd with h | h
   ·exact hno m hm h
   ·exact h
  have hn1:(n',(p:Int)) ∈ a1.done:=x1.mono _ hn
  have hA1:Alp G NoP [] p sm { a1 with done:=a1.done ++ [(b,(p:Int))] }:=by
   refine ⟨fun n n1 q hC => ?_,b1.ex,fun j n1 q hX hm => ?_,fun b2 a q hY2 hm => ?_,b1.nt,b1.pr⟩
   ·simp only [mem_snoc,Prod.mk.injEq]
    rw [b1.dn n n1 q hC]
    refine ⟨.inl,?_⟩
    rintro (h | ⟨rfl,_⟩)
    ·exact h
    ·exact absurd hC (hG.yC _ _ _ hYb)
   ·simp only [mem_snoc,Prod.mk.injEq] at hm
    rcases hm with hm | ⟨rfl,_⟩
    ·exact b1.er j n1 q hX hm
    ·exact absurd hX (hG.yX _ _ _ hYb)
   ·simp only [mem_snoc,Prod.mk.injEq] at hm ⊢
    rcases hm with hm | ⟨rfl,rfl⟩
    ·exact .inl (b1.ya b2 a q hY2 hm)
    ·rw [hG.oneY _ _ _ hY2 hYb]
     exact .inl hn1
  obtain ⟨a2,x2',b2,f2⟩:=iht n' sm s1 { a1 with done:=a1.done ++ [(b,(p:Int))] } hc (fun m hm => hY m (List.mem_cons_of_mem _ hm)) hM (mem_snoc.2 (.inl hn1)) (fun m hm hd => by
   rcases mem_snoc.1 hd with hd | hd
   ·exact hnot m (List.mem_cons_of_mem _ hm) hd
   ·simp only [Prod.mk.injEq] at hd
    rw [hd.1] at hm
    exact hbM hm) hA1
  refine ⟨a2,ex_two x1 (.again (by rw [hE];exact .once (hnot b (List.mem_cons_self ..)) x2')),b2,fun c a q hYc ha hb => ?_⟩
  rcases f2 c a q hYc (mem_snoc.2 (.inl (x1.mono _ ha))) hb with h | h
  ·rcases mem_snoc.1 h with h | h
   ·rcases f1 c a q hYc ha h with h | h
    ·exact .inl h
    ·exact h.elim
   ·simp only [Prod.mk.injEq] at h
    exact .inr ⟨by rw [h.1];exact List.mem_cons_self ..,h.2⟩
  ·exact .inr ⟨List.mem_cons_of_mem _ h.1,h.2⟩
end
end Go.Proofs.YtacaanhnlfpbhaaGreat
