/- HELPERS: texts of ours put together. -/
import Derived.Test.YtacaanhnlfpbhaaGreatK17
import Derived.Test.YtacaanhnlfpbhaaGreatK03
import Derived.Test.YtacaanhnlfpbhaaGreatK06
import Derived.Laws.EntriesVeiled
import Derived.Test.YtacaanhnlfpbhaaGreatK08
import Derived.Test.YtacaanhnlfpbhaaGreatK14
namespace Go.Proofs.YtacaanhnlfpbhaaGreat
open Go.RowKit
set_option linter.unusedVariables false
set_option linter.unusedSimpArgs false
theorem Ex.notes {tx:List Int} {E:Nat→Way} {W:Way} {p:Nat} {s s':Sg} (h:Ex tx E W p s s'):s'.notes=s.notes:=by
 induction h with
 | through p s=>rfl
 | skip h=>rfl
 | once h hd ih=>exact ih
 | @noted c d p s s' hd ih =>
  show s'.notes.set c (s.notes.getD c 0)=s.notes
  rw [ih]
  show (s.notes.set c (p:Int)).set c (s.notes.getD c 0)=s.notes
  rw [List.set_set]
  by_cases hc:c < s.notes.length
  ·rw [show s.notes.getD c 0=s.notes[c] by simp [List.getD_eq_getElem?_getD,hc],List.set_getElem_self]
  ·exact List.set_eq_of_length_le (by omega)
 | over h=>rfl
 | other h hr=>rfl
 | rune h hr hd ih=>exact ih
 | fails h=>rfl
 | holds h hd ih=>exact ih
 | @inOrder l p ss h ih =>
  have key:∀ i,i≤l.length→(ss i).notes=(ss 0).notes:=by
   intro i
   induction i with
   | zero=>intro _;rfl
   | succ i ihi=>intro hi;rw [ih i (by omega),ihi (by omega)]
  exact key _ (Nat.le_refl _)
 | again h ih=>exact ih
mutual
def Way.cl (A:Nat→List Nat→Prop):Way→List Nat→Prop
 | .through,O=>O=[]
 | .once _ d,O=>d.cl A O
 | .noted c d,O=>(∃ i,1≤i∧c=2 * i∧d.cl A (i :: O))∨∃ i O',1≤i∧c=2 * i + 1∧O=i :: O'∧d.cl A O'
 | .runeOf _ d,O=>d.cl A O
 | .ifHolds _ d,O=>d.cl A O
 | .inOrder l,O=>clL A l O
 | .again b,O=>A b O
def clL (A:Nat→List Nat→Prop):List Way→List Nat→Prop
 | [],_=>True
 | d :: l,O=>d.cl A O∧clL A l O
end
theorem clL_get {A:Nat→List Nat→Prop} {O:List Nat}:∀ {l:List Way},clL A l O→∀ (i:Nat) (hi:i < l.length),(l[i]'hi).cl A O:=by
 intro l
 induction l with
 | nil=>intro _ i hi;simp at hi
 | cons e l ih =>
  intro h i hi
  simp only [clL] at h
  cases i with
  | zero=>exact h.1
  | succ i=>exact ih h.2 i (by simpa using hi)
theorem clL_snoc {A:Nat→List Nat→Prop} {O:List Nat} {d:Way} (hd:d.cl A O):∀ {l:List Way},clL A l O→clL A (l ++ [d]) O:=by
 intro l
 induction l with
 | nil=>intro _;simp [clL,hd]
 | cons e l ih=>intro h;simp only [clL,List.cons_append] at h ⊢;exact ⟨h.1,ih h.2⟩
mutual
theorem cl_mono {A A':Nat→List Nat→Prop} (hA:∀ b O,A b O→A' b O):∀ (W:Way) (O:List Nat),W.cl A O→W.cl A' O
 | .through,O,h=>by simp only [Way.cl] at h ⊢;exact h
 | .once n d,O,h=>by simp only [Way.cl] at h ⊢;exact cl_mono hA d O h
 | .noted _ d,O,h=>by
  simp only [Way.cl] at h ⊢
  rcases h with ⟨i,h1,h2,h3⟩ | ⟨i,O',h1,h2,h3,h4⟩
  ·exact .inl ⟨i,h1,h2,cl_mono hA d _ h3⟩
  ·exact .inr ⟨i,O',h1,h2,h3,cl_mono hA d _ h4⟩
 | .runeOf _ d,O,h=>by simp only [Way.cl] at h ⊢;exact cl_mono hA d O h
 | .ifHolds _ d,O,h=>by simp only [Way.cl] at h ⊢;exact cl_mono hA d O h
 | .inOrder l,O,h=>by simp only [Way.cl] at h ⊢;exact clL_mono hA l O h
 | .again b,O,h=>by simp only [Way.cl] at h ⊢;exact hA b O h
theorem clL_mono {A A':Nat→List Nat→Prop} (hA:∀ b O,A b O→A' b O):∀ (l:List Way) (O:List Nat),clL A l O→clL A' l O
 | [],O,h=>by simp [clL]
 | d :: l,O,h=>by simp only [clL] at h ⊢;exact ⟨cl_mono hA d O h.1,clL_mono hA l O h.2⟩
end
structure Mid (p0 K p:Nat) (O:List Nat) (ν:List Int):Prop where
 len:ν.length=K
 zero:ν.getD 0 0=(p0:Int)
 le:p0≤p
 opn:∀ i,1≤i→2 * i + 1 < K→i ∈ O→(p0:Int)≤ν.getD (2 * i) 0∧ν.getD (2 * i) 0≤(p:Int)
 cls:∀ i,1≤i→2 * i + 1 < K→i ∉ O→(ν.getD (2 * i) 0=-1∧ν.getD (2 * i + 1) 0=-1)∨((p0:Int)≤ν.getD (2 * i) 0∧ν.getD (2 * i) 0≤ν.getD (2 * i + 1) 0∧ν.getD (2 * i + 1) 0≤(p:Int))
structure Within (p0 K:Nat) (e:Int × List Int):Prop where
 len:e.2.length=K
 zero:e.2.getD 0 0=(p0:Int)
 one:e.2.getD 1 0=e.1
 grp:∀ i,1≤i→2 * i + 1 < K→(e.2.getD (2 * i) 0=-1∧e.2.getD (2 * i + 1) 0=-1)∨((p0:Int)≤e.2.getD (2 * i) 0∧e.2.getD (2 * i) 0≤e.2.getD (2 * i + 1) 0∧e.2.getD (2 * i + 1) 0≤e.1)
theorem getD_set_ne {l:List Int} {i j:Nat} {x:Int} (h:i≠j):(l.set i x).getD j 0=l.getD j 0:=by
 simp only [List.getD_eq_getElem?_getD,List.getElem?_set_ne h]
theorem getD_set_eq {l:List Int} {i:Nat} {x:Int} (h:i < l.length):(l.set i x).getD i 0=x:=by
 simp only [List.getD_eq_getElem?_getD,List.getElem?_set_self h]
 rfl
theorem Mid.on {p0 K p q:Nat} {O:List Nat} {ν:List Int} (h:Mid p0 K p O ν) (hq:p≤q):Mid p0 K q O ν:=
 ⟨h.len,h.zero,by have:=h.le;omega,fun i a b c=>by have:=h.opn i a b c;omega,fun i a b c=>by have:=h.cls i a b c;omega⟩
theorem Mid.begins {p0 K p:Nat} {O:List Nat} {ν:List Int} (h:Mid p0 K p O ν) (j:Nat) (hj:1≤j):Mid p0 K p (j :: O) (ν.set (2 * j) (p:Int)):=by
 refine ⟨by simp [h.len],by rw [getD_set_ne (by omega)];exact h.zero,h.le,fun i a b c=>?_,fun i a b c=>?_⟩
 ·by_cases hi:i=j
  ·subst hi
   rw [getD_set_eq (by rw [h.len];omega)]
   have:=h.le
   omega
  ·rw [getD_set_ne (by omega)]
   simp only [List.mem_cons,hi,false_or] at c
   exact h.opn i a b c
 ·simp only [List.mem_cons,not_or] at c
  rw [getD_set_ne (by omega),getD_set_ne (by omega)]
  exact h.cls i a b c.2
theorem Mid.closes {p0 K p j:Nat} {O:List Nat} {ν:List Int} (h:Mid p0 K p (j :: O) ν) (hj:1≤j):Mid p0 K p O (ν.set (2 * j + 1) (p:Int)):=by
 refine ⟨by simp [h.len],by rw [getD_set_ne (by omega)];exact h.zero,h.le,fun i a b c=>?_,fun i a b c=>?_⟩
 ·rw [getD_set_ne (by omega)]
  exact h.opn i a b (by simp [c])
 ·by_cases hi:i=j
  ·subst hi
   have:=h.opn i a b (by simp)
   rw [getD_set_ne (by omega),getD_set_eq (by rw [h.len];omega)]
   exact .inr ⟨this.1,this.2,Int.le_refl _⟩
  ·rw [getD_set_ne (by omega),getD_set_ne (by omega)]
   exact h.cls i a b (by simp [hi,c])
theorem ex_within {tx:List Int} {E:Nat→Way} {A:Nat→List Nat→Prop} (hE:∀ b O,A b O→(E b).cl A O) {p0 K:Nat} (hK:2≤K) {W:Way} {p:Nat} {s s':Sg} (h:Ex tx E W p s s'):∀ O,W.cl A O→Mid p0 K p O s.notes→(∀ e ∈ s.parses,Within p0 K e)→∀ e ∈ s'.parses,Within p0 K e:=by
 induction h with
 | through p s =>
  intro O hO hM hP e he
  simp only [Way.cl] at hO
  subst hO
  simp only [List.mem_append,List.mem_singleton] at he
  rcases he with he | rfl
  ·exact hP e he
  ·refine ⟨by simp [hM.len],by rw [getD_set_ne (by omega)];exact hM.zero,getD_set_eq (by rw [hM.len];omega),fun i a b=>?_⟩
   show ((s.notes.set 1 (p:Int)).getD (2 * i) 0=-1∧_)∨_
   rw [getD_set_ne (by omega),getD_set_ne (by omega)]
   exact hM.cls i a b (by simp)
 | skip h=>intro O hO hM hP;exact hP
 | once h hd ih=>intro O hO hM hP;simp only [Way.cl] at hO;exact ih O hO hM hP
 | noted hd ih =>
  intro O hO hM hP
  simp only [Way.cl] at hO
  rcases hO with ⟨i,h1,rfl,h3⟩ | ⟨i,O',h1,rfl,rfl,h4⟩
  ·exact ih _ h3 (hM.begins i h1) hP
  ·exact ih _ h4 (hM.closes h1) hP
 | over h=>intro O hO hM hP;exact hP
 | other h hr=>intro O hO hM hP;exact hP
 | rune h hr hd ih=>intro O hO hM hP;simp only [Way.cl] at hO;exact ih O hO (hM.on (by omega)) hP
 | fails h=>intro O hO hM hP;exact hP
 | holds h hd ih=>intro O hO hM hP;simp only [Way.cl] at hO;exact ih O hO hM hP
 | @inOrder l p ss h ih =>
  intro O hO hM hP
  simp only [Way.cl] at hO
  have key:∀ i,i≤l.length→(ss i).notes=(ss 0).notes∧∀ e ∈ (ss i).parses,Within p0 K e:=by
   intro i
   induction i with
   | zero=>intro _;exact ⟨rfl,hP⟩
   | succ i ihi =>
    intro hi
    obtain ⟨a,b⟩:=ihi (by omega)
    exact ⟨(h i (by omega)).notes.trans a,ih i (by omega) O (clL_get hO i (by omega)) (by rw [a];exact hM) b⟩
  exact (key _ (Nat.le_refl _)).2
 | again h ih=>intro O hO hM hP;simp only [Way.cl] at hO;exact ih O (hE _ O hO) hM hP
mutual
def Tn.from1:Tn→Prop
 | .mk k R a s mn mx lz ix nm=>(k=7→1≤ix)∧from1L s
def from1L:List Tn→Prop
 | []=>True
 | t :: ts=>t.from1∧from1L ts
end
theorem from1L_snoc {t:Tn}:∀ {ts:List Tn},from1L (ts ++ [t])↔from1L ts∧t.from1:=by
 intro ts
 induction ts with
 | nil=>simp [from1L]
 | cons u ts ih=>simp only [List.cons_append,from1L,ih,and_assoc]
structure Mor (E:Nat→Way) (A A':Nat→List Nat→Prop):Prop where
 sub:∀ b O,A b O→A' b O
 new:∀ b O,A' b O→A b O∨(E b).cl A' O
section
variable {E:Nat→Way}
theorem Mor.refl (A:Nat→List Nat→Prop):Mor E A A:=⟨fun _ _ h=>h,fun _ _ h=>.inl h⟩
theorem Mor.trans {A A1 A2:Nat→List Nat→Prop} (h:Mor E A A1) (h':Mor E A1 A2):Mor E A A2:=
 ⟨fun b O hb=>h'.sub b O (h.sub b O hb),fun b O hb=>by
  rcases h'.new b O hb with hb | hb
  ·rcases h.new b O hb with hb | hb
   ·exact .inl hb
   ·exact .inr (cl_mono h'.sub _ _ hb)
  ·exact .inr hb⟩
def ClM (E:Nat→Way) (B W:Way):Prop:=∀ A O,B.cl A O→∃ A',Mor E A A'∧W.cl A' O
theorem ClM.self (B:Way):ClM E B B:=fun A O h=>⟨A,.refl A,h⟩
theorem ClM.seq {B W W':Way} (h:ClM E B W) (h':ClM E W W'):ClM E B W':=fun A O hb=>by
 obtain ⟨A1,m1,h1⟩:=h A O hb
 obtain ⟨A2,m2,h2⟩:=h' A1 O h1
 exact ⟨A2,m1.trans m2,h2⟩
theorem ClM.map {B W W':Way} (h:ClM E B W) (hW:∀ A O,W.cl A O→W'.cl A O):ClM E B W':=fun A O hb=>by
 obtain ⟨A1,m1,h1⟩:=h A O hb
 exact ⟨A1,m1,hW _ _ h1⟩
theorem ClM.round {n:Int} {b:Nat} {B:Way} (lz:Bool) (h:ClM E (Dcd lz n b B) (E b)) {A:Nat→List Nat→Prop} {O:List Nat} (hB:B.cl A O):∃ A',Mor E A A'∧(E b).cl A' O∧(Dcd lz n b B).cl A' O:=by
 have hD:(Dcd lz n b B).cl (fun x P=>A x P∨(x=b∧P=O)) O:=by
  have hB':=cl_mono (A':=fun x P=>A x P∨(x=b∧P=O)) (fun x P hx=>.inl hx) B O hB
  simp only [Way.cl]
  cases lz <;> simp [clL,hB',Way.cl]
 obtain ⟨A1,m1,h1⟩:=h _ O hD
 refine ⟨A1,⟨fun x P hx=>m1.sub x P (.inl hx),fun x P hx=>?_⟩,h1,cl_mono m1.sub _ _ hD⟩
 rcases m1.new x P hx with (hx | ⟨rfl,rfl⟩) | hx
 ·exact .inl hx
 ·exact .inr h1
 ·exact .inr hx
theorem Beg.closes {t:Tn} {n n1:Int} {B W:Way} (h:Beg E t n B n1 W):t.from1→ClM E B W:=by
 refine Beg.rec (motive_1:=fun t n B n1 W _=>t.from1→ClM E B W) (motive_2:=fun ts n B n1 W _=>from1L ts→ClM E B W)
  (motive_3:=fun ts n B n1 Ws _=>from1L ts→∀ A O,B.cl A O→∃ A',Mor E A A'∧clL A' Ws O)
  (motive_4:=fun t c n B n1 W _=>t.from1→ClM E B W) (motive_5:=fun t lz B c n n1 W _=>t.from1→ClM E B W)
  ?_ ?_ ?_ ?_ ?_ ?_ ?_ ?_ ?_ ?_ ?_ ?_ ?_ ?_ ?_ ?_ ?_ h
 ·intro R a s mn mx lz ix nm n B _
  exact (ClM.self B).map fun _ _ h=>by simp only [Way.cl];exact h
 ·intro R a s mn mx lz ix nm n B _
  exact (ClM.self B).map fun _ _ h=>by simp only [Way.cl];exact h
 ·intro R a s mn mx lz ix nm n B _
  exact (ClM.self B).map fun _ _ h=>by simp only [Way.cl];exact h
 ·intro R a s mn mx lz ix nm n n' B W _ h hf
  simp only [Tn.from1] at hf
  exact h hf.2
 ·intro R a s mn mx lz ix nm n n' B Ws _ h hf A O hb
  simp only [Tn.from1] at hf
  obtain ⟨A1,m1,h1⟩:=h hf.2 A O hb
  exact ⟨A1,m1,by simp only [Way.cl];exact h1⟩
 ·intro R a t mn mx lz i nm n n' B W _ h hf A O hb
  simp only [Tn.from1,from1L] at hf
  have hi:1≤i:=by have:=hf.1 trivial;omega
  obtain ⟨A1,m1,h1⟩:=h hf.2.1 A (i :: O) (by simp only [Way.cl];exact .inr ⟨i,O,hi,rfl,rfl,hb⟩)
  exact ⟨A1,m1,by simp only [Way.cl];exact .inl ⟨i,hi,rfl,h1⟩⟩
 ·intro R a t lz ix nm n n2 b B _ h hf A O hb
  simp only [Tn.from1,from1L] at hf
  obtain ⟨A1,m1,_,h1⟩:=(h hf.2.1).round lz hb
  exact ⟨A1,m1,h1⟩
 ·intro R a t c lz ix nm n n2 n3 b B W3 _ _ h hT hf
  simp only [Tn.from1,from1L] at hf
  refine ClM.seq (fun A O hb=>?_) (hT hf.2.1)
  obtain ⟨A1,m1,h1,_⟩:=(h hf.2.1).round lz hb
  exact ⟨A1,m1,h1⟩
 ·intro R a t c m lz ix nm n n1 n2 B W1 W2 _ _ hO hT hf
  simp only [Tn.from1,from1L] at hf
  exact (hO hf.2.1).seq (hT hf.2.1)
 ·intro n B _
  exact .self B
 ·intro t ts n n1 n2 B W1 W2 _ _ h h2 hf
  simp only [from1L] at hf
  exact (h hf.2).seq (h2 hf.1)
 ·intro n B _ A O hb
  exact ⟨A,.refl A,by simp [clL]⟩
 ·intro t ts n n1 n2 B W2 Ws _ _ hl hl2 hf A O hb
  rw [from1L_snoc] at hf
  obtain ⟨A1,m1,h1⟩:=hl hf.1 A O hb
  obtain ⟨A2,m2,h2⟩:=hl2 hf.2 A1 O (cl_mono m1.sub _ _ hb)
  exact ⟨A2,m1.trans m2,clL_snoc h2 (clL_mono m2.sub _ _ h1)⟩
 ·intro t n W _
  exact .self W
 ·intro t c n n1 n2 W W1 W2 _ _ h h2 hf
  exact (h hf).seq (h2 hf)
 ·intro t lz B n _
  exact .self B
 ·intro t lz B c n n1 n2 W1 W2 _ _ h h2 hf A O hb
  obtain ⟨A1,m1,h1⟩:=((h hf).seq (h2 hf)) A O hb
  have hb1:=cl_mono m1.sub _ _ hb
  refine ⟨A1,m1,?_⟩
  simp only [Way.cl]
  cases lz <;> simp [clL,h1,hb1]
end
theorem PS.within {t:Tn} {K:Nat} {tx:List Int} {p:Nat} {l:List (Int × List Int)} (h:PS t K tx p l) (hK:2≤K) (hf:t.from1):∀ e ∈ l,Within p K e:=by
 obtain ⟨E,W,n1,s',hB,hE,hg,hx,rfl⟩:=h.ex
 obtain ⟨A,hM,hc⟩:=hB.closes hf (fun _ _=>False) [] (by simp [Way.cl])
 refine ex_within (A:=A) (fun b O hb=>?_) hK hx [] hc ⟨by simp,getD_set_eq (by simp;omega),Nat.le_refl _,fun i _ _ hi=>(by cases hi),fun i a b _=>.inl ?_⟩ (fun e he=>by cases he)
 ·rcases hM.new b O hb with h | h
  ·exact h.elim
  ·exact h
 ·show ((List.replicate K (-1)).set 0 (p:Int)).getD (2 * i) 0=-1∧((List.replicate K (-1)).set 0 (p:Int)).getD (2 * i + 1) 0=-1
  rw [getD_set_ne (by omega),getD_set_ne (by omega)]
  simp only [List.getD_eq_getElem?_getD,List.getElem?_replicate]
  rw [if_pos (by omega),if_pos (by omega)]
  simp
mutual
theorem Tn.fine_from1:∀ (t:Tn),t.fine=true→t.from1
 | .mk k R a s mn mx lz ix nm,h=>by
  simp only [Tn.fine,Bool.and_eq_true] at h
  simp only [Tn.from1]
  exact ⟨fun hk=>((fine_nodeZ h.1).grp hk).2.1,fineL_from1 s h.2⟩
theorem fineL_from1:∀ (ts:List Tn),fineL ts=true→from1L ts
 | [],_=>by simp [from1L]
 | t :: ts,h=>by
  simp only [fineL,Bool.and_eq_true] at h
  simp only [from1L]
  exact ⟨t.fine_from1 h.1,fineL_from1 ts h.2⟩
end
theorem nodup_leY:∀ {l m:List Int},l.Nodup→(∀ x ∈ l,x ∈ m)→l.length≤m.length:=by
 intro l
 induction l with
 | nil=>intro m _ _;simp
 | cons a l ih =>
  intro m hn hm
  simp only [List.nodup_cons] at hn
  have ha:=hm a (by simp)
  have h1:=ih (m:=m.erase a) hn.2 fun x hx=>(List.mem_erase_of_ne (show x≠a from fun e=>hn.1 (by rw [← e];exact hx))).2 (hm x (by simp [hx]))
  rw [List.length_erase_of_mem ha] at h1
  have:=List.length_pos_of_mem ha
  simp only [List.length_cons]
  omega
structure Mat where
 C:Int→Int→Prop
 L:Nat→Nat→Prop
 X:Int→Int→Prop
 Bd:Int→Way
 drop:Bool
 NR:List Int→List Int→Prop
 PR:List (Int × List Int)→List (Int × List Int)→Prop
inductive Hdp (G:Mat):Way→Int→Prop
 | once {n n':Int} {d:Way} (h:G.C n n'):Hdp G (.once n d) n
 | more {m n0:Int} {d:Way} (hX:G.X m n0) (h:Hdp G d n0):Hdp G (.once m d) n0
 | noted {c:Nat} {n0:Int} {d:Way} (h:Hdp G d n0):Hdp G (.noted c d) n0
inductive SimY (G:Mat):Way→Way→Prop
 | through:SimY G .through .through
 | once {n n':Int} {d d':Way} (hC:G.C n n') (h:SimY G d d'):SimY G (.once n d) (.once n' d')
 | more {m n0:Int} {d W':Way} (hX:G.X m n0) (hb:G.Bd m=d) (hh:Hdp G d n0) (h:SimY G d W'):SimY G (.once m d) W'
 | noted {c:Nat} {d d':Way} (hk:G.drop=false) (h:SimY G d d'):SimY G (.noted c d) (.noted c d')
 | dropped {c:Nat} {d W':Way} (hk:G.drop=true) (h:SimY G d W'):SimY G (.noted c d) W'
 | runeOf {R:Rng} {d d':Way} (h:SimY G d d'):SimY G (.runeOf R d) (.runeOf R d')
 | ifHolds {a:Int} {d d':Way} (h:SimY G d d'):SimY G (.ifHolds a d) (.ifHolds a d')
 | inOrder {l l':List Way} (hl:l.length=l'.length) (h:∀ i (hi:i < l.length) (hi':i < l'.length),SimY G (l[i]'hi) (l'[i]'hi')):SimY G (.inOrder l) (.inOrder l')
 | again {b b':Nat} (h:G.L b b'):SimY G (.again b) (.again b')
structure Mat.Ok (G:Mat) (E E':Nat→Way):Prop where
 one:∀ n n' m m',G.C n n'→G.C m m'→(n=m↔n'=m')
 noC:∀ m n0 n',G.X m n0→¬ G.C m n'
 oneX:∀ m n0 n1,G.X m n0→G.X m n1→n0=n1
 loop:∀ b b',G.L b b'→SimY G (E b) (E' b')
 set:∀ c x ν ν',G.drop=false→G.NR ν ν'→G.NR (ν.set c x) (ν'.set c x)
 setL:∀ c x ν ν',G.drop=true→G.NR ν ν'→G.NR (ν.set c x) ν'
 par:∀ (p:Nat) ν ν' l l',G.NR ν ν'→G.PR l l'→G.PR (l ++ [((p:Int),ν.set 1 (p:Int))]) (l' ++ [((p:Int),ν'.set 1 (p:Int))])
structure Alk (G:Mat) (P:Int→Int→Prop) (s s':Sg):Prop where
 dn:∀ n n' q,G.C n n'→((n,q) ∈ s.done↔(n',q) ∈ s'.done)
 ex:∀ m n0 q,G.X m n0→(m,q) ∈ s.done→(n0,q) ∈ s.done∨P m q
 nt:G.NR s.notes s'.notes
 pr:G.PR s.parses s'.parses
abbrev NoP:Int→Int→Prop:=fun _ _=>False
section
variable {G:Mat} {tx:List Int} {E E':Nat→Way}
theorem Alk.none {P:Int→Int→Prop} {s s':Sg} (h:Alk G P s s') (hP:∀ m q,¬ P m q):Alk G NoP s s':=
 ⟨h.dn,fun m n0 q a b=>by rcases h.ex m n0 q a b with c | c;exact .inl c;exact absurd c (hP m q),h.nt,h.pr⟩
theorem Hdp.fn (hG:G.Ok E E') {W:Way} {a b:Int} (h:Hdp G W a):Hdp G W b→a=b:=by
 induction h with
 | @once n n' d h =>
  intro h2
  cases h2 with
  | once _=>rfl
  | more hX _=>exact absurd h (hG.noC _ _ _ hX)
 | more hX h ih =>
  intro h2
  cases h2 with
  | once h3=>exact absurd h3 (hG.noC _ _ _ hX)
  | more _ h3=>exact ih h3
 | noted h ih =>
  intro h2
  cases h2 with
  | noted h3=>exact ih h3
theorem noted_self (s:Sg) (c:Nat) (x:Int):{ s with notes:=(s.notes.set c x).set c (s.notes.getD c 0) }=s:=by
 have:(s.notes.set c x).set c (s.notes.getD c 0)=s.notes:=by
  rw [List.set_set]
  by_cases hc:c < s.notes.length
  ·rw [show s.notes.getD c 0=s.notes[c] by simp [List.getD_eq_getElem?_getD,hc],List.set_getElem_self]
  ·exact List.set_eq_of_length_le (by omega)
 rw [this]
theorem sim_skip (hG:G.Ok E E') {W W':Way} (h:SimY G W W'):∀ (n0 n0':Int) (p:Nat) (s':Sg),Hdp G W n0→G.C n0 n0'→(n0',(p:Int)) ∈ s'.done→Ex tx E' W' p s' s':=by
 induction h with
 | through=>intro n0 n0' p s' hh;cases hh
 | @once n n' d d' hC h ih =>
  intro n0 n0' p s' hh hc hd
  cases hh with
  | once _=>rw [← (hG.one _ _ _ _ hC hc).1 rfl] at hd;exact .skip hd
  | more hX _=>exact absurd hC (hG.noC _ _ _ hX)
 | more hX hb hh h ih =>
  intro n0 n0' p s' h2 hc hd
  cases h2 with
  | once h3=>exact absurd h3 (hG.noC _ _ _ hX)
  | more hX2 h3=>exact ih _ _ p s' h3 hc hd
 | @noted c d d' hk h ih =>
  intro n0 n0' p s' hh hc hd
  cases hh with
  | noted hh =>
   have this:Ex tx E' (.noted c d') p s' { s' with notes:=(s'.notes.set c (p:Int)).set c (s'.notes.getD c 0) }:=Ex.noted (c:=c) (ih n0 n0' p { s' with notes:=s'.notes.set c (p:Int) } hh hc hd)
   rw [noted_self] at this
   exact this
 | dropped hk h ih =>
  intro n0 n0' p s' hh hc hd
  cases hh with
  | noted hh=>exact ih n0 n0' p s' hh hc hd
 | runeOf h ih=>intro n0 n0' p s' hh;cases hh
 | ifHolds h ih=>intro n0 n0' p s' hh;cases hh
 | inOrder hl h ih=>intro n0 n0' p s' hh;cases hh
 | again h=>intro n0 n0' p s' hh;cases hh
theorem Hdp.c {W:Way} {n0:Int} (h:Hdp G W n0):∃ n0',G.C n0 n0':=by
 induction h with
 | once h=>exact ⟨_,h⟩
 | more _ _ ih=>exact ih
 | noted _ ih=>exact ih
def Pend (G:Mat) (P:Int→Int→Prop) (W:Way) (p:Nat):Prop:=∀ m q,P m q→q=(p:Int)∧(∃ n0,G.X m n0∧Hdp G W n0)∧SizeOf.sizeOf W≤SizeOf.sizeOf (G.Bd m)
theorem Pend.no (W:Way) (p:Nat):Pend G NoP W p:=fun m q h=>h.elim
theorem Alk.settle (hG:G.Ok E E') {P:Int→Int→Prop} {W:Way} {p:Nat} {n0:Int} {s s':Sg} (h:Alk G P s s') (hP:Pend G P W p) (hh:Hdp G W n0) (hd:(n0,(p:Int)) ∈ s.done):Alk G NoP s s':=
 ⟨h.dn,fun m n1 q a b=>by
  rcases h.ex m n1 q a b with c | c
  ·exact .inl c
  ·obtain ⟨rfl,⟨n2,h1,h2⟩,_⟩:=hP m q c
   rw [hG.oneX m n1 n2 a h1,h2.fn hG hh]
   exact .inl hd,h.nt,h.pr⟩
theorem Pend.none {P:Int→Int→Prop} {W:Way} {p:Nat} (hP:Pend G P W p) (hW:∀ n0,¬ Hdp G W n0):∀ m q,¬ P m q:=fun m q h=>by
 obtain ⟨_,⟨n0,_,h2⟩,_⟩:=hP m q h
 exact hW n0 h2
theorem sim_ex (hG:G.Ok E E') {W:Way} {p:Nat} {s s1:Sg} (h:Ex tx E W p s s1):∀ (W':Way) (s':Sg) (P:Int→Int→Prop),SimY G W W'→Alk G P s s'→Pend G P W p→∃ s1',Ex tx E' W' p s' s1'∧Alk G NoP s1 s1':=by
 induction h with
 | through p s =>
  intro W' s' P hS hA hP
  have hA:=hA.none (hP.none fun n0 h=>by cases h)
  cases hS
  exact ⟨_,.through p s',hA.dn,hA.ex,hA.nt,hG.par p _ _ _ _ hA.nt hA.pr⟩
 | @skip n d p s h =>
  intro W' s' P hS hA hP
  cases hS with
  | once hC hS=>exact ⟨s',.skip ((hA.dn _ _ _ hC).1 h),hA.settle hG hP (.once hC) h⟩
  | @more _ n0 _ _ hX hb hh hS =>
   have hd:(n0,(p:Int)) ∈ s.done:=by
    rcases hA.ex _ _ _ hX h with hd | hp
    ·exact hd
    ·have:=(hP _ _ hp).2.2
     rw [hb] at this
     simp at this
     omega
   obtain ⟨n0',hC⟩:=hh.c
   exact ⟨s',sim_skip hG hS n0 n0' p s' hh hC ((hA.dn _ _ _ hC).1 hd),hA.settle hG hP (.more hX hh) hd⟩
 | @once n d p s s1 h hd ih =>
  intro W' s' P hS hA hP
  cases hS with
  | @once _ n' _ d' hC hS =>
   have hn:(n',(p:Int)) ∉ s'.done:=fun hm=>h ((hA.dn _ _ _ hC).2 hm)
   have hA1:Alk G P { s with done:=s.done ++ [(n,(p:Int))] } { s' with done:=s'.done ++ [(n',(p:Int))] }:=by
    refine ⟨fun a a' q ha=>?_,fun m n0 q hX hm=>?_,hA.nt,hA.pr⟩
    ·simp only [List.mem_append,List.mem_singleton,Prod.mk.injEq]
     rw [hA.dn a a' q ha,hG.one a a' n n' ha hC]
    ·simp only [List.mem_append,List.mem_singleton,Prod.mk.injEq] at hm ⊢
     rcases hm with hm | ⟨rfl,rfl⟩
     ·rcases hA.ex m n0 q hX hm with hm | hm
      ·exact .inl (.inl hm)
      ·exact .inr hm
     ·exact absurd hC (hG.noC _ _ _ hX)
   have hA2:=hA1.settle hG hP (.once hC) (by simp)
   obtain ⟨s1',hx,hA3⟩:=ih d' _ NoP hS hA2 (Pend.no _ _)
   exact ⟨s1',.once hn hx,hA3⟩
  | @more _ n0 _ _ hX hb hh hS =>
   have hA1:Alk G (fun m q=>P m q∨(m=n∧q=(p:Int))) { s with done:=s.done ++ [(n,(p:Int))] } s':=by
    refine ⟨fun a a' q ha=>?_,fun m n1 q hX1 hm=>?_,hA.nt,hA.pr⟩
    ·simp only [List.mem_append,List.mem_singleton,Prod.mk.injEq]
     rw [← hA.dn a a' q ha]
     constructor
     ·rintro (hm | ⟨rfl,_⟩)
      ·exact hm
      ·exact absurd ha (hG.noC _ _ _ hX)
     ·exact .inl
    ·simp only [List.mem_append,List.mem_singleton,Prod.mk.injEq] at hm ⊢
     rcases hm with hm | hm
     ·rcases hA.ex m n1 q hX1 hm with hm | hm
      ·exact .inl (.inl hm)
      ·exact .inr (.inl hm)
     ·exact .inr (.inr hm)
   obtain ⟨s1',hx,hA3⟩:=ih W' s' _ hS hA1 (fun m q hm=>by
    rcases hm with hm | ⟨rfl,rfl⟩
    ·obtain ⟨a,⟨n2,b1,b2⟩,c⟩:=hP m q hm
     refine ⟨a,⟨n2,b1,?_⟩,?_⟩
     ·rw [← (Hdp.more hX hh).fn hG b2]
      exact hh
     ·simp at c
      omega
    ·exact ⟨rfl,⟨n0,hX,hh⟩,by rw [hb];exact Nat.le_refl _⟩)
   exact ⟨s1',hx,hA3⟩
 | @noted c d p s s1 hd ih =>
  intro W' s' P hS hA hP
  have hPd:Pend G P d p:=fun m q hm=>by
   obtain ⟨a,⟨n2,b1,b2⟩,e⟩:=hP m q hm
   cases b2 with
   | noted b2=>exact ⟨a,⟨n2,b1,b2⟩,by simp at e;omega⟩
  have hno:s1.notes.set c (s.notes.getD c 0)=s.notes:=(Ex.noted hd).notes
  cases hS with
  | @noted _ _ d' hk hS =>
   obtain ⟨s1',hx,hA3⟩:=ih d' { s' with notes:=s'.notes.set c (p:Int) } P hS ⟨hA.dn,hA.ex,hG.set c _ _ _ hk hA.nt,hA.pr⟩ hPd
   have hx2:=Ex.noted (c:=c) (s:=s') hx
   refine ⟨_,hx2,hA3.dn,hA3.ex,?_,hA3.pr⟩
   have e2:=hx2.notes
   simp only at e2 ⊢
   rw [hno,e2]
   exact hA.nt
  | dropped hk hS =>
   obtain ⟨s1',hx,hA3⟩:=ih W' s' P hS ⟨hA.dn,hA.ex,hG.setL c _ _ _ hk hA.nt,hA.pr⟩ hPd
   refine ⟨s1',hx,hA3.dn,hA3.ex,?_,hA3.pr⟩
   show G.NR (s1.notes.set c (s.notes.getD c 0)) s1'.notes
   rw [hno,hx.notes]
   exact hA.nt
 | over h =>
  intro W' s' P hS hA hP
  have hA:=hA.none (hP.none fun n0 h=>by cases h)
  cases hS with | runeOf hS=>exact ⟨s',.over h,hA⟩
 | other h hr =>
  intro W' s' P hS hA hP
  have hA:=hA.none (hP.none fun n0 h=>by cases h)
  cases hS with | runeOf hS=>exact ⟨s',.other h hr,hA⟩
 | rune h hr hd ih =>
  intro W' s' P hS hA hP
  have hA:=hA.none (hP.none fun n0 h=>by cases h)
  cases hS with
  | runeOf hS =>
   obtain ⟨s1',hx,hA3⟩:=ih _ s' NoP hS hA (Pend.no _ _)
   exact ⟨s1',.rune h hr hx,hA3⟩
 | fails h =>
  intro W' s' P hS hA hP
  have hA:=hA.none (hP.none fun n0 h=>by cases h)
  cases hS with | ifHolds hS=>exact ⟨s',.fails h,hA⟩
 | holds h hd ih =>
  intro W' s' P hS hA hP
  have hA:=hA.none (hP.none fun n0 h=>by cases h)
  cases hS with
  | ifHolds hS =>
   obtain ⟨s1',hx,hA3⟩:=ih _ s' NoP hS hA (Pend.no _ _)
   exact ⟨s1',.holds h hx,hA3⟩
 | @inOrder l p ss h ih =>
  intro W' s' P hS hA hP
  have hA:=hA.none (hP.none fun n0 h=>by cases h)
  cases hS with
  | @inOrder _ l' hl hS =>
   have key:∀ m,m≤l.length→∃ tt:Nat→Sg,tt 0=s'∧(∀ i (hi:i < l'.length),i < m→Ex tx E' (l'[i]'hi) p (tt i) (tt (i + 1)))∧Alk G NoP (ss m) (tt m):=by
    intro m
    induction m with
    | zero=>intro _;exact ⟨fun _=>s',rfl,fun i _ hi=>by omega,hA⟩
    | succ m im =>
     intro hm
     obtain ⟨tt,t0,t1,t2⟩:=im (by omega)
     obtain ⟨x,hx,hA3⟩:=ih m (by omega) _ (tt m) NoP (hS m (by omega) (by omega)) t2 (Pend.no _ _)
     refine ⟨fun i=>if i≤m then tt i else x,by simp [t0],fun i hi him=>?_,by show Alk G NoP _ (if m + 1≤m then _ else _);rw [if_neg (by omega)];exact hA3⟩
     by_cases e:i=m
     ·subst e
      show Ex tx E' _ p (if i≤i then _ else _) (if i + 1≤i then _ else _)
      rw [if_pos (Nat.le_refl _),if_neg (by omega)]
      exact hx
     ·simp only [show i≤m by omega,show i + 1≤m by omega,if_true]
      exact t1 i hi (by omega)
   obtain ⟨tt,t0,t1,t2⟩:=key _ (Nat.le_refl _)
   refine ⟨tt l'.length,?_,by rw [← hl];exact t2⟩
   rw [← t0]
   exact .inOrder tt fun i hi=>t1 i hi (by omega)
 | again h ih =>
  intro W' s' P hS hA hP
  have hA:=hA.none (hP.none fun n0 h=>by cases h)
  cases hS with
  | again hL =>
   obtain ⟨s1',hx,hA3⟩:=ih _ s' NoP (hG.loop _ _ hL) hA (Pend.no _ _)
   exact ⟨s1',.again hx,hA3⟩
end
theorem nodesL_app (ts us:List Tn):nodesL (ts ++ us)=nodesL ts + nodesL us:=by
 induction ts with
 | nil=>simp [nodesL]
 | cons t ts ih=>simp only [List.cons_append,nodesL,ih];omega
structure MInv (n n':Int) (G:Mat):Prop where
 le:∀ a a',G.C a a'→a≤n∧a'≤n'
 xle:∀ m n0,G.X m n0→m≤n
 one:∀ a a' m m',G.C a a'→G.C m m'→(a=m↔a'=m')
 noC:∀ m n0 a',G.X m n0→¬ G.C m a'
 oneX:∀ m n0 n1,G.X m n0→G.X m n1→n0=n1
structure GrowY (E E':Nat→Way) (n n':Int) (G:Mat) (n1 n1':Int) (G':Mat):Prop where
 l1:n≤n1
 l2:n'≤n1'
 dr:G'.drop=G.drop
 nr:G'.NR=G.NR
 pr:G'.PR=G.PR
 c:∀ a a',G.C a a'→G'.C a a'
 x:∀ m n0,G.X m n0→G'.X m n0
 bd:∀ m,m≤n→G'.Bd m=G.Bd m
 l:∀ b b',G.L b b'→G'.L b b'
 new:∀ b b',G'.L b b'→G.L b b'∨SimY G' (E b) (E' b')
section
variable {E E':Nat→Way} {n n' n1 n1' n2 n2':Int} {G G1 G2:Mat}
theorem GrowY.refl (n n':Int) (G:Mat):GrowY E E' n n' G n n' G:=⟨Int.le_refl _,Int.le_refl _,rfl,rfl,rfl,fun _ _ h=>h,fun _ _ h=>h,fun _ _=>rfl,fun _ _ h=>h,fun _ _ h=>.inl h⟩
theorem Hdp.up (hc:∀ a a',G.C a a'→G1.C a a') (hx:∀ m n0,G.X m n0→G1.X m n0) {W:Way} {h0:Int} (h:Hdp G W h0):Hdp G1 W h0:=by
 induction h with
 | once h=>exact .once (hc _ _ h)
 | more hX _ ih=>exact .more (hx _ _ hX) ih
 | noted _ ih=>exact .noted ih
theorem SimY.up (hI:MInv n n' G) (hd:G1.drop=G.drop) (hc:∀ a a',G.C a a'→G1.C a a') (hx:∀ m n0,G.X m n0→G1.X m n0) (hb:∀ m,m≤n→G1.Bd m=G.Bd m) (hl:∀ b b',G.L b b'→G1.L b b') {W W':Way} (h:SimY G W W'):SimY G1 W W':=by
 induction h with
 | through=>exact .through
 | once hC _ ih=>exact .once (hc _ _ hC) ih
 | more hX hb2 hh _ ih=>exact .more (hx _ _ hX) ((hb _ (hI.xle _ _ hX)).trans hb2) (hh.up hc hx) ih
 | noted hk _ ih=>exact .noted (hd.trans hk) ih
 | dropped hk _ ih=>exact .dropped (hd.trans hk) ih
 | runeOf _ ih=>exact .runeOf ih
 | ifHolds _ ih=>exact .ifHolds ih
 | inOrder hl _ ih=>exact .inOrder hl ih
 | again h=>exact .again (hl _ _ h)
theorem GrowY.sim (h:GrowY E E' n n' G n1 n1' G1) (hI:MInv n n' G) {W W':Way} (hS:SimY G W W'):SimY G1 W W':=hS.up hI h.dr h.c h.x h.bd h.l
theorem GrowY.trans (h:GrowY E E' n n' G n1 n1' G1) (h':GrowY E E' n1 n1' G1 n2 n2' G2) (hI:MInv n1 n1' G1):GrowY E E' n n' G n2 n2' G2:=
 ⟨Int.le_trans h.l1 h'.l1,Int.le_trans h.l2 h'.l2,h'.dr.trans h.dr,h'.nr.trans h.nr,h'.pr.trans h.pr,fun a a' x=>h'.c _ _ (h.c _ _ x),fun a a' x=>h'.x _ _ (h.x _ _ x),fun m hm=>(h'.bd m (Int.le_trans hm h.l1)).trans (h.bd m hm),fun b b' x=>h'.l _ _ (h.l _ _ x),fun b b' x=>by
  rcases h'.new b b' x with x | x
  ·rcases h.new b b' x with x | x
   ·exact .inl x
   ·exact .inr (h'.sim hI x)
  ·exact .inr x⟩
def Mat.pair (G:Mat) (n n':Int):Mat:={ G with C:=fun a a'=>G.C a a'∨(a=n + 1∧a'=n' + 1) }
def Mat.extra (G:Mat) (n h0:Int) (d:Way):Mat:={ G with X:=fun m n0=>G.X m n0∨(m=n + 1∧n0=h0),Bd:=upd G.Bd (n + 1) d }
def Mat.loops (G:Mat) (b b':Nat):Mat:={ G with L:=fun x x'=>G.L x x'∨(x=b∧x'=b') }
theorem MInv.pair (h:MInv n n' G):MInv (n + 1) (n' + 1) (G.pair n n'):=by
 refine ⟨fun a a' hc=>?_,fun m n0 hx=>by have:=h.xle m n0 hx;omega,fun a a' m m' h1 h2=>?_,fun m n0 a' hx hc=>?_,h.oneX⟩
 ·rcases hc with hc | hc
  ·have:=h.le a a' hc;omega
  ·omega
 ·rcases h1 with h1 | h1 <;> rcases h2 with h2 | h2
  ·exact h.one a a' m m' h1 h2
  ·have:=h.le a a' h1;omega
  ·have:=h.le m m' h2;omega
  ·omega
 ·have:=h.xle m n0 hx
  rcases hc with hc | hc
  ·exact h.noC m n0 a' hx hc
  ·omega
theorem MInv.extra (h:MInv n n' G) (h0:Int) (d:Way):MInv (n + 1) n' (G.extra n h0 d):=by
 refine ⟨fun a a' hc=>by have:=h.le a a' hc;omega,fun m n0 hx=>?_,h.one,fun m n0 a' hx hc=>?_,fun m n0 n1 h1 h2=>?_⟩
 ·rcases hx with hx | hx
  ·have:=h.xle m n0 hx;omega
  ·omega
 ·have:=h.le m a' hc
  rcases hx with hx | hx
  ·exact h.noC m n0 a' hx hc
  ·omega
 ·rcases h1 with h1 | h1 <;> rcases h2 with h2 | h2
  ·exact h.oneX m n0 n1 h1 h2
  ·have:=h.xle m n0 h1;omega
  ·have:=h.xle m n1 h2;omega
  ·omega
theorem MInv.loops (h:MInv n n' G) (b b':Nat):MInv n n' (G.loops b b'):=⟨h.le,h.xle,h.one,h.noC,h.oneX⟩
theorem GrowY.pair (n n':Int) (G:Mat):GrowY E E' n n' G (n + 1) (n' + 1) (G.pair n n'):=⟨by omega,by omega,rfl,rfl,rfl,fun _ _ h=>.inl h,fun _ _ h=>h,fun _ _=>rfl,fun _ _ h=>h,fun _ _ h=>.inl h⟩
theorem GrowY.extra (n n':Int) (G:Mat) (h0:Int) (d:Way):GrowY E E' n n' G (n + 1) n' (G.extra n h0 d):=
 ⟨by omega,by omega,rfl,rfl,rfl,fun _ _ h=>h,fun _ _ h=>.inl h,fun m hm=>by show upd G.Bd (n + 1) d m=_;simp only [upd];rw [if_neg (by omega)],fun _ _ h=>h,fun _ _ h=>.inl h⟩
def SM (E E':Nat→Way) (dp:Bool) (n:Int) (B:Way) (n1:Int) (W:Way) (n':Int) (B':Way) (n1':Int) (W':Way):Prop:=
 ∀ G,G.drop=dp→MInv n n' G→SimY G B B'→(∃ h,Hdp G B h)→∃ G',MInv n1 n1' G'∧GrowY E E' n n' G n1 n1' G'∧SimY G' W W'∧∃ h,Hdp G' W h
theorem SM.self (dp:Bool) (n n':Int) (B B':Way):SM E E' dp n B n B n' B' n' B':=fun G hdp hI hS hH=>⟨G,hI,.refl _ _ _,hS,hH⟩
theorem SM.seq {dp:Bool} {B W V B' W' V':Way} (h:SM E E' dp n B n1 W n' B' n1' W') (h':SM E E' dp n1 W n2 V n1' W' n2' V'):SM E E' dp n B n2 V n' B' n2' V':=fun G hdp hI hS hH=>by
 obtain ⟨G1,i1,g1,s1,d1⟩:=h G hdp hI hS hH
 obtain ⟨G2,i2,g2,s2,d2⟩:=h' G1 (g1.dr.trans hdp) i1 s1 d1
 exact ⟨G2,i2,g1.trans g2 i1,s2,d2⟩
theorem SM.pair {dp:Bool} {B W B' W':Way} (h:∀ G,G.drop=dp→MInv n n' G→SimY G B B'→(∃ h,Hdp G B h)→∃ G',MInv n1 n1' G'∧GrowY E E' n n' G n1 n1' G'∧SimY G' W W'):SM E E' dp n B (n1 + 1) (.once (n1 + 1) W) n' B' (n1' + 1) (.once (n1' + 1) W'):=fun G hdp hI hS hH=>by
 obtain ⟨G1,i1,g1,s1⟩:=h G hdp hI hS hH
 have g2:=GrowY.pair (E:=E) (E':=E') n1 n1' G1
 exact ⟨_,i1.pair,g1.trans g2 i1,.once (.inr ⟨rfl,rfl⟩) (g2.sim i1 s1),_,.once (.inr ⟨rfl,rfl⟩)⟩
theorem SM.extra {dp:Bool} {B W B' W':Way} (h:SM E E' dp n B n1 W n' B' n1' W'):SM E E' dp n B (n1 + 1) (.once (n1 + 1) W) n' B' n1' W':=fun G hdp hI hS hH=>by
 obtain ⟨G1,i1,g1,s1,h0,d1⟩:=h G hdp hI hS hH
 have g2:=GrowY.extra (E:=E) (E':=E') n1 n1' G1 h0 W
 have d2:Hdp (G1.extra n1 h0 W) W h0:=d1.up g2.c g2.x
 exact ⟨_,i1.extra h0 W,g1.trans g2 i1,.more (.inr ⟨rfl,rfl⟩) (by show upd G1.Bd (n1 + 1) W (n1 + 1)=W;simp [upd]) d2 (g2.sim i1 s1),h0,.more (.inr ⟨rfl,rfl⟩) d2⟩
theorem SM.round {dp:Bool} {b b':Nat} {B B':Way} {lz:Bool} (h:SM E E' dp (n + 1) (Dcd lz n b B) n2 (E b) (n' + 1) (Dcd lz n' b' B') n2' (E' b')) (G:Mat) (hdp:G.drop=dp) (hI:MInv n n' G) (hS:SimY G B B') :
  ∃ G',MInv n2 n2' G'∧GrowY E E' n n' G n2 n2' G'∧SimY G' (E b) (E' b')∧SimY G' (Dcd lz n b B) (Dcd lz n' b' B')∧(∃ h,Hdp G' (E b) h)∧∃ h,Hdp G' (Dcd lz n b B) h:=by
 obtain ⟨G0,hG0⟩:∃ G0,G0=(G.loops b b').pair n n':=⟨_,rfl⟩
 have hI0:MInv (n + 1) (n' + 1) G0:=by rw [hG0];exact (hI.loops b b').pair
 have hC:G0.C (n + 1) (n' + 1):=by rw [hG0];exact .inr ⟨rfl,rfl⟩
 have hL:G0.L b b':=by rw [hG0];exact .inr ⟨rfl,rfl⟩
 have hB:SimY G0 B B':=by rw [hG0];exact hS.up (G1:=(G.loops b b').pair n n') hI rfl (fun _ _ h=>Or.inl h) (fun _ _ h=>h) (fun _ _=>rfl) (fun _ _ h=>Or.inl h)
 have hD:SimY G0 (Dcd lz n b B) (Dcd lz n' b' B'):=by
  refine .once hC (.inOrder (by cases lz <;> rfl) fun i hi hi'=>?_)
  cases lz
  ·match i,hi,hi' with
   | 0,_,_=>exact .again hL
   | 1,_,_=>exact hB
   | i + 2,hi,_=>exact absurd (show i + 2 < 2 from hi) (by omega)
  ·match i,hi,hi' with
   | 0,_,_=>exact hB
   | 1,_,_=>exact .again hL
   | i + 2,hi,_=>exact absurd (show i + 2 < 2 from hi) (by omega)
 obtain ⟨G1,i1,g1,s1,d1⟩:=h G0 (by rw [hG0];exact hdp) hI0 hD ⟨_,.once hC⟩
 refine ⟨G1,i1,⟨by have:=g1.l1;omega,by have:=g1.l2;omega,by rw [g1.dr,hG0];rfl,by rw [g1.nr,hG0];rfl,by rw [g1.pr,hG0];rfl,fun a a' x=>g1.c _ _ (by rw [hG0];exact .inl x),fun m n0 x=>g1.x _ _ (by rw [hG0];exact x),fun m hm=>(g1.bd m (by omega)).trans (by rw [hG0];rfl),fun x x' hx=>g1.l _ _ (by rw [hG0];exact .inl hx),fun x x' hx=>?_⟩,s1,g1.sim hI0 hD,d1,_,.once (g1.c _ _ hC)⟩
 rcases g1.new x x' hx with hx | hx
 ·rw [hG0] at hx
  rcases hx with hx | ⟨rfl,rfl⟩
  ·exact .inl hx
  ·exact .inr s1
 ·exact .inr hx
end
def ev (tx:List Int) (E:Nat→Way):Nat→Way→Nat→Sg→Option Sg
 | 0,_,_,_=>none
 | f + 1,.through,p,s=>some { s with parses:=s.parses ++ [((p:Int),s.notes.set 1 (p:Int))] }
 | f + 1,.once n d,p,s=>if (n,(p:Int)) ∈ s.done then some s else ev tx E f d p { s with done:=s.done ++ [(n,(p:Int))] }
 | f + 1,.noted c d,p,s=>(ev tx E f d p { s with notes:=s.notes.set c (p:Int) }).map fun s'=>{ s' with notes:=s'.notes.set c (s.notes.getD c 0) }
 | f + 1,.runeOf L d,p,s=>if tx.length≤p then some s else if (rightB L && hasB L (tx.getD p 0))=true then ev tx E f d (p + 1) s else some s
 | f + 1,.ifHolds a d,p,s=>if heldB tx a p=true then ev tx E f d p s else some s
 | f + 1,.inOrder l,p,s=>l.foldl (fun o d=>o.bind (ev tx E f d p)) (some s)
 | f + 1,.again b,p,s=>ev tx E f (E b) p s
end Go.Proofs.YtacaanhnlfpbhaaGreat
