/- HELPERS: texts of ours put together. -/
import Derived.Test.YtacaanhnlfpbhaaGreatK09
import Derived.Test.YtacaanhnlfpbhaaGreatK10
namespace Go.Proofs.YtacaanhnlfpbhaaGreat
open Go.RowKit
set_option linter.unusedVariables false
set_option linter.unusedSimpArgs false
inductive Nf:Tn→Prop
 | leaf {k:Int} {R:List (Int × Int)} {a mn mx:Int} {lz:Bool} {ix:Int} {nm:ByteArray} (hk:k=1∨k=2∨k=3) (hn:nodeB k R a 0 mn mx lz ix nm=true):Nf (.mk k R a [] mn mx lz ix nm)
 | cat {s:List Tn} (h2:2≤s.length) (h:∀ u ∈ s,u.kind≠1∧u.kind≠4) (hs:∀ u ∈ s,Nf u):Nf (zN 4 s)
 | alt {s:List Tn} (h2:2≤s.length) (h:∀ u ∈ s,u.kind≠5) (hs:∀ u ∈ s,Nf u):Nf (zN 5 s)
 | loop {mn mx:Int} {lz:Bool} {y:Tn} (h:(mn=0∧mx=1)∨(mn=0∧mx=-1)∨(mn=1∧mx=-1)) (hy:Nf y):Nf (loopT mn mx lz y)
 | grp {ix:Int} {nm:ByteArray} {y:Tn} (hn:nodeB 7 [] 0 1 0 0 false ix nm=true) (hy:Nf y):Nf (.mk 7 [] 0 [y] 0 0 false ix nm)
theorem empty_nil:(⟨#[]⟩:ByteArray).toList.isEmpty=true:=by decide +kernel
theorem nf_empty:Nf emptyT:=.leaf (.inl rfl) (by simp [nodeB,bareB,empty_nil])
theorem timesOf_ones (s:List Tn):timesOf (ones s)=s.length:=by
 induction s with
 | nil=>rfl
 | cons u s ih =>
  have:ones (u :: s)=(u,1) :: ones s:=rfl
  rw [this,timesOf,ih,List.length_cons];omega
theorem nf_within {k:Int} (hk:k=4∨k=5) {t:Tn} (h:Nf t):1≤(within k t).length∧∀ u ∈ within k t,Nf u∧u.kind≠k∧(k=4→t.kind≠1→u.kind≠1):=by
 unfold within
 split
 ·rename_i hkk
  cases h with
  | leaf h1 hn=>simp only [Tn.kind] at hkk;omega
  | cat h2 h' hs =>
   simp only [Tn.kind] at hkk
   subst hkk
   exact ⟨by simp only [Tn.subs];omega,fun u hu=>⟨hs u hu,(h' u hu).2,fun _ _=>(h' u hu).1⟩⟩
  | alt h2 h' hs =>
   simp only [Tn.kind] at hkk
   subst hkk
   exact ⟨by simp only [Tn.subs];omega,fun u hu=>⟨hs u hu,h' u hu,fun e=>by omega⟩⟩
  | loop h' hy=>simp only [Tn.kind] at hkk;omega
  | grp hn hy=>simp only [Tn.kind] at hkk;omega
 ·rename_i hkk
  refine ⟨by simp,fun u hu=>?_⟩
  simp at hu
  subst hu
  exact ⟨h,hkk,fun _ h1=>h1⟩
theorem rowS_mem {k:Int} {l:List (Tn × Nat)} {u:Tn} (h:u ∈ rowS k l):∃ x ∈ l,u ∈ within k x.1:=by
 simp only [rowS,List.mem_flatMap,List.mem_flatten,List.mem_replicate] at h
 obtain ⟨x,hx,y,⟨_,rfl⟩,hy⟩:=h
 exact ⟨x,hx,hy⟩
theorem rowS_len {k:Int} {l:List (Tn × Nat)} (h:∀ x ∈ l,1≤(within k x.1).length):timesOf l≤(rowS k l).length:=by
 induction l with
 | nil=>simp [timesOf]
 | cons x l ih =>
  rw [rowS_cons,List.length_append,timesOf]
  have h1:=h x (by simp)
  have h2:=ih fun y hy=>h y (by simp [hy])
  have h3:x.2≤(List.replicate x.2 (within k x.1)).flatten.length:=by simp;exact Nat.le_mul_of_pos_right _ h1
  omega
theorem nf_join {l:List (Tn × Nat)} (h:∀ x ∈ l,Nf x.1):Nf (joinT l):=by
 unfold joinT joinK
 have hf:∀ x ∈ l.filter keep,Nf x.1∧x.1.kind≠1:=fun x hx=>by
  rw [List.mem_filter] at hx
  refine ⟨h x hx.1,?_⟩
  have:=hx.2
  simp only [keep,Bool.and_eq_true,Bool.not_eq_true',beq_eq_false_iff_ne] at this
  exact this.2
 split
 ·exact nf_empty
 ·split
  ·cases hl:l.filter keep with
   | nil=>exact nf_empty
   | cons x l'=>exact (hf x (by rw [hl];simp)).1
  ·rename_i h0 h1
   have hlen:=rowS_len (k:=4) (l:=l.filter keep) fun x hx=>(nf_within (.inl rfl) (hf x hx).1).1
   refine .cat (by omega) (fun u hu=>?_) (fun u hu=>?_)
   ·obtain ⟨x,hx,hux⟩:=rowS_mem hu
    have:=(nf_within (.inl rfl) (hf x hx).1).2 u hux
    exact ⟨this.2.2 rfl (hf x hx).2,this.2.1⟩
   ·obtain ⟨x,hx,hux⟩:=rowS_mem hu
    exact ((nf_within (.inl rfl) (hf x hx).1).2 u hux).1
theorem nf_opt {y:Tn} (lz:Bool) (hy:Nf y):∀ n,Nf (optT y lz n)
 | 0=>nf_empty
 | 1=>.loop (.inl ⟨rfl,rfl⟩) hy
 | n + 2=>by
  rw [optT_step]
  refine .loop (.inl ⟨rfl,rfl⟩) (nf_join fun x hx=>?_)
  simp at hx
  rcases hx with rfl | rfl
  ·exact hy
  ·exact nf_opt lz hy (n + 1)
theorem nf_rep {y:Tn} (mn mx:Int) (lz:Bool) (hy:Nf y):Nf (repT y mn mx lz):=by
 unfold repT
 split
 ·refine nf_join fun x hx=>?_
  simp at hx
  rcases hx with rfl | rfl
  ·exact hy
  ·exact nf_opt lz hy _
 ·split
  ·exact .loop (.inr (.inl ⟨rfl,rfl⟩)) hy
  ·refine nf_join fun x hx=>?_
   simp at hx
   rcases hx with rfl | rfl
   ·exact hy
   ·exact .loop (.inr (.inr ⟨rfl,rfl⟩)) hy
mutual
theorem nf_S:∀ t:Tn,t.fine=true→Nf t.S
 | .mk k R a s mn mx lz ix nm,h=>by
  simp only [Tn.fine,Bool.and_eq_true] at h
  have ih:=nf_SL s h.2
  have hfk:=fine_kind h.1
  have hhead:Nf ((SL s).headD emptyT):=by
   cases hs:SL s with
   | nil=>exact nf_empty
   | cons u l=>exact ih u (by rw [hs];simp)
  simp only [Tn.S]
  split
  ·exact nf_join fun x hx=>by obtain ⟨u,hu,rfl⟩:=List.mem_map.1 hx;exact ih u hu
  ·split
   ·rename_i h4 h5
    have hl2:2≤s.length:=by omega
    have hw:∀ x ∈ ones (SL s),Nf x.1:=fun x hx=>by obtain ⟨u,hu,rfl⟩:=List.mem_map.1 hx;exact ih u hu
    have hlen:=rowS_len (k:=5) (l:=ones (SL s)) fun x hx=>(nf_within (.inr rfl) (hw x hx)).1
    rw [timesOf_ones,SL_len] at hlen
    refine .alt (by omega) (fun u hu=>?_) (fun u hu=>?_)
    ·obtain ⟨x,hx,hux⟩:=rowS_mem hu
     exact ((nf_within (.inr rfl) (hw x hx)).2 u hux).2.1
    ·obtain ⟨x,hx,hux⟩:=rowS_mem hu
     exact ((nf_within (.inr rfl) (hw x hx)).2 u hux).1
   ·split
    ·exact nf_rep mn mx lz hhead
    ·split
     ·rename_i h7
      subst h7
      refine .grp ?_ hhead
      have hn:=h.1
      simp [nodeB,bareB] at hn ⊢
      exact ⟨⟨hn.1.1.1.2,hn.1.1.2⟩,hn.1.2⟩
     ·have hk3:k=1∨k=2∨k=3:=by omega
      have hz:s.length=0:=by omega
      rw [hz] at h
      exact .leaf hk3 h.1
theorem nf_SL:∀ ts:List Tn,fineL ts=true→∀ u ∈ SL ts,Nf u
 | [],_=>fun u hu=>by simp [SL] at hu
 | t :: ts,h=>fun u hu=>by
  simp only [fineL,Bool.and_eq_true] at h
  simp only [SL,List.mem_cons] at hu
  rcases hu with rfl | hu
  ·exact nf_S t h.1
  ·exact nf_SL ts h.2 u hu
end
set_option maxRecDepth 100000 in
set_option maxHeartbeats 4000000 in
theorem way75_94 (m:Nat) {a2 a4 a5 a7:Int} {a6:Bool} {a8:ByteArray} {r1 s1:Option Addr} {r2 r3 s2 s3:Nat} (w:World):Calls Tryz.prog 138 #[pt m,Nv.v ⟨2,r1,r2,r3,a2,s1,s2,s3,a4,a5,a6,a7,a8⟩] w fun e w'=>e=.returned (.func (.func 204) #[pt m] #[])∧Below w.heap.size w w':=by
 go_enter Tryz.func138,Tryz.ntmps138
 go_wp2
 all_goals go_ret
 all_goals exact ⟨rfl,Joins.below_alloc1 w _⟩
set_option maxRecDepth 100000 in
set_option maxHeartbeats 4000000 in
theorem way75_95 (m:Nat) {a2 a4 a5 a7:Int} {a6:Bool} {a8:ByteArray} {r1 s1:Option Addr} {r2 r3 s2 s3:Nat} (w:World):Calls Tryz.prog 138 #[pt m,Nv.v ⟨3,r1,r2,r3,a2,s1,s2,s3,a4,a5,a6,a7,a8⟩] w fun e w'=>e=.returned (.func (.func 205) #[pt m] #[])∧Below w.heap.size w w':=by
 go_enter Tryz.func138,Tryz.ntmps138
 go_wp2
 all_goals go_ret
 all_goals exact ⟨rfl,Joins.below_alloc1 w _⟩
set_option maxRecDepth 100000 in
set_option maxHeartbeats 4000000 in
theorem way75_96 (m:Nat) {a2 a4 a5 a7:Int} {a6:Bool} {a8:ByteArray} {r1 s1:Option Addr} {r2 r3 s2 s3:Nat} (w:World):Calls Tryz.prog 138 #[pt m,Nv.v ⟨7,r1,r2,r3,a2,s1,s2,s3,a4,a5,a6,a7,a8⟩] w fun e w'=>e=.returned (.func (.func 206) #[pt m] #[])∧Below w.heap.size w w':=by
 go_enter Tryz.func138,Tryz.ntmps138
 go_wp2
 all_goals go_ret
 all_goals exact ⟨rfl,Joins.below_alloc1 w _⟩
set_option maxRecDepth 100000 in
set_option maxHeartbeats 4000000 in
theorem way75_97 (m:Nat) {a2 a4 a5 a7:Int} {a6:Bool} {a8:ByteArray} {r1 s1:Option Addr} {r2 r3 s2 s3:Nat} (w:World):Calls Tryz.prog 138 #[pt m,Nv.v ⟨4,r1,r2,r3,a2,s1,s2,s3,a4,a5,a6,a7,a8⟩] w fun e w'=>e=.returned (.func (.func 207) #[pt m] #[])∧Below w.heap.size w w':=by
 go_enter Tryz.func138,Tryz.ntmps138
 go_wp2
 all_goals go_ret
 all_goals exact ⟨rfl,Joins.below_alloc1 w _⟩
set_option maxRecDepth 100000 in
set_option maxHeartbeats 4000000 in
theorem way75_98 (m:Nat) {a2 a4 a5 a7:Int} {a6:Bool} {a8:ByteArray} {r1 s1:Option Addr} {r2 r3 s2 s3:Nat} (w:World):Calls Tryz.prog 138 #[pt m,Nv.v ⟨5,r1,r2,r3,a2,s1,s2,s3,a4,a5,a6,a7,a8⟩] w fun e w'=>e=.returned (.func (.func 208) #[pt m] #[])∧Below w.heap.size w w':=by
 go_enter Tryz.func138,Tryz.ntmps138
 go_wp2
 all_goals go_ret
 all_goals exact ⟨rfl,Joins.below_alloc1 w _⟩
set_option maxRecDepth 100000 in
set_option maxHeartbeats 4000000 in
theorem way75_100 (m:Nat) {k a2 a4 a5 a7:Int} {a6:Bool} {a8:ByteArray} {r1 s1:Option Addr} {r2 r3 s2 s3:Nat} (k1:k≠2) (k2:k≠3) (k3:k≠4) (k4:k≠5) (k5:k≠6) (k6:k≠7) (w:World):Calls Tryz.prog 138 #[pt m,Nv.v ⟨k,r1,r2,r3,a2,s1,s2,s3,a4,a5,a6,a7,a8⟩] w fun e w'=>e=.returned (.func (.func 210) #[pt m] #[])∧Below w.heap.size w w':=by
 have g2:(k == 2)=false:=by simp [k1]
 have g3:(k == 3)=false:=by simp [k2]
 have g4:(k == 4)=false:=by simp [k3]
 have g5:(k == 5)=false:=by simp [k4]
 have g6:(k == 6)=false:=by simp [k5]
 have g7:(k == 7)=false:=by simp [k6]
 clear k1 k2 k3 k4 k5 k6
 go_enter Tryz.func138,Tryz.ntmps138
 go_wp2
 all_goals go_ret
 all_goals exact ⟨rfl,Joins.below_alloc1 w _⟩
set_option maxRecDepth 100000 in
set_option maxHeartbeats 4000000 in
theorem way75_110 (m:Nat) {a2 a4 a5 a7:Int} {a6:Bool} {a8:ByteArray} {r1 s1:Option Addr} {r2 r3 s2 s3:Nat} (h1:a4=1) (w:World):Calls Tryz.prog 138 #[pt m,Nv.v ⟨6,r1,r2,r3,a2,s1,s2,s3,1,a5,a6,a7,a8⟩] w fun e w'=>e=.returned (.func (.func 234) #[pt m] #[])∧Below w.heap.size w w':=by
 subst h1
 have HW:∀ W,Calls Tryz.prog 209 #[pt m,Nv.v ⟨6,r1,r2,r3,a2,s1,s2,s3,1,a5,a6,a7,a8⟩] W fun e w'=>e=.returned (.func (.func 234) #[pt m] #[])∧Below W.heap.size W w':=fun W=>by
  go_enter Tryz.func209,Tryz.ntmps209
  go_wp2
  all_goals go_ret
  all_goals exact ⟨rfl,Joins.below_alloc1 W _⟩
 go_enter Tryz.func138,Tryz.ntmps138
 go_wp2_with (first | (go_at_call 209;(with_reducible refine (HW _).mono ?_);rintro e w2 ⟨rfl,hb2⟩;have HB2:=hid hb2;clear hb2))
 all_goals go_ret
 all_goals exact ⟨rfl,(Joins.below_alloc1 w _).trans (Joins.below_le HB2.out (by simp))⟩
set_option maxRecDepth 100000 in
set_option maxHeartbeats 4000000 in
theorem way75_111 (m:Nat) {a2 a4 a5 a7:Int} {a6:Bool} {a8:ByteArray} {r1 s1:Option Addr} {r2 r3 s2 s3:Nat} (h1:a4≠1) (h2:a5=1) (w:World):Calls Tryz.prog 138 #[pt m,Nv.v ⟨6,r1,r2,r3,a2,s1,s2,s3,a4,1,a6,a7,a8⟩] w fun e w'=>e=.returned (.func (.func 235) #[pt m] #[])∧Below w.heap.size w w':=by
 subst h2
 have HW:∀ W,Calls Tryz.prog 209 #[pt m,Nv.v ⟨6,r1,r2,r3,a2,s1,s2,s3,a4,1,a6,a7,a8⟩] W fun e w'=>e=.returned (.func (.func 235) #[pt m] #[])∧Below W.heap.size W w':=fun W=>by
  have g1:(a4 == 1)=false:=by simp [h1]
  go_enter Tryz.func209,Tryz.ntmps209
  go_wp2
  all_goals go_ret
  all_goals exact ⟨rfl,Joins.below_alloc1 W _⟩
 go_enter Tryz.func138,Tryz.ntmps138
 go_wp2_with (first | (go_at_call 209;(with_reducible refine (HW _).mono ?_);rintro e w2 ⟨rfl,hb2⟩;have HB2:=hid hb2;clear hb2))
 all_goals go_ret
 all_goals exact ⟨rfl,(Joins.below_alloc1 w _).trans (Joins.below_le HB2.out (by simp))⟩
set_option maxRecDepth 100000 in
set_option maxHeartbeats 4000000 in
theorem way75_112 (m:Nat) {a2 a4 a5 a7:Int} {a6:Bool} {a8:ByteArray} {r1 s1:Option Addr} {r2 r3 s2 s3:Nat} (h1:a4≠1) (h2:a5≠1) (w:World):Calls Tryz.prog 138 #[pt m,Nv.v ⟨6,r1,r2,r3,a2,s1,s2,s3,a4,a5,a6,a7,a8⟩] w fun e w'=>e=.returned (.func (.func 236) #[pt m] #[])∧Below w.heap.size w w':=by
 have HW:∀ W,Calls Tryz.prog 209 #[pt m,Nv.v ⟨6,r1,r2,r3,a2,s1,s2,s3,a4,a5,a6,a7,a8⟩] W fun e w'=>e=.returned (.func (.func 236) #[pt m] #[])∧Below W.heap.size W w':=fun W=>by
  have g1:(a4 == 1)=false:=by simp [h1]
  have g2:(a5 == 1)=false:=by simp [h2]
  go_enter Tryz.func209,Tryz.ntmps209
  go_wp2
  all_goals go_ret
  all_goals exact ⟨rfl,Joins.below_alloc1 W _⟩
 go_enter Tryz.func138,Tryz.ntmps138
 go_wp2_with (first | (go_at_call 209;(with_reducible refine (HW _).mono ?_);rintro e w2 ⟨rfl,hb2⟩;have HB2:=hid hb2;clear hb2))
 all_goals go_ret
 all_goals exact ⟨rfl,(Joins.below_alloc1 w _).trans (Joins.below_le HB2.out (by simp))⟩
set_option maxRecDepth 100000 in
set_option maxHeartbeats 4000000 in
theorem newRow31g (k:Nat) (hk:k≤20000) (w:World):Calls Tryz.prog 53 #[.int .i64 (k:Int)] w fun e w'=>∃ z1 c,e=.returned (.agg #[.slice z1 0 c])∧w'.ownsRow w.heap.size 86 5 (.slice z1 0 c) 0 []∧Below w.heap.size w w':=by
 have hmk:=make51 k (by omega) (w.alloc (.cells #[.slice none 0 0] 90))
 have hs0:(w.alloc (.cells #[.slice none 0 0] 90)).heap.size=w.heap.size + 1:=by simp
 have hown0:=made_own51 k (by unfold maxLen;omega) w.heap.size (w.alloc (.cells #[.slice none 0 0] 90)) (by simp)
 rw [hs0] at hmk hown0
 clear hs0
 have hQ:((w.alloc (.cells #[.slice none 0 0] 90)).alloc (.cells (madeCells Z5.cells (k * 5)) 86)).heap[w.heap.size]?=some (.cells #[.slice none 0 0] 90 (0,0)):=(heap_alloc_old _ _ (by simp)).trans (heap_alloc_new w _)
 have hbV:Below w.heap.size w ((w.alloc (.cells #[.slice none 0 0] 90)).alloc (.cells (madeCells Z5.cells (k * 5)) 86)):=below_two' w _ _
 obtain ⟨V,hV⟩:∃ V,V=(w.alloc (.cells #[.slice none 0 0] 90)).alloc (.cells (madeCells Z5.cells (k * 5)) 86):=⟨_,rfl⟩
 rw [← hV] at hmk hown0 hQ hbV
 have f0:=Joins.unfrozen_of_block hQ 0
 have k0:=Joins.cell_of_block hQ 0
 have HQ:=hid hQ
 have HB:=hid hbV
 have HO:=hid hown0
 clear hV hown0 hQ hbV
 go_enter Tryz.func53,Tryz.ntmps53
 go_wp2_with fail
 refine bodyPost_ret (results_cell_row rfl _ _ w.heap.size 90 _ (0,0) _ rfl (Joins.block_setCell (i:=0) HQ.out _) Tryz.underlying90 rfl (by kernel_rfl)) rfl ?_
 exact ⟨some ⟨w.heap.size + 1,0,none⟩,k,rfl,own_setCell HO.out (fun e=>by simp [Value.ownBlock] at e),HB.out.setCell (p:=⟨w.heap.size,0,none⟩) (Nat.le_refl _) _⟩
end Go.Proofs.YtacaanhnlfpbhaaGreat
