/- HELPERS: texts of ours put together. -/
import Derived.Test.YtacaanhnlfpbhaaGreatK26
import Derived.Test.YtacaanhnlfpbhaaGreatK16
namespace Go.Proofs.YtacaanhnlfpbhaaGreat
open Go.RowKit
set_option linter.unusedVariables false
set_option linter.unusedSimpArgs false
theorem joinU_nodes (us:List Tn):nodesL us≤(joinU us).nodes∧(us.length≠1→nodesL us + 1≤(joinU us).nodes):=by
 match us with
 | []=>simp [joinU,nodesL,Tn.nodes]
 | [u]=>simp [joinU,nodesL]
 | a :: b :: s=>simp only [joinU,Tn.nodes];exact ⟨by omega,fun _=>by omega⟩
theorem joinU_len (us:List Tn):us.length≤(joinU us).nodes:=Nat.le_trans (nodes_ge us) (joinU_nodes us).1
theorem flat_mem_nodes {α:Type} {f:α→List Tn} {l:List α} {x:α} (h:x ∈ l):nodesL (f x)≤nodesL (l.flatMap f)∧(f x).length≤(l.flatMap f).length:=by
 induction l with
 | nil=>cases h
 | cons y l ih =>
  rw [List.flatMap_cons,nodesL_append,List.length_append]
  rcases List.mem_cons.1 h with rfl | h
  ·omega
  ·have:=ih h;omega
theorem nf_one_nodes {t:Tn} (h:Nf t) (h1:t.kind=1):t.nodes=1:=by
 cases h with
 | leaf hk hn=>simp [Tn.nodes,nodesL]
 | cat h2 h' hs=>simp [Tn.kind] at h1
 | alt h2 h' hs=>simp [Tn.kind] at h1
 | loop h' hy=>simp [Tn.kind] at h1
 | grp hn hy=>simp [Tn.kind] at h1
theorem joinT_mem {l:List (Tn × Nat)} (hl:∀ x ∈ l,Nf x.1) {y:Tn} {m:Nat} (hm:(y,m) ∈ l) (h0:0 < m):y.nodes≤(joinT l).nodes:=by
 have hy:=hl _ hm
 by_cases h1:y.kind=1
 ·rw [nf_one_nodes hy h1];exact Tn.pos _
 ·rw [joinT_U hl,rowS_keep]
  have hf:=flat_mem_nodes (f:=fun x:Tn × Nat=>(List.replicate x.2 (jn x.1)).flatten) hm
  generalize (l.flatMap fun x=>(List.replicate x.2 (jn x.1)).flatten)=us at hf ⊢
  simp only at hf
  rw [nodesL_rep,flat_rep_len] at hf
  have e:jn y=within 4 y:=by unfold jn;rw [if_neg h1]
  rw [e] at hf
  have hj:=joinU_nodes us
  have hw:=within_nodes 4 y
  have h3:=Nat.le_mul_of_pos_left (nodesL (within 4 y)) h0
  have h4:=Nat.le_mul_of_pos_left (within 4 y).length h0
  by_cases hk:y.kind=4
  ·rw [if_pos hk] at hw
   have h2:2≤y.subs.length:=nf_subs hy (.inl hk)
   have e2:(within 4 y).length=y.subs.length:=by unfold within;rw [if_pos hk]
   have:=hj.2 (by omega)
   omega
  ·rw [if_neg hk] at hw
   omega
theorem ones_nf {l:List Tn} (h:∀ x ∈ l,Nf x):∀ x ∈ ones l,Nf x.1:=fun x hx=>by obtain ⟨u,hu,rfl⟩:=List.mem_map.1 hx;exact h u hu
theorem join_mem {l:List Tn} (h:∀ x ∈ l,Nf x) {y:Tn} (hm:y ∈ l):y.nodes≤(joinT (ones l)).nodes:=joinT_mem (ones_nf h) (List.mem_map.2 ⟨y,hm,rfl⟩) (by decide)
theorem row_mem {k:Int} {l:List Tn} {y:Tn} (hm:y ∈ l):y.nodes≤(rowT k (ones l)).nodes:=by
 have hf:=(flat_mem_nodes (f:=fun x:Tn × Nat=>(List.replicate x.2 (within k x.1)).flatten) (l:=ones l) (List.mem_map.2 ⟨y,hm,rfl⟩)).1
 simp only [nodesL_rep,Nat.one_mul] at hf
 have hw:=within_nodes k y
 have hr:(rowT k (ones l)).nodes=1 + nodesL (rowS k (ones l)):=rfl
 have:rowS k (ones l)=(ones l).flatMap fun x=>(List.replicate x.2 (within k x.1)).flatten:=rfl
 rw [hr,this]
 split at hw <;> omega
theorem rep_mem {y:Tn} (hy:Nf y) {mn mx:Int} (lz:Bool) (h0:mx≠0) (hmn:0≤mn) (hmx:mx=-1∨mn≤mx):y.nodes≤(repT y mn mx lz).nodes:=by
 unfold repT
 split
 ·rename_i h1
  have hl:∀ x ∈ [(y,mn.toNat),(optT y lz (mx - mn).toNat,1)],Nf x.1:=fun x hx=>by
   simp at hx
   rcases hx with rfl | rfl
   ·exact hy
   ·exact nf_opt lz hy _
  by_cases hm:mn=0
  ·have:=joinT_mem hl (y:=optT y lz (mx - mn).toNat) (m:=1) (by simp) (by decide)
   obtain ⟨n,hn⟩:∃ n,(mx - mn).toNat=n + 1:=⟨(mx - mn).toNat - 1,by omega⟩
   rw [hn] at this ⊢
   rw [optT_nodes] at this
   omega
  ·exact joinT_mem hl (y:=y) (m:=mn.toNat) (by simp) (by omega)
 ·split
  ·rw [loopT_nodes];omega
  ·have hl:∀ x ∈ [(y,(mn - 1).toNat),(loopT 1 (-1) lz y,1)],Nf x.1:=fun x hx=>by
    simp at hx
    rcases hx with rfl | rfl
    ·exact hy
    ·exact .loop (.inr (.inr ⟨rfl,rfl⟩)) hy
   have:=joinT_mem hl (y:=loopT 1 (-1) lz y) (m:=1) (by simp) (by decide)
   rw [loopT_nodes] at this
   omega
theorem opt_le (y:Tn) (lz:Bool) {m n:Nat} (h:m≤n):(optT y lz m).nodes≤(optT y lz n).nodes:=by
 cases m with
 | zero=>rw [show optT y lz 0=emptyT from rfl];simp only [Tn.nodes,nodesL];exact Tn.pos _
 | succ m =>
  obtain ⟨n,rfl⟩:∃ k,n=k + 1:=⟨n - 1,by omega⟩
  rw [optT_nodes,optT_nodes]
  have:=Nat.mul_le_mul_right (1 + if y.kind=1 then 0 else if y.kind=4 then y.nodes else y.nodes + 1) (show m≤n by omega)
  omega
theorem RG.ltr {A:Nat→Prop} {w0 w:World} {ad:Option Addr} {n c:Nat} {us:List Tn} (h:RG A w0 w (.slice ad n c) us):LTr w (New A w0 w) ad us∧n=us.length∧n≤c∧c≤maxLen:=by
 obtain ⟨MS,A',h⟩:=h
 have hl:=h.len
 have hn:=row_len h.row
 refine ⟨⟨fun i=>MS.getD i default,fun hp=>?_,fun i hi=>?_⟩,hn,?_⟩
 ·obtain ⟨b,e1,e2,h9⟩:=row_nine h.row hl.symm hp
  refine ⟨b,0,e1,.inr (h.row.lt b e2),fun i hi=>?_⟩
  show N9 w b 0 i (MS.getD i default)
  rw [List.getD_eq_getElem?_getD,List.getElem?_eq_getElem (show i < MS.length by omega)]
  exact h9 i (by omega)
 ·show TP w (New A w0 w) (MS.getD i default) us[i]
  rw [List.getD_eq_getElem?_getD,List.getElem?_eq_getElem (show i < MS.length by omega)]
  refine (h.tp i hi (by omega)).kept (fun _ _=>rfl) (fun b hb=>?_)
  rcases h.ofA b hb with h1 | h1
  ·exact .inl h1
  ·exact .inr ⟨h1,h.low b hb⟩
 ·rcases h.row.2 with ⟨e,h0⟩ | ⟨g,cap,cur,e,_,_,h2,h3,_⟩
  ·simp only [Value.slice.injEq] at e
   obtain ⟨_,rfl,rfl⟩:=e
   exact ⟨Nat.le_refl _,by simp [maxLen]⟩
  ·simp only [Value.slice.injEq] at e
   obtain ⟨_,e2,rfl⟩:=e
   exact ⟨by omega,h3⟩
theorem news9 (w2:World) (M:Nv):∀ j y,(Nv.cs M)[j]?=some y→(w2.alloc (.cells #[.int .i64 M.k,.slice M.r1 M.r2 M.r3,.int .i64 M.a2,.slice M.s1 M.s2 M.s3,.int .i64 M.a4,.int .i64 M.a5,.bool M.a6,.int .i64 M.a7,.string M.a8] 25)).cell? ((⟨w2.heap.size,0,none⟩:Addr).add j)=some y:=by
 intro j y hj
 rw [Addr.add_mid,Nat.zero_add,Joins.cell_of_block (heap_alloc_new w2 _)]
 rw [← hj,← Array.getElem?_toList]
theorem tl_news {w:World} {b o n:Nat} {ND:Nat→Nv} (h:∀ i,i < n→N9 w b o i (ND i)):∀ j y,((List.range n).map ND |>.flatMap Nv.cs)[j]?=some y→w.cell? ((⟨b,o,none⟩:Addr).add j)=some y:=by
 intro j y hj
 have hlt:j < n * 9:=by
  have:=(List.getElem?_eq_some_iff.1 hj).1
  rw [flat9_len] at this
  simpa using this
 obtain ⟨i,r,hr,rfl⟩:∃ i r,r < 9∧j=i * 9 + r:=⟨j / 9,j % 9,by omega,by omega⟩
 have hi:i < n:=by omega
 rw [flat9 ((List.range n).map ND) i r (by simpa using hi) hr] at hj
 simp only [List.getElem_map,List.getElem_range] at hj
 rw [Addr.add_mid,← hj,← Nat.add_assoc]
 obtain ⟨n0,n1,n2,n3,n4,n5,n6,n7,n8⟩:=h i hi
 rcases nine_cases hr with rfl | rfl | rfl | rfl | rfl | rfl | rfl | rfl | rfl
 ·exact n0
 ·exact n1
 ·exact n2
 ·exact n3
 ·exact n4
 ·exact n5
 ·exact n6
 ·exact n7
 ·exact n8
theorem one9L (l:List Nv):∀ u ∈ l.flatMap Nv.cs,u.oneCell'=true:=by
 intro u hu
 obtain ⟨M,_,hM⟩:=List.mem_flatMap.1 hu
 exact one9 M u hM
abbrev lpN (b:Nat) (mn mx:Int) (lz:Bool):Nv:=⟨6,none,0,0,0,some ⟨b,0,none⟩,1,1,mn,mx,lz,0,⟨#[]⟩⟩
theorem lp_tp {w:World} {A:Nat→Prop} {b:Nat} {M:Nv} {s:Tn} {mn mx:Int} {lz:Bool} (hM:TP w A M s) (h:BN w b M) (hb:A b) (h1:I64ok mn) (h2:I64ok mx):TP w A (lpN b mn mx lz) (loopT mn mx lz s):=by
 have hm:(1:Nat)≤maxLen:=by unfold maxLen;omega
 refine .mk (N:=lpN b mn mx lz) (R:=[]) (ts:=[s]) (ND:=fun _=>M) ⟨ok6,ok0,h1,h2,ok0,Nat.zero_le _,⟨Nat.le_refl _,Nat.zero_le _⟩,⟨Nat.le_refl _,hm⟩⟩ rfl (fun h=>absurd rfl h) (by simp) rfl (fun _=>⟨b,0,rfl,hb,fun i hi=>?_⟩) (fun i hi=>?_)
 ·have e:i=0:=by simpa using hi
  subst e
  obtain ⟨q0,q1,q2,q3,q4,q5,q6,q7,q8⟩:=nine' h
  exact ⟨q0,q1,q2,q3,q4,q5,q6,q7,q8⟩
 ·have e:i=0:=by simpa using hi
  subst e
  exact hM
theorem below_three (w:World) (o o' o'':Obj):Below w.heap.size w (((w.alloc o).alloc o').alloc o''):=(below_two' w o o').alloc (by simp;omega) _
set_option maxRecDepth 100000 in
set_option maxHeartbeats 4000000 in
theorem loop97 {A:Nat→Prop} {Y:Nv} {y:Tn} (mn mx:Int) (lz:Bool) {w:World} (h1:I64ok mn) (h2:I64ok mx) (hA:∀ b,A b→b < w.heap.size) (hY:TP w A Y y):Calls Tryz.prog 212 #[Y.v,.int .i64 mn,.int .i64 mx,.bool lz] w fun e w'=>∃ M,e=.returned (Nv.v M)∧TP w' (New A w w') M (loopT mn mx lz y)∧Below w.heap.size w w':=by
 have HY:=hid hY
 have HA:=hid hA
 clear hY hA
 go_enter Tryz.func212,Tryz.ntmps212
 go_wp2
 all_goals
  refine bodyPost_ret (results_cell_row rfl _ _ (w.heap.size + 1) 25 _ (0,0) _ rfl ((heap_alloc_old _ _ (by simp)).trans (two_new w _ _ _)) Tryz.underlying25 rfl (by kernel_rfl)) rfl ?_
  refine ⟨lpN (w.heap.size + 1 + 1) mn mx lz,rfl,?_,below_three w _ _ _⟩
  refine lp_tp (M:=Y) (HY.out.kept (fun b hb=>(below_three w _ _ _).block b (HA.out b hb)) fun b hb=>.inl hb) ?_ (.inr ⟨by omega,by simp⟩) h1 h2
  have e:=heap_alloc_new ((w.alloc (.cells #[.int .i64 Y.k,.slice Y.r1 Y.r2 Y.r3,.int .i64 Y.a2,.slice Y.s1 Y.s2 Y.s3,.int .i64 Y.a4,.int .i64 Y.a5,.bool Y.a6,.int .i64 Y.a7,.string Y.a8] 25)).alloc (.cells #[.int .i64 6,.slice none 0 0,.int .i64 0,.slice (some ⟨w.heap.size + 1 + 1,0,none⟩) 1 1,.int .i64 mn,.int .i64 mx,.bool lz,.int .i64 0,.string ⟨#[]⟩] 25)) (.cells #[.int .i64 Y.k,.slice Y.r1 Y.r2 Y.r3,.int .i64 Y.a2,.slice Y.s1 Y.s2 Y.s3,.int .i64 Y.a4,.int .i64 Y.a5,.bool Y.a6,.int .i64 Y.a7,.string Y.a8] 25)
  have hs:((w.alloc (.cells #[.int .i64 Y.k,.slice Y.r1 Y.r2 Y.r3,.int .i64 Y.a2,.slice Y.s1 Y.s2 Y.s3,.int .i64 Y.a4,.int .i64 Y.a5,.bool Y.a6,.int .i64 Y.a7,.string Y.a8] 25)).alloc (.cells #[.int .i64 6,.slice none 0 0,.int .i64 0,.slice (some ⟨w.heap.size + 1 + 1,0,none⟩) 1 1,.int .i64 mn,.int .i64 mx,.bool lz,.int .i64 0,.string ⟨#[]⟩] 25)).heap.size=w.heap.size + 1 + 1:=by simp
  rw [hs] at e
  exact e
theorem jn_take (l:List Tn) (i:Nat) (hi:i < l.length):(l.take (i + 1)).flatMap jn=(l.take i).flatMap jn ++ jn l[i]:=by
 rw [List.take_succ_eq_append_getElem hi,List.flatMap_append];simp
theorem jn_take_len (l:List Tn) (i:Nat):((l.take i).flatMap jn).length≤(l.flatMap jn).length:=by
 conv=>rhs;rw [← List.take_append_drop i l,List.flatMap_append,List.length_append]
 omega
theorem RG.node {A:Nat→Prop} {w0 w:World} {ad:Option Addr} {n c:Nat} {us:List Tn} (h:RG A w0 w (.slice ad n c) us) (k:Int) (hk:I64ok k):TP w (New A w0 w) ⟨k,none,0,0,0,ad,n,c,0,0,false,0,⟨#[]⟩⟩ (zN k us):=by
 obtain ⟨h1,h2,h3,h4⟩:=h.ltr
 exact h1.node (N:=⟨k,none,0,0,0,ad,n,c,0,0,false,0,⟨#[]⟩⟩) (R:=[]) ⟨hk,ok0,ok0,ok0,ok0,Nat.zero_le _,⟨Nat.le_refl _,Nat.zero_le _⟩,⟨h3,h4⟩⟩ rfl (fun h=>absurd rfl h) (by simp) h2
abbrev C9w (N:Nv):Array Value:=#[.int .i64 N.k,.slice N.r1 N.r2 N.r3,.int .i64 N.a2,.slice N.s1 N.s2 N.s3,.int .i64 N.a4,.int .i64 N.a5,.bool N.a6,.int .i64 N.a7,.string N.a8]
theorem setN9 (X:World) (z:Nat) (N M:Nv) (h:BN X z N) :
  let Y:=(((((((((X.setCell ⟨z,0,none⟩ (.int .i64 M.k)).setCell ⟨z,1,none⟩ (.slice M.r1 M.r2 M.r3)).setCell ⟨z,2,none⟩ (.int .i64 M.a2)).setCell ⟨z,3,none⟩ (.slice M.s1 M.s2 M.s3)).setCell ⟨z,4,none⟩ (.int .i64 M.a4)).setCell ⟨z,5,none⟩ (.int .i64 M.a5)).setCell ⟨z,6,none⟩ (.bool M.a6)).setCell ⟨z,7,none⟩ (.int .i64 M.a7)).setCell ⟨z,8,none⟩ (.string M.a8))
  BN Y z M∧(∀ j,j≠z→Y.heap[j]?=X.heap[j]?)∧Y.heap.size=X.heap.size∧(∀ (B:Nat) (W:World),Below B W X→B≤z→Below B W Y):=by
 refine ⟨nineSet X z (.int .i64 M.k) (.slice M.r1 M.r2 M.r3) (.int .i64 M.a2) (.slice M.s1 M.s2 M.s3) (.int .i64 M.a4) (.int .i64 M.a5) (.bool M.a6) (.int .i64 M.a7) (.string M.a8) h,fun j hj=>?_,by simp [World.setCell],fun B W hb hB=>?_⟩
 ·have f:∀ (U:World) (o:Nat) (v:Value),(U.setCell ⟨z,o,none⟩ v).heap[j]?=U.heap[j]?:=fun U o v=>Below.heap_setCell _ _ _ _ hj
  simp only [f]
 ·have f:∀ (U:World) (o:Nat) (v:Value),Below B W U→Below B W (U.setCell ⟨z,o,none⟩ v):=fun U o v h=>h.setCell (by exact hB) v
  exact f _ _ _ (f _ _ _ (f _ _ _ (f _ _ _ (f _ _ _ (f _ _ _ (f _ _ _ (f _ _ _ (f _ _ _ hb))))))))
theorem box_end {A A2:Nat→Prop} {w X:World} {z:Nat} {N M:Nv} {t:Tn} (hz:w.heap.size≤z) (hA:∀ b,A b→b < w.heap.size) (hx:BN X z N) (hb:Below w.heap.size w X) (hT:TP X A2 M t) (hA2:∀ b,A2 b→A b∨w.heap.size≤b∧b≠z∧b < X.heap.size) :
  let Y:=(((((((((X.setCell ⟨z,0,none⟩ (.int .i64 M.k)).setCell ⟨z,1,none⟩ (.slice M.r1 M.r2 M.r3)).setCell ⟨z,2,none⟩ (.int .i64 M.a2)).setCell ⟨z,3,none⟩ (.slice M.s1 M.s2 M.s3)).setCell ⟨z,4,none⟩ (.int .i64 M.a4)).setCell ⟨z,5,none⟩ (.int .i64 M.a5)).setCell ⟨z,6,none⟩ (.bool M.a6)).setCell ⟨z,7,none⟩ (.int .i64 M.a7)).setCell ⟨z,8,none⟩ (.string M.a8))
  Y.heap[z]?=some (.cells (C9w M) 25 (0,0))∧TP Y (New A w Y) M t∧Below w.heap.size w Y:=by
 obtain ⟨y1,y2,y3,y4⟩:=setN9 X z N M hx
 refine ⟨y1,hT.kept (fun b hb=>y2 b ?_) (fun b hb=>?_),y4 _ _ hb hz⟩
 ·rcases hA2 b hb with h | h
  ·have:=hA b h;omega
  ·exact h.2.1
 ·rcases hA2 b hb with h | h
  ·exact .inl h
  ·exact .inr ⟨h.1,by rw [y3];exact h.2.2⟩
set_option maxRecDepth 100000 in
set_option maxHeartbeats 8000000 in
theorem join74 {A:Nat→Prop} {w:World} {ad:Option Addr} {n c:Nat} {l:List Tn} (hA:∀ b,A b→b < w.heap.size) (hn:n=l.length) (hl:l.length≤200000) (hL:LTr w A ad l) (hnf:∀ x ∈ l,Nf x) (hbig:(joinT (ones l)).nodes≤200000) :
  Calls Tryz.prog 144 #[.slice ad n c] w fun e w'=>∃ M,e=.returned (Nv.v M)∧TP w' (New A w w') M (joinT (ones l))∧Below w.heap.size w w':=by
 rw [joinT_jn hnf] at hbig ⊢
 obtain ⟨us,hus⟩:∃ us,us=l.flatMap jn:=⟨_,rfl⟩
 rw [← hus]
 have HUS:=hid hus
 have hlen:∀ i,((l.take i).flatMap jn).length≤200000:=fun i=>by have:=jn_take_len l i;have:=joinU_len (l.flatMap jn);omega
 obtain ⟨W,hW⟩:∃ W,W=w.alloc (.cells #[.int .i64 0,.slice none 0 0,.int .i64 0,.slice none 0 0,.int .i64 0,.int .i64 0,.bool false,.int .i64 0,.string ⟨#[]⟩] 25):=⟨_,rfl⟩
 have hBW:Below w.heap.size w W:=by rw [hW];exact Joins.below_alloc1 w _
 have hSW:W.heap.size=w.heap.size + 1:=by rw [hW];simp
 have hZW:BN W w.heap.size default:=by rw [hW];exact heap_alloc_new w _
 obtain ⟨z,hz⟩:∃ z,z=w.heap.size:=⟨_,rfl⟩
 rw [← hz] at hSW hZW hA
 have hLW:LTr W A ad l:=hL.kept (fun b hb=>hBW.block b (by have:=hA b hb;omega)) fun b hb=>hb
 have hAW:∀ b,A b→b < W.heap.size:=fun b hb=>by have:=hA b hb;omega
 obtain ⟨ND,hN1,hN2⟩:=hLW
 obtain ⟨i0,hi0,hz0,hz1,hz2⟩:=info_parts info25
 have HN:=hid hn
 have HN1:=hid hN1
 have HN2:=hid hN2
 have HNF:=hid hnf
 have HLN:=hid hlen
 have HBW:=hid hBW
 have HSW:=hid hSW
 have HZW:=hid hZW
 have HZ:=hid hz
 have HA:=hid hA
 have HAW:=hid hAW
 have hn2:n≤200000:=by omega
 clear hn hN1 hN2 hnf hlen hBW hSW hZW hA hAW hbig hL hl hus
 go_enter Tryz.func144,Tryz.ntmps144
 go_wp2_with fail
 rw [← hz,← hW]
 clear hz hW
 go_loopw [3,4] (fun u y wq=>∃ (i j:Nat) (u1:Option Addr) (u3:Nat),u=.slice u1 j u3∧y=.int .i64 (i:Int)∧i≤n∧j≤200000∧Hid (RG A W wq (.slice u1 j u3) ((l.take i).flatMap jn))) (fun _ y _=>n - (intOf y).toNat)
 case atStart=>exact ⟨0,0,none,0,rfl,rfl,by omega,by omega,by show RG _ _ _ _ _;simpa using RG.start HAW.out (Below.refl _ _)⟩
 case round =>
  obtain ⟨i,j,u1,u3,rfl,rfl,hi,hj,HR⟩:=hrel
  by_cases hil:i < n
  ·have b1:decide ((i:Int) < (n:Int))=true:=by simp;omega
   have b2:(i:Int) < (n:Int):=by omega
   have ad1:IntKind.i64.wrap ((i:Int) + 1)=(i:Int) + 1:=by simp [IntKind.wrap,IntKind.bits,IntKind.signed];omega
   have hil':i < l.length:=by have:=HN.out;omega
   obtain ⟨MS,A',hR⟩:=HR.out
   have hbel:=hR.bel
   obtain ⟨b,o,hs1,hbA,h9⟩:=HN1.out (by omega)
   subst hs1
   have hbl:=HAW.out b hbA
   obtain ⟨n0,n1,n2,n3,n4,n5,n6,n7,n8⟩:=(h9 i hil').kept (hbel.block b hbl)
   have hTP:TP wr A (ND i) l[i]:=(HN2.out i hil').kept (fun b hb=>hbel.block b (HAW.out b hb)) fun b hb=>hb
   obtain ⟨M,hM⟩:∃ M,M=ND i:=⟨_,rfl⟩
   rw [← hM] at n0 n1 n2 n3 n4 n5 n6 n7 n8 hTP
   have hst:=jn_take l i hil'
   have hln:=HLN.out (i + 1)
   rw [hst] at hln
   obtain ⟨hsubs,hs2,hs23,hk⟩:=hTP.subs
   have hul:j=((l.take i).flatMap jn).length:=row_len hR.row
   have hnfx:=HNF.out l[i] (List.getElem_mem hil')
   obtain ⟨x,hx⟩:∃ x,x=l[i]:=⟨_,rfl⟩
   rw [← hx] at hTP hst hln hsubs hs2 hk hnfx
   obtain ⟨vs,hus⟩:∃ vs,vs=(l.take i).flatMap jn:=⟨_,rfl⟩
   rw [← hus] at hR hst hln hul
   have HST:=hid hst
   have HTP:=hid hTP
   have HR1:=hid hR
   have HX:=hid hx
   have HUL:=hid hul
   have HLX:=hid hln
   have HSB:=hid hsubs
   have hrow:=hR.row
   rw [← hul] at hrow
   have HROW:=hid hrow
   have hWs:W.heap.size≤wr.heap.size:=hbel.size
   have HNX:=hid hnfx
   have HHK:=hid hk
   have HS2:=hid hs2
   obtain ⟨mk,m1,m2,m3,m4,t1,t2,t3,m5,m6,m7,m8,m9⟩:=M
   dsimp only at n0 n1 n2 n3 n4 n5 n6 n7 n8 hs23
   clear hst hTP hR hx hus hul hM h9 hsubs hln HR hrow hk hs2 hnfx hbel
   by_cases k1:mk=1
   ·subst k1
    have hjn:jn x=[]:=by unfold jn;rw [if_pos HHK.out.symm]
    go_wp2
    refine ⟨⟨i + 1,j,u1,u3,rfl,by push_cast;rfl,by omega,hj,?_⟩,by simp [intOf];omega⟩
    rw [HST.out,hjn,List.append_nil]
    exact ⟨MS,A',HR1.out⟩
   ·have g1:(mk == 1)=false:=by simp [k1]
    have hjn:jn x=within 4 x:=by unfold jn;rw [if_neg (by have:=HHK.out;dsimp only at this;omega)]
    by_cases k4:mk=4
    ·subst k4
     have hw4:within 4 x=x.subs:=by unfold within;rw [if_pos HHK.out.symm]
     have h2:=nf_subs HNX.out (.inl HHK.out.symm)
     have hs2:t2=x.subs.length:=HS2.out
     obtain ⟨ND2,h1',h2'⟩:=HSB.out
     obtain ⟨b2,o2,e2,hb2,h92⟩:=h1' (by omega)
     dsimp only at e2
     subst e2
     have hnews:=tl_news (n:=t2) (fun i hi=>h92 i (by omega))
     have hnl:(((List.range t2).map ND2).flatMap Nv.cs).length=t2 * 9:=by rw [flat9_len];simp
     have htj:j + t2≤200000:=by have h:=HLX.out;have:=HUL.out;rw [hjn,hw4,List.length_append] at h;omega
     obtain ⟨news,hnw⟩:∃ news,news=((List.range t2).map ND2).flatMap Nv.cs:=⟨_,rfl⟩
     have h1c:∀ u ∈ news,u.oneCell'=true:=by rw [hnw];exact one9L _
     rw [← hnw] at hnews hnl
     have HNW:=hid hnw
     have HN2':=hid h2'
     have HNL:=hid hnl
     have HNEWS:=hid hnews
     have H1C:=hid h1c
     have hp2:2≤t2:=by omega
     have HHS:=hid hs2
     clear hnw h1' h2' h92 hnl hnews h1c h2 hs2
     go_wp2_with (first | (at_builtin;refine wpList_append_moveN rfl (.tmp 27) (.tmp 32) 23 rfl W.heap.size 25 i0 Z9 9 112 Tryz.underlying23 hi0 hz0 hz1 hz2 rfl (by decide) (.slice u1 j u3) j (MS.flatMap Nv.cs) rfl HROW.out ⟨b2,o2,none⟩ t2 t3 news rfl HNL.out (by omega) HNEWS.out H1C.out (by unfold maxLen;omega) (by omega) hWs ?_;intro v' w3 ho3 hm3;obtain ⟨vb,vc,rfl⟩:=Joins.ownsRow_form ho3.out (by omega)))
     refine ⟨⟨i + 1,j + t2,some ⟨vb,0,none⟩,vc,rfl,by push_cast;rfl,by omega,htj,?_⟩,by simp [intOf];omega⟩
     rw [HST.out,hjn,hw4]
     have ho:=ho3.out
     rw [HNW.out] at ho
     have hhs:=HHS.out
     refine HR1.out.app (A2:=A) (Below.refl _ _) (news:=(List.range t2).map ND2) (by simp [hhs]) (fun q hq hq'=>?_) (fun b hb=>.inl hb) (Below.refl _ _) ?_ hm3.out
     ·simp only [List.getElem_map,List.getElem_range];exact HN2'.out q hq
     ·rw [← HUL.out,← hhs];exact ho
    ·have g4:(mk == 4)=false:=by simp [k4]
     have hw4:within 4 x=[x]:=by unfold within;rw [if_neg (by have:=HHK.out;dsimp only at this;omega)]
     have htj:j + 1≤200000:=by have h:=HLX.out;have:=HUL.out;rw [hjn,hw4,List.length_append] at h;simp at h;omega
     go_wp2_with (first | (at_builtin;refine wpList_append_moveN rfl (.tmp 16) (.tmp 21) 23 rfl W.heap.size 25 i0 Z9 9 112 Tryz.underlying23 hi0 hz0 hz1 hz2 rfl (by decide) (.slice u1 j u3) j (MS.flatMap Nv.cs) rfl (HROW.out.alloc _) ⟨wr.heap.size,0,none⟩ 1 1 (Nv.cs ⟨mk,m1,m2,m3,m4,t1,t2,t3,m5,m6,m7,m8,m9⟩) rfl rfl (by decide) (news9 wr ⟨mk,m1,m2,m3,m4,t1,t2,t3,m5,m6,m7,m8,m9⟩) (one9 _) (by unfold maxLen;omega) (by omega) (by simp;omega) ?_;intro v' w3 ho3 hm3;obtain ⟨vb,vc,rfl⟩:=Joins.ownsRow_form ho3.out (by omega)))
     refine ⟨⟨i + 1,j + 1,some ⟨vb,0,none⟩,vc,rfl,by push_cast;rfl,by omega,htj,?_⟩,by simp [intOf];omega⟩
     rw [HST.out,hjn,hw4]
     refine HR1.out.app (A2:=A) (Below.refl _ _) (news:=[⟨mk,m1,m2,m3,m4,t1,t2,t3,m5,m6,m7,m8,m9⟩]) rfl (fun q hq hq'=>?_) (fun b hb=>.inl hb) (Joins.below_alloc1 wr _) ?_ hm3.out
     ·have e:q=0:=by simpa using hq
      subst e
      exact HTP.out
     ·rw [← HUL.out];simpa using ho3.out
  ·have b1:decide ((i:Int) < (n:Int))=false:=by simp;omega
   obtain rfl:i=n:=by omega
   have hR:=HR.out
   have htk:l.take i=l:=by rw [HN.out,List.take_length]
   rw [htk,← HUS.out] at hR
   have hul:j=us.length:=by obtain ⟨MS,A',h⟩:=hR;exact row_len h.row
   have hbel:Below W.heap.size W wr:=by obtain ⟨MS,A',h⟩:=hR;exact h.bel
   have hwr:Below w.heap.size w wr:=HBW.out.trans (Joins.below_le hbel HBW.out.size)
   have bz:BN wr z default:=(hbel.block z (by have:=HSW.out;omega)).trans HZW.out
   obtain ⟨q0,q1,q2,q3,q4,q5,q6,q7,q8⟩:=nine' bz
   have f0:=Joins.unfrozen_of_block bz 0
   have f1:=Joins.unfrozen_of_block bz 1
   have f2:=Joins.unfrozen_of_block bz 2
   have f3:=Joins.unfrozen_of_block bz 3
   have f4:=Joins.unfrozen_of_block bz 4
   have f5:=Joins.unfrozen_of_block bz 5
   have f6:=Joins.unfrozen_of_block bz 6
   have f7:=Joins.unfrozen_of_block bz 7
   have f8:=Joins.unfrozen_of_block bz 8
   have HBZ:=hid bz
   have HWR:=hid hwr
   have HRR:=hid hR
   have HUL:=hid hul
   have HWS:=hid hbel.size
   clear hR hbel hwr bz HR hul htk
   by_cases j0:j=0
   ·subst j0
    have hu0:us=[]:=List.length_eq_zero_iff.1 HUL.out.symm
    go_wp2
    all_goals
     obtain ⟨y1,y2,y3⟩:=box_end (M:=NK 1) (t:=emptyT) (by have:=HZ.out;omega) (fun b hb=>by have:=HA.out b hb;have:=HZ.out;omega) HBZ.out HWR.out (TP.mk (A:=fun _=>False) (N:=NK 1) (R:=[]) (ts:=[]) (ND:=fun _=>default) (ok_NO 1 0 0 false 0 ⟨#[]⟩ (by decide) (by decide) (by decide) (by decide) (Nat.zero_le _)) rfl (fun h=>absurd rfl h) (by simp) rfl (fun h=>by simp at h) (fun i hi=>by simp at hi)) (fun b h=>h.elim)
     refine bodyPost_ret (results_cell_row rfl _ _ z 25 _ (0,0) _ rfl y1 Tryz.underlying25 rfl (by kernel_rfl)) rfl ⟨NK 1,rfl,?_,y3⟩
     rw [hu0]
     exact y2
   ·have g0:((j:Int) == 0)=false:=by simp [j0]
    by_cases j1:j=1
    ·subst j1
     obtain ⟨u,hu⟩:∃ u,us=[u]:=by
      match us,HUL.out with
      | [u],_=>exact ⟨u,rfl⟩
     obtain ⟨MS,A',hR⟩:=HRR.out
     have hl:=hR.len
     obtain ⟨g,e1,e2,h9⟩:=row_nine hR.row hl.symm (by rw [← HUL.out];decide)
     subst e1
     have hl1:0 < MS.length:=by rw [hl,← HUL.out];decide
     obtain ⟨n0,n1,n2,n3,n4,n5,n6,n7,n8⟩:=h9 0 hl1
     have htp:=hR.tp 0 (by rw [← HUL.out];decide) hl1
     simp only [Nat.zero_mul,Nat.add_zero,Nat.zero_add] at n0 n1 n2 n3 n4 n5 n6 n7 n8
     have hofA:=hR.ofA
     have hlow:=hR.low
     obtain ⟨M,hM⟩:∃ M,M=MS[0]:=⟨_,rfl⟩
     rw [← hM] at n0 n1 n2 n3 n4 n5 n6 n7 n8 htp
     have htp:TP wr A' M u:=by
      have e:us[0]'(by rw [hu];simp)=u:=by simp [hu]
      rw [← e];exact htp
     have HJU:Hid (joinU us=u):=by rw [hu];exact rfl
     have HTP:=hid htp
     have HOF:=hid hofA
     have HLO:=hid hlow
     clear htp hofA hlow hM h9 hR hl e2 hl1
     go_wp2
     all_goals
      obtain ⟨y1,y2,y3⟩:=box_end (M:=M) (t:=u) (by have:=HZ.out;omega) (fun b hb=>by have:=HA.out b hb;have:=HZ.out;omega) HBZ.out HWR.out HTP.out (fun b h=>by rcases HOF.out b h with h1 | h1;exact .inl h1;exact .inr ⟨by have:=HSW.out;have:=HZ.out;omega,by have:=HSW.out;omega,HLO.out b h⟩)
      exact bodyPost_ret (results_cell_row rfl _ _ z 25 _ (0,0) _ rfl y1 Tryz.underlying25 rfl (by kernel_rfl)) rfl (by rw [HJU.out];exact ⟨M,rfl,y2,y3⟩)
    ·have g1:((j:Int) == 1)=false:=by simp;omega
     have hju:joinU us=zN 4 us:=by
      match us,HUL.out with
      | [],h=>simp at h;omega
      | [u],h=>simp at h;omega
      | a :: b :: s,_=>rfl
     have HJU:=hid hju
     clear hju
     go_wp2
     all_goals
      obtain ⟨y1,y2,y3⟩:=box_end (M:=⟨4,none,0,0,0,u1,j,u3,0,0,false,0,⟨#[]⟩⟩) (t:=zN 4 us) (by have:=HZ.out;omega) (fun b hb=>by have:=HA.out b hb;have:=HZ.out;omega) HBZ.out HWR.out (HRR.out.node 4 (by decide)) (fun b h=>by rcases h with h1 | h1;exact .inl h1;exact .inr ⟨by have:=HSW.out;have:=HZ.out;omega,by have:=HSW.out;omega,h1.2⟩)
      exact bodyPost_ret (results_cell_row rfl _ _ z 25 _ (0,0) _ rfl y1 Tryz.underlying25 rfl (by kernel_rfl)) rfl (by rw [HJU.out];exact ⟨_,rfl,y2,y3⟩)
end Go.Proofs.YtacaanhnlfpbhaaGreat
