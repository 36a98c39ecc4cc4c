/- HELPERS: texts of ours put together. -/
import Derived.Test.YtjdbnoccdefnaaaGreatK18
import Derived.Lib.OwnBridge
import Derived.Shelf.SlSortCmp.NoneTotal
namespace Go.Proofs.YtjdbnoccdefnaaaGreat
open Go.Shelf Go.RowKit Go.Lib Go.Sort
set_option linter.unusedVariables false
set_option linter.unusedSimpArgs false
theorem toArr_get (L:List (Int × Int)) (k:Nat) (h:k < L.length):(L.toArray)[k]! = L.getD k (0,0):=by
  simp [h]
theorem flat_get (L:List (Int × Int)) (k:Nat) (h:k < L.length):(flatK encR 2 L.toArray)[k * 2]! = .int .i64 (L.getD k (0,0)).1 ∧ (flatK encR 2 L.toArray)[k * 2 + 1]! = .int .i64 (L.getD k (0,0)).2:=by
  have hs:L.toArray.size = L.length:=by simp
  have h1:k * 2 / 2 = k:=by omega
  have h2:(k * 2 + 1) / 2 = k:=by omega
  have h3:k * 2 % 2 = 0:=by omega
  have h4:(k * 2 + 1) % 2 = 1:=by omega
  rw [get_flatK encR 2 L.toArray (k * 2) (by rw [hs];omega),get_flatK encR 2 L.toArray (k * 2 + 1) (by rw [hs];omega),h1,h2,h3,h4,toArr_get L k h]
  exact ⟨rfl,rfl⟩
theorem holdsK_own {w:World} {N g cap:Nat} {L:List (Int × Int)} (h:w.ownsRow N 50 2 (.slice (some ⟨g,0,none⟩) L.length cap) L.length (fl L)):HoldsK encR 2 w g 0 L.toArray:=by
  intro j hj
  rw [size_flatK] at hj
  have hs:L.toArray.size = L.length:=by simp
  rw [hs] at hj
  refine ⟨?_,by rw [Nat.zero_add];exact h.frozenAt j⟩
  rw [Nat.zero_add,h.cellAt j hj]
  have hk:j / 2 < L.length:=by omega
  have hf:=fl_getD L (j / 2) hk
  have hg:=flat_get L (j / 2) hk
  rcases (show j = j / 2 * 2 ∨ j = j / 2 * 2 + 1 by omega) with he | he
  · rw [he]
    rw [hf.1,hg.1];rfl
  · rw [he]
    rw [hf.2,hg.2];rfl
theorem below_grow {B:Nat} {w0 w:World} (h:Below B w0 w) (hB:B ≤ w.heap.size) (os:Array Obj):Below B w0 (grow w os):=
  ⟨h.os,h.tape,h.output,by rw [size_grow];have:=h.size;omega,fun k hk => by rw [heap_grow_old w os (by omega)];exact h.block k hk⟩
theorem sort_row (N:Nat) (L:List (Int × Int)) (n g cap:Nat) (w:World) (hn:n = L.length) (hown:w.ownsRow N 50 2 (.slice (some ⟨g,0,none⟩) n cap) n (fl L)) (hsz:n < 4611686018427387904) :
    Calls Tryz.prog 114 #[.slice (some ⟨g,0,none⟩) n cap,.func (.func 115) #[] #[]] w fun e w' => e = .returned (.tuple #[]) ∧ ∃ D:List (Int × Int),D.Perm L ∧ D.Pairwise (fun x y => x.1 ≤ y.1) ∧
      (∀ k,k < n → w'.cell? ⟨g,0 + k * 2,none⟩ = some (.int .i64 (D.getD k (0,0)).1)) ∧ (∀ k,k < n → w'.cell? ⟨g,0 + k * 2 + 1,none⟩ = some (.int .i64 (D.getD k (0,0)).2)) ∧ g < w'.heap.size ∧ Below N w w':=by
  subst hn
  have hb:N ≤ g ∧ g < w.heap.size:=hown.lt _ rfl
  have hH:=holdsK_own hown
  have hs:L.toArray.size = L.length:=by simp
  have hc:=sort57 g 0 cap L.toArray w hH hb.2 (by rw [hs];exact hsz)
  rw [hs] at hc
  refine hc.mono ?_
  rintro e w' ⟨rfl,d',m,os,hp,hso,rfl⟩
  obtain ⟨hp1,_,hp3⟩:=hp
  rw [hs] at hp1
  have hD:d'.toList.toArray = d':=by simp
  have hDl:d'.toList.length = L.length:=by simpa using hp1
  refine ⟨rfl,d'.toList,?_,?_,?_,?_,?_,?_⟩
  · have e1:d'.extract 0 L.length = d':=by rw [← hp1];simp
    have e2:(L.toArray).extract 0 L.length = L.toArray:=by rw [← hs];simp
    rw [e1,e2] at hp3
    simpa using hp3
  · rw [List.pairwise_iff_getElem]
    intro i j hi hj hij
    have:=hso i j (Nat.zero_le _) hij (by omega)
    rw [ltLo] at this
    have gi:d'[i]! = d'.toList[i]:=by simp at hi;simp [hi]
    have gj:d'[j]! = d'.toList[j]:=by simp at hj;simp [hj]
    rw [gi,gj] at this
    simpa using this
  all_goals unfold sortWorldK putRowK
  · intro k hk
    rw [cell?_grow _ _ _ (by simpa using hb.2)]
    have h2:=cell?_putRow (id:Value → Value) (Sort.ahead w m) g 0 (flatK encR 2 L.toArray) (flatK encR 2 d') hH (by rw [size_flatK,size_flatK,hs,hp1]) (k * 2) (by rw [size_flatK,hp1];omega)
    rw [h2,← hD,(flat_get d'.toList k (by omega)).1,hD];rfl
  · intro k hk
    rw [cell?_grow _ _ _ (by simpa using hb.2)]
    have h2:=cell?_putRow (id:Value → Value) (Sort.ahead w m) g 0 (flatK encR 2 L.toArray) (flatK encR 2 d') hH (by rw [size_flatK,size_flatK,hs,hp1]) (k * 2 + 1) (by rw [size_flatK,hp1];omega)
    rw [show 0 + k * 2 + 1 = 0 + (k * 2 + 1) by omega,h2,← hD,(flat_get d'.toList k (by omega)).2,hD];rfl
  · simp;omega
  · exact below_grow (below_putRow (Below.refl _ _) hb.1) (by simp;omega) os
theorem fl_O2 (L:List (Int × Int)):fl L = O2 L:=rfl
theorem flatK_O2 (D:List (Int × Int)):(flatK encR 2 D.toArray).toList = O2 D:=by
  apply List.ext_getElem?
  intro j
  by_cases hj:j < D.length * 2
  · have h1:(flatK encR 2 D.toArray)[j]! = (encR ((D.toArray)[j / 2]!))[j % 2]!:=get_flatK encR 2 D.toArray j (by simpa using hj)
    have hk:j / 2 < D.length:=by omega
    have hs:j < (flatK encR 2 D.toArray).size:=by simpa using hj
    have h2:=fl_getD D (j / 2) hk
    have h3:(flatK encR 2 D.toArray).toList[j]? = some ((flatK encR 2 D.toArray)[j]!):=by
      rw [Array.getElem?_toList,Array.getElem?_eq_getElem hs,getElem!_pos (flatK encR 2 D.toArray) j hs]
    rw [h3,h1,toArr_get D _ hk]
    rcases (show j = j / 2 * 2 ∨ j = j / 2 * 2 + 1 by omega) with he | he
    · have e:j % 2 = 0:=by omega
      rw [e,← fl_O2,he,h2.1]
      simp [encR]
    · have e:j % 2 = 1:=by omega
      rw [e,← fl_O2,he,h2.2]
      have e2:(j / 2 * 2 + 1) / 2 = j / 2:=by omega
      rw [e2]
      simp [encR]
  · rw [List.getElem?_eq_none (by simpa using hj),List.getElem?_eq_none (by
      have:=O2_len D
      omega)]
theorem own_sorted {w:World} {N g n cap q:Nat} {L D:List (Int × Int)} (os:Array Obj) (h:w.ownsRow N 50 2 (.slice (some ⟨g,0,none⟩) n cap) n (O2 L)) (hn:n = L.length) (hD:D.length = L.length) :
    (sortWorldK encR 2 w g 0 q D.toArray os).ownsRow N 50 2 (.slice (some ⟨g,0,none⟩) n cap) n (O2 D) ∧ (∀ k,k < w.heap.size → k ≠ g → (sortWorldK encR 2 w g 0 q D.toArray os).heap[k]? = w.heap[k]?) ∧ w.heap.size ≤ (sortWorldK encR 2 w g 0 q D.toArray os).heap.size:=by
  have hl2:(O2 D).length = n * 2:=by rw [← flatK_O2];simp [hD,hn]
  rcases h.2 with ⟨e0,_⟩ | ⟨g',cap',cur,e0,hb,hg,hn',hm,hs,ht⟩
  · cases e0
  · injection e0 with e1 _ e3
    injection e1 with e1
    injection e1 with e1
    subst e1;subst e3
    have hgl:g < w.heap.size:=(Array.getElem?_eq_some_iff.1 hg).1
    refine ⟨⟨hl2,.inr ⟨g,cap,putCells id 0 (flatK encR 2 D.toArray) cur,rfl,hb,?_,hn',hm,by simpa [putCells] using hs,?_⟩⟩,fun k hk hne => ?_,?_⟩
    · unfold sortWorldK putRowK
      rw [heap_grow_old _ _ (by simpa [putRow,mapBlock,Sort.ahead] using hgl)]
      simp [putRow,mapBlock,Sort.ahead,Array.getElem?_modify,hg,onCells]
    · rw [← flatK_O2]
      apply List.ext_getElem?
      intro j
      rw [List.getElem?_take,Array.getElem?_toList]
      by_cases hj:j < n * 2
      · have hjc:j < cur.size:=by omega
        have hjf:j < (flatK encR 2 D.toArray).size:=by simp;omega
        simp only [if_pos hj,putCells,Array.getElem?_mapIdx,Array.getElem?_eq_getElem hjc,Option.map_some]
        rw [if_pos (by simp;omega),Array.getElem?_toList,Array.getElem?_eq_getElem hjf]
        simp only [Nat.zero_add,Nat.sub_zero,id]
        rw [getElem!_pos (flatK encR 2 D.toArray) j hjf]
      · rw [if_neg hj,List.getElem?_eq_none (by simp;omega)]
    · unfold sortWorldK putRowK
      rw [heap_grow_old _ _ (by simpa [putRow,mapBlock,Sort.ahead] using hk)]
      simp [putRow,mapBlock,Sort.ahead,Array.getElem?_modify,Ne.symm hne]
    · unfold sortWorldK putRowK
      simp [putRow,mapBlock,Sort.ahead,size_grow]
theorem sort114 {N n g cap:Nat} {L:List (Int × Int)} {w:World} (hn:n = L.length) (hown:w.ownsRow N 50 2 (.slice (some ⟨g,0,none⟩) n cap) n (O2 L)) (hsz:n < 4611686018427387904) :
    Calls Tryz.prog 114 #[.slice (some ⟨g,0,none⟩) n cap,.func (.func 115) #[] #[]] w fun e w' => e = .returned (.tuple #[]) ∧ ∃ D:List (Int × Int),D.Perm L ∧ D.Pairwise (fun x y => x.1 ≤ y.1) ∧
      w'.ownsRow N 50 2 (.slice (some ⟨g,0,none⟩) n cap) n (O2 D) ∧ (∀ k,k < w.heap.size → k ≠ g → w'.heap[k]? = w.heap[k]?) ∧ w.heap.size ≤ w'.heap.size ∧ w'.os = w.os ∧ w'.tape = w.tape ∧ w'.output = w.output:=by
  subst hn
  have hb:N ≤ g ∧ g < w.heap.size:=hown.lt _ rfl
  have hH:=holdsK_own hown
  have hs:L.toArray.size = L.length:=by simp
  have hc:=sort57 g 0 cap L.toArray w hH hb.2 (by rw [hs];exact hsz)
  rw [hs] at hc
  refine hc.mono ?_
  rintro e w' ⟨rfl,d',m,os,hp,hso,rfl⟩
  obtain ⟨hp1,_,hp3⟩:=hp
  rw [hs] at hp1
  have hD:d'.toList.toArray = d':=by simp
  have hDl:d'.toList.length = L.length:=by simpa using hp1
  have hz:=own_sorted (q:=m) os hown rfl hDl
  rw [hD] at hz
  refine ⟨rfl,d'.toList,?_,?_,hz.1,hz.2.1,hz.2.2,rfl,rfl,rfl⟩
  · have e1:d'.extract 0 L.length = d':=by rw [← hp1];simp
    have e2:(L.toArray).extract 0 L.length = L.toArray:=by rw [← hs];simp
    rw [e1,e2] at hp3
    simpa using hp3
  · rw [List.pairwise_iff_getElem]
    intro i j hi hj hij
    have:=hso i j (Nat.zero_le _) hij (by omega)
    rw [ltLo] at this
    have gi:d'[i]! = d'.toList[i]:=by simp at hi;simp [hi]
    have gj:d'[j]! = d'.toList[j]:=by simp at hj;simp [hj]
    rw [gi,gj] at this
    simpa using this
theorem sort114_nil (w:World) (c:Nat) (ad:Option Addr):Calls Tryz.prog 114 #[.slice ad 0 c,.func (.func 115) #[] #[]] w fun e w' => e = .returned (.tuple #[]) ∧ w' = w:=
  AnyF.slices_SortFunc_none Tryz.sortRng ad c _ w
theorem sortAny {N n:Nat} {v:Value} {L:List (Int × Int)} {w:World} (hn:n = L.length) (hown:w.ownsRow N 50 2 v n (O2 L)) (hsz:n < 4611686018427387904) :
    Calls Tryz.prog 114 #[v,.func (.func 115) #[] #[]] w fun e w' => e = .returned (.tuple #[]) ∧ ∃ D:List (Int × Int),D.Perm L ∧ D.Pairwise (fun x y => x.1 ≤ y.1) ∧
      w'.ownsRow N 50 2 v n (O2 D) ∧ (∀ k,k < w.heap.size → v.ownBlock ≠ some k → w'.heap[k]? = w.heap[k]?) ∧ w.heap.size ≤ w'.heap.size ∧ w'.os = w.os ∧ w'.tape = w.tape ∧ w'.output = w.output:=by
  obtain ⟨a,c,rfl,-,-⟩:=row_shape hown
  rcases Nat.eq_zero_or_pos n with h0 | h0
  · subst h0
    have hL:L = []:=List.length_eq_zero_iff.1 hn.symm
    refine (sort114_nil w c a).mono ?_
    rintro e w' ⟨rfl,rfl⟩
    exact ⟨rfl,L,.refl _,by rw [hL];exact .nil,hown,fun _ _ _ => rfl,Nat.le_refl _,rfl,rfl,rfl⟩
  · obtain ⟨g,rfl⟩:∃ g,a = some ⟨g,0,none⟩:=by
      rcases hown.2 with ⟨_,e⟩ | ⟨g,cap,cur,e,_⟩
      · omega
      · simp only [Value.slice.injEq] at e;exact ⟨g,e.1⟩
    refine (sort114 hn hown hsz).mono ?_
    rintro e w' ⟨rfl,D,h1,h2,h3,h4,h5⟩
    exact ⟨rfl,D,h1,h2,h3,fun k hk hne => h4 k hk (fun e => hne (by rw [e];rfl)),h5⟩
end Go.Proofs.YtjdbnoccdefnaaaGreat
