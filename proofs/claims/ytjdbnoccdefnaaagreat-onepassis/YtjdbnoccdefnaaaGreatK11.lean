/- HELPERS: texts of ours put together. -/
import Derived.Test.YtjdbnoccdefnaaaGreatK10
import Derived.Lib.SliceRun
import Derived.Deep.OwnRows
namespace Go.Proofs.YtjdbnoccdefnaaaGreat
open Go.RowKit
set_option linter.unusedVariables false
set_option linter.unusedSimpArgs false
def lim (n:Int):Nat:=(min (max n 0) 1048576).toNat
theorem lim_eq (n:Int):min (max n 0) 1048576 = (lim n:Int):=by unfold lim;omega
theorem lim_le (n:Int):lim n ≤ 1048576:=by unfold lim;omega
set_option maxHeartbeats 1000000 in
theorem new8 (n:Int) (w:World) :
    Calls Tryz.prog 34 #[.int .i64 n] w fun e w' => ∃ g F,e = .returned (.pointer (some ⟨g,0,none⟩)) ∧ SetS w.heap.size w' g F (lim n) [] ∧ Below w.heap.size w w':=by
  have hlim:=lim_eq n
  have hle:=lim_le n
  generalize lim n = k at hlim hle
  obtain ⟨W,hW⟩:∃ W:Nat,W = (k + 63) / 64:=⟨_,rfl⟩
  have hd1:((k:Int) + 64 - 1) / 64 = (W:Int):=by omega
  have hd2:((k:Int) + 63) / 64 = (W:Int):=by omega
  have hWl:W ≤ 16384:=by omega
  have hmk:=run_make_row' (P:=Tryz.prog) 90 103 (.int .u64 0) 8 Tryz.underlying90 info68 rfl .i64 .i64 W (by omega) (by omega)
  have HW:Hid (W = (k + 63) / 64):=hW
  clear hW
  go_enter Tryz.func34,Tryz.ntmps34
  go_wp2
  go_ret
  have hmade:((w.alloc (.cells (madeCells #[.int .u64 0] W) 103)).alloc (.cells #[.int .i64 (k:Int),.slice (some ⟨w.heap.size,0,none⟩) W W,.slice none 0 0] 92)).ownsRow w.heap.size 103 1 (.slice (some ⟨w.heap.size,0,none⟩) W W) W (U64 (List.replicate W 0)):=by
    have:=(World.ownsRow_lit (base:=w.heap.size) (e:=103) (size:=1) w (madeCells #[.int .u64 0] W) W (Nat.le_refl _) (by unfold maxLen;omega) (by rw [size_madeCells];omega)).alloc (.cells #[.int .i64 (k:Int),.slice (some ⟨w.heap.size,0,none⟩) W W,.slice none 0 0] 92)
    rw [toList_madeCells_one] at this
    rw [show U64 (List.replicate W 0) = List.replicate W (.int .u64 0) by simp [U64]]
    exact this
  refine ⟨w.heap.size + 1,_,rfl,⟨w.heap.size,W,.slice none 0 0,List.replicate W 0,?_,by omega,hle,?_,World.ownsRow_nil _ _ _ _,?_,List.nodup_nil,rfl⟩,?_⟩
  · rw [← HW.out]
    have:=heap_alloc_new (w.alloc (.cells (madeCells #[.int .u64 0] W) 103)) (.cells #[.int .i64 (k:Int),.slice (some ⟨w.heap.size,0,none⟩) W W,.slice none 0 0] 92)
    simpa using this
  · rw [← HW.out]
    exact hmade
  · rw [HW.out]
    exact Marks.none k
  · exact ((Below.refl _ _).alloc (Nat.le_refl _) _).alloc (by simp) _
theorem setCells_other (b:Nat):∀ (vs:List Value) (o:Nat) (w:World) (k:Nat),k ≠ b → (w.setCells b o vs).heap[k]? = w.heap[k]?
  | [],o,w,k,h => rfl
  | v :: vs,o,w,k,h => by
    show ((w.setCell ⟨b,o,none⟩ v).setCells b (o + 1) vs).heap[k]? = _
    rw [setCells_other b vs (o + 1) _ k h,Below.heap_setCell _ _ _ _ h]
theorem setCells_chg {w w':World} {F F':List Nat} (b:Nat) (hb:b ∈ F):∀ (vs:List Value) (o:Nat) (w':World),Chg w w' F F' → Chg w (w'.setCells b o vs) F F'
  | [],o,w',h => h
  | v :: vs,o,w',h => setCells_chg (w':=w') b hb vs (o + 1) _ (h.set v hb)
theorem row_stores {base e b n c:Nat}:∀ (vs:List Value) (o:Nat) (w:World) (xs:List Value),w.ownsRow base e 1 (.slice (some ⟨b,0,none⟩) n c) n xs → o + vs.length = n →
    (w.setCells b o vs).ownsRow base e 1 (.slice (some ⟨b,0,none⟩) n c) n (xs.take o ++ vs)
  | [],o,w,xs,h,hn => by
    have:xs.take o = xs:=List.take_of_length_le (by have:=h.1;simp at hn;omega)
    rw [this,List.append_nil]
    exact h
  | v :: vs,o,w,xs,h,hn => by
    have hl:=h.1
    simp at hn
    have h2:=row_stores vs (o + 1) _ _ (h.stored o v).1 (by omega)
    have e:(xs.set o v).take (o + 1) ++ vs = xs.take o ++ v :: vs:=by
      rw [List.take_add_one,List.take_set_of_le (Nat.le_refl _)]
      simp [show o < xs.length by omega]
    rw [e] at h2
    exact h2
theorem zero68 (w:World):(zeroValue 103).run Tryz.prog w = .ok (.int .u64 0) w:=by kernel_rfl
theorem row_emptied {w:World} {base e n b cap:Nat} {xs:List Value} (h:w.ownsRow base e 1 (.slice (some ⟨b,0,none⟩) n cap) n xs):w.ownsRow base e 1 (.slice (some ⟨b,0,none⟩) 0 cap) 0 []:=by
  refine ⟨rfl,.inr ?_⟩
  rcases h.2 with ⟨h,_⟩ | ⟨g,cap',cur,he,hb,hgg,h1,h2,h3,h4⟩
  · cases h
  · simp only [Value.slice.injEq,Option.some.injEq,Addr.mk.injEq] at he
    obtain ⟨⟨rfl,_⟩,_,rfl⟩:=he
    exact ⟨b,cap,cur,rfl,hb,hgg,by omega,h2,h3,by simp⟩
set_option maxHeartbeats 1000000 in
theorem clear16 (N g:Nat) (F:List Nat) (n:Nat) (l:List Int) (w:World) (hS:Hid (SetS N w g F n l)) :
    Calls Tryz.prog 97 #[.pointer (some ⟨g,0,none⟩)] w fun e w' => e = .returned (.tuple #[]) ∧ SetS N w' g F n [] ∧ Chg w w' F F:=by
  obtain ⟨b,c,ov,M,hg,hNg,hn,hM,ho,hm,hnd,rfl⟩:=hS.out
  have hne2:=own_ne hM hg (by decide)
  have hbg:b ≠ g:=fun h => hne2 (by simp [Value.ownBlock,h])
  have hgb:g ≠ b:=fun h => hbg h.symm
  have hob:ov.ownBlock ≠ some b:=by
    rcases hM.2 with ⟨h,_⟩ | ⟨b',cap',cur,he,_,hgg,_⟩
    · cases h
    · simp only [Value.slice.injEq,Option.some.injEq,Addr.mk.injEq] at he
      obtain ⟨⟨rfl,_⟩,_,rfl⟩:=he
      exact own_ne ho hgg (by decide)
  have hne:=own_ne ho hg (by decide)
  obtain ⟨W,hW⟩:∃ W:Nat,W = (n + 63) / 64:=⟨_,rfl⟩
  rw [← hW] at hg hM
  have hcl:∀ ty,(Builtin.clear_ #[90] ty #[.slice (some ⟨b,0,none⟩) W c]).run Tryz.prog w = .ok (.tuple #[]) (w.setCells b 0 (List.replicate W (.int .u64 0))):=by
    intro ty
    by_cases h0:W = 0
    · subst h0
      simp [Builtin.clear_,run_underlying Tryz.underlying90,World.setCells]
    · exact Lib.run_clear_slice w 90 103 ty (.int .u64 0) Tryz.underlying90 zero68 rfl rfl b 0 W c (by omega) (fun j hj => by
        rw [show 0 + j = j by omega,hM.cellAt j (by omega)]
        simp [show j < M.length by have:=hm.len;omega]) (fun j hj => by rw [show 0 + j = j by omega];exact hM.frozenAt j)
  generalize hw1:w.setCells b 0 (List.replicate W (.int .u64 0)) = w1 at hcl
  have hblk:w1.heap[g]? = some (.cells #[.int .i64 (n:Int),.slice (some ⟨b,0,none⟩) W c,ov] 92 (0,0)):=by
    rw [← hw1,setCells_other b _ _ _ _ hgb];exact hg
  have hM1:w1.ownsRow N 103 1 (.slice (some ⟨b,0,none⟩) W c) W (U64 (List.replicate W 0)):=by
    rw [← hw1,show U64 (List.replicate W 0) = List.replicate W (.int .u64 0) by simp [U64]]
    have:=row_stores (List.replicate W (.int .u64 0)) 0 w _ hM (by simp)
    simpa using this
  have ho1:w1.ownsRow N 3 1 ov l.length (I64 l):=row_kept ho (fun k hk => by rw [← hw1];exact setCells_other b _ _ _ _ (fun h => hob (by rw [hk,h])))
  have hch:Chg w w1 (g :: b :: ov.ownBlock.toList) (g :: b :: ov.ownBlock.toList):=by
    rw [← hw1]
    exact setCells_chg (w':=w) b (by simp) _ _ _ (Chg.refl _ _)
  have c1:=(Joins.cell_of_block hg 1)
  have d2:=(Joins.cell_of_block hblk 2)
  have f2:=Joins.unfrozen_of_block hblk 2
  simp at c1 d2
  obtain ⟨ad,k,cap,rfl⟩:∃ ad k cap,ov = .slice ad k cap:=by
    rcases Joins.ownsRow_forms ho with ⟨rfl,_⟩ | ⟨b,cap,rfl⟩
    · exact ⟨_,_,_,rfl⟩
    · exact ⟨_,_,_,rfl⟩
  have hk:k = l.length ∧ k ≤ cap ∧ cap ≤ 9223372036854775807:=by
    rcases Joins.ownsRow_forms ho with ⟨h,h0⟩ | ⟨b,cap,h⟩
    · cases h;exact ⟨h0.symm,by omega,by omega⟩
    · cases h;exact ⟨rfl,row_cap ho⟩
  have hks:=hk.2.1
  have hcs:=hk.2.2
  have hrow:w1.ownsRow N 3 1 (.slice ad 0 cap) 0 []:=by
    rcases Joins.ownsRow_forms ho1 with ⟨h,_⟩ | ⟨b,cap,h⟩
    · cases h;exact World.ownsRow_nil _ _ _ _
    · cases h;exact row_emptied ho1
  have HB:Hid (w1.heap[g]? = some (.cells #[.int .i64 (n:Int),.slice (some ⟨b,0,none⟩) W c,.slice ad k cap] 92 (0,0))):=hblk
  have HR:Hid (w1.ownsRow N 3 1 (.slice ad 0 cap) 0 []):=hrow
  have HM1:Hid (w1.ownsRow N 103 1 (.slice (some ⟨b,0,none⟩) W c) W (U64 (List.replicate W 0))):=hM1
  have HC:Hid (Chg w w1 (g :: b :: (Value.slice ad k cap).ownBlock.toList) (g :: b :: (Value.slice ad k cap).ownBlock.toList)):=hch
  have HN:Hid ((Value.slice ad k cap).ownBlock ≠ some g):=hne
  have HW:Hid (W = (n + 63) / 64):=hW
  clear hblk hrow hM1 hch hne hg ho ho1 hM hm hS hob hk hW hw1 hne2
  go_enter Tryz.func97,Tryz.ntmps97
  go_wp2_with (simp only [hcl])
  go_end0
  have hblks:(Value.slice ad 0 cap).ownBlock = (Value.slice ad k cap).ownBlock:=by cases ad <;> rfl
  refine ⟨rfl,⟨b,c,.slice ad 0 cap,List.replicate W 0,?_,hNg,hn,?_,?_,?_,List.nodup_nil,by rw [hblks]⟩,?_⟩
  · rw [← HW.out]
    exact Joins.block_setCell (i:=2) HB.out (.slice ad 0 cap)
  · rw [← HW.out]
    exact own_setCell HM1.out (by simp [Value.ownBlock];exact hbg)
  · exact own_setCell HR.out (by rw [hblks];exact HN.out)
  · rw [HW.out]
    exact Marks.none n
  · exact HC.out.set _ (by simp)
def IntsC (w:World) (v:Value) (l:List Int):Prop:=∃ ad cap,v = .slice ad l.length cap ∧ (l.length = 0 ∨ ∃ b off,ad = some ⟨b,off,none⟩ ∧ (∀ k,k < l.length → w.cell? ⟨b,off + k,none⟩ = some (.int .i64 (l.getD k 0))))
theorem IntsC.drewN {w:World} {v:Value} {l:List Int} (h:IntsC w v l) (q:Nat):IntsC (w.drewN q) v l:=h
def TextAt (N:Nat) (w:World) (ad:Option Addr) (n:Nat) (l:List Int):Prop:=
  n = l.length ∧ n ≤ 17592186043904 ∧ (n = 0 ∨ ∃ b off,ad = some ⟨b,off,none⟩ ∧ b < N ∧ ∀ k,k < n → w.cell? ⟨b,off + k,none⟩ = some (.int .i64 (l.getD k 0)))
theorem TextAt.below {N:Nat} {w w':World} {ad:Option Addr} {n:Nat} {l:List Int} (h:TextAt N w ad n l) (hb:Below N w w'):TextAt N w' ad n l:=by
  obtain ⟨h1,h2,h | ⟨b,off,ha,hbN,hc⟩⟩:=h
  · exact ⟨h1,h2,.inl h⟩
  · exact ⟨h1,h2,.inr ⟨b,off,ha,hbN,fun k hk => (hb.cell (p:=⟨b,off + k,none⟩) hbN).trans (hc k hk)⟩⟩
theorem TextAt.at {N:Nat} {w:World} {ad:Option Addr} {n:Nat} {l:List Int} (h:TextAt N w ad n l) (k:Nat) (hk:k < n):∃ b off,ad = some ⟨b,off,none⟩ ∧ b < N ∧ w.cell? ⟨b,off + k,none⟩ = some (.int .i64 (l.getD k 0)):=by
  obtain ⟨h1,h2,h | ⟨b,off,ha,hbN,hc⟩⟩:=h
  · omega
  · exact ⟨b,off,ha,hbN,hc k hk⟩
theorem nodup_len:∀ (n:Nat) (l:List Int),l.Nodup → (∀ x ∈ l,0 ≤ x ∧ x < n) → l.length ≤ n
  | 0,l,_,h => by
    cases l with
    | nil => simp
    | cons x r => have:=h x (by simp);omega
  | n + 1,l,hn,h => by
    have h2:=nodup_len n (l.erase (n:Int)) (hn.erase _) (fun x hx => by
      rw [hn.mem_erase_iff] at hx
      have:=h x hx.2
      have:=hx.1
      omega)
    have:=List.length_erase (l:=l) (a:=(n:Int))
    split at this <;> omega
theorem SetS.len {N:Nat} {w:World} {g:Nat} {F:List Nat} {n:Nat} {l:List Int} (h:SetS N w g F n l):l.length ≤ n ∧ n ≤ 1048576:=by
  obtain ⟨b,c,ov,M,h1,h2,hn,h3,h4,h5,h6,rfl⟩:=h
  exact ⟨nodup_len n l h6 h5.rng,hn⟩
theorem SetS.mono {N N':Nat} {w:World} {g:Nat} {F:List Nat} {n:Nat} {l:List Int} (h:SetS N' w g F n l) (hN:N ≤ N'):SetS N w g F n l:=by
  obtain ⟨b,c,ov,M,h1,h2,hn,h3,h4,h5,h6,rfl⟩:=h
  exact ⟨b,c,ov,M,h1,by omega,hn,Joins.ownsRow_le h3 hN,Joins.ownsRow_le h4 hN,h5,h6,rfl⟩
def fresh (n:Nat) (l:List Int) (x:Int):Prop:=0 ≤ x ∧ x < n ∧ x ∉ l
theorem has12 (N g:Nat) (F:List Nat) (n:Nat) (l:List Int) (i:Int) (w:World) (hS:Hid (SetS N w g F n l)) :
    Calls Tryz.prog 48 #[.pointer (some ⟨g,0,none⟩),.int .i64 i] w fun e w' => e = .returned (.bool (decide (i ∈ l))) ∧ ∃ k,w' = w.drewN k:=by
  by_cases hi:0 ≤ i ∧ i < n
  · have:=has12_in N g F n l i.toNat w hS (by omega)
    rw [show ((i.toNat:Nat):Int) = i by omega] at this
    exact this
  · have hd:decide (i ∈ l) = false:=by
      have:=hS.out.mem i
      simp
      exact fun h => hi (this h)
    rw [hd]
    exact has12_out N g F n l i w hS hi
theorem add10 (N g:Nat) (F:List Nat) (n:Nat) (l:List Int) (i:Int) (w:World) (hS:Hid (SetS N w g F n l)) (hi:fresh n l i) (hN:N ≤ w.heap.size) :
    Calls Tryz.prog 54 #[.pointer (some ⟨g,0,none⟩),.int .i64 i] w fun e w' => e = .returned (.bool true) ∧ ∃ F',SetS N w' g F' n (l ++ [i]) ∧ Chg w w' F F':=by
  have hl:=hS.out.len
  have:=add10_yes N g F n l i.toNat w hS (by have:=hi.1;have:=hi.2.1;omega) (by rw [show ((i.toNat:Nat):Int) = i by have:=hi.1;omega];exact hi.2.2) (by omega) hN
  rw [show ((i.toNat:Nat):Int) = i by have:=hi.1;omega] at this
  exact this
structure Tri (N:Nat) (w wr:World) (g u:Nat) (v:Value) (k:Nat) (A B L:List Int) (F G:List Nat):Prop where
  s:SetS N wr g F k A
  t:SetS N wr u G k B
  row:wr.ownsRow N 3 1 v L.length (I64 L)
  apart:∀ b ∈ F,b ∉ G
  offF:∀ b,v.ownBlock = some b → b ∉ F
  offG:∀ b,v.ownBlock = some b → b ∉ G
  below:Below N w wr
theorem Tri.one {N:Nat} {w wr w1:World} {g u:Nat} {v:Value} {k:Nat} {A A' B L:List Int} {F F' G:List Nat} (h:Tri N w wr g u v k A B L F G) (hN:N ≤ wr.heap.size)
    (hs:SetS N w1 g F' k A') (hc:Chg wr w1 F F'):Tri N w w1 g u v k A' B L F' G where
  s:=hs
  t:=h.t.kept (fun b hb => hc.block b (h.t.low b hb).2 (fun hf => h.apart b hf hb))
  row:=hc.row h.row h.offF
  apart:=fun b hb hg => by
    rcases hc.new b hb with hf | hf
    · exact h.apart b hf hg
    · have:=(h.t.low b hg).2;omega
  offF:=fun b hb hf => by
    rcases hc.new b hf with hf | hf
    · exact h.offF b hb hf
    · have:=(h.row.lt b hb).2;omega
  offG:=h.offG
  below:=h.below.trans (hc.below hN (fun k hk => (h.s.low k hk).1))
theorem Tri.two {N:Nat} {w wr w1:World} {g u:Nat} {v:Value} {k:Nat} {A B B' L:List Int} {F G G':List Nat} (h:Tri N w wr g u v k A B L F G) (hN:N ≤ wr.heap.size)
    (hs:SetS N w1 u G' k B') (hc:Chg wr w1 G G'):Tri N w w1 g u v k A B' L F G' where
  s:=h.s.kept (fun b hb => hc.block b (h.s.low b hb).2 (fun hf => h.apart b hb hf))
  t:=hs
  row:=hc.row h.row h.offG
  apart:=fun b hb hg => by
    rcases hc.new b hg with hf | hf
    · exact h.apart b hb hf
    · have:=(h.s.low b hb).2;omega
  offF:=h.offF
  offG:=fun b hb hf => by
    rcases hc.new b hf with hf | hf
    · exact h.offG b hb hf
    · have:=(h.row.lt b hb).2;omega
  below:=h.below.trans (hc.below hN (fun k hk => (h.t.low k hk).1))
end Go.Proofs.YtjdbnoccdefnaaaGreat
