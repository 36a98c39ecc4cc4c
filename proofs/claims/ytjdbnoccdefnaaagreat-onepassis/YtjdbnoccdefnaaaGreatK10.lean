/- HELPERS: texts of ours put together. -/
import Derived.Test.YtjdbnoccdefnaaaGreatK09
import Derived.Test.YtjdbnoccdefnaaaGreatK06
import Derived.WalkLawsBesides
namespace Go.Proofs.YtjdbnoccdefnaaaGreat
open Go.RowKit
set_option linter.unusedVariables false
set_option linter.unusedSimpArgs false
theorem SetS.mem {N:Nat} {w:World} {g:Nat} {F:List Nat} {n:Nat} {l:List Int} (h:SetS N w g F n l):∀ x ∈ l,0 ≤ x ∧ x < n:=by
  obtain ⟨b,c,ov,M,h1,h2,hn,h3,h4,h5,h6,rfl⟩:=h
  exact h5.rng
set_option maxHeartbeats 2000000 in
theorem has12_out (N g:Nat) (F:List Nat) (n:Nat) (l:List Int) (i:Int) (w:World) (hS:Hid (SetS N w g F n l)) (hi:¬ (0 ≤ i ∧ i < n)) :
    Calls Tryz.prog 48 #[.pointer (some ⟨g,0,none⟩),.int .i64 i] w fun e w' => e = .returned (.bool false) ∧ ∃ k,w' = w.drewN k:=by
  have hf:∀ k:Nat,Calls Tryz.prog 66 #[.pointer (some ⟨g,0,none⟩),.int .i64 i] (w.drewN k) fun e w' => e = .returned (.bool false) ∧ w' = w.drewN k:=by
    intro k
    have:=isFor41 N g F n l i (w.drewN k) hS
    rw [show decide (0 ≤ i ∧ i < n) = false by simpa using hi] at this
    exact this
  have hf0:=hf 0
  go_enter Tryz.func48,Tryz.ntmps48
  go_wp2_with fail
  go_quiet (first | (go_at_call 66;exact Calls.quiet_of_same (hf _)) | fail)
  go_wp2
  go_ret
  exact ⟨rfl,_,rfl⟩
set_option maxHeartbeats 2000000 in
theorem has12_in (N g:Nat) (F:List Nat) (n:Nat) (l:List Int) (i:Nat) (w:World) (hS:Hid (SetS N w g F n l)) (hi:i < n) :
    Calls Tryz.prog 48 #[.pointer (some ⟨g,0,none⟩),.int .i64 (i:Int)] w fun e w' => e = .returned (.bool (decide ((i:Int) ∈ l))) ∧ ∃ k,w' = w.drewN k:=by
  have hf:∀ k:Nat,Calls Tryz.prog 66 #[.pointer (some ⟨g,0,none⟩),.int .i64 (i:Int)] (w.drewN k) fun e w' => e = .returned (.bool true) ∧ w' = w.drewN k:=by
    intro k
    have:=isFor41 N g F n l i (w.drewN k) hS
    rw [show decide (0 ≤ (i:Int) ∧ (i:Int) < n) = true by simp;omega] at this
    exact this
  obtain ⟨b,c,ov,M,hg,_,hn,hM,_,hm,_⟩:=hS.out
  have hmk:∀ k:Nat,Calls Tryz.prog 67 #[.int .i64 (i:Int)] (w.drewN k) fun e w' => e = .returned (.int .u64 ((2 ^ (i % 64):Nat):Int)) ∧ w' = w.drewN k:=fun k => mark42 i _ (by omega)
  have c1:=(Joins.cell_of_block hg 1)
  simp at c1
  have hq:i / 64 < (n + 63) / 64:=by omega
  have hlen:M.length = (n + 63) / 64:=hm.len
  have d0:w.cell? ⟨b,i / 64,none⟩ = some (.int .u64 ((M.getD (i / 64) 0:Nat):Int)):=by
    rw [hM.cellAt (i / 64) (by omega)]
    simp [List.getD,show i / 64 < M.length by omega]
  have he:=hm.has hi
  generalize M.getD (i / 64) 0 = x at d0 he
  generalize 2 ^ (i % 64) = y at hmk he
  generalize (n + 63) / 64 = W at c1 hq
  have HE:Hid ((bits .and .u64 (x:Int) (y:Int) != 0) = decide ((i:Int) ∈ l)):=he
  clear he hlen hm hM hg
  go_enter Tryz.func48,Tryz.ntmps48
  go_wp2_with fail
  go_quiet (first | (go_at_call 66;exact Calls.quiet_of_same (hf _)) | (go_at_call 67;exact Calls.quiet_of_same (hmk _)) | fail)
  go_wp2
  go_ret
  exact ⟨ret_bool HE.out,_,rfl⟩
theorem SetS.drew {N:Nat} {w:World} {g:Nat} {F:List Nat} {n:Nat} {l:List Int} (h:SetS N w g F n l) (k:Nat):SetS N (w.drewN k) g F n l:=h
theorem Chg.drewN {w w':World} {F F':List Nat} (h:Chg w w' F F') (k:Nat):Chg w (w'.drewN k) F F':=⟨h.os,h.tape,h.output,h.size,h.block,h.new⟩
set_option maxHeartbeats 4000000 in
theorem add10_yes (N g:Nat) (F:List Nat) (n:Nat) (l:List Int) (i:Nat) (w:World) (hS:Hid (SetS N w g F n l)) (hi:i < n) (hni:(i:Int) ∉ l) (hl:l.length ≤ 1048576) (hN:N ≤ w.heap.size) :
    Calls Tryz.prog 54 #[.pointer (some ⟨g,0,none⟩),.int .i64 (i:Int)] w fun e w' => e = .returned (.bool true) ∧ ∃ F',SetS N w' g F' n (l ++ [(i:Int)]) ∧ Chg w w' F F':=by
  have hf:=isFor41 N g F n l i w hS
  rw [show decide (0 ≤ (i:Int) ∧ (i:Int) < n) = true by simp;omega] at hf
  have hh:=has12_in N g F n l i w hS hi
  rw [show decide ((i:Int) ∈ l) = false by simpa using hni] at hh
  obtain ⟨b,c,ov,M,hg,hNg,hn,hM,ho,hm,hnd,rfl⟩:=hS.out
  have hmk:∀ w,Calls Tryz.prog 67 #[.int .i64 (i:Int)] w fun e w' => e = .returned (.int .u64 ((2 ^ (i % 64):Nat):Int)) ∧ w' = w:=fun w => mark42 i _ (by omega)
  have hgl:=(Array.getElem?_eq_some_iff.1 hg).1
  have hne:=own_ne ho hg (by decide)
  have hne2:=own_ne hM hg (by decide)
  have hbg:b ≠ g:=fun h => hne2 (by simp [Value.ownBlock,h])
  have hgb:g ≠ b:=fun h => hbg h.symm
  have hob:ov.ownBlock ≠ some b:=by
    rcases hM.2 with ⟨h,_⟩ | ⟨b',cap',cur,he,_,hgg,_⟩
    · cases h
    · simp only [Value.slice.injEq,Option.some.injEq,Addr.mk.injEq] at he
      obtain ⟨⟨rfl,_⟩,_,rfl⟩:=he
      exact own_ne ho hgg (by decide)
  have c1:=(Joins.cell_of_block hg 1)
  have c2:=(Joins.cell_of_block hg 2)
  have f2:=Joins.unfrozen_of_block hg 2
  simp at c1 c2
  have hq:i / 64 < (n + 63) / 64:=by omega
  have hlen:M.length = (n + 63) / 64:=hm.len
  have d0:w.cell? ⟨b,i / 64,none⟩ = some (.int .u64 ((M.getD (i / 64) 0:Nat):Int)):=by
    rw [hM.cellAt (i / 64) (by omega)]
    simp [List.getD,show i / 64 < M.length by omega]
  have fd:w.frozen? ⟨b,i / 64,none⟩ = false:=hM.frozenAt _
  have hor:=(bits_nat .u64 64 (by decide) u64_in' _ _ (hm.get (i / 64)) (pow_lt i)).2
  have hstored:=hM.stored (i / 64) (.int .u64 ((M.getD (i / 64) 0 ||| 2 ^ (i % 64):Nat):Int))
  have hmadd:=hm.add hi
  have HG:Hid (w.heap[g]? = some (.cells #[.int .i64 (n:Int),.slice (some ⟨b,0,none⟩) ((n + 63) / 64) c,ov] 92 (0,0))):=hg
  have HO:Hid (w.ownsRow N 3 1 ov l.length (I64 l)):=ho
  have HN:Hid (ov.ownBlock ≠ some g):=hne
  have HN2:Hid (ov.ownBlock ≠ some b):=hob
  have HM:Hid (w.ownsRow N 103 1 (.slice (some ⟨b,0,none⟩) ((n + 63) / 64) c) ((n + 63) / 64) (U64 M)):=hM
  have HS:Hid ((w.setCell ⟨b,i / 64,none⟩ (.int .u64 ((M.getD (i / 64) 0 ||| 2 ^ (i % 64):Nat):Int))).ownsRow N 103 1 (.slice (some ⟨b,0,none⟩) ((n + 63) / 64) c) ((n + 63) / 64) (U64 (M.set (i / 64) (M.getD (i / 64) 0 ||| 2 ^ (i % 64))))):=by
    rw [show U64 (M.set (i / 64) (M.getD (i / 64) 0 ||| 2 ^ (i % 64))) = (U64 M).set (i / 64) (.int .u64 ((M.getD (i / 64) 0 ||| 2 ^ (i % 64):Nat):Int)) by simp [U64,List.map_set]]
    exact hstored.1
  have HA:Hid (Marks n (M.set (i / 64) (M.getD (i / 64) 0 ||| 2 ^ (i % 64))) (l ++ [(i:Int)])):=hmadd
  have HL:Hid (M.length = (n + 63) / 64):=hlen
  clear hg ho hne hob hM hm hstored hmadd hlen hS hne2
  generalize hx:M.getD (i / 64) 0 = x at *
  generalize hy:2 ^ (i % 64) = y at *
  generalize hz:x ||| y = z at *
  generalize hW:(n + 63) / 64 = W at *
  have HW:Hid ((n + 63) / 64 = W):=hW
  have hwr:IntKind.i64.wrap ((i:Int) / 64) = (i:Int) / 64:=IntWalk.i64_in _ ⟨by omega,by omega⟩
  have hq0:0 ≤ (i:Int) / 64:=by omega
  have hq1:(i:Int) / 64 < (W:Int):=by omega
  have hq2:((i:Int) / 64).toNat = i / 64:=by omega
  clear hx hy hz hW hbg
  go_enter Tryz.func54,Tryz.ntmps54
  go_wp2_with (first | (go_at_call 66;refine hf.mono ?_;rintro e w' ⟨rfl,rfl⟩) | (go_at_call 48;refine hh.mono ?_;rintro e w' ⟨rfl,k,rfl⟩))
  go_region_with (go_at_call 67;refine (hmk _).mono ?_;rintro e w' ⟨rfl,rfl⟩)
  all_goals go_wp2_with (at_builtin;refine wpList_append_one rfl (.tmp 30) (.tmp 32) 30 rfl N 3 (.int .i64 0) 8 Tryz.underlying30 info3 rfl ov (.int .i64 (i:Int)) l.length 1 (I64 l) rfl (own_setCell (show (World.drewN _ _).ownsRow N 3 1 ov l.length (I64 l) from HO.out) HN2.out) _ (by simp [World.setCell]) rfl rfl (by unfold maxLen;omega) (by omega) (by simpa [World.setCell] using hN) ?_)
  all_goals
    intro v' w1 ho1 hm1
    have hblk:w1.heap[g]? = some (.cells #[.int .i64 (n:Int),.slice (some ⟨b,0,none⟩) W c,ov] 92 (0,0)):=by
      have e2:(World.setCell (w'.drewN (k + 1)) ⟨b,i / 64,none⟩ (.int .u64 (z:Int))).heap[g]? = _:=(Below.heap_setCell _ _ _ _ hgb).trans HG.out
      have e:=(heap_alloc_old (World.setCell (w'.drewN (k + 1)) ⟨b,i / 64,none⟩ (.int .u64 (z:Int))) (.cells #[.int .i64 (i:Int)] 3) (by simpa [World.setCell] using hgl)).trans e2
      rcases hm1.out with ⟨_,h⟩ | ⟨_,h⟩
      · exact (h.block g (by simp [World.setCell];omega) (fun h => HN.out h.symm)).trans e
      · exact (h.block g (by simp [World.setCell];omega) (by simp)).trans e
    have hrow:w1.ownsRow N 103 1 (.slice (some ⟨b,0,none⟩) W c) W (U64 (M.set (i / 64) z)):=by
      have e:=(show (World.setCell (w'.drewN (k + 1)) ⟨b,i / 64,none⟩ (.int .u64 (z:Int))).ownsRow N 103 1 (.slice (some ⟨b,0,none⟩) W c) W (U64 (M.set (i / 64) z)) from HS.out).alloc (.cells #[.int .i64 (i:Int)] 3)
      rcases hm1.out with ⟨_,h⟩ | ⟨_,h⟩
      · exact e.kept h (.inr (fun h => HN2.out (h.symm.trans rfl)))
      · exact e.kept h (.inr (by simp [Value.ownBlock]))
    have d2:=Joins.cell_of_block hblk 2
    have e2:=Joins.unfrozen_of_block hblk 2
    simp at d2
    obtain ⟨b',cap',rfl⟩:=Joins.ownsRow_form ho1.out (by omega)
    have HB:Hid (w1.heap[g]? = some (.cells #[.int .i64 (n:Int),.slice (some ⟨b,0,none⟩) W c,ov] 92 (0,0))):=hblk
    have HR:Hid (w1.ownsRow N 103 1 (.slice (some ⟨b,0,none⟩) W c) W (U64 (M.set (i / 64) z))):=hrow
    clear hblk hrow c1 c2 f2 fd d0 hf hh hmk
    go_wp2
    go_ret
    have hne':=own_ne ho1.out HB.out (by decide)
    have b1:=Joins.block_setCell (i:=2) HB.out (.slice (some ⟨b',0,none⟩) (l.length + 1) cap')
    have hcA:=chg_moved hm1.out [g,b]
    have hc:Chg (World.setCell (w'.drewN (k + 1)) ⟨b,i / 64,none⟩ (.int .u64 (z:Int))) (w1.setCell ⟨g,2,none⟩ (.slice (some ⟨b',0,none⟩) (l.length + 1) cap')) _ _:=hcA.set (a:=⟨g,2,none⟩) (.slice (some ⟨b',0,none⟩) (l.length + 1) cap') (by simp)
    refine ⟨rfl,g :: b :: (Value.slice (some ⟨b',0,none⟩) (l.length + 1) cap').ownBlock.toList,⟨b,c,.slice (some ⟨b',0,none⟩) (l.length + 1) cap',M.set (i / 64) z,?_,hNg,hn,?_,?_,HA.out,?_,rfl⟩,?_⟩
    · rw [HW.out];exact b1
    · rw [HW.out];exact own_setCell HR.out (by simp [Value.ownBlock];exact fun h => hgb h.symm)
    · rw [show I64 (l ++ [(i:Int)]) = I64 l ++ [.int .i64 (i:Int)] by simp,List.length_append]
      exact own_setCell ho1.out hne'
    · rw [List.nodup_append]
      exact ⟨hnd,by simp,fun a ha b hb => by simp at hb;subst hb;exact fun h => hni (h ▸ ha)⟩
    · exact ⟨hc.os,hc.tape,hc.output,by have:=hc.size;simpa [World.setCell] using this,fun k hk hk2 => (hc.block k (by simpa [World.setCell] using hk) hk2).trans (Below.heap_setCell _ _ _ _ (fun h => hk2 (by simp [show k = b from h]))),fun k hk => by have:=hc.new k hk;simpa [World.setCell] using this⟩
def Cloned (w w':World) (e:Ending) (l:List Int):Prop:=∃ v,e = .returned v ∧ w'.ownsRow w.heap.size 3 1 v l.length (I64 l) ∧ Below w.heap.size w w'
theorem eql_nil (t e:TypeId) (a:Option Addr) (l c:Nat) (h:Tryz.prog.underlying t = some (.slice e)) (w:World):(binOp .eql t (.slice a l c) (.slice none 0 0)).run Tryz.prog w = .ok (.bool a.isNone) w:=by
  simp only [binOp]
  simp [run_equal_slice_nil w t e a l c h]
set_option maxHeartbeats 1000000 in
theorem clone43 (N:Nat) (ov:Value) (l:List Int) (w:World) (ho:Hid (w.ownsRow N 3 1 ov l.length (I64 l))) (hl:l.length ≤ 1048576) :
    Calls Tryz.prog 76 #[ov] w fun e w' => Cloned w w' e l:=by
  rcases Joins.ownsRow_forms ho.out with ⟨rfl,h0⟩ | ⟨b,cap,rfl⟩
  · have hl0:l = []:=List.eq_nil_of_length_eq_zero h0
    subst hl0
    have hq:=eql_nil 30 3 none 0 0 Tryz.underlying30
    simp only [Option.isNone_none] at hq
    go_enter Tryz.func76,Tryz.ntmps76
    go_wp2
    go_ret
    exact ⟨_,rfl,World.ownsRow_nil _ _ _ _,Below.refl _ _⟩
  · have hblt:=(ho.out.lt b rfl).2
    have hcell:∀ j u,(I64 l)[j]? = some u → (w.alloc (.cells #[] 3)).cell? ((⟨b,0,none⟩:Addr).add j) = some u:=((ho.out.alloc _).cells (g:=b) rfl)
    have HC:Hid (∀ j u,(I64 l)[j]? = some u → (w.alloc (.cells #[] 3)).cell? ((⟨b,0,none⟩:Addr).add j) = some u):=hcell
    have HO0:Hid ((w.alloc (.cells #[] 3)).ownsRow w.heap.size 3 1 (.slice (some ⟨w.heap.size,0,none⟩) 0 0) 0 []):=by
      have:=World.ownsRow_lit (base:=w.heap.size) (e:=3) (size:=1) w #[] 0 (Nat.le_refl _) (by unfold maxLen;omega) rfl
      have t:(w.alloc (.cells #[] 3)).ownsRow w.heap.size 3 1 (.slice (some ⟨w.heap.size,0,none⟩) 0 0) 0 []:=by simpa using this
      exact t
    obtain ⟨i0,hi,hz0,hz1,hz2⟩:=info_parts info3
    have hq:=eql_nil 30 3 (some ⟨b,0,none⟩) l.length cap Tryz.underlying30
    simp only [Option.isNone_some] at hq
    clear hcell ho
    go_enter Tryz.func76,Tryz.ntmps76
    go_wp2_with (at_builtin;refine wpList_append_own _ rfl (.tmp 5) (.tmp 6) 30 rfl w.heap.size 3 i0 (.int .i64 0) 1 8 Tryz.underlying30 hi hz0 hz1 hz2 rfl (by decide) _ 0 [] rfl HO0.out ⟨b,0,none⟩ l.length cap (I64 l) rfl (by simp) HC.out (one_cell_ints l) (by unfold maxLen;omega) (by omega) (by simp) ?_)
    intro v' w1 ho1 hg1 _
    go_wp2
    go_ret
    refine ⟨_,rfl,by simpa using ho1,?_⟩
    exact ((Below.refl _ _).alloc (Nat.le_refl _) _).grown hg1 (by simp) (fun k hk => by simp [Value.ownBlock] at hk;omega)
set_option maxHeartbeats 1000000 in
theorem list18 (N g:Nat) (F:List Nat) (n:Nat) (l:List Int) (w:World) (hS:Hid (SetS N w g F n l)) (hl:l.length ≤ 1048576) :
    Calls Tryz.prog 53 #[.pointer (some ⟨g,0,none⟩)] w fun e w' => Cloned w w' e l:=by
  obtain ⟨b,c,ov,M,hg,hNg,hn,hM,ho,hm,hnd,rfl⟩:=hS.out
  have c2:=(Joins.cell_of_block hg 2)
  simp at c2
  have hcl:=clone43 N ov l w ho hl
  clear ho hg hM hm hS
  go_enter Tryz.func53,Tryz.ntmps53
  go_wp2_with (go_at_call 76;refine hcl.mono ?_;rintro e w' ⟨v,rfl,h1,h2⟩)
  go_ret
  exact ⟨_,rfl,h1,h2⟩
end Go.Proofs.YtjdbnoccdefnaaaGreat
