/- HELPERS: texts of ours put together. -/
import Derived.Test.YtacaanhnlfpbhaaGreatK02
import Derived.Test.YtacaanhnlfpbhaaGreatK01
import Derived.Test.YtacaanhnlfpbhaaGreatK03
import Derived.Deep.SlicePairs
import Derived.RowKit
import Derived.Test.YtacaanhnlfpbhaaGreatK42
import Derived.Test.YtacaanhnlfpbhaaGreatK11
import Derived.Lib.Small
import Derived.Deep.Cut
import Derived.Deep.CutRange
import Derived.Laws.EntriesVeiled
import Derived.Laws.BitsLemmas
import Derived.Test.YtacaanhnlfpbhaaGreatK09
import Derived.WalkLawsBesides
import Derived.Lib.SliceRun
import Derived.Deep.OwnRows
import Derived.Test.YtacaanhnlfpbhaaGreatK08
import Derived.Test.YtacaanhnlfpbhaaGreatK07
import Derived.Test.YtacaanhnlfpbhaaGreatK04
import Derived.Deep.RegionHeld3
import Derived.Deep.QuietTactic
import Derived.BigQuiet
import Derived.Test.YtacaanhnlfpbhaaGreatProg
import Derived.WalkKit
import Derived.ProofKit
import Derived.WalkSmall
import Derived.Deep.RegionWith
import Derived.Lib.SmallJoins
import Derived.Lib.MinMax
import Derived.Maps.AppendAt
import Derived.Laws.AppendOwnNone
import Derived.Test.YtacaanhnlfpbhaaGreatK05
import Derived.OrdersHeld
import Derived.StillTail
import Derived.Tactics
import Derived.Below
import Derived.Deep.MidRow
import Derived.Laws.Rows
import Derived.Deep.RegionLaw
import Derived.Laws.CopyOwn
import Derived.Lib.LazyBuf
import Derived.Deep.WholeRow
namespace Go.Proofs.YtacaanhnlfpbhaaGreat
open Go.RowKit
set_option linter.unusedVariables false
set_option linter.unusedSimpArgs false
set_option maxHeartbeats 1000000 in
theorem mark42 (i:Nat) (w:World) (hi:i < 1048576):Calls Tryz.prog 215 #[.int .i64 (i:Int)] w fun e w'=>e=.returned (.int .u64 ((2 ^ (i % 64):Nat):Int))∧w'=w:=by
 go_enter Tryz.func215,Tryz.ntmps215
 go_wp2
 go_ret
 have e:IntKind.u64.wrap (2 ^ (i % 64))=((2 ^ (i % 64):Nat):Int):=by
  have:=u64_in (2 ^ (i % 64)) (pow_lt i)
  simpa using this
 exact ⟨by rw [← e];rfl,rfl⟩
def SetS (N:Nat) (w:World) (g:Nat) (F:List Nat) (n:Nat) (l:List Int):Prop:=
 ∃ b c ov M,w.heap[g]?=some (.cells #[.int .i64 (n:Int),.slice (some ⟨b,0,none⟩) ((n + 63) / 64) c,ov] 213 (0,0))∧N≤g∧n≤1048576∧w.ownsRow N 233 1 (.slice (some ⟨b,0,none⟩) ((n + 63) / 64) c) ((n + 63) / 64) (U64 M)∧w.ownsRow N 3 1 ov l.length (I64 l)∧Marks n M l∧l.Nodup∧F=g :: b :: ov.ownBlock.toList
theorem SetS.low {N:Nat} {w:World} {g:Nat} {F:List Nat} {n:Nat} {l:List Int} (h:SetS N w g F n l):∀ k ∈ F,N≤k∧k < w.heap.size:=by
 obtain ⟨b,c,ov,M,h1,h2,_,h3,h4,_,_,rfl⟩:=h
 intro k hk
 simp only [List.mem_cons,Option.mem_toList] at hk
 rcases hk with rfl | rfl | hk
 ·exact ⟨h2,(Array.getElem?_eq_some_iff.1 h1).1⟩
 ·exact h3.lt k rfl
 ·exact h4.lt k hk
theorem SetS.kept {N:Nat} {w w':World} {g:Nat} {F:List Nat} {n:Nat} {l:List Int} (h:SetS N w g F n l) (hk:∀ k ∈ F,w'.heap[k]?=w.heap[k]?):SetS N w' g F n l:=by
 obtain ⟨b,c,ov,M,h1,h2,hn,h3,h4,h5,h6,rfl⟩:=h
 exact ⟨b,c,ov,M,(hk g (by simp)).trans h1,h2,hn,row_kept h3 (fun k hk'=>by simp [Value.ownBlock] at hk';subst hk';exact hk b (by simp)),row_kept h4 (fun k hk'=>hk k (by simp [hk'])),h5,h6,rfl⟩
set_option maxHeartbeats 1000000 in
theorem isFor41 (N g:Nat) (F:List Nat) (n:Nat) (l:List Int) (i:Int) (w:World) (hS:Hid (SetS N w g F n l)) :
  Calls Tryz.prog 213 #[.pointer (some ⟨g,0,none⟩),.int .i64 i] w fun e w'=>e=.returned (.bool (decide (0≤i∧i < n)))∧w'=w:=by
 obtain ⟨b,c,ov,M,hg,_⟩:=hS.out
 have c0:=(Joins.cell_of_block hg 0)
 simp at c0
 clear hg
 by_cases h0:0≤i
 ·go_enter Tryz.func213,Tryz.ntmps213
  go_wp2
  go_ret
  exact ⟨ret_bool (by rw [Bool.eq_iff_iff];simp [h0]),rfl⟩
 ·have h1:i < 0:=by omega
  go_enter Tryz.func213,Tryz.ntmps213
  go_wp2
  go_ret
  exact ⟨ret_bool (by rw [Bool.eq_iff_iff];simp;omega),rfl⟩
set_option maxHeartbeats 2000000 in
theorem has12_in (N g:Nat) (F:List Nat) (n:Nat) (l:List Int) (i:Nat) (w:World) (hS:Hid (SetS N w g F n l)) (hi:i < n) :
  Calls Tryz.prog 214 #[.pointer (some ⟨g,0,none⟩),.int .i64 (i:Int)] w fun e w'=>e=.returned (.bool (decide ((i:Int) ∈ l)))∧∃ k,w'=w.drewN k:=by
 have hf:∀ k:Nat,Calls Tryz.prog 213 #[.pointer (some ⟨g,0,none⟩),.int .i64 (i:Int)] (w.drewN k) fun e w'=>e=.returned (.bool true)∧w'=w.drewN k:=by
  intro k
  have:=isFor41 N g F n l i (w.drewN k) hS
  rw [show decide (0≤(i:Int)∧(i:Int) < n)=true by simp;omega] at this
  exact this
 obtain ⟨b,c,ov,M,hg,_,hn,hM,_,hm,_⟩:=hS.out
 have hmk:∀ k:Nat,Calls Tryz.prog 215 #[.int .i64 (i:Int)] (w.drewN k) fun e w'=>e=.returned (.int .u64 ((2 ^ (i % 64):Nat):Int))∧w'=w.drewN k:=fun k=>mark42 i _ (by omega)
 have c1:=(Joins.cell_of_block hg 1)
 simp at c1
 have hq:i / 64 < (n + 63) / 64:=by omega
 have hlen:M.length=(n + 63) / 64:=hm.len
 have d0:w.cell? ⟨b,i / 64,none⟩=some (.int .u64 ((M.getD (i / 64) 0:Nat):Int)):=by
  rw [hM.cellAt (i / 64) (by omega)]
  simp [List.getD,show i / 64 < M.length by omega]
 have he:=hm.has hi
 generalize M.getD (i / 64) 0=x at d0 he
 generalize 2 ^ (i % 64)=y at hmk he
 generalize (n + 63) / 64=W at c1 hq
 have HE:Hid ((bits .and .u64 (x:Int) (y:Int) != 0)=decide ((i:Int) ∈ l)):=he
 clear he hlen hm hM hg
 go_enter Tryz.func214,Tryz.ntmps214
 go_wp2_with fail
 go_quiet (first | (go_at_call 213;exact Calls.quiet_of_same (hf _)) | (go_at_call 215;exact Calls.quiet_of_same (hmk _)) | fail)
 go_wp2
 go_ret
 exact ⟨ret_bool HE.out,_,rfl⟩
set_option maxHeartbeats 2000000 in
theorem add10_no (N g:Nat) (F:List Nat) (n:Nat) (l:List Int) (i:Int) (w:World) (hS:Hid (SetS N w g F n l)) (hi:¬ (0≤i∧i < n∧i ∉ l)) :
  Calls Tryz.prog 150 #[.pointer (some ⟨g,0,none⟩),.int .i64 i] w fun e w'=>e=.returned (.bool false)∧SetS N w' g F n l∧Chg w w' F F:=by
 by_cases hr:0≤i∧i < n
 ·obtain ⟨h0,h1⟩:=hr
  have hf:=isFor41 N g F n l i w hS
  rw [show decide (0≤i∧i < n)=true by simp;omega] at hf
  have hh:=has12_in N g F n l i.toNat w hS (by omega)
  rw [show ((i.toNat:Nat):Int)=i by omega,show decide (i ∈ l)=true by simp;exact Classical.byContradiction fun h=>hi ⟨h0,h1,h⟩] at hh
  clear hi h0 h1
  go_enter Tryz.func150,Tryz.ntmps150
  go_wp2_with (first | (go_at_call 213;refine hf.mono ?_;rintro e w' ⟨rfl,rfl⟩) | (go_at_call 214;refine hh.mono ?_;rintro e w' ⟨rfl,k,rfl⟩))
  go_ret
  exact ⟨rfl,hS,(Chg.refl _ _).drewN _⟩
 ·have hf:=isFor41 N g F n l i w hS
  rw [show decide (0≤i∧i < n)=false by simpa using hr] at hf
  clear hi hr
  go_enter Tryz.func150,Tryz.ntmps150
  go_wp2_with (go_at_call 213;refine hf.mono ?_;rintro e w' ⟨rfl,rfl⟩)
  go_ret
  exact ⟨rfl,hS,Chg.refl _ _⟩
set_option maxHeartbeats 4000000 in
theorem add10_yes (N g:Nat) (F:List Nat) (n:Nat) (l:List Int) (i:Nat) (w:World) (hS:Hid (SetS N w g F n l)) (hi:i < n) (hni:(i:Int) ∉ l) (hl:l.length≤1048576) (hN:N≤w.heap.size) :
  Calls Tryz.prog 150 #[.pointer (some ⟨g,0,none⟩),.int .i64 (i:Int)] w fun e w'=>e=.returned (.bool true)∧∃ F',SetS N w' g F' n (l ++ [(i:Int)])∧Chg w w' F F':=by
 have hf:=isFor41 N g F n l i w hS
 rw [show decide (0≤(i:Int)∧(i:Int) < n)=true by simp;omega] at hf
 have hh:=has12_in N g F n l i w hS hi
 rw [show decide ((i:Int) ∈ l)=false by simpa using hni] at hh
 obtain ⟨b,c,ov,M,hg,hNg,hn,hM,ho,hm,hnd,rfl⟩:=hS.out
 have hmk:∀ w,Calls Tryz.prog 215 #[.int .i64 (i:Int)] w fun e w'=>e=.returned (.int .u64 ((2 ^ (i % 64):Nat):Int))∧w'=w:=fun w=>mark42 i _ (by omega)
 have hgl:=(Array.getElem?_eq_some_iff.1 hg).1
 have hne:=own_ne ho hg (by decide)
 have hne2:=own_ne hM hg (by decide)
 have hbg:b≠g:=fun h=>hne2 (by simp [Value.ownBlock,h])
 have hgb:g≠b:=fun h=>hbg h.symm
 have hob:ov.ownBlock≠some b:=by
  rcases hM.2 with ⟨h,_⟩ | ⟨b',cap',cur,he,_,hgg,_⟩
  ·cases h
  ·simp only [Value.slice.injEq,Option.some.injEq,Addr.mk.injEq] at he
   obtain ⟨⟨rfl,_⟩,_,rfl⟩:=he
   exact own_ne ho hgg (by decide)
 have c1:=(Joins.cell_of_block hg 1)
 have c2:=(Joins.cell_of_block hg 2)
 have f2:=Joins.unfrozen_of_block hg 2
 simp at c1 c2
 have hq:i / 64 < (n + 63) / 64:=by omega
 have hlen:M.length=(n + 63) / 64:=hm.len
 have d0:w.cell? ⟨b,i / 64,none⟩=some (.int .u64 ((M.getD (i / 64) 0:Nat):Int)):=by
  rw [hM.cellAt (i / 64) (by omega)]
  simp [List.getD,show i / 64 < M.length by omega]
 have fd:w.frozen? ⟨b,i / 64,none⟩=false:=hM.frozenAt _
 have hor:=(bits_nat .u64 64 (by decide) u64_in' _ _ (hm.get (i / 64)) (pow_lt i)).2
 have hstored:=hM.stored (i / 64) (.int .u64 ((M.getD (i / 64) 0 ||| 2 ^ (i % 64):Nat):Int))
 have hmadd:=hm.add hi
 have HG:Hid (w.heap[g]?=some (.cells #[.int .i64 (n:Int),.slice (some ⟨b,0,none⟩) ((n + 63) / 64) c,ov] 213 (0,0))):=hg
 have HO:Hid (w.ownsRow N 3 1 ov l.length (I64 l)):=ho
 have HN:Hid (ov.ownBlock≠some g):=hne
 have HN2:Hid (ov.ownBlock≠some b):=hob
 have HM:Hid (w.ownsRow N 233 1 (.slice (some ⟨b,0,none⟩) ((n + 63) / 64) c) ((n + 63) / 64) (U64 M)):=hM
 have HS:Hid ((w.setCell ⟨b,i / 64,none⟩ (.int .u64 ((M.getD (i / 64) 0 ||| 2 ^ (i % 64):Nat):Int))).ownsRow N 233 1 (.slice (some ⟨b,0,none⟩) ((n + 63) / 64) c) ((n + 63) / 64) (U64 (M.set (i / 64) (M.getD (i / 64) 0 ||| 2 ^ (i % 64))))):=by
  rw [show U64 (M.set (i / 64) (M.getD (i / 64) 0 ||| 2 ^ (i % 64)))=(U64 M).set (i / 64) (.int .u64 ((M.getD (i / 64) 0 ||| 2 ^ (i % 64):Nat):Int)) by simp [U64,List.map_set]]
  exact hstored.1
 have HA:Hid (Marks n (M.set (i / 64) (M.getD (i / 64) 0 ||| 2 ^ (i % 64))) (l ++ [(i:Int)])):=hmadd
 have HL:Hid (M.length=(n + 63) / 64):=hlen
 clear hg ho hne hob hM hm hstored hmadd hlen hS hne2
 generalize hx:M.getD (i / 64) 0=x at *
 generalize hy:2 ^ (i % 64)=y at *
 generalize hz:x ||| y=z at *
 generalize hW:(n + 63) / 64=W at *
 have HW:Hid ((n + 63) / 64=W):=hW
 have hwr:IntKind.i64.wrap ((i:Int) / 64)=(i:Int) / 64:=IntWalk.i64_in _ ⟨by omega,by omega⟩
 have hq0:0≤(i:Int) / 64:=by omega
 have hq1:(i:Int) / 64 < (W:Int):=by omega
 have hq2:((i:Int) / 64).toNat=i / 64:=by omega
 clear hx hy hz hW hbg
 go_enter Tryz.func150,Tryz.ntmps150
 go_wp2_with (first | (go_at_call 213;refine hf.mono ?_;rintro e w' ⟨rfl,rfl⟩) | (go_at_call 214;refine hh.mono ?_;rintro e w' ⟨rfl,k,rfl⟩))
 go_region_with (go_at_call 215;refine (hmk _).mono ?_;rintro e w' ⟨rfl,rfl⟩)
 all_goals go_wp2_with (at_builtin;refine wpList_append_one rfl (.tmp 30) (.tmp 32) 26 rfl N 3 (.int .i64 0) 8 Tryz.underlying26 info3 rfl ov (.int .i64 (i:Int)) l.length 1 (I64 l) rfl (own_setCell (show (World.drewN _ _).ownsRow N 3 1 ov l.length (I64 l) from HO.out) HN2.out) _ (by simp [World.setCell]) rfl rfl (by unfold maxLen;omega) (by omega) (by simpa [World.setCell] using hN) ?_)
 all_goals
  intro v' w1 ho1 hm1
  have hblk:w1.heap[g]?=some (.cells #[.int .i64 (n:Int),.slice (some ⟨b,0,none⟩) W c,ov] 213 (0,0)):=by
   have e2:(World.setCell (w'.drewN (k + 1)) ⟨b,i / 64,none⟩ (.int .u64 (z:Int))).heap[g]?=_:=(Below.heap_setCell _ _ _ _ hgb).trans HG.out
   have e:=(heap_alloc_old (World.setCell (w'.drewN (k + 1)) ⟨b,i / 64,none⟩ (.int .u64 (z:Int))) (.cells #[.int .i64 (i:Int)] 3) (by simpa [World.setCell] using hgl)).trans e2
   rcases hm1.out with ⟨_,h⟩ | ⟨_,h⟩
   ·exact (h.block g (by simp [World.setCell];omega) (fun h=>HN.out h.symm)).trans e
   ·exact (h.block g (by simp [World.setCell];omega) (by simp)).trans e
  have hrow:w1.ownsRow N 233 1 (.slice (some ⟨b,0,none⟩) W c) W (U64 (M.set (i / 64) z)):=by
   have e:=(show (World.setCell (w'.drewN (k + 1)) ⟨b,i / 64,none⟩ (.int .u64 (z:Int))).ownsRow N 233 1 (.slice (some ⟨b,0,none⟩) W c) W (U64 (M.set (i / 64) z)) from HS.out).alloc (.cells #[.int .i64 (i:Int)] 3)
   rcases hm1.out with ⟨_,h⟩ | ⟨_,h⟩
   ·exact e.kept h (.inr (fun h=>HN2.out (h.symm.trans rfl)))
   ·exact e.kept h (.inr (by simp [Value.ownBlock]))
  have d2:=Joins.cell_of_block hblk 2
  have e2:=Joins.unfrozen_of_block hblk 2
  simp at d2
  obtain ⟨b',cap',rfl⟩:=Joins.ownsRow_form ho1.out (by omega)
  have HB:Hid (w1.heap[g]?=some (.cells #[.int .i64 (n:Int),.slice (some ⟨b,0,none⟩) W c,ov] 213 (0,0))):=hblk
  have HR:Hid (w1.ownsRow N 233 1 (.slice (some ⟨b,0,none⟩) W c) W (U64 (M.set (i / 64) z))):=hrow
  clear hblk hrow c1 c2 f2 fd d0 hf hh hmk
  go_wp2
  go_ret
  have hne':=own_ne ho1.out HB.out (by decide)
  have b1:=Joins.block_setCell (i:=2) HB.out (.slice (some ⟨b',0,none⟩) (l.length + 1) cap')
  have hcA:=chg_moved hm1.out [g,b]
  have hc:Chg (World.setCell (w'.drewN (k + 1)) ⟨b,i / 64,none⟩ (.int .u64 (z:Int))) (w1.setCell ⟨g,2,none⟩ (.slice (some ⟨b',0,none⟩) (l.length + 1) cap')) _ _:=hcA.set (a:=⟨g,2,none⟩) (.slice (some ⟨b',0,none⟩) (l.length + 1) cap') (by simp)
  refine ⟨rfl,g :: b :: (Value.slice (some ⟨b',0,none⟩) (l.length + 1) cap').ownBlock.toList,⟨b,c,.slice (some ⟨b',0,none⟩) (l.length + 1) cap',M.set (i / 64) z,?_,hNg,hn,?_,?_,HA.out,?_,rfl⟩,?_⟩
  ·rw [HW.out];exact b1
  ·rw [HW.out];exact own_setCell HR.out (by simp [Value.ownBlock];exact fun h=>hgb h.symm)
  ·rw [show I64 (l ++ [(i:Int)])=I64 l ++ [.int .i64 (i:Int)] by simp,List.length_append]
   exact own_setCell ho1.out hne'
  ·rw [List.nodup_append]
   exact ⟨hnd,by simp,fun a ha b hb=>by simp at hb;subst hb;exact fun h=>hni (h ▸ ha)⟩
  ·exact ⟨hc.os,hc.tape,hc.output,by have:=hc.size;simpa [World.setCell] using this,fun k hk hk2=>(hc.block k (by simpa [World.setCell] using hk) hk2).trans (Below.heap_setCell _ _ _ _ (fun h=>hk2 (by simp [show k=b from h]))),fun k hk=>by have:=hc.new k hk;simpa [World.setCell] using this⟩
set_option maxHeartbeats 1000000 in
theorem len14 (N g:Nat) (F:List Nat) (n:Nat) (l:List Int) (w:World) (hS:Hid (SetS N w g F n l)) :
  Calls Tryz.prog 108 #[.pointer (some ⟨g,0,none⟩)] w fun e w'=>e=.returned (.int .i64 (l.length:Int))∧w'=w:=by
 obtain ⟨b,c,ov,M,hg,hNg,hn,hM,ho,hm,hnd,rfl⟩:=hS.out
 obtain ⟨ad,cap,rfl⟩:∃ ad cap,ov=.slice ad l.length cap:=by
  rcases Joins.ownsRow_forms ho with ⟨rfl,h⟩ | ⟨b,cap,rfl⟩
  ·exact ⟨none,0,by rw [h]⟩
  ·exact ⟨_,_,rfl⟩
 have c2:=(Joins.cell_of_block hg 2)
 simp at c2
 clear ho hg hM hm hS
 go_enter Tryz.func108,Tryz.ntmps108
 go_wp2
 go_ret
 exact ⟨rfl,rfl⟩
def lim (n:Int):Nat:=(min (max n 0) 1048576).toNat
theorem lim_eq (n:Int):min (max n 0) 1048576=(lim n:Int):=by unfold lim;omega
theorem lim_le (n:Int):lim n≤1048576:=by unfold lim;omega
set_option maxHeartbeats 1000000 in
theorem new8 (n:Int) (w:World) :
  Calls Tryz.prog 102 #[.int .i64 n] w fun e w'=>∃ g F,e=.returned (.pointer (some ⟨g,0,none⟩))∧SetS w.heap.size w' g F (lim n) []∧Below w.heap.size w w':=by
 have hlim:=lim_eq n
 have hle:=lim_le n
 generalize lim n=k at hlim hle
 obtain ⟨W,hW⟩:∃ W:Nat,W=(k + 63) / 64:=⟨_,rfl⟩
 have hd1:((k:Int) + 64 - 1) / 64=(W:Int):=by omega
 have hd2:((k:Int) + 63) / 64=(W:Int):=by omega
 have hWl:W≤16384:=by omega
 have hmk:=run_make_row' (P:=Tryz.prog) 119 233 (.int .u64 0) 8 Tryz.underlying119 info68 rfl .i64 .i64 W (by omega) (by omega)
 have HW:Hid (W=(k + 63) / 64):=hW
 clear hW
 go_enter Tryz.func102,Tryz.ntmps102
 go_wp2
 go_ret
 have hmade:((w.alloc (.cells (madeCells #[.int .u64 0] W) 233)).alloc (.cells #[.int .i64 (k:Int),.slice (some ⟨w.heap.size,0,none⟩) W W,.slice none 0 0] 213)).ownsRow w.heap.size 233 1 (.slice (some ⟨w.heap.size,0,none⟩) W W) W (U64 (List.replicate W 0)):=by
  have:=(World.ownsRow_lit (base:=w.heap.size) (e:=233) (size:=1) w (madeCells #[.int .u64 0] W) W (Nat.le_refl _) (by unfold maxLen;omega) (by rw [size_madeCells];omega)).alloc (.cells #[.int .i64 (k:Int),.slice (some ⟨w.heap.size,0,none⟩) W W,.slice none 0 0] 213)
  rw [toList_madeCells_one] at this
  rw [show U64 (List.replicate W 0)=List.replicate W (.int .u64 0) by simp [U64]]
  exact this
 refine ⟨w.heap.size + 1,_,rfl,⟨w.heap.size,W,.slice none 0 0,List.replicate W 0,?_,by omega,hle,?_,World.ownsRow_nil _ _ _ _,?_,List.nodup_nil,rfl⟩,?_⟩
 ·rw [← HW.out]
  have:=heap_alloc_new (w.alloc (.cells (madeCells #[.int .u64 0] W) 233)) (.cells #[.int .i64 (k:Int),.slice (some ⟨w.heap.size,0,none⟩) W W,.slice none 0 0] 213)
  simpa using this
 ·rw [← HW.out]
  exact hmade
 ·rw [HW.out]
  exact Marks.none k
 ·exact ((Below.refl _ _).alloc (Nat.le_refl _) _).alloc (by simp) _
theorem setCells_other (b:Nat):∀ (vs:List Value) (o:Nat) (w:World) (k:Nat),k≠b→(w.setCells b o vs).heap[k]?=w.heap[k]?
 | [],o,w,k,h=>rfl
 | v :: vs,o,w,k,h=>by
  show ((w.setCell ⟨b,o,none⟩ v).setCells b (o + 1) vs).heap[k]?=_
  rw [setCells_other b vs (o + 1) _ k h,Below.heap_setCell _ _ _ _ h]
theorem setCells_chg {w w':World} {F F':List Nat} (b:Nat) (hb:b ∈ F):∀ (vs:List Value) (o:Nat) (w':World),Chg w w' F F'→Chg w (w'.setCells b o vs) F F'
 | [],o,w',h=>h
 | v :: vs,o,w',h=>setCells_chg (w':=w') b hb vs (o + 1) _ (h.set v hb)
theorem row_stores {base e b n c:Nat}:∀ (vs:List Value) (o:Nat) (w:World) (xs:List Value),w.ownsRow base e 1 (.slice (some ⟨b,0,none⟩) n c) n xs→o + vs.length=n →
  (w.setCells b o vs).ownsRow base e 1 (.slice (some ⟨b,0,none⟩) n c) n (xs.take o ++ vs)
 | [],o,w,xs,h,hn=>by
  have:xs.take o=xs:=List.take_of_length_le (by have:=h.1;simp at hn;omega)
  rw [this,List.append_nil]
  exact h
 | v :: vs,o,w,xs,h,hn=>by
  have hl:=h.1
  simp at hn
  have h2:=row_stores vs (o + 1) _ _ (h.stored o v).1 (by omega)
  have e:(xs.set o v).take (o + 1) ++ vs=xs.take o ++ v :: vs:=by
   rw [List.take_add_one,List.take_set_of_le (Nat.le_refl _)]
   simp [show o < xs.length by omega]
  rw [e] at h2
  exact h2
theorem zero68 (w:World):(zeroValue 233).run Tryz.prog w=.ok (.int .u64 0) w:=by kernel_rfl
theorem row_emptied {w:World} {base e n b cap:Nat} {xs:List Value} (h:w.ownsRow base e 1 (.slice (some ⟨b,0,none⟩) n cap) n xs):w.ownsRow base e 1 (.slice (some ⟨b,0,none⟩) 0 cap) 0 []:=by
 refine ⟨rfl,.inr ?_⟩
 rcases h.2 with ⟨h,_⟩ | ⟨g,cap',cur,he,hb,hgg,h1,h2,h3,h4⟩
 ·cases h
 ·simp only [Value.slice.injEq,Option.some.injEq,Addr.mk.injEq] at he
  obtain ⟨⟨rfl,_⟩,_,rfl⟩:=he
  exact ⟨b,cap,cur,rfl,hb,hgg,by omega,h2,h3,by simp⟩
set_option maxHeartbeats 1000000 in
theorem clear16 (N g:Nat) (F:List Nat) (n:Nat) (l:List Int) (w:World) (hS:Hid (SetS N w g F n l)) :
  Calls Tryz.prog 155 #[.pointer (some ⟨g,0,none⟩)] w fun e w'=>e=.returned (.tuple #[])∧SetS N w' g F n []∧Chg w w' F F:=by
 obtain ⟨b,c,ov,M,hg,hNg,hn,hM,ho,hm,hnd,rfl⟩:=hS.out
 have hne2:=own_ne hM hg (by decide)
 have hbg:b≠g:=fun h=>hne2 (by simp [Value.ownBlock,h])
 have hgb:g≠b:=fun h=>hbg h.symm
 have hob:ov.ownBlock≠some b:=by
  rcases hM.2 with ⟨h,_⟩ | ⟨b',cap',cur,he,_,hgg,_⟩
  ·cases h
  ·simp only [Value.slice.injEq,Option.some.injEq,Addr.mk.injEq] at he
   obtain ⟨⟨rfl,_⟩,_,rfl⟩:=he
   exact own_ne ho hgg (by decide)
 have hne:=own_ne ho hg (by decide)
 obtain ⟨W,hW⟩:∃ W:Nat,W=(n + 63) / 64:=⟨_,rfl⟩
 rw [← hW] at hg hM
 have hcl:∀ ty,(Builtin.clear_ #[119] ty #[.slice (some ⟨b,0,none⟩) W c]).run Tryz.prog w=.ok (.tuple #[]) (w.setCells b 0 (List.replicate W (.int .u64 0))):=by
  intro ty
  by_cases h0:W=0
  ·subst h0
   simp [Builtin.clear_,run_underlying Tryz.underlying119,World.setCells]
  ·exact Lib.run_clear_slice w 119 233 ty (.int .u64 0) Tryz.underlying119 zero68 rfl rfl b 0 W c (by omega) (fun j hj=>by
    rw [show 0 + j=j by omega,hM.cellAt j (by omega)]
    simp [show j < M.length by have:=hm.len;omega]) (fun j hj=>by rw [show 0 + j=j by omega];exact hM.frozenAt j)
 generalize hw1:w.setCells b 0 (List.replicate W (.int .u64 0))=w1 at hcl
 have hblk:w1.heap[g]?=some (.cells #[.int .i64 (n:Int),.slice (some ⟨b,0,none⟩) W c,ov] 213 (0,0)):=by
  rw [← hw1,setCells_other b _ _ _ _ hgb];exact hg
 have hM1:w1.ownsRow N 233 1 (.slice (some ⟨b,0,none⟩) W c) W (U64 (List.replicate W 0)):=by
  rw [← hw1,show U64 (List.replicate W 0)=List.replicate W (.int .u64 0) by simp [U64]]
  have:=row_stores (List.replicate W (.int .u64 0)) 0 w _ hM (by simp)
  simpa using this
 have ho1:w1.ownsRow N 3 1 ov l.length (I64 l):=row_kept ho (fun k hk=>by rw [← hw1];exact setCells_other b _ _ _ _ (fun h=>hob (by rw [hk,h])))
 have hch:Chg w w1 (g :: b :: ov.ownBlock.toList) (g :: b :: ov.ownBlock.toList):=by
  rw [← hw1]
  exact setCells_chg (w':=w) b (by simp) _ _ _ (Chg.refl _ _)
 have c1:=(Joins.cell_of_block hg 1)
 have d2:=(Joins.cell_of_block hblk 2)
 have f2:=Joins.unfrozen_of_block hblk 2
 simp at c1 d2
 obtain ⟨ad,k,cap,rfl⟩:∃ ad k cap,ov=.slice ad k cap:=by
  rcases Joins.ownsRow_forms ho with ⟨rfl,_⟩ | ⟨b,cap,rfl⟩
  ·exact ⟨_,_,_,rfl⟩
  ·exact ⟨_,_,_,rfl⟩
 have hk:k=l.length∧k≤cap∧cap≤9223372036854775807:=by
  rcases Joins.ownsRow_forms ho with ⟨h,h0⟩ | ⟨b,cap,h⟩
  ·cases h;exact ⟨h0.symm,by omega,by omega⟩
  ·cases h;exact ⟨rfl,row_cap ho⟩
 have hks:=hk.2.1
 have hcs:=hk.2.2
 have hrow:w1.ownsRow N 3 1 (.slice ad 0 cap) 0 []:=by
  rcases Joins.ownsRow_forms ho1 with ⟨h,_⟩ | ⟨b,cap,h⟩
  ·cases h;exact World.ownsRow_nil _ _ _ _
  ·cases h;exact row_emptied ho1
 have HB:Hid (w1.heap[g]?=some (.cells #[.int .i64 (n:Int),.slice (some ⟨b,0,none⟩) W c,.slice ad k cap] 213 (0,0))):=hblk
 have HR:Hid (w1.ownsRow N 3 1 (.slice ad 0 cap) 0 []):=hrow
 have HM1:Hid (w1.ownsRow N 233 1 (.slice (some ⟨b,0,none⟩) W c) W (U64 (List.replicate W 0))):=hM1
 have HC:Hid (Chg w w1 (g :: b :: (Value.slice ad k cap).ownBlock.toList) (g :: b :: (Value.slice ad k cap).ownBlock.toList)):=hch
 have HN:Hid ((Value.slice ad k cap).ownBlock≠some g):=hne
 have HW:Hid (W=(n + 63) / 64):=hW
 clear hblk hrow hM1 hch hne hg ho ho1 hM hm hS hob hk hW hw1 hne2
 go_enter Tryz.func155,Tryz.ntmps155
 go_wp2_with (simp only [hcl])
 go_end0
 have hblks:(Value.slice ad 0 cap).ownBlock=(Value.slice ad k cap).ownBlock:=by cases ad <;> rfl
 refine ⟨rfl,⟨b,c,.slice ad 0 cap,List.replicate W 0,?_,hNg,hn,?_,?_,?_,List.nodup_nil,by rw [hblks]⟩,?_⟩
 ·rw [← HW.out]
  exact Joins.block_setCell (i:=2) HB.out (.slice ad 0 cap)
 ·rw [← HW.out]
  exact own_setCell HM1.out (by simp [Value.ownBlock];exact hbg)
 ·exact own_setCell HR.out (by rw [hblks];exact HN.out)
 ·rw [HW.out]
  exact Marks.none n
 ·exact HC.out.set _ (by simp)
end Go.Proofs.YtacaanhnlfpbhaaGreat
namespace Go.Proofs.YtacaanhnlfpbhaaGreat
open Go.RowKit Go.Lk
set_option linter.unusedVariables false
set_option linter.unusedSimpArgs false
abbrev Mv.cs (b:Nat) (M:Mv):Array Value:=#[.slice M.ad M.n M.c,.int .i64 (M.S:Int),.int .i64 (M.K:Int),.slice M.tad M.tn M.tc,.int .i64 (M.j:Int),.pointer (some ⟨M.sb,0,none⟩),.int .i64 M.bits,.slice M.z1 M.n1 M.c1,.int .i64 (M.k1:Int),.slice M.z2 M.n2 M.c2,.int .i64 (M.k2:Int),.func (.func 103) #[.pointer (some ⟨b,9,none⟩)] #[],.slice (some ⟨M.ub,0,none⟩) M.K M.uc,.bool M.fok,.slice M.f1 M.f2 M.f3,.int .i64 M.fw,.int .i64 (M.fs:Int)]
def MB (w:World) (b:Nat) (M:Mv):Prop:=w.heap[b]?=some (.cells (M.cs b) 114 (0,0))
theorem MB.c {w:World} {b:Nat} {M:Mv} (h:MB w b M) (k:Nat):w.cell? ⟨b,k,none⟩=(M.cs b)[k]?:=Joins.cell_of_block h k
theorem MB.u {w:World} {b:Nat} {M:Mv} (h:MB w b M) (k:Nat):w.frozen? ⟨b,k,none⟩=false:=Joins.unfrozen_of_block h k
theorem MB.lt {w:World} {b:Nat} {M:Mv} (h:MB w b M):b < w.heap.size:=(Array.getElem?_eq_some_iff.1 h).1
theorem MB.kept {w w':World} {b:Nat} {M:Mv} (h:MB w b M) (hk:w'.heap[b]?=w.heap[b]?):MB w' b M:=hk.trans h
set_option maxRecDepth 100000 in
set_option maxHeartbeats 2000000 in
theorem atEnd52 {w:World} {b:Nat} {M:Mv} (h:MB w b M):Calls Tryz.prog 157 #[.pointer (some ⟨b,0,none⟩)] w fun e w'=>e=.returned (.bool (decide (M.j=M.tn)))∧Below w.heap.size w w':=by
 have c3:=h.c 3
 have c4:=h.c 4
 simp at c3 c4
 obtain ⟨ad,n,c,S,K,tad,tn,tc,j,sb,bits,z1,n1,c1,k1,z2,n2,c2,k2,ub,uc,fok,f1,f2,f3,fw,fs⟩:=M
 dsimp only at c3 c4 ⊢
 clear h
 by_cases e:j=tn
 ·have b1:((j:Int) == (tn:Int))=true:=by simp;omega
  have b2:decide (j=tn)=true:=by simp [e]
  rw [b2]
  go_enter Tryz.func157,Tryz.ntmps157
  go_wp2_with fail
  go_quiet (fail)
  go_wp2
  all_goals go_ret
  all_goals exact ⟨rfl,below_drewN' (Below.refl _ _) _⟩
 ·have b1:((j:Int) == (tn:Int))=false:=by simp;omega
  have b2:decide (j=tn)=false:=by simp [e]
  rw [b2]
  go_enter Tryz.func157,Tryz.ntmps157
  go_wp2_with fail
  go_quiet (fail)
  go_wp2
  all_goals go_ret
  all_goals exact ⟨rfl,below_drewN' (Below.refl _ _) _⟩
set_option maxRecDepth 100000 in
set_option maxHeartbeats 2000000 in
theorem begins34 {w:World} {b:Nat} {M:Mv} {a:Nat} {anch:Bool} (h:MB w b M):Calls Tryz.prog 107 #[.pointer (some ⟨b,0,none⟩),.int .i64 (a:Int),.bool anch] w fun e w'=>e=.returned (.bool (decide (M.j=a) || (!anch && !M.fok)))∧w'=w:=by
 have c3:=h.c 13
 have c4:=h.c 4
 simp at c3 c4
 obtain ⟨ad,n,c,S,K,tad,tn,tc,j,sb,bits,z1,n1,c1,k1,z2,n2,c2,k2,ub,uc,fok,f1,f2,f3,fw,fs⟩:=M
 dsimp only at c3 c4 ⊢
 clear h
 by_cases e:j=a
 ·have b1:((j:Int) == (a:Int))=true:=by simp;omega
  have b2:decide (j=a)=true:=by simp [e]
  rw [b2]
  go_enter Tryz.func107,Tryz.ntmps107
  go_wp2
  all_goals go_ret
  all_goals exact ⟨rfl,rfl⟩
 ·have b1:((j:Int) == (a:Int))=false:=by simp;omega
  have b2:decide (j=a)=false:=by simp [e]
  rw [b2]
  cases anch <;> cases fok
  all_goals go_enter Tryz.func107,Tryz.ntmps107
  all_goals go_wp2
  all_goals go_ret
  all_goals exact ⟨rfl,rfl⟩
set_option maxRecDepth 100000 in
set_option maxHeartbeats 2000000 in
theorem isOver36 {w:World} {b:Nat} {M:Mv} {anch:Bool} (h:MB w b M):Calls Tryz.prog 109 #[.pointer (some ⟨b,0,none⟩),.bool anch] w fun e w'=>e=.returned (.bool (decide (M.j=M.tn) || (decide (M.k1=0) && (M.fok || anch))))∧Below w.heap.size w w':=by
 have HC:=atEnd52 h
 have HM:=hid h
 obtain ⟨ad,n,c,S,K,tad,tn,tc,j,sb,bits,z1,n1,c1,k1,z2,n2,c2,k2,ub,uc,fok,f1,f2,f3,fw,fs⟩:=M
 dsimp only at HC ⊢
 clear h
 cases e:decide (j=tn)
 ·rw [e] at HC
  by_cases e1:k1=0
  ·have b1:((k1:Int) == 0)=true:=by simp;omega
   have b2:decide (k1=0)=true:=by simp [e1]
   rw [b2]
   cases anch <;> cases fok
   all_goals go_enter Tryz.func109,Tryz.ntmps109
   all_goals go_wp2_with (go_at_call 157;(with_reducible refine HC.mono ?_);rintro e w2 ⟨rfl,hb⟩;have HB:=hid hb;have hm:=HM.out.kept (hb.block b HM.out.lt);have c3:=hm.c 13;have c4:=hm.c 8;simp at c3 c4;clear hm hb HC)
   all_goals go_ret
   all_goals exact ⟨rfl,HB.out⟩
  ·have b1:((k1:Int) == 0)=false:=by simp;omega
   have b2:decide (k1=0)=false:=by simp [e1]
   rw [b2]
   go_enter Tryz.func109,Tryz.ntmps109
   go_wp2_with (go_at_call 157;(with_reducible refine HC.mono ?_);rintro e w2 ⟨rfl,hb⟩;have HB:=hid hb;have hm:=HM.out.kept (hb.block b HM.out.lt);have c3:=hm.c 13;have c4:=hm.c 8;simp at c3 c4;clear hm hb HC)
   all_goals go_ret
   all_goals exact ⟨rfl,HB.out⟩
 ·rw [e] at HC
  go_enter Tryz.func109,Tryz.ntmps109
  go_wp2_with (go_at_call 157;(with_reducible refine HC.mono ?_);rintro e w2 ⟨rfl,hb⟩;have HB:=hid hb;clear hb HC)
  all_goals go_ret
  all_goals exact ⟨rfl,HB.out⟩
set_option maxRecDepth 100000 in
set_option maxHeartbeats 2000000 in
theorem fits48 {w:World} {b:Nat} {M:Mv} {tx:List Int} {R:List (Int × Int)} {r1:Option Addr} {r2 r3:Nat} (h:MB w b M) (hT:TextAt w.heap.size w M.tad M.tn tx) (hj:M.j≤M.tn) (hn:r2=R.length) (hl:RowAt w.heap.size w (.slice r1 r2 r3) R) (hR:rightB R=true) :
  Calls Tryz.prog 153 #[.pointer (some ⟨b,0,none⟩),.slice r1 r2 r3] w fun e w'=>e=.returned (.bool (decide (M.j < tx.length) && hsB R (tx.getD M.j 0)))∧Below w.heap.size w w':=by
 have HC:=atEnd52 h
 have HM:=hid h
 have HT:=hid hT
 have HL:=hid hl
 have HN:=hid hn
 have HR:=hid hR
 have htl:M.tn=tx.length:=hT.1
 have hsm:r2≤5000:=by
  rw [hn];unfold rightB at hR;simp at hR;exact hR.1
 obtain ⟨ad,n,c,S,K,tad,tn,tc,j,sb,bits,z1,n1,c1,k1,z2,n2,c2,k2,ub,uc,fok,f1,f2,f3,fw,fs⟩:=M
 dsimp only at HC HT htl hj ⊢
 clear h hT hl hn hR
 rw [← htl]
 have HTL:=hid htl
 clear htl
 by_cases e:j=tn
 ·rw [show decide (j=tn)=true by simp [e]] at HC
  rw [show decide (j < tn)=false by simp [e]]
  go_enter Tryz.func153,Tryz.ntmps153
  go_wp2_with (go_at_call 157;(with_reducible refine HC.mono ?_);rintro e w2 ⟨rfl,hb⟩;have HB:=hid hb;clear hb HC)
  all_goals go_ret
  all_goals exact ⟨rfl,HB.out⟩
 ·rw [show decide (j=tn)=false by simp [e]] at HC
  have hlt:j < tn:=by omega
  rw [show decide (j < tn)=true by simp [hlt]]
  have b2:(j:Int) < (tn:Int):=by omega
  obtain ⟨_,h35,h0 | ⟨tb,tof,rfl,htb,htc⟩⟩:=HT.out
  ·omega
  have d0:=htc j hlt
  generalize hr:tx.getD j 0=r at d0 ⊢
  have HRR:=hid hr
  clear htc hr
  generalize hX:hsB R r=X
  have HX:=hid hX
  clear hX
  have hj2:j < 9223372036854775807:=by omega
  clear h35
  go_enter Tryz.func153,Tryz.ntmps153
  go_upto_region 3 with (go_at_call 157;(with_reducible refine HC.mono ?_);rintro e w2 ⟨rfl,hb⟩;have HB:=hid hb;have hm:=HM.out.kept (hb.block b HM.out.lt);have c3:=hm.c 3;have c4:=hm.c 4;simp at c3 c4;have d1:=(hb.cell (p:=⟨tb,tof + j,none⟩) htb).trans d0;clear hm hb HC d0)
  go_quiet (fail)
  clear c3 c4 d1
  have HS:Hid (∀ W,W.heap=w2.heap→W.os=w2.os→W.tape=w2.tape→W.output=w2.output→Calls Tryz.prog 216 #[.slice r1 r2 r3,.int .i64 r,.func (.func 217) #[] #[]] W fun e w'=>∃ (i:Nat) (f:Bool),e=.returned (.tuple #[.int .i64 i,.bool f])∧Below w.heap.size w w'∧i≤r2∧(i=0∨(R.getD (i - 1) (0,0)).2 < r)∧(i=r2∨r≤(R.getD i (0,0)).2)):=by
   intro W e1 e2 e3 e4
   have hbW:Below w.heap.size w W:=⟨e2.trans HB.out.os,e3.trans HB.out.tape,e4.trans HB.out.output,by rw [e1];exact HB.out.size,fun k hk=>by rw [e1];exact HB.out.block k hk⟩
   refine (bs67 R r1 r2 r3 r W HN.out (HL.out.below hbW (Nat.le_refl _) hbW.size) hsm).mono ?_
   rintro e w' ⟨i,f,he,hb,h1,h2,h3⟩
   exact ⟨i,f,he,hbW.trans (Joins.below_le hb hbW.size),h1,h2,h3⟩
  go_upto_region 5 with (go_at_call 216;(with_reducible refine (HS.out _ ?_ ?_ ?_ ?_).mono ?_);(rfl);(rfl);(rfl);(rfl);rintro e w3 ⟨i,f,rfl,hb3,hi,hs1,hs2⟩;have HB3:=hid hb3;have H1:=hid hs1;have H2:=hid hs2;clear hb3 hs1 hs2 HS)
  have hsr:inB R r=(decide (i < R.length) && decide ((R.getD i (0,0)).1≤r)):=has_search R r i HR.out (by have:=HN.out;omega) H1.out (by have:=HN.out;rw [← this];exact H2.out)
  rw [← HN.out] at hsr
  have hhs:hsB R r=(decide (i < r2) && decide ((R.getD i (0,0)).1≤r)):=by unfold hsB;rw [HR.out,hsr];rfl
  rw [HX.out] at hhs
  have HH:=hid hhs
  clear hsr hhs
  by_cases hir:i < r2
  ·have b3:decide ((i:Int) < (r2:Int))=true:=by simp;omega
   have b4:(i:Int) < (r2:Int):=by omega
   obtain ⟨ad',cap',he,h | ⟨lb,lo,rfl,hlb,hc0,hc1⟩⟩:=HL.out
   ·have:=HN.out;omega
   simp only [Value.slice.injEq] at he
   obtain ⟨rfl,-,rfl⟩:=he
   have m0:=(HB3.out.cell (p:=⟨lb,lo + i * 2,none⟩) hlb).trans (hc0 i (by have:=HN.out;omega))
   generalize hx0:(R.getD i (0,0)).1=x0 at m0
   have HX0:=hid hx0
   clear hx0
   clear hc0 hc1
   by_cases hx:x0≤r
   ·have b5:decide (x0≤r)=true:=by simp [hx]
    have HXV:Hid (X=true):=by show X=_;rw [HH.out,HX0.out];simp [hir,hx]
    go_wp2
    all_goals go_ret
    all_goals exact ⟨ret_bool (by simp [HXV.out]),HB3.out⟩
   ·have b5:decide (x0≤r)=false:=by simp [hx]
    have HXV:Hid (X=false):=by show X=_;rw [HH.out,HX0.out];simp [hir,hx]
    go_wp2
    all_goals go_ret
    all_goals exact ⟨ret_bool (by simp [HXV.out]),HB3.out⟩
  ·have b3:decide ((i:Int) < (r2:Int))=false:=by simp;omega
   have HXV:Hid (X=false):=by show X=_;rw [HH.out];simp [hir]
   go_wp2
   all_goals go_ret
   all_goals exact ⟨ret_bool (by simp [HXV.out]),HB3.out⟩
end Go.Proofs.YtacaanhnlfpbhaaGreat
