/- HELPERS: texts of ours put together. -/
import Derived.Test.YtjdbnoccdefnaaaGreatK14
import Derived.Laws.Rows
import Derived.Shelf.SlIterI.Nil
import Derived.Shelf.SortM.Plain
import Derived.Shelf.SortM.SortNone
import Derived.Ground.GgzProg
import Derived.Ground.SlgmProg
import Derived.Test.YtjdbnoccdefnaaaGreatProg
import Derived.Maps.OwnSet
namespace Go.Proofs.YtjdbnoccdefnaaaGreat
open Go.RowKit
set_option linter.unusedVariables false
set_option linter.unusedSimpArgs false
theorem lim_small {n:Nat} (h:n ≤ 20000):lim (n:Int) = n:=by
  have:=lim_eq (n:Int)
  omega
set_option maxRecDepth 100000 in
set_option maxHeartbeats 4000000 in
theorem new35 {ad:Option Addr} {n c:Nat} {w:World} (hn:n ≤ 20000) :
    Calls Tryz.prog 35 #[.slice ad n c] w fun e w' => ∃ g F,e = .returned (.agg #[.slice ad n c,.pointer (some ⟨g,0,none⟩),.slice none 0 0,.slice none 0 0,.int .i64 0,.slice none 0 0]) ∧ SetS w.heap.size w' g F n [] ∧ Below w.heap.size w w':=by
  obtain ⟨W1,hW1⟩:∃ W1,W1 = w.alloc (.cells #[.slice none 0 0,.pointer none,.slice none 0 0,.slice none 0 0,.int .i64 0,.slice none 0 0] 78):=⟨_,rfl⟩
  have D34:=new8 (n:Int) W1
  rw [lim_small hn] at D34
  obtain ⟨x,hx⟩:∃ x,x = w.heap.size:=⟨_,rfl⟩
  have hX:W1.heap[x]? = some (.cells #[.slice none 0 0,.pointer none,.slice none 0 0,.slice none 0 0,.int .i64 0,.slice none 0 0] 78 (0,0)):=by rw [hW1,hx];exact heap_alloc_new w _
  have hs1:W1.heap.size = x + 1:=by rw [hW1,hx];simp
  have hB1:Below w.heap.size w W1:=by rw [hW1];exact Joins.below_alloc1 w _
  have HX:=hid hX
  have HS1:=hid hs1
  have HB1:=hid hB1
  have HXE:=hid hx
  clear hX hs1 hB1
  go_enter Tryz.func35,Tryz.ntmps35
  go_upto_region 1 with fail
  rw [← hW1,← hx]
  clear hW1 hx
  go_wp2_with (go_at_call 34;(with_reducible refine D34.mono ?_);rintro e w2 ⟨g,F,rfl,z1,z2⟩;have hX2:=(z2.block x (by have:=HS1.out;omega)).trans HX.out;have s0:=Joins.unfrozen_of_block hX2 0;have s1:=Joins.unfrozen_of_block hX2 1;have s2:=Joins.unfrozen_of_block hX2 2;have s3:=Joins.unfrozen_of_block hX2 3;have s4:=Joins.unfrozen_of_block hX2 4;have s5:=Joins.unfrozen_of_block hX2 5;have q0:=Joins.cell_of_block hX2 0;have q1:=Joins.cell_of_block hX2 1;have q2:=Joins.cell_of_block hX2 2;have q3:=Joins.cell_of_block hX2 3;have q4:=Joins.cell_of_block hX2 4;have q5:=Joins.cell_of_block hX2 5;simp at q0 q1 q2 q3 q4 q5;have Z1:=hid z1;have Z2:=hid z2;have HX2:=hid hX2;clear z1 z2 hX2 D34)
  obtain ⟨V0,hV0⟩:∃ V0,V0 = w2.setCell ⟨x,0,none⟩ (.slice ad n c):=⟨_,rfl⟩
  have k0:V0.heap[x]? = some (.cells #[.slice ad n c,.pointer none,.slice none 0 0,.slice none 0 0,.int .i64 0,.slice none 0 0] 78 (0,0)):=by
    rw [hV0]
    have h:=Joins.block_setCell (i:=0) HX2.out (.slice ad n c)
    simpa using h
  have o0:∀ b,b ≠ x → V0.heap[b]? = w2.heap[b]?:=fun b hb => by rw [hV0];exact heap_setCell_other _ _ _ _ hb
  have b0:Below x w2 V0:=by rw [hV0];exact (Below.refl x w2).setCell (p:=⟨x,0,none⟩) (Nat.le_refl x) _
  obtain ⟨V1,hV1⟩:∃ V1,V1 = V0.setCell ⟨x,1,none⟩ (.pointer (some ⟨g,0,none⟩)):=⟨_,rfl⟩
  have k1:V1.heap[x]? = some (.cells #[.slice ad n c,.pointer (some ⟨g,0,none⟩),.slice none 0 0,.slice none 0 0,.int .i64 0,.slice none 0 0] 78 (0,0)):=by
    rw [hV1]
    have h:=Joins.block_setCell (i:=1) k0 (.pointer (some ⟨g,0,none⟩))
    simpa using h
  have o1:∀ b,b ≠ x → V1.heap[b]? = V0.heap[b]?:=fun b hb => by rw [hV1];exact heap_setCell_other _ _ _ _ hb
  have b1:Below x V0 V1:=by rw [hV1];exact (Below.refl x V0).setCell (p:=⟨x,1,none⟩) (Nat.le_refl x) _
  obtain ⟨V2,hV2⟩:∃ V2,V2 = V1.setCell ⟨x,2,none⟩ (.slice none 0 0):=⟨_,rfl⟩
  have k2:V2.heap[x]? = some (.cells #[.slice ad n c,.pointer (some ⟨g,0,none⟩),.slice none 0 0,.slice none 0 0,.int .i64 0,.slice none 0 0] 78 (0,0)):=by
    rw [hV2]
    have h:=Joins.block_setCell (i:=2) k1 (.slice none 0 0)
    simpa using h
  have o2:∀ b,b ≠ x → V2.heap[b]? = V1.heap[b]?:=fun b hb => by rw [hV2];exact heap_setCell_other _ _ _ _ hb
  have b2:Below x V1 V2:=by rw [hV2];exact (Below.refl x V1).setCell (p:=⟨x,2,none⟩) (Nat.le_refl x) _
  obtain ⟨V3,hV3⟩:∃ V3,V3 = V2.setCell ⟨x,3,none⟩ (.slice none 0 0):=⟨_,rfl⟩
  have k3:V3.heap[x]? = some (.cells #[.slice ad n c,.pointer (some ⟨g,0,none⟩),.slice none 0 0,.slice none 0 0,.int .i64 0,.slice none 0 0] 78 (0,0)):=by
    rw [hV3]
    have h:=Joins.block_setCell (i:=3) k2 (.slice none 0 0)
    simpa using h
  have o3:∀ b,b ≠ x → V3.heap[b]? = V2.heap[b]?:=fun b hb => by rw [hV3];exact heap_setCell_other _ _ _ _ hb
  have b3:Below x V2 V3:=by rw [hV3];exact (Below.refl x V2).setCell (p:=⟨x,3,none⟩) (Nat.le_refl x) _
  obtain ⟨V4,hV4⟩:∃ V4,V4 = V3.setCell ⟨x,4,none⟩ (.int .i64 0):=⟨_,rfl⟩
  have k4:V4.heap[x]? = some (.cells #[.slice ad n c,.pointer (some ⟨g,0,none⟩),.slice none 0 0,.slice none 0 0,.int .i64 0,.slice none 0 0] 78 (0,0)):=by
    rw [hV4]
    have h:=Joins.block_setCell (i:=4) k3 (.int .i64 0)
    simpa using h
  have o4:∀ b,b ≠ x → V4.heap[b]? = V3.heap[b]?:=fun b hb => by rw [hV4];exact heap_setCell_other _ _ _ _ hb
  have b4:Below x V3 V4:=by rw [hV4];exact (Below.refl x V3).setCell (p:=⟨x,4,none⟩) (Nat.le_refl x) _
  obtain ⟨V5,hV5⟩:∃ V5,V5 = V4.setCell ⟨x,5,none⟩ (.slice none 0 0):=⟨_,rfl⟩
  have k5:V5.heap[x]? = some (.cells #[.slice ad n c,.pointer (some ⟨g,0,none⟩),.slice none 0 0,.slice none 0 0,.int .i64 0,.slice none 0 0] 78 (0,0)):=by
    rw [hV5]
    have h:=Joins.block_setCell (i:=5) k4 (.slice none 0 0)
    simpa using h
  have o5:∀ b,b ≠ x → V5.heap[b]? = V4.heap[b]?:=fun b hb => by rw [hV5];exact heap_setCell_other _ _ _ _ hb
  have b5:Below x V4 V5:=by rw [hV5];exact (Below.refl x V4).setCell (p:=⟨x,5,none⟩) (Nat.le_refl x) _
  rw [← hV0,← hV1,← hV2,← hV3,← hV4,← hV5]
  clear hV0 hV1 hV2 hV3 hV4 hV5
  have hk:∀ b,b ≠ x → V5.heap[b]? = w2.heap[b]?:=fun b hb => by rw [o5 b hb,o4 b hb,o3 b hb,o2 b hb,o1 b hb,o0 b hb]
  have hB3:Below x w2 V5:=b0.trans (b1.trans (b2.trans (b3.trans (b4.trans b5))))
  refine bodyPost_ret (results_cell_row rfl _ _ x 78 _ (0,0) _ rfl k5 Tryz.underlying78 rfl (by kernel_rfl)) rfl ?_
  exact ⟨g,F,rfl,(Z1.out.mono (by have:=HS1.out;have:=HXE.out;omega)).kept (fun b hb => hk b (by have:=(Z1.out.low b hb).1;have:=HS1.out;omega)),HB1.out.trans ((Z2.out.mono (by have:=HS1.out;have:=HXE.out;omega)).trans (by rw [← HXE.out];exact hB3))⟩
end Go.Proofs.YtjdbnoccdefnaaaGreat
namespace Go.Proofs
open Go.Shelf
def Tryz.keysA_ren:Go.Shelf.Ren:=⟨fun | 7 => 38 | 10 => 51 | n => n,fun | 23 => 73 | 26 => 3 | 3 => 86 | 28 => 84 | 0 => 0 | 27 => 83 | 33 => 87 | 4 => 4 | n => n,fun | n => n⟩
theorem Tryz.keysA:Go.Proofs.SlLaysZI.n7 Tryz.prog Tryz.keysA_ren:={
  mixed:=by kernel_rfl
  f7:=⟨Tryz.f38.name,by decide,Tryz.func38.trans (congrArg some (by kernel_rfl))⟩
  f10:=⟨Tryz.f51.name,by decide,Tryz.func51.trans (congrArg some (by kernel_rfl))⟩
  t0:=Tryz.underlying0
  a0:=Tryz.isAgg0
  z0:=Tryz.sizeOf0
  v0:=Tryz.zeroValue0
  t4:=Tryz.underlying4
  a4:=Tryz.isAgg4
  z4:=Tryz.sizeOf4
  v4:=Tryz.zeroValue4
  t23:=Tryz.underlying73
  a23:=Tryz.isAgg73
  z23:=Tryz.sizeOf73
  v23:=Tryz.zeroValue73
  t26:=Tryz.underlying3
  a26:=Tryz.isAgg3
  z26:=Tryz.sizeOf3
  v26:=Tryz.zeroValue3
  t27:=Tryz.underlying83
  a27:=Tryz.isAgg83
  z27:=Tryz.sizeOf83
  v27:=Tryz.zeroValue83
  t28:=Tryz.underlying84
  a28:=Tryz.isAgg84
  z28:=Tryz.sizeOf84
  v28:=Tryz.zeroValue84
  t33:=Tryz.underlying87
  a33:=Tryz.isAgg87
  z33:=Tryz.sizeOf87
  v33:=Tryz.zeroValue87 }
def Tryz.sortedA_ren:Go.Shelf.Ren:=⟨fun | 6 => 37 | 8 => 49 | 9 => 50 | 11 => 68 | 13 => 70 | 12 => 69 | 23 => 95 | 24 => 96 | 14 => 86 | 15 => 87 | 16 => 88 | 17 => 89 | 18 => 90 | 19 => 91 | 20 => 92 | 21 => 93 | 22 => 94 | 25 => 107 | 26 => 108 | 27 => 109 | 28 => 110 | 29 => 111 | 30 => 104 | 31 => 124 | n => n,fun | 26 => 3 | 28 => 84 | 24 => 30 | 0 => 0 | 3 => 3 | 37 => 96 | 48 => 113 | 50 => 103 | 4 => 4 | 40 => 124 | 39 => 123 | 45 => 118 | 5 => 5 | 9 => 9 | 51 => 142 | 55 => 146 | 57 => 153 | 58 => 154 | 33 => 87 | n => n,fun | n => n⟩
theorem Tryz.sortedA:Go.Proofs.SlLaysZI.n6 Tryz.prog Tryz.sortedA_ren:={
  mixed:=by kernel_rfl
  f6:=⟨Tryz.f37.name,by decide,Tryz.func37.trans (congrArg some (by kernel_rfl))⟩
  f8:=⟨Tryz.f49.name,by decide,Tryz.func49.trans (congrArg some (by kernel_rfl))⟩
  f11:=⟨Tryz.f68.name,by decide,Tryz.func68.trans (congrArg some (by kernel_rfl))⟩
  t0:=Tryz.underlying0
  a0:=Tryz.isAgg0
  z0:=Tryz.sizeOf0
  v0:=Tryz.zeroValue0
  t24:=Tryz.underlying30
  a24:=Tryz.isAgg30
  z24:=Tryz.sizeOf30
  v24:=Tryz.zeroValue30
  t26:=Tryz.underlying3
  a26:=Tryz.isAgg3
  z26:=Tryz.sizeOf3
  v26:=Tryz.zeroValue3
  t28:=Tryz.underlying84
  a28:=Tryz.isAgg84
  z28:=Tryz.sizeOf84
  v28:=Tryz.zeroValue84
  i26:=by kernel_rfl }
def Tryz.sortA_ren:Go.Shelf.Ren:=⟨fun | 5 => 50 | 8 => 70 | 7 => 69 | 19 => 95 | 20 => 96 | 10 => 86 | 11 => 87 | 12 => 88 | 13 => 89 | 14 => 90 | 15 => 91 | 16 => 92 | 17 => 93 | 18 => 94 | 30 => 107 | 31 => 108 | 32 => 109 | 33 => 110 | 34 => 111 | 35 => 104 | 40 => 124 | n => n,fun | 23 => 30 | 25 => 3 | 3 => 3 | 32 => 96 | 22 => 30 | 0 => 0 | 44 => 113 | 46 => 103 | 4 => 4 | 36 => 124 | 35 => 123 | 41 => 118 | 5 => 5 | 9 => 9 | 53 => 142 | 57 => 146 | 63 => 153 | 64 => 154 | n => n,fun | n => n⟩
theorem Tryz.sortA:Go.Proofs.SlLaysM.n5 Tryz.prog Tryz.sortA_ren:={
  mixed:=by kernel_rfl
  f5:=⟨Tryz.f50.name,by decide,Tryz.func50.trans (congrArg some (by kernel_rfl))⟩
  f7:=⟨Tryz.f69.name,by decide,Tryz.func69.trans (congrArg some (by kernel_rfl))⟩
  f8:=Tryz.func70.trans (congrArg some (by kernel_rfl))
  f10:=⟨Tryz.f86.name,by decide,Tryz.func86.trans (congrArg some (by kernel_rfl))⟩
  f11:=⟨Tryz.f87.name,by decide,Tryz.func87.trans (congrArg some (by kernel_rfl))⟩
  f12:=⟨Tryz.f88.name,by decide,Tryz.func88.trans (congrArg some (by kernel_rfl))⟩
  f13:=⟨Tryz.f89.name,by decide,Tryz.func89.trans (congrArg some (by kernel_rfl))⟩
  f14:=⟨Tryz.f90.name,by decide,Tryz.func90.trans (congrArg some (by kernel_rfl))⟩
  f15:=⟨Tryz.f91.name,by decide,Tryz.func91.trans (congrArg some (by kernel_rfl))⟩
  f16:=⟨Tryz.f92.name,by decide,Tryz.func92.trans (congrArg some (by kernel_rfl))⟩
  f17:=⟨Tryz.f93.name,by decide,Tryz.func93.trans (congrArg some (by kernel_rfl))⟩
  f18:=⟨Tryz.f94.name,by decide,Tryz.func94.trans (congrArg some (by kernel_rfl))⟩
  f19:=Tryz.func95.trans (congrArg some (by kernel_rfl))
  f20:=Tryz.func96.trans (congrArg some (by kernel_rfl))
  f30:=⟨Tryz.f107.name,by decide,Tryz.func107.trans (congrArg some (by kernel_rfl))⟩
  f31:=Tryz.func108.trans (congrArg some (by kernel_rfl))
  f32:=Tryz.func109.trans (congrArg some (by kernel_rfl))
  f33:=⟨Tryz.f110.name,by decide,Tryz.func110.trans (congrArg some (by kernel_rfl))⟩
  f34:=⟨Tryz.f111.name,by decide,Tryz.func111.trans (congrArg some (by kernel_rfl))⟩
  f35:=⟨Tryz.f104.name,by decide,Tryz.func104.trans (congrArg some (by kernel_rfl))⟩
  f40:=⟨Tryz.f124.name,by decide,Tryz.func124.trans (congrArg some (by kernel_rfl))⟩
  t0:=Tryz.underlying0
  a0:=Tryz.isAgg0
  z0:=Tryz.sizeOf0
  v0:=Tryz.zeroValue0
  t3:=Tryz.underlying3
  a3:=Tryz.isAgg3
  z3:=Tryz.sizeOf3
  v3:=Tryz.zeroValue3
  t4:=Tryz.underlying4
  a4:=Tryz.isAgg4
  z4:=Tryz.sizeOf4
  v4:=Tryz.zeroValue4
  t5:=Tryz.underlying5
  a5:=Tryz.isAgg5
  z5:=Tryz.sizeOf5
  v5:=Tryz.zeroValue5
  t9:=Tryz.underlying9
  a9:=Tryz.isAgg9
  z9:=Tryz.sizeOf9
  v9:=Tryz.zeroValue9
  t22:=Tryz.underlying30
  a22:=Tryz.isAgg30
  z22:=Tryz.sizeOf30
  v22:=Tryz.zeroValue30
  t23:=Tryz.underlying30
  a23:=Tryz.isAgg30
  z23:=Tryz.sizeOf30
  v23:=Tryz.zeroValue30
  t25:=Tryz.underlying3
  a25:=Tryz.isAgg3
  z25:=Tryz.sizeOf3
  v25:=Tryz.zeroValue3
  t32:=Tryz.underlying96
  a32:=Tryz.isAgg96
  z32:=Tryz.sizeOf96
  v32:=Tryz.zeroValue96
  t35:=Tryz.underlying123
  a35:=Tryz.isAgg123
  z35:=Tryz.sizeOf123
  v35:=Tryz.zeroValue123
  t36:=Tryz.underlying124
  a36:=Tryz.isAgg124
  z36:=Tryz.sizeOf124
  v36:=Tryz.zeroValue124
  t41:=Tryz.underlying118
  a41:=Tryz.isAgg118
  z41:=Tryz.sizeOf118
  v41:=Tryz.zeroValue118
  t44:=Tryz.underlying113
  a44:=Tryz.isAgg113
  z44:=Tryz.sizeOf113
  v44:=Tryz.zeroValue113
  t46:=Tryz.underlying103
  a46:=Tryz.isAgg103
  z46:=Tryz.sizeOf103
  v46:=Tryz.zeroValue103
  t53:=Tryz.underlying142
  a53:=Tryz.isAgg142
  z53:=Tryz.sizeOf142
  v53:=Tryz.zeroValue142
  t57:=Tryz.underlying146
  a57:=Tryz.isAgg146
  z57:=Tryz.sizeOf146
  v57:=Tryz.zeroValue146
  t63:=Tryz.underlying153
  a63:=Tryz.isAgg153
  z63:=Tryz.sizeOf153
  v63:=Tryz.zeroValue153
  t64:=Tryz.underlying154
  a64:=Tryz.isAgg154
  z64:=Tryz.sizeOf154
  v64:=Tryz.zeroValue154 }
end Go.Proofs
namespace Go.Proofs.YtjdbnoccdefnaaaGreat
open Go.RowKit Go.Maps Go.Sort Go.Shelf
set_option linter.unusedVariables false
set_option linter.unusedSimpArgs false
theorem sortsA (m:Nat):AnyZI.SortsIn Tryz.prog Tryz.sortedA_ren Fence.wide m:=
  ⟨fun blk off cap ss W hH hblk hsz => callsIn_wide.2 (AnyM.slices_Sort_int Tryz.sortA blk off cap ss W hH hblk hsz),
   fun p cap W => callsIn_wide.2 (AnyM.slices_Sort_int_none Tryz.sortA p cap W)⟩
theorem keys38 (mb:Option Nat) (w:World):Calls Tryz.prog 38 #[.map mb] w fun e w' => e = .returned (.func (.func 51) #[] #[.pointer (some ⟨w.heap.size,0,none⟩)]) ∧ w' = w.alloc (.cells #[.map mb] 73):=
  (callsIn_wide (n:=5)).1 (AnyZI.keys_in Tryz.keysA Fence.wide 5 trivial rfl mb w)
theorem sorted37 {b nn p:Nat} {D0:DataW Unit} {R:Value → Option (DataW Unit × List MemPlace)} {w:World} (hp:w.cell? ⟨p,0,none⟩ = some (.map (some b))) (hpl:p < w.heap.size) (hown:w.ownsMap Tryz.prog 3 R b nn D0) (hmax:Maps.size D0 ≤ 20000) :
    Calls Tryz.prog 37 #[.func (.func 51) #[] #[.pointer (some ⟨p,0,none⟩)]] w fun e w' => ∃ (v:Value) (ss:List Int),e = .returned v ∧ ss.Perm (intKeys D0) ∧
      w'.ownsRow w.heap.size 3 1 v ss.length ((ss.mergeSort (fun x y => decide (x ≤ y))).map encZ) ∧ (v = .slice none 0 0 ↔ ss = []) ∧ Below w.heap.size w w':=by
  have hseq:SeqGives Fence.wide 2 Tryz.prog 51 #[.pointer (some ⟨p,0,none⟩)] encZ (fun ss => ss.Perm (intKeys D0)) (Maps.size D0) w:=
    AnyZI.keys_gives (ρ:=Tryz.keysA_ren) { Tryz.keysA with } Fence.wide _ trivial rfl (by omega) p b nn D0 _ hpl hp hown
  have cS:=AnyZI.sorted_in Tryz.sortedA Fence.wide 5 trivial trivial trivial trivial rfl (by omega) (sortsA _) (enters_of Tryz.func50 (by kernel_rfl) rfl) 51 #[.pointer (some ⟨p,0,none⟩)] trivial (enters_of Tryz.func51 (by kernel_rfl) rfl) _ _ (by unfold maxLen;omega) (by omega) _ hseq
  change CallsIn _ _ Tryz.prog 37 _ _ _ at cS
  exact (callsIn_wide (n:=5)).1 cS
end Go.Proofs.YtjdbnoccdefnaaaGreat
