/- HELPERS: texts of ours put together. -/
import Derived.Test.YtacaanhnlfpbhaaGreatK47
import Derived.Test.YtacaanhnlfpbhaaGreatK19
import Derived.Test.YtacaanhnlfpbhaaGreatK16
import Derived.Test.YtacaanhnlfpbhaaGreatK48
import Derived.Deep.RegionHeld3
import Derived.OwnWalk
import Derived.Test.YtacaanhnlfpbhaaGreatK04
import Derived.OrdersHeld
import Derived.StillTail
import Derived.Tactics
import Derived.RowKit
import Derived.Below
namespace Go.Proofs.YtacaanhnlfpbhaaGreat
open Go.RowKit Go.Lk
set_option linter.unusedVariables false
set_option linter.unusedSimpArgs false
def WR:Option (Int × List Int) → World → Ending → World → Prop
 | none,w,e,w' => e = .returned (.tuple #[.int .i64 0,.slice none 0 0,.bool false]) ∧ Below w.heap.size w w'
 | some y,w,e,w' => ∃ g,e = .returned (.tuple #[.int .i64 y.1,.slice (some ⟨g,0,none⟩) y.2.length y.2.length,.bool true]) ∧ w'.ownsRow w.heap.size 3 1 (.slice (some ⟨g,0,none⟩) y.2.length y.2.length) y.2.length (y.2.map (Value.int .i64)) ∧ Below w.heap.size w w'
abbrev Z4:Value:=.agg #[.int .i64 0,.int .i64 0,.int .i64 0,.int .i64 0]
def lenOf:Value → Nat
 | .slice _ n _ => n
 | _ => 0
theorem countP_le {α:Type} (p:α → Bool) (L:List α):L.countP p ≤ L.length:=List.countP_le_length
set_option maxRecDepth 100000 in
set_option maxHeartbeats 32000000 in
theorem walk36 {w:World} {ad tad:Option Addr} {n c tn tc q S K:Nat} {l:List In} {tx:List Int} {r:Option (Int × List Int)} (hP:PI w w.heap.size ad n l) (hmay:mayB l (S:Int) (K:Int) = true) (hT:TextAt w.heap.size w tad tn tx) (ht20:tn ≤ 20) (hq:q ≤ tn) (hev:EvT l tx [.go S q] (fun _ _ => false) (List.replicate K (-1)) r) :
  Calls Tryz.prog 62 #[pv ad n c (S:Int) (K:Int),.slice tad tn tc,.int .i64 (q:Int)] w (WR r w):=by
 have hl:=hP.len
 have hm:=may_ok hmay
 have htl:tn = tx.length:=hT.1
 obtain ⟨i100,hi100,hz1000,hz1001,hz1002⟩:=info_parts info100
 obtain ⟨q1,hq1⟩:∃ q1,q1 = tn + 1:=⟨_,rfl⟩
 obtain ⟨B0,hB0⟩:∃ B0,B0 = w.heap.size:=⟨_,rfl⟩
 obtain ⟨x,hx⟩:∃ x,x = w.heap.size:=⟨_,rfl⟩
 obtain ⟨U,hU⟩:∃ U,U = w.alloc (.cells #[.slice ad n c,.int .i64 (S:Int),.int .i64 (K:Int)] 46):=⟨_,rfl⟩
 have hM:n * q1 ≤ 420000:=by
  have h1:n ≤ 20000:=by omega
  have h2:q1 ≤ 21:=by omega
  exact Nat.mul_le_mul h1 h2
 obtain ⟨M,hMe⟩:∃ M,M = n * q1:=⟨_,rfl⟩
 have hM2:M ≤ 420000:=by omega
 have hmk:=make4 M (by omega) U
 obtain ⟨U1,hU1⟩:∃ U1,U1 = U.alloc (.cells (madeCells #[.bool false] M) 4):=⟨_,rfl⟩
 have hmk2:=make3T K (by omega) U1
 obtain ⟨U2,hU2⟩:∃ U2,U2 = U1.alloc (.cells (madeCells #[.int .i64 0] K) 3):=⟨_,rfl⟩
 rw [← hU1] at hmk
 rw [← hU2] at hmk2
 obtain ⟨gm,hgm⟩:∃ gm,gm = U.heap.size:=⟨_,rfl⟩
 obtain ⟨gc,hgc⟩:∃ gc,gc = U1.heap.size:=⟨_,rfl⟩
 rw [← hgm] at hmk
 rw [← hgc] at hmk2
 have hbU:Below w.heap.size w U:=by rw [hU];exact Joins.below_alloc1 w _
 have hbU1:Below U.heap.size U U1:=by rw [hU1];exact Joins.below_alloc1 U _
 have hbU2:Below U1.heap.size U1 U2:=by rw [hU2];exact Joins.below_alloc1 U1 _
 have hX:U.heap[x]? = some (.cells #[.slice ad n c,.int .i64 (S:Int),.int .i64 (K:Int)] 46 (0,0)):=by rw [hU,hx];exact heap_alloc_new w _
 have hxU:x < U.heap.size:=(Array.getElem?_eq_some_iff.1 hX).1
 have hGM:U1.heap[gm]? = some (.cells (madeCells #[.bool false] M) 4 (0,0)):=by rw [hU1,hgm];exact heap_alloc_new U _
 have hgmU:gm < U1.heap.size:=(Array.getElem?_eq_some_iff.1 hGM).1
 have hWI:WI w U2 B0 gm gc x n q1 K c ad (S:Int) (K:Int) tx none 0 [] (fun _ _ => false) (List.replicate K 0):=by
  refine ⟨World.ownsRow_nil _ _ _ _,⟨_,(hbU2.block gm hgmU).trans hGM,by rw [size_madeCells,hMe],fun i p hi hp => ?_⟩,?_,((hbU2.block x (by have:=hbU1.size;omega)).trans ((hbU1.block x hxU).trans hX)),?_,fun t ht => by simp at ht,by simp,?_⟩
  ·have:i * q1 + p < M:=by rw [hMe];exact idx_lt hi hp
   simp [madeCells,this,Nat.mod_one]
  ·have h':=World.ownsRow_lit (base:=B0) (e:=3) (size:=1) U1 (madeCells #[.int .i64 0] K) K (by have:=hbU1.size;have:=hbU.size;omega) (by unfold maxLen;omega) (by rw [size_madeCells];omega)
   rw [toList_madeCells_one] at h'
   rw [hU2,hgc]
   simpa using h'
  ·rw [hB0];exact hbU.trans (Joins.below_le (hbU1.trans (Joins.below_le hbU2 hbU1.size)) hbU.size)
  ·have:=hbU.size;have:=hbU1.size;have:=hbU2.size;omega
 have hcW:cW U2 gm M ≤ M:=by
  obtain ⟨arr,h1,_⟩:=hWI.met
  rw [cW_of h1]
  unfold cA
  have:=countP_le (fun k => isF arr[k]?) (List.range M)
  simpa using this
 have a1:IntKind.i64.wrap ((tn:Int) + 1) = (q1:Int):=by rw [wrap_ok _ (by omega) (by omega)];omega
 have a2:IntKind.i64.wrap ((n:Int) * (q1:Int)) = (M:Int):=by
  have e:(n:Int) * (q1:Int) = (M:Int):=by rw [hMe];push_cast;rfl
  rw [e];exact wrap_ok _ (by omega) (by omega)
 obtain ⟨c0,c1,c2⟩:=three_cells hX
 have cc2:U1.cell? ⟨x,2,none⟩ = some (.int .i64 (K:Int)):=(cell_eq (hbU1.block x hxU) _).trans c2
 have HWI:=hid hWI
 have HP:=hid hP
 have HT:=hid hT
 have HM:=hid hm
 have HEV:=hid hev
 have HL:=hid hl
 have HTL:=hid htl
 have HB0:=hid hB0
 have HME:=hid hMe
 have HCW:=hid hcW
 have hq1p:q < q1:=by omega
 have hK2:K ≤ 1002:=by omega
 have hS2:S < n:=by omega
 clear hWI hP hT hm hev hl htl hbU hbU1 hbU2 hX hGM hcW hmay
 have HQ1:=hid hq1
 go_enter Tryz.func62,Tryz.ntmps62
 go_upto_region 1 with fail
 rw [← hU,← hx]
 clear hU hU1 hU2 hgm hgc hx hB0 hMe hq1
 go_wp2_with fail
 clear c0 c1 c2 cc2 hmk hmk2 a1 a2
 go_loopw [12] (fun y wq => ∃ (i:Nat) (cs:List Int),y = .int .i64 (i:Int) ∧ i ≤ K ∧ Hid (WI w wq B0 gm gc x n q1 K c ad (S:Int) (K:Int) tx none 0 [] (fun _ _ => false) cs) ∧ Hid (∀ j,j < i → cs[j]? = some (-1)) ∧ Hid (cW wq gm M ≤ M)) (fun y _ => K - (intOf y).toNat)
 case atStart => exact ⟨0,List.replicate K 0,rfl,by omega,HWI.out,fun j hj => by omega,HCW.out⟩
 case round =>
  clear HWI HCW
  obtain ⟨i,cs,rfl,hi,HWI,HA,HCW⟩:=hrel
  by_cases hil:i < K
  ·have b1:decide ((i:Int) < (K:Int)) = true:=by simp;omega
   have b2:(i:Int) < (K:Int):=by omega
   have ad1:=wrap_ok ((i:Int) + 1) (by omega) (by omega)
   have ht:=row_there HWI.out.cap (j:=i) (m:=1) (by omega) 0 (by omega)
   obtain ⟨vv,hvv⟩:=Option.isSome_iff_exists.1 ht.1
   have hff:=ht.2
   rw [Nat.add_zero] at hvv hff
   have hnew:=HWI.out.setc i (-1)
   have hcl:cs.length = K:=HWI.out.len
   have hcw:cW (wr.setCell ⟨gc,i,none⟩ (.int .i64 (-1))) gm M = cW wr gm M:=cW_same (Below.heap_setCell _ _ _ _ (fun e => by
    obtain ⟨arr,h1,_⟩:=HWI.out.met
    exact own_ne HWI.out.cap h1 (by decide) (by rw [e];rfl)))
   have HNEW:=hid hnew
   have HCL:=hid hcl
   have HCW2:=hid hcw
   clear hnew hcl hcw ht
   go_wp2
   refine ⟨⟨i + 1,cs.set i (-1),by push_cast;rfl,by omega,HNEW.out,fun j hj => ?_,?_⟩,by simp [intOf];omega⟩
   ·by_cases e:i = j
    ·subst e;rw [List.getElem?_set_self (by rw [HCL.out];exact hil)]
    ·rw [List.getElem?_set_ne e];exact HA.out j (by omega)
   ·show _ ≤ _;rw [HCW2.out];exact HCW.out
  ·have b1:decide ((i:Int) < (K:Int)) = false:=by simp;omega
   obtain rfl:K = i:=by omega
   have hcs:cs = List.replicate K (-1):=by
    apply List.ext_getElem?
    intro j
    by_cases hj:j < K
    ·rw [HA.out j hj,List.getElem?_replicate,if_pos hj]
    ·rw [List.getElem?_eq_none (by rw [HWI.out.len];omega),List.getElem?_replicate,if_neg hj]
   subst hcs
   obtain ⟨c0,c1,c2⟩:=three_cells HWI.out.bx
   obtain ⟨V,hV⟩:∃ V,V = wr.alloc (.cells #[.int .i64 (S:Int),.int .i64 (q:Int),.int .i64 0,.int .i64 0] 160):=⟨_,rfl⟩
   have hbV:Below wr.heap.size wr V:=by rw [hV];exact Joins.below_alloc1 wr _
   have hWV:=HWI.out.kept hbV
   have hlit:V.ownsRow B0 160 4 (.slice (some ⟨wr.heap.size,0,none⟩) 1 1) 1 [.int .i64 (S:Int),.int .i64 (q:Int),.int .i64 0,.int .i64 0]:=by rw [hV];exact World.ownsRow_lit (base:=B0) (e:=160) (size:=4) wr #[.int .i64 (S:Int),.int .i64 (q:Int),.int .i64 0,.int .i64 0] 1 HWI.out.lo.2 (by unfold maxLen;omega) rfl
   have HW2:Hid (WI w V B0 gm gc x n q1 K c ad (S:Int) (K:Int) tx (some ⟨wr.heap.size,0,none⟩) 1 [.go S q] (fun _ _ => false) (List.replicate K (-1))):=⟨hlit,hWV.met,hWV.cap,hWV.bx,hWV.bl,fun t ht => by
    obtain rfl:=List.mem_singleton.1 ht
    exact ⟨hS2,by rw [← HTL.out];exact hq⟩,hWV.len,hWV.lo⟩
   have hcw:cW V gm M ≤ M:=by
    obtain ⟨arr,h1,_⟩:=HWI.out.met
    have:cW V gm M = cW wr gm M:=cW_same (hbV.block gm (Array.getElem?_eq_some_iff.1 h1).1)
    rw [this];exact HCW.out
   obtain ⟨zb,hzb⟩:∃ zb,zb = wr.heap.size:=⟨_,rfl⟩
   rw [← hzb] at HW2
   have HCW2:=hid hcw
   clear hbV hWV hlit hcw HWI HA HCW hi hil
   go_upto_region 9 with fail
   rw [← hV,← hzb]
   clear hV hzb c0 c1 c2 b1
   go_loopw [13] (fun u wq => ∃ (N:Nat) (z:Option Addr) (cz:Nat) (st:List TkT) (m:Met) (caps:List Int),u = .slice z N cz ∧ Hid (N = st.length) ∧ Hid (WI w wq B0 gm gc x n q1 K c ad (S:Int) (K:Int) tx z cz st m caps) ∧ Hid (EvT l tx st m caps r) ∧ 3 * cW wq gm M + N ≤ 3 * M + 1) (fun u wq => 3 * cW wq gm M + lenOf u)
   case atStart => exact ⟨1,some ⟨zb,0,none⟩,1,[.go S q],fun _ _ => false,List.replicate K (-1),rfl,rfl,HW2.out,HEV.out,by have:=HCW2.out;omega⟩
   case round =>
    clear HW2 HEV HCW2
    obtain ⟨N,z,cz,st,m,caps,rfl,HN,HWI,HEV,hms⟩:=hrel
    cases st with
    | nil =>
     obtain rfl:N = 0:=HN.out
     have hr:r = none:=by cases HEV.out;rfl
     subst hr
     have b1:decide ((0:Int) < 0) = false:=by decide
     go_wp2
     all_goals go_ret3
     all_goals exact ⟨rfl,by rw [← HB0.out];exact HWI.out.bl⟩
    | cons t st =>
     obtain ⟨N',rfl⟩:∃ N',N = N' + 1:=⟨st.length,HN.out⟩
     have hN':N' = st.length:=by have:=HN.out;simp at this;exact this
     obtain ⟨zb,hzb⟩:∃ zb,z = some ⟨zb,0,none⟩:=by
      rcases HWI.out.row.2 with ⟨_,e⟩ | ⟨g,cap,cur,e,_⟩
      ·simp at e
      ·simp only [Value.slice.injEq] at e;exact ⟨g,e.1⟩
     subst hzb
     have hcz:N' + 1 ≤ cz:=by
      obtain ⟨_,_,e,h1,_⟩:=row_shape HWI.out.row
      simp only [Value.slice.injEq] at e
      obtain ⟨_,_,rfl⟩:=e
      simp at h1
      omega
     have hcell:∀ k,k < 4 → wr.cell? ⟨zb,N' * 4 + k,none⟩ = t.cs[k]?:=fun k hk => by
      rw [hN',HWI.out.row.cellAt (st.length * 4 + k) (by simp;omega)]
      exact stk_topT t st k hk
     have k0:=hcell 0 (by omega)
     have k1:=hcell 1 (by omega)
     have k2:=hcell 2 (by omega)
     have k3:=hcell 3 (by omega)
     rw [Nat.add_zero] at k0
     have b1:decide ((0:Int) < (N':Int) + 1) = true:=by first | (simp;done) | (simp;omega)
     have b1':decide (((N' + 1:Nat):Int) > 0) = true:=by first | (simp;done) | (simp;omega)
     have a3:IntKind.i64.wrap ((N':Int) + 1 - 1) = (N':Int):=by rw [wrap_ok _ (by omega) (by omega)];omega
     have a4:IntKind.i64.wrap (((N' + 1:Nat):Int) - 1) = (N':Int):=by rw [wrap_ok _ (by omega) (by omega)];omega
     have u1:(N':Int) < (N':Int) + 1:=by omega
     have u2:(N':Int) < ((N' + 1:Nat):Int):=by omega
     have u3:(0:Int) ≤ (N':Int):=by omega
     have u4:(N':Int) ≤ (cz:Int):=by omega
     have hok:=HWI.out.ok t (List.mem_cons_self)
     have HPOP:=hid HWI.out.pop
     have HN2:=hid hN'
     have hzw:zb < wr.heap.size:=(HWI.out.row.lt zb rfl).2
     clear hcell hN' HN
     obtain ⟨p0,hp0⟩:∃ p0,p0 = wr.heap.size:=⟨_,rfl⟩
     cases t with
     | un a o =>
      have ha:a < K:=hok
      have k0':wr.cell? ⟨zb,N' * 4,none⟩ = some (.int .i64 0):=k0
      have k1':wr.cell? ⟨zb,N' * 4 + 1,none⟩ = some (.int .i64 0):=k1
      have k2':wr.cell? ⟨zb,N' * 4 + 2,none⟩ = some (.int .i64 ((a:Int) + 1)):=k2
      have k3':wr.cell? ⟨zb,N' * 4 + 3,none⟩ = some (.int .i64 o):=k3
      clear k0 k1 k2 k3
      have hev:EvT l tx st m (caps.set a o) r:=by cases HEV.out;assumption
      have hb0:=Joins.below_alloc1 wr (.cells #[.int .i64 0,.int .i64 0,.int .i64 ((a:Int) + 1),.int .i64 o] 160)
      have hW0:=HPOP.out.kept hb0
      obtain ⟨V0,hV0⟩:∃ V0,V0 = wr.alloc (.cells #[.int .i64 0,.int .i64 0,.int .i64 ((a:Int) + 1),.int .i64 o] 160):=⟨_,rfl⟩
      rw [← hV0] at hW0 hb0
      have hX0:V0.heap[p0]? = some (.cells #[.int .i64 0,.int .i64 0,.int .i64 ((a:Int) + 1),.int .i64 o] 160 (0,0)):=by rw [hV0,hp0];exact heap_alloc_new wr _
      have ht:=row_there hW0.cap (j:=a) (m:=1) (by omega) 0 (by omega)
      obtain ⟨vv,hvv⟩:=Option.isSome_iff_exists.1 ht.1
      have hff:=ht.2
      rw [Nat.add_zero] at hvv hff
      have hnew:=hW0.setc a o
      have hcw0:cW V0 gm M = cW wr gm M:=cW_same (by obtain ⟨arr,h1,_⟩:=HPOP.out.met;exact hb0.block gm (Array.getElem?_eq_some_iff.1 h1).1)
      have hcw:cW (V0.setCell ⟨gc,a,none⟩ (.int .i64 o)) gm M = cW V0 gm M:=cW_same (Below.heap_setCell _ _ _ _ (fun e => by
       obtain ⟨arr,h1,_⟩:=hW0.met
       exact own_ne hW0.cap h1 (by decide) (by rw [e];rfl)))
      have HNEW:=hid hnew
      have HEV2:=hid hev
      have HCW0:=hid hcw0
      have HCW:=hid hcw
      have d0:=Joins.cell_of_block hX0 0
      have d1:=Joins.cell_of_block hX0 1
      have d2:=Joins.cell_of_block hX0 2
      have d3:=Joins.cell_of_block hX0 3
      have g1:decide ((0:Int) < (a:Int) + 1) = true:=by first | (simp;done) | (simp;omega)
      have g2:decide ((a:Int) + 1 > 0) = true:=by first | (simp;done) | (simp;omega)
      have a5:IntKind.i64.wrap ((a:Int) + 1 - 1) = (a:Int):=by rw [wrap_ok _ (by omega) (by omega)];omega
      have a6:(a:Int) < (K:Int):=by omega
      clear hnew hev hcw hcw0 ht hW0 hb0 hX0 HPOP HWI HEV hok
      go_upto_region 12 with fail
      rw [← hV0,← hp0]
      clear hV0 hp0 k0' k1' k2' k3'
      go_wp2
      have h1:=HCW.out
      have h2:=HCW0.out
      refine ⟨⟨N',_,cz,st,m,caps.set a o,rfl,HN2.out,HNEW.out,HEV2.out,?_⟩,?_⟩
      ·rw [h1,h2];omega
      ·simp only [lenOf];rw [h1,h2];simp [lenOf]
     | go i p =>
      obtain ⟨hi,hp⟩:i < n ∧ p ≤ tx.length:=hok
      have k0':wr.cell? ⟨zb,N' * 4,none⟩ = some (.int .i64 (i:Int)):=k0
      have k1':wr.cell? ⟨zb,N' * 4 + 1,none⟩ = some (.int .i64 (p:Int)):=k1
      have k2':wr.cell? ⟨zb,N' * 4 + 2,none⟩ = some (.int .i64 0):=k2
      have k3':wr.cell? ⟨zb,N' * 4 + 3,none⟩ = some (.int .i64 0):=k3
      clear k0 k1 k2 k3
      have hpq:p < q1:=by have:=HQ1.out;have:=HTL.out;omega
      have hq21:q1 ≤ 21:=by have:=HQ1.out;omega
      have hn20:n ≤ 20000:=by have:=HM.out.1;have:=HL.out;omega
      obtain ⟨j0,hj0⟩:∃ j0,j0 = i * q1:=⟨_,rfl⟩
      obtain ⟨j,hj⟩:∃ j,j = j0 + p:=⟨_,rfl⟩
      have hjM:j < M:=by rw [hj,hj0,HME.out];exact idx_lt hi hpq
      have hj0M:j0 < M:=by omega
      have e1:IntKind.i64.wrap ((i:Int) * (q1:Int)) = (j0:Int):=by
       have e:(i:Int) * (q1:Int) = (j0:Int):=by rw [hj0];push_cast;rfl
       rw [e];exact wrap_ok _ (by omega) (by omega)
      have e2:IntKind.i64.wrap ((j0:Int) + (p:Int)) = (j:Int):=by rw [wrap_ok _ (by omega) (by omega)];omega
      have e3:(j:Int) < (M:Int):=by omega
      have hb0:=Joins.below_alloc1 wr (.cells #[.int .i64 (i:Int),.int .i64 (p:Int),.int .i64 0,.int .i64 0] 160)
      have hW0:=HPOP.out.kept hb0
      obtain ⟨V0,hV0⟩:∃ V0,V0 = wr.alloc (.cells #[.int .i64 (i:Int),.int .i64 (p:Int),.int .i64 0,.int .i64 0] 160):=⟨_,rfl⟩
      rw [← hV0] at hW0 hb0
      have hX0:V0.heap[p0]? = some (.cells #[.int .i64 (i:Int),.int .i64 (p:Int),.int .i64 0,.int .i64 0] 160 (0,0)):=by rw [hV0,hp0];exact heap_alloc_new wr _
      have hcw0:cW V0 gm M = cW wr gm M:=cW_same (by obtain ⟨arr,h1,_⟩:=HPOP.out.met;exact hb0.block gm (Array.getElem?_eq_some_iff.1 h1).1)
      have hmA:=hW0.metAt hi hpq
      rw [← hj0,← hj] at hmA
      have d0:=Joins.cell_of_block hX0 0
      have d1:=Joins.cell_of_block hX0 1
      have d2:=Joins.cell_of_block hX0 2
      have d3:=Joins.cell_of_block hX0 3
      have hmc:=hmA.1
      have hmf:=hmA.2
      have HW0:=hid hW0
      have HX0:=hid hX0
      have HCW0:=hid hcw0
      have HJ:=hid (And.intro hj0 hj)
      clear hb0 hW0 hX0 hcw0 hmA hj0 hj HPOP HWI
      have hzp:zb < p0:=by rw [hp0];exact hzw
      go_upto_region 14 with fail
      rw [← hV0,← hp0]
      clear hV0 hp0 k0' k1' k2' k3' b1 b1' a3 a4 u1 u2
      cases hm:m i p with
      | true =>
       rw [hm] at hmc
       have hev:EvT l tx st m caps r:=by
        cases HEV.out with
        | old _ _ _ _ _ _ _ h => exact h
        | fit _ _ _ _ _ _ h => rw [hm] at h;cases h
        | step _ _ _ _ _ _ _ h => rw [hm] at h;cases h
       have HEV2:=hid hev
       clear hev
       go_wp2
       have h2:=HCW0.out
       refine ⟨⟨N',_,cz,st,m,caps,rfl,HN2.out,HW0.out,HEV2.out,?_⟩,?_⟩
       ·rw [h2];omega
       ·simp only [lenOf];rw [h2];simp [lenOf]
      | false =>
       rw [hm] at hmc
       obtain ⟨hW1,hcw1⟩:=HW0.out.mark hi hpq hm
       rw [← HJ.out.1,← HJ.out.2,← HME.out] at hcw1
       rw [← HJ.out.1,← HJ.out.2] at hW1
       obtain ⟨V1,hV1⟩:∃ V1,V1 = V0.setCell ⟨gm,j,none⟩ (.bool true):=⟨_,rfl⟩
       rw [← hV1] at hW1 hcw1
       have hX1:V1.heap[p0]? = some (.cells #[.int .i64 (i:Int),.int .i64 (p:Int),.int .i64 0,.int .i64 0] 160 (0,0)):=by
        rw [hV1]
        refine (Below.heap_setCell _ _ _ _ (fun e => ?_)).trans HX0.out
        obtain ⟨arr,h1,_⟩:=HW0.out.met
        have h2:=HX0.out
        simp only at e
        rw [e,h1] at h2
        simp at h2
       have hlt:i < l.length:=by have:=HL.out;omega
       obtain ⟨g,o,ND,e,hg,hcs⟩:=HP.out.mem (by omega)
       subst e
       have hbl:Below w.heap.size w V1:=by rw [← HB0.out];exact hW1.bl
       obtain ⟨n0,n1,n2,n3,n4⟩:=(hcs i hlt).1.kept (hbl.block g hg)
       have hI:=(hcs i hlt).2.kept hbl (B':=V1.heap.size) hbl.size
       have hokI:=HM.out.2.2.2.2.2 l[i] (List.getElem_mem hlt)
       obtain ⟨I,hIe⟩:∃ I,I = l[i]:=⟨_,rfl⟩
       rw [← hIe] at hI hokI
       have hgI:l[i]? = some I:=by rw [hIe];exact List.getElem?_eq_getElem hlt
       obtain ⟨Mv,hMv⟩:∃ Mv,Mv = ND i:=⟨_,rfl⟩
       rw [← hMv] at n0 n1 n2 n3 n4 hI
       clear hMv hcs hIe
       obtain ⟨op,xx,yy,aa,r1,r2,r3⟩:=Mv
       dsimp only at n0 n1 n2 n3 n4
       have q0:=hI.op
       have q2:=hI.x
       have q3:=hI.y
       have q4:=hI.a
       dsimp only at q0 q2 q3 q4
       have hsm:r2 * 16 ≤ 140737488351232:=hI.sm
       have hrlen:r2 = I.R.length:=hI.len
       have hxy:=ok_xT hokI
       obtain ⟨X,hX⟩:∃ X:Nat,xx = (X:Int):=⟨xx.toNat,by omega⟩
       obtain ⟨Y,hY⟩:∃ Y:Nat,yy = (Y:Int):=⟨yy.toNat,by omega⟩
       subst hX hY
       have hXe:I.x.toNat = X:=by omega
       have hYe:I.y.toNat = Y:=by omega
       have hops:=ok_op hokI
       rw [← q0] at hops
       obtain ⟨c0,c1,c2⟩:=three_cells hW1.bx
       obtain ⟨V2,hV2⟩:∃ V2,V2 = V1.alloc (.cells #[.int .i64 op,.int .i64 (X:Int),.int .i64 (Y:Int),.int .i64 aa,.slice r1 r2 r3] 86):=⟨_,rfl⟩
       obtain ⟨p1,hp1⟩:∃ p1,p1 = V1.heap.size:=⟨_,rfl⟩
       have hb2:Below V1.heap.size V1 V2:=by rw [hV2];exact Joins.below_alloc1 V1 _
       have HW2:=hid (hW1.kept hb2)
       have hX2:V2.heap[p0]? = some (.cells #[.int .i64 (i:Int),.int .i64 (p:Int),.int .i64 0,.int .i64 0] 160 (0,0)):=(hb2.block p0 (Array.getElem?_eq_some_iff.1 hX1).1).trans hX1
       have hQ2:V2.heap[p1]? = some (.cells #[.int .i64 op,.int .i64 (X:Int),.int .i64 (Y:Int),.int .i64 aa,.slice r1 r2 r3] 86 (0,0)):=by rw [hV2,hp1];exact heap_alloc_new V1 _
       have hcw2:cW V2 gm M = cW V1 gm M:=cW_same (by obtain ⟨arr,h1,_⟩:=hW1.met;exact hb2.block gm (Array.getElem?_eq_some_iff.1 h1).1)
       have hms2:3 * cW V2 gm M + N' + 3 ≤ 3 * cW wr gm M + N':=by have:=HCW0.out;omega
       have HIM:=hid (hI.kept hb2 hb2.size)
       have HX2:=hid hX2
       have HQ2:=hid hQ2
       have HRL:=hid hrlen
       have HOK:=hid hokI
       have HGI:=hid hgI
       have HXY:=hid (And.intro hXe hYe)
       have HQA:=hid q4
       have HQ0:=hid q0
       have hgV:g < V1.heap.size:=by have:=hbl.size;omega
       have hi2:(i:Int) < (n:Int):=by omega
       have HM1:=hid hm
       have hzp0:zb < p0:=hzp
       have dd0:=Joins.cell_of_block hX1 0
       clear hW1 hX1 hI hrlen hokI hgI hXe hYe q0 q2 q3 q4 hxy hb2 hX2 hQ2 hcw1 hcw2 HW0 HX0 HCW0 hbl hm
       go_upto_region 16 with fail
       rw [← hV1]
       clear hV1 d0 d1 d2 d3 hmc hmf
       go_upto_region 17 with fail
       rw [← hV2,← hp1]
       clear hV2 hp1 dd0 n0 n1 n2 n3 n4 c0 c1 c2 e1 e2 e3
       obtain ⟨d0,d1,d2,d3,d4⟩:=five HQ2.out
       have f0:=Joins.cell_of_block HX2.out 0
       have f1:=Joins.cell_of_block HX2.out 1
       have hstep:I.op ≠ 5 → EvT l tx ((nxT tx I p caps).1 ++ st) (mark m i p) (nxT tx I p caps).2 r:=fun h5 => by
        cases HEV.out with
        | old _ _ _ _ _ _ h => rw [HM1.out] at h;cases h
        | fit _ _ _ _ _ I' _ h2 h3 => rw [HGI.out] at h2;cases h2;exact absurd h3 h5
        | step _ _ _ _ _ _ I' _ h2 _ h => rw [HGI.out] at h2;cases h2;exact h
       have HST:=hid hstep
       have hokn:=nx_ok (tx:=tx) (n:=l.length) (c:=K) caps HOK.out hp rfl
       rw [← HL.out] at hokn
       have HOKN:=hid hokn
       clear hstep hokn
       rcases hops with rfl | rfl | rfl | rfl | rfl | rfl | rfl
       ·by_cases hpl:p < tn
        ·have b1:decide ((p:Int) < (tn:Int)) = true:=by simp;omega
         have b2:(p:Int) < (tn:Int):=by omega
         obtain ⟨tb,toff,hte,htb,htc⟩:∃ b off,tad = some ⟨b,off,none⟩ ∧ b < w.heap.size ∧ ∀ k,k < tn → w.cell? ⟨b,off + k,none⟩ = some (.int .i64 (tx.getD k 0)):=by
          obtain ⟨_,_,h | h⟩:=HT.out
          ·omega
          ·exact h
         subst hte
         have hbl2:Below w.heap.size w V2:=by rw [← HB0.out];exact HW2.out.bl
         have t0:V2.cell? ⟨tb,toff + p,none⟩ = some (.int .i64 (tx.getD p 0)):=(cell_eq (hbl2.block tb htb) _).trans (htc p hpl)
         have htbV:tb < V2.heap.size:=by have:=hbl2.size;omega
         have hp0V:p0 < V2.heap.size:=(Array.getElem?_eq_some_iff.1 HX2.out).1
         have hp1V:p1 < V2.heap.size:=(Array.getElem?_eq_some_iff.1 HQ2.out).1
         obtain ⟨rn,hrn⟩:∃ rn,rn = tx.getD p 0:=⟨_,rfl⟩
         rw [← hrn] at t0
         have HRN:=hid hrn
         clear hrn
         have HRR:Hid (∀ W:World,W.heap = V2.heap → W.os = V2.os → W.tape = V2.tape → W.output = V2.output → Calls Tryz.prog 83 #[.slice r1 r2 r3,.int .i64 rn] W fun e w' => e = .returned (.bool (hsB I.R rn)) ∧ Below V2.heap.size V2 w'):=by
          intro W e1 e2 e3 e4
          have hbW:Below V2.heap.size V2 W:=⟨e2,e3,e4,by rw [e1];exact Nat.le_refl _,fun k hk => by rw [e1]⟩
          refine (has56 I.R rn r1 r2 r3 W HRL.out hsm (HIM.out.row.below hbW (Nat.le_refl _) hbW.size)).mono ?_
          rintro e w' ⟨h1,h2⟩
          exact ⟨h1,hbW.trans (Joins.below_le h2 hbW.size)⟩
         clear hbl2 htc
         go_upto_region 19 with fail
         go_region_held3 (fun W => W.cell? ⟨p0,1,none⟩ = some (.int .i64 (p:Int)) ∧ W.cell? ⟨p1,4,none⟩ = some (.slice r1 r2 r3) ∧ W.cell? ⟨tb,toff + p,none⟩ = some (.int .i64 rn)) (first | (exact ⟨s0,s1,s2⟩) | (simp [*];done)) (first | (go_at_call 83;(with_reducible refine (HRR.out _ ?_ ?_ ?_ ?_).mono ?_);(rfl);(rfl);(rfl);(rfl);rintro e w2 ⟨rfl,hb2⟩;have s0:=(cell_eq (hb2.block p0 hp0V) _).trans f1;have s1:=(cell_eq (hb2.block p1 hp1V) _).trans d4;have s2:=(cell_eq (hb2.block tb htbV) _).trans t0;have HBB:=hid hb2;clear hb2))
         have HW3:=hid (HW2.out.kept HBB.out)
         have hcw3:cW w2 gm M = cW V2 gm M:=cW_same (by obtain ⟨arr,h1,_⟩:=HW2.out.met;exact HBB.out.block gm (Array.getElem?_eq_some_iff.1 h1).1)
         have s3:w2.cell? ⟨p1,1,none⟩ = some (.int .i64 (X:Int)):=(cell_eq (HBB.out.block p1 hp1V) _).trans d1
         have hms4:=hms2
         rw [← hcw3] at hms4
         clear d0 d1 d2 d3 d4 f0 f1 t0 s1 s2 hcw3 HRR
         have a7:=wrap_ok ((p:Int) + 1) (by omega) (by omega)
         cases hh:hsB I.R rn with
         | true =>
          have hnx:nxT tx I p caps = ([.go X (p + 1)],caps):=by
           obtain ⟨x1,x2⟩:=HXY.out
           have hq:=HQ0.out
           unfold nxT
           rw [← hq]
           have h1:(decide (p < tx.length) && hsB I.R (tx.getD p 0)) = true:=by rw [← HRN.out,hh,← HTL.out];simp;omega
           rw [if_pos rfl,if_pos h1,x1]
          have hev:=HST.out (by rw [← HQ0.out];decide)
          have hokt:=HOKN.out
          rw [hnx] at hev hokt
          have hrow:=HW3.out.row
          rw [← HN2.out] at hrow
          have HO6:Hid ((w2.alloc (.cells #[.int .i64 (X:Int),.int .i64 ((p:Int) + 1),.int .i64 0,.int .i64 0] 160)).ownsRow B0 160 4 (.slice (some ⟨zb,0,none⟩) N' cz) N' (stkT st)):=hrow.alloc _
          have HL6:Hid ((w2.alloc (.cells #[.int .i64 (X:Int),.int .i64 ((p:Int) + 1),.int .i64 0,.int .i64 0] 160)).ownsRow 0 160 4 (.slice (some ⟨w2.heap.size,0,none⟩) 1 1) 1 (stkT [.go X (p + 1)])):=World.ownsRow_lit (base:=0) (e:=160) (size:=4) w2 #[.int .i64 (X:Int),.int .i64 ((p:Int) + 1),.int .i64 0,.int .i64 0] 1 (Nat.zero_le _) (by unfold maxLen;omega) rfl
          have hone:∀ u ∈ stkT [.go X (p + 1)],u.oneCell' = true:=fun u hu => by
           simp only [stkT,List.nil_append,List.mem_append] at hu
           first | exact (hu.elim (TkT.one _ u) (TkT.one _ u)) | exact TkT.one _ u hu
          have hbs:B0 ≤ (w2.alloc (.cells #[.int .i64 (X:Int),.int .i64 ((p:Int) + 1),.int .i64 0,.int .i64 0] 160)).heap.size:=by have:=HW3.out.lo.2;(try simp) <;> omega
          clear hrow
          go_wp2_with (at_builtin;refine wpList_append_row rfl (.tmp 113) (.tmp 120) 161 rfl B0 160 i100 Z4 4 32 Tryz.underlying161 hi100 hz1000 hz1001 hz1002 rfl (by decide) (.slice (some ⟨zb,0,none⟩) N' cz) N' (stkT st) rfl HO6.out (.slice (some ⟨w2.heap.size,0,none⟩) 1 1) 1 0 (stkT [.go X (p + 1)]) rfl HL6.out (by intro h;omega) hone (by unfold maxLen;omega) (by omega) hbs ?_;intro v7 w7 ho7 hf7 hn7;obtain ⟨y1,y3,rfl,hy3⟩:=row_shape ho7.out;clear hy3 hn7)
          have hf:=hf7.out
          have ho:=ho7.out
          rw [HN2.out] at hf ho
          obtain ⟨hpush,hcp⟩:=HW3.out.push (V:=w2.alloc (.cells #[.int .i64 (X:Int),.int .i64 ((p:Int) + 1),.int .i64 0,.int .i64 0] 160)) (ts:=[.go X (p + 1)]) (by simp) (fun b hb => heap_alloc_old _ _ hb) rfl rfl rfl hf ho hokt
          rw [← HME.out] at hcp
          have hms3:=hms4
          rw [← hcp] at hms3
          obtain ⟨st2,hst2⟩:∃ st2,st2 = [.go X (p + 1)] ++ st:=⟨_,rfl⟩
          rw [← hst2] at hpush
          have hev2:EvT l tx st2 (mark m i p) caps r:=by rw [hst2];exact hev
          have hN3:N' + 1 = st2.length:=by rw [hst2,List.length_append,HN2.out];simp;omega
          refine ⟨⟨N' + 1,y1,y3,st2,mark m i p,caps,rfl,hN3,hpush,hev2,by omega⟩,?_⟩
          simp only [lenOf]
          first | omega | (simp;omega)
         | false =>
          have hnx:nxT tx I p caps = ([],caps):=by
           have hq:=HQ0.out
           unfold nxT
           rw [← hq]
           have h1:¬ (decide (p < tx.length) && hsB I.R (tx.getD p 0)) = true:=by rw [← HRN.out,hh];simp
           rw [if_pos rfl,if_neg h1]
          have hcw3:(0:Nat) = 0:=rfl
          have hev:=HST.out (by rw [← HQ0.out];decide)
          rw [hnx] at hev
          have HEV2:=hid hev
          clear hev hnx
          go_wp2
          refine ⟨⟨N',_,cz,st,mark m i p,caps,rfl,HN2.out,HW3.out,HEV2.out,by (try simp only [hcw3]) <;> omega⟩,?_⟩
          simp only [lenOf]
          (try simp only [hcw3]) <;> first | omega | (simp;omega)
        ·have b1:decide ((p:Int) < (tn:Int)) = false:=by simp;omega
         have hnx:nxT tx I p caps = ([],caps):=by
          have hq:=HQ0.out
          unfold nxT
          rw [← hq]
          have h1:¬ (decide (p < tx.length) && hsB I.R (tx.getD p 0)) = true:=by rw [← HTL.out];simp;intro h;omega
          rw [if_pos rfl,if_neg h1]
         have hev:=HST.out (by rw [← HQ0.out];decide)
         rw [hnx] at hev
         have HEV2:=hid hev
         clear hev hnx
         go_upto_region 19 with fail
         go_quiet (fail)
         go_wp2
         refine ⟨⟨N',_,cz,st,mark m i p,caps,rfl,HN2.out,HW2.out.kept (below_drewN' (Below.refl _ _) _),HEV2.out,?_⟩,?_⟩
         ·show 3 * cW V2 gm M + N' ≤ _;omega
         ·simp only [lenOf];show 3 * cW V2 gm M + N' < _;omega
       ·have hnx:nxT tx I p caps = ([.go X p,.go Y p],caps):=by
         obtain ⟨x1,x2⟩:=HXY.out
         have hq:=HQ0.out
         unfold nxT
         rw [← hq]
         simp [x1,x2]
        have hev:=HST.out (by rw [← HQ0.out];decide)
        have hokt:=HOKN.out
        rw [hnx] at hev hokt
        have hrow:=HW2.out.row
        rw [← HN2.out] at hrow
        have HO6:Hid ((V2.alloc (.cells #[.int .i64 (Y:Int),.int .i64 (p:Int),.int .i64 0,.int .i64 0,.int .i64 (X:Int),.int .i64 (p:Int),.int .i64 0,.int .i64 0] 160)).ownsRow B0 160 4 (.slice (some ⟨zb,0,none⟩) N' cz) N' (stkT st)):=hrow.alloc _
        have HL6:Hid ((V2.alloc (.cells #[.int .i64 (Y:Int),.int .i64 (p:Int),.int .i64 0,.int .i64 0,.int .i64 (X:Int),.int .i64 (p:Int),.int .i64 0,.int .i64 0] 160)).ownsRow 0 160 4 (.slice (some ⟨V2.heap.size,0,none⟩) 2 2) 2 (stkT [.go X p,.go Y p])):=World.ownsRow_lit (base:=0) (e:=160) (size:=4) V2 #[.int .i64 (Y:Int),.int .i64 (p:Int),.int .i64 0,.int .i64 0,.int .i64 (X:Int),.int .i64 (p:Int),.int .i64 0,.int .i64 0] 2 (Nat.zero_le _) (by unfold maxLen;omega) rfl
        have hone:∀ u ∈ stkT [.go X p,.go Y p],u.oneCell' = true:=fun u hu => by
         simp only [stkT,List.nil_append,List.mem_append] at hu
         first | exact (hu.elim (TkT.one _ u) (TkT.one _ u)) | exact TkT.one _ u hu
        have hbs:B0 ≤ (V2.alloc (.cells #[.int .i64 (Y:Int),.int .i64 (p:Int),.int .i64 0,.int .i64 0,.int .i64 (X:Int),.int .i64 (p:Int),.int .i64 0,.int .i64 0] 160)).heap.size:=by have:=HW2.out.lo.2;(try simp) <;> omega
        clear hrow
        go_wp2_with (at_builtin;refine wpList_append_row rfl (.tmp 124) (.tmp 135) 161 rfl B0 160 i100 Z4 4 32 Tryz.underlying161 hi100 hz1000 hz1001 hz1002 rfl (by decide) (.slice (some ⟨zb,0,none⟩) N' cz) N' (stkT st) rfl HO6.out (.slice (some ⟨V2.heap.size,0,none⟩) 2 2) 2 0 (stkT [.go X p,.go Y p]) rfl HL6.out (by intro h;omega) hone (by unfold maxLen;omega) (by omega) hbs ?_;intro v7 w7 ho7 hf7 hn7;obtain ⟨y1,y3,rfl,hy3⟩:=row_shape ho7.out;clear hy3 hn7)
        have hf:=hf7.out
        have ho:=ho7.out
        rw [HN2.out] at hf ho
        obtain ⟨hpush,hcp⟩:=HW2.out.push (V:=V2.alloc (.cells #[.int .i64 (Y:Int),.int .i64 (p:Int),.int .i64 0,.int .i64 0,.int .i64 (X:Int),.int .i64 (p:Int),.int .i64 0,.int .i64 0] 160)) (ts:=[.go X p,.go Y p]) (by simp) (fun b hb => heap_alloc_old _ _ hb) rfl rfl rfl hf ho hokt
        rw [← HME.out] at hcp
        have hms3:=hms2
        rw [← hcp] at hms3
        obtain ⟨st2,hst2⟩:∃ st2,st2 = [.go X p,.go Y p] ++ st:=⟨_,rfl⟩
        rw [← hst2] at hpush
        have hev2:EvT l tx st2 (mark m i p) caps r:=by rw [hst2];exact hev
        have hN3:N' + 2 = st2.length:=by rw [hst2,List.length_append,HN2.out];simp;omega
        refine ⟨⟨N' + 2,y1,y3,st2,mark m i p,caps,rfl,hN3,hpush,hev2,by omega⟩,?_⟩
        simp only [lenOf]
        first | omega | (simp;omega)
       ·have hcp:=ok_cap HOK.out HQ0.out.symm
        rw [← HQA.out] at hcp
        obtain ⟨A,hA⟩:∃ A:Nat,aa = (A:Int):=⟨aa.toNat,by omega⟩
        subst hA
        have hAK:A < K:=by omega
        have hAe:I.a.toNat = A:=by rw [← HQA.out];omega
        have hnx:nxT tx I p caps = ([.go X p,.un A (caps.getD A 0)],caps.set A (p:Int)):=by
         obtain ⟨x1,x2⟩:=HXY.out
         have hq:=HQ0.out
         unfold nxT
         rw [← hq]
         simp [x1,x2,hAe]
        have hev:=HST.out (by rw [← HQ0.out];decide)
        have hokt:=HOKN.out
        rw [hnx] at hev hokt
        have HEV2:=hid hev
        have HOKT:=hid hokt
        have hrow:=HW2.out.row
        rw [← HN2.out] at hrow
        have gA:V2.cell? ⟨gc,A,none⟩ = some (.int .i64 (caps.getD A 0)):=by
         rw [HW2.out.cap.cellAt A (by omega)]
         have:A < caps.length:=by rw [HW2.out.len];exact hAK
         simp [List.getD_eq_getElem?_getD,List.getElem?_eq_getElem this]
        obtain ⟨od,hod⟩:∃ od,od = caps.getD A 0:=⟨_,rfl⟩
        rw [← hod] at gA
        have HOD:=hid hod
        have HO6:Hid ((V2.drew.alloc (.cells #[.int .i64 0,.int .i64 0,.int .i64 ((A:Int) + 1),.int .i64 od,.int .i64 (X:Int),.int .i64 (p:Int),.int .i64 0,.int .i64 0] 160)).ownsRow B0 160 4 (.slice (some ⟨zb,0,none⟩) N' cz) N' (stkT st)):=(hrow.drew).alloc _
        have a8:=wrap_ok ((A:Int) + 1) (by omega) (by omega)
        have a9:(A:Int) < (K:Int):=by omega
        have hlo2:=HW2.out.lo.2
        have hp0V:p0 < V2.heap.size:=(Array.getElem?_eq_some_iff.1 HX2.out).1
        have hp1V:p1 < V2.heap.size:=(Array.getElem?_eq_some_iff.1 HQ2.out).1
        have hgcV:gc < V2.heap.size:=(HW2.out.cap.lt gc rfl).2
        have hp0z:(Value.slice (some ⟨zb,0,none⟩) N' cz).ownBlock ≠ some p0:=fun e => by
         have e':zb = p0:=by simpa [Value.ownBlock] using e
         have h1:=HX2.out
         have h2:=hrow.lt zb rfl
         rw [e'] at h2
         exact absurd hzp0 (by omega)
        have hp1z:(Value.slice (some ⟨zb,0,none⟩) N' cz).ownBlock ≠ some p1:=own_ne hrow HQ2.out (by decide)
        have hgcz:(Value.slice (some ⟨zb,0,none⟩) N' cz).ownBlock ≠ some gc:=by
         rcases HW2.out.cap.2 with ⟨e,_⟩ | ⟨g',cap,cur,e,_,hg',_⟩
         ·cases e
         ·simp only [Value.slice.injEq,Option.some.injEq,Addr.mk.injEq] at e
          obtain ⟨⟨rfl,_⟩,_⟩:=e
          exact own_ne hrow hg' (by decide)
        clear hnx hev hokt hrow hod
        go_upto_region 25 with fail
        refine wp_region_lex 15 17 (fun W => W.cell? ⟨p1,3,none⟩ = some (.int .i64 (A:Int)) ∧ W.cell? ⟨p1,1,none⟩ = some (.int .i64 (X:Int)) ∧ W.cell? ⟨p0,1,none⟩ = some (.int .i64 (p:Int)) ∧ W.cell? ⟨gc,A,none⟩ = some (.int .i64 od)) (by kernel_rfl) (by kernel_rfl) (by decide) (by kernel_rfl) (by kernel_rfl) ⟨d3,d1,f1,gA⟩ ?_
        simp only [List.take_succ_cons,List.take_zero,List.drop_succ_cons,List.drop_zero]
        iterate 15
         refine lex_cons ?_ rfl (fun W hW => ?_) (fun _ _ _ h => h) ?_
         rotate_left
         ·obtain ⟨s0,s1,s2,s3⟩:=hW
          go_simp <;> with_reducible rfl
         simp only [Act.put,List.setIfInBounds_toArray,List.set_cons_zero,List.set_cons_succ]
        refine lex_nil (tail_cons fun K' hK => ?_)
        go_simp
        refine hK.out _ _ (fun _ => ⟨by simp [d3,hp1V,World.cell?_alloc_lt],by simp [d1,hp1V,World.cell?_alloc_lt],by simp [f1,hp0V,World.cell?_alloc_lt],by simp [gA,hgcV,World.cell?_alloc_lt]⟩) (tail_cons fun K' hK => ?_)
        refine step_append_row rfl (.tmp 139) (.tmp 154) 161 rfl B0 160 i100 Z4 4 32 Tryz.underlying161 hi100 hz1000 hz1001 hz1002 rfl (by decide) (.slice (some ⟨zb,0,none⟩) N' cz) N' (stkT st) (by simp [Act.eval,Act.put]) (by exact HO6.out) V2.heap.size 2 2 #[.int .i64 0,.int .i64 0,.int .i64 ((A:Int) + 1),.int .i64 od,.int .i64 (X:Int),.int .i64 (p:Int),.int .i64 0,.int .i64 0] 160 (by simp [Act.eval,Act.put]) (by exact heap_alloc_new V2.drew _) rfl (by decide) (by simp [Value.oneCell']) (by unfold maxLen;omega) (by omega) (by (try simp) <;> omega) ?_
        intro v7 w7 ho7 hf7
        obtain ⟨y1,y3,rfl,_⟩:=row_shape ho7.out
        have ee1:w7.heap[p1]? = V2.heap[p1]?:=(hf7.out.block p1 (by (try simp) <;> omega) hp1z).trans (heap_alloc_old _ _ (by (try simp) <;> omega))
        have ee0:w7.heap[p0]? = V2.heap[p0]?:=(hf7.out.block p0 (by (try simp) <;> omega) hp0z).trans (heap_alloc_old _ _ (by (try simp) <;> omega))
        have eec:w7.heap[gc]? = V2.heap[gc]?:=(hf7.out.block gc (by (try simp) <;> omega) hgcz).trans (heap_alloc_old _ _ (by (try simp) <;> omega))
        have s0:=(cell_eq ee1 3).trans d3
        have s1:=(cell_eq ee1 1).trans d1
        have s2:=(cell_eq ee0 1).trans f1
        have s3:=(cell_eq eec A).trans gA
        clear ee1 ee0 eec d0 d1 d2 d3 d4 f0 f1 gA
        refine hK.out _ _ (fun _ => ⟨s0,s1,s2,s3⟩) (tail_cons fun K' hK => ?_)
        simp only [Act.put,List.setIfInBounds_toArray,List.set_cons_zero,List.set_cons_succ]
        go_simp
        refine hK.out _ _ (fun h => absurd rfl h) (tail_nil ?_)
        have hf:=hf7.out
        have ho:=ho7.out
        rw [HN2.out] at hf ho
        obtain ⟨hpush,hcpp⟩:=HW2.out.push (V:=V2.drew.alloc (.cells #[.int .i64 0,.int .i64 0,.int .i64 ((A:Int) + 1),.int .i64 od,.int .i64 (X:Int),.int .i64 (p:Int),.int .i64 0,.int .i64 0] 160)) (ts:=[.go X p,.un A od]) (by simp) (fun b hb => heap_alloc_old _ _ hb) rfl rfl rfl hf ho (by rw [HOD.out];exact HOKT.out)
        rw [← HME.out] at hcpp
        have hset:=hpush.setc A (p:Int)
        have hcs:cW (w7.setCell ⟨gc,A,none⟩ (.int .i64 (p:Int))) gm M = cW V2 gm M:=by
         rw [← hcpp]
         refine cW_same (Below.heap_setCell _ _ _ _ (fun e => ?_))
         obtain ⟨arr,h1,_⟩:=hpush.met
         exact own_ne hpush.cap h1 (by decide) (by rw [e];rfl)
        have hff:=(row_there hpush.cap (j:=A) (m:=1) (by omega) 0 (by omega)).2
        rw [Nat.add_zero] at hff
        have HSET:=hid hset
        have HCS:=hid hcs
        clear hpush hset hcs hf ho hcpp
        go_wp2
        obtain ⟨st2,hst2⟩:∃ st2,st2 = [TkT.go X p,TkT.un A od] ++ st:=⟨_,rfl⟩
        have hset:=HSET.out
        rw [← hst2] at hset
        have hev2:EvT l tx st2 (mark m i p) (caps.set A (p:Int)) r:=by rw [hst2,HOD.out];exact HEV2.out
        have hN3:N' + 2 = st2.length:=by rw [hst2,List.length_append,HN2.out];simp;omega
        have hms4:=hms2
        rw [← HCS.out] at hms4
        refine ⟨⟨N' + 2,y1,y3,st2,mark m i p,caps.set A (p:Int),rfl,hN3,hset,hev2,by omega⟩,?_⟩
        simp only [lenOf]
        first | omega | (simp;omega)
       ·have HRA:Hid (∀ W:World,W.heap = V2.heap → Calls Tryz.prog 84 #[.slice tad tn tc,.int .i64 (p:Int)] W fun e w' => e = .returned (.int .i64 (atP tx p)) ∧ w' = W):=by
         intro W e1
         have hbl2:Below w.heap.size w V2:=by rw [← HB0.out];exact HW2.out.bl
         have hT2:=HT.out.below hbl2
         have hT3:TextAt w.heap.size W tad tn tx:=by
          obtain ⟨h1,h2,h | ⟨b,off,ha,hb,hc⟩⟩:=hT2
          ·exact ⟨h1,h2,.inl h⟩
          ·exact ⟨h1,h2,.inr ⟨b,off,ha,hb,fun k hk => (cell_eq (by rw [e1]) _).trans (hc k hk)⟩⟩
         have h:=at58 tx tad tn tc (p:Int) W w.heap.size hT3
         have e:atN tx (p:Int) = atP tx p:=by
          unfold atN
          rw [if_neg (by omega)]
          simp
         rw [e] at h
         exact h
        obtain ⟨bt,hbt⟩:∃ bt,bt = atP tx p:=⟨_,rfl⟩
        rw [← hbt] at HRA
        have HBT:=hid hbt
        clear hbt
        have HRH:=fun W => holds57 aa bt W
        cases hh:holdsB aa bt with
        | true =>
         simp only [hh] at HRH
         have hnx:nxT tx I p caps = ([.go X p],caps):=by
          obtain ⟨x1,x2⟩:=HXY.out
          have hq:=HQ0.out
          have h1:holdsB I.a (atP tx p) = true:=by rw [← HQA.out,← HBT.out];exact hh
          unfold nxT
          rw [← hq]
          simp [x1,x2,h1]
         have hev:=HST.out (by rw [← HQ0.out];decide)
         have hokt:=HOKN.out
         rw [hnx] at hev hokt
         go_upto_region 28 with fail
         go_region_held3 (fun W => W.cell? ⟨p0,1,none⟩ = some (.int .i64 (p:Int)) ∧ W.cell? ⟨p1,3,none⟩ = some (.int .i64 aa)) (first | (exact ⟨f1,d3⟩) | (simp [*];done)) (first | (go_at_call 84;(with_reducible refine (HRA.out _ ?_).mono ?_);(rfl);rintro e w2 ⟨rfl,hw⟩;have hw':=hw.symm;clear hw;subst hw') | (go_at_call 85;(with_reducible refine (HRH _).mono ?_);rintro e w2 ⟨rfl,hw⟩;have hw':=hw.symm;clear hw;subst hw'))
         obtain ⟨V3,hV3⟩:∃ V3,V3 = V2.drew:=⟨_,rfl⟩
         have HW3:Hid (WI w V3 B0 gm gc x n q1 K c (some ⟨g,o,none⟩) (S:Int) (K:Int) tx (some ⟨zb,0,none⟩) cz st (mark m i p) caps):=by rw [hV3];exact HW2.out.kept (Below.refl _ _).drew
         have hcw3:cW V3 gm M = cW V2 gm M:=by rw [hV3];rfl
         have s0:V3.cell? ⟨p0,1,none⟩ = some (.int .i64 (p:Int)):=by rw [hV3];exact f1
         have s3:V3.cell? ⟨p1,1,none⟩ = some (.int .i64 (X:Int)):=by rw [hV3];exact d1
         have hms4:=hms2
         rw [← hcw3] at hms4
         rw [← hV3]
         clear hV3 hcw3 d0 d1 d2 d3 d4 f0 f1 HRA HRH
         have hrow:=HW3.out.row
         rw [← HN2.out] at hrow
         have HO6:Hid ((V3.alloc (.cells #[.int .i64 (X:Int),.int .i64 (p:Int),.int .i64 0,.int .i64 0] 160)).ownsRow B0 160 4 (.slice (some ⟨zb,0,none⟩) N' cz) N' (stkT st)):=hrow.alloc _
         have HL6:Hid ((V3.alloc (.cells #[.int .i64 (X:Int),.int .i64 (p:Int),.int .i64 0,.int .i64 0] 160)).ownsRow 0 160 4 (.slice (some ⟨V3.heap.size,0,none⟩) 1 1) 1 (stkT [.go X p])):=World.ownsRow_lit (base:=0) (e:=160) (size:=4) V3 #[.int .i64 (X:Int),.int .i64 (p:Int),.int .i64 0,.int .i64 0] 1 (Nat.zero_le _) (by unfold maxLen;omega) rfl
         have hone:∀ u ∈ stkT [.go X p],u.oneCell' = true:=fun u hu => by
          simp only [stkT,List.nil_append,List.mem_append] at hu
          first | exact (hu.elim (TkT.one _ u) (TkT.one _ u)) | exact TkT.one _ u hu
         have hbs:B0 ≤ (V3.alloc (.cells #[.int .i64 (X:Int),.int .i64 (p:Int),.int .i64 0,.int .i64 0] 160)).heap.size:=by have:=HW3.out.lo.2;(try simp) <;> omega
         clear hrow
         go_wp2_with (at_builtin;refine wpList_append_row rfl (.tmp 172) (.tmp 178) 161 rfl B0 160 i100 Z4 4 32 Tryz.underlying161 hi100 hz1000 hz1001 hz1002 rfl (by decide) (.slice (some ⟨zb,0,none⟩) N' cz) N' (stkT st) rfl HO6.out (.slice (some ⟨V3.heap.size,0,none⟩) 1 1) 1 0 (stkT [.go X p]) rfl HL6.out (by intro h;omega) hone (by unfold maxLen;omega) (by omega) hbs ?_;intro v7 w7 ho7 hf7 hn7;obtain ⟨y1,y3,rfl,hy3⟩:=row_shape ho7.out;clear hy3 hn7)
         have hf:=hf7.out
         have ho:=ho7.out
         rw [HN2.out] at hf ho
         obtain ⟨hpush,hcp⟩:=HW3.out.push (V:=V3.alloc (.cells #[.int .i64 (X:Int),.int .i64 (p:Int),.int .i64 0,.int .i64 0] 160)) (ts:=[.go X p]) (by simp) (fun b hb => heap_alloc_old _ _ hb) rfl rfl rfl hf ho hokt
         rw [← HME.out] at hcp
         have hms3:=hms4
         rw [← hcp] at hms3
         obtain ⟨st2,hst2⟩:∃ st2,st2 = [.go X p] ++ st:=⟨_,rfl⟩
         rw [← hst2] at hpush
         have hev2:EvT l tx st2 (mark m i p) caps r:=by rw [hst2];exact hev
         have hN3:N' + 1 = st2.length:=by rw [hst2,List.length_append,HN2.out];simp;omega
         refine ⟨⟨N' + 1,y1,y3,st2,mark m i p,caps,rfl,hN3,hpush,hev2,by omega⟩,?_⟩
         simp only [lenOf]
         first | omega | (simp;omega)
        | false =>
         simp only [hh] at HRH
         have hnx:nxT tx I p caps = ([],caps):=by
          have hq:=HQ0.out
          have h1:holdsB I.a (atP tx p) = false:=by rw [← HQA.out,← HBT.out];exact hh
          unfold nxT
          rw [← hq]
          simp [h1]
         go_upto_region 28 with fail
         go_region_held3 (fun W => W.cell? ⟨p0,1,none⟩ = some (.int .i64 (p:Int)) ∧ W.cell? ⟨p1,3,none⟩ = some (.int .i64 aa)) (first | (exact ⟨f1,d3⟩) | (simp [*];done)) (first | (go_at_call 84;(with_reducible refine (HRA.out _ ?_).mono ?_);(rfl);rintro e w2 ⟨rfl,hw⟩;have hw':=hw.symm;clear hw;subst hw') | (go_at_call 85;(with_reducible refine (HRH _).mono ?_);rintro e w2 ⟨rfl,hw⟩;have hw':=hw.symm;clear hw;subst hw'))
         obtain ⟨V3,hV3⟩:∃ V3,V3 = V2.drew:=⟨_,rfl⟩
         have HW3:Hid (WI w V3 B0 gm gc x n q1 K c (some ⟨g,o,none⟩) (S:Int) (K:Int) tx (some ⟨zb,0,none⟩) cz st (mark m i p) caps):=by rw [hV3];exact HW2.out.kept (Below.refl _ _).drew
         have hcw3:cW V3 gm M = cW V2 gm M:=by rw [hV3];rfl
         have s0:V3.cell? ⟨p0,1,none⟩ = some (.int .i64 (p:Int)):=by rw [hV3];exact f1
         have s3:V3.cell? ⟨p1,1,none⟩ = some (.int .i64 (X:Int)):=by rw [hV3];exact d1
         have hms4:=hms2
         rw [← hcw3] at hms4
         rw [← hV3]
         clear hV3 hcw3 d0 d1 d2 d3 d4 f0 f1 HRA HRH
         have hcw3:(0:Nat) = 0:=rfl
         have hev:=HST.out (by rw [← HQ0.out];decide)
         rw [hnx] at hev
         have HEV2:=hid hev
         clear hev hnx
         go_wp2
         refine ⟨⟨N',_,cz,st,mark m i p,caps,rfl,HN2.out,HW3.out,HEV2.out,by (try simp only [hcw3]) <;> omega⟩,?_⟩
         simp only [lenOf]
         (try simp only [hcw3]) <;> first | omega | (simp;omega)
       ·have hr:r = some (aa,caps):=by
         cases HEV.out with
         | old _ _ _ _ _ _ h => rw [HM1.out] at h;cases h
         | fit _ _ _ _ _ I' _ h2 h3 => rw [HGI.out] at h2;cases h2;rw [HQA.out]
         | step _ _ _ _ _ _ I' _ h2 h3 h => rw [HGI.out] at h2;cases h2;exact absurd HQ0.out.symm h3
        subst hr
        go_wp2
        go_ret3
        have hlen:=HW2.out.len
        have hcap:=HW2.out.cap
        refine ⟨gc,?_,?_,?_⟩
        ·show _ = Ending.returned (.tuple #[.int .i64 aa,.slice (some ⟨gc,0,none⟩) caps.length caps.length,.bool true])
         rw [hlen]
         rfl
        ·show World.ownsRow _ _ _ _ (.slice (some ⟨gc,0,none⟩) caps.length caps.length) caps.length (caps.map (Value.int .i64))
         rw [hlen,← HB0.out]
         exact hcap
        ·rw [← HB0.out];exact HW2.out.bl
       ·have hnx:nxT tx I p caps = ([],caps):=by
         have hq:=HQ0.out
         unfold nxT
         rw [← hq]
         simp
        have hev:=HST.out (by rw [← HQ0.out];decide)
        rw [hnx] at hev
        have HEV2:=hid hev
        clear hev hnx
        go_wp2
        refine ⟨⟨N',_,cz,st,mark m i p,caps,rfl,HN2.out,HW2.out,HEV2.out,by omega⟩,?_⟩
        simp only [lenOf]
        first | omega | (simp;omega)
       ·have hnx:nxT tx I p caps = ([.go X p],caps):=by
         obtain ⟨x1,x2⟩:=HXY.out
         have hq:=HQ0.out
         unfold nxT
         rw [← hq]
         simp [x1,x2]
        have hev:=HST.out (by rw [← HQ0.out];decide)
        have hokt:=HOKN.out
        rw [hnx] at hev hokt
        have hrow:=HW2.out.row
        rw [← HN2.out] at hrow
        have HO6:Hid ((V2.alloc (.cells #[.int .i64 (X:Int),.int .i64 (p:Int),.int .i64 0,.int .i64 0] 160)).ownsRow B0 160 4 (.slice (some ⟨zb,0,none⟩) N' cz) N' (stkT st)):=hrow.alloc _
        have HL6:Hid ((V2.alloc (.cells #[.int .i64 (X:Int),.int .i64 (p:Int),.int .i64 0,.int .i64 0] 160)).ownsRow 0 160 4 (.slice (some ⟨V2.heap.size,0,none⟩) 1 1) 1 (stkT [.go X p])):=World.ownsRow_lit (base:=0) (e:=160) (size:=4) V2 #[.int .i64 (X:Int),.int .i64 (p:Int),.int .i64 0,.int .i64 0] 1 (Nat.zero_le _) (by unfold maxLen;omega) rfl
        have hone:∀ u ∈ stkT [.go X p],u.oneCell' = true:=fun u hu => by
         simp only [stkT,List.nil_append,List.mem_append] at hu
         first | exact (hu.elim (TkT.one _ u) (TkT.one _ u)) | exact TkT.one _ u hu
        have hbs:B0 ≤ (V2.alloc (.cells #[.int .i64 (X:Int),.int .i64 (p:Int),.int .i64 0,.int .i64 0] 160)).heap.size:=by have:=HW2.out.lo.2;(try simp) <;> omega
        clear hrow
        go_wp2_with (at_builtin;refine wpList_append_row rfl (.tmp 182) (.tmp 188) 161 rfl B0 160 i100 Z4 4 32 Tryz.underlying161 hi100 hz1000 hz1001 hz1002 rfl (by decide) (.slice (some ⟨zb,0,none⟩) N' cz) N' (stkT st) rfl HO6.out (.slice (some ⟨V2.heap.size,0,none⟩) 1 1) 1 0 (stkT [.go X p]) rfl HL6.out (by intro h;omega) hone (by unfold maxLen;omega) (by omega) hbs ?_;intro v7 w7 ho7 hf7 hn7;obtain ⟨y1,y3,rfl,hy3⟩:=row_shape ho7.out;clear hy3 hn7)
        have hf:=hf7.out
        have ho:=ho7.out
        rw [HN2.out] at hf ho
        obtain ⟨hpush,hcp⟩:=HW2.out.push (V:=V2.alloc (.cells #[.int .i64 (X:Int),.int .i64 (p:Int),.int .i64 0,.int .i64 0] 160)) (ts:=[.go X p]) (by simp) (fun b hb => heap_alloc_old _ _ hb) rfl rfl rfl hf ho hokt
        rw [← HME.out] at hcp
        have hms3:=hms2
        rw [← hcp] at hms3
        obtain ⟨st2,hst2⟩:∃ st2,st2 = [.go X p] ++ st:=⟨_,rfl⟩
        rw [← hst2] at hpush
        have hev2:EvT l tx st2 (mark m i p) caps r:=by rw [hst2];exact hev
        have hN3:N' + 1 = st2.length:=by rw [hst2,List.length_append,HN2.out];simp;omega
        refine ⟨⟨N' + 1,y1,y3,st2,mark m i p,caps,rfl,hN3,hpush,hev2,by omega⟩,?_⟩
        simp only [lenOf]
        first | omega | (simp;omega)
end Go.Proofs.YtacaanhnlfpbhaaGreat
