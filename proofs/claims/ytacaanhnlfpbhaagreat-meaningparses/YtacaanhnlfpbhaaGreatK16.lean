/- HELPERS: texts of ours put together. -/
import Derived.Test.YtacaanhnlfpbhaaGreatK15
import Derived.Test.YtacaanhnlfpbhaaGreatK07
import Derived.LoopN
import Derived.Deep.OwnRows
import Derived.Laws.IdiomCopy
import Derived.Laws.BitsLemmas
import Derived.Test.YtacaanhnlfpbhaaGreatK02
import Derived.Test.YtacaanhnlfpbhaaGreatK06
import Derived.Test.YtacaanhnlfpbhaaGreatK05
import Derived.Test.YtacaanhnlfpbhaaGreatProg
import Derived.WalkKit
import Derived.ProofKit
import Derived.BigQuiet
import Derived.WalkSmall
import Derived.Deep.QuietTactic
import Derived.Deep.RegionWith
import Derived.Laws.EntriesVeiled
import Derived.Deep.WholeRow
import Derived.Test.YtacaanhnlfpbhaaGreatK04
import Derived.Test.YtacaanhnlfpbhaaGreatK01
import Derived.Test.YtacaanhnlfpbhaaGreatK03
import Derived.Deep.SlicePairs
import Derived.RowKit
import Derived.Deep.RegionHeld2
import Derived.Lib.MinMax
import Derived.Deep.Cut
import Derived.Test.YtacaanhnlfpbhaaGreatK12
namespace Go.Proofs.YtacaanhnlfpbhaaGreat
open Go.RowKit
set_option linter.unusedVariables false
set_option linter.unusedSimpArgs false
theorem en50:∀ (args:Array Value) (w:World),(callFunc 74 args).run Tryz.prog w=.ok (.enter 74 args) w:=enter_of Tryz.func74 (by kernel_rfl) rfl
abbrev Nd.c (N:Nd) (k:Int):Array Value:=#[.int .i64 k,.slice N.r1 N.r2 N.r3,.int .i64 N.a2,.slice N.s1 N.s2 N.s3,.int .i64 N.a4,.int .i64 N.a5,.bool N.a6,.int .i64 N.a7,.string N.a8]
theorem moved_old {w w':World} {v v':Value} {k:Nat} (h:Moved w w' v v') (hk:k < w.heap.size) (hn:v.ownBlock≠some k):w'.heap[k]?=w.heap[k]?:=by
 rcases h with ⟨_,h⟩ | ⟨_,h⟩
 ·exact h.block k hk (fun e=>hn e.symm)
 ·exact h.block k hk (by simp)
theorem text_below {N M:Nat} {w w':World} {ad:Option Addr} {n:Nat} {l:List Int} (h:Look.TextAt N w ad n l) (hb:Below N w w') (hM:N≤M):Look.TextAt M w' ad n l:=by
 obtain ⟨h1,h2,h | ⟨b,off,ha,hbN,hc⟩⟩:=h.below hb
 ·exact ⟨h1,h2,.inl h⟩
 ·exact ⟨h1,h2,.inr ⟨b,off,ha,by omega,hc⟩⟩
structure Hol (w wq:World) (N:Nd) (k:Int) (tv hv:Value) (i:Nat) (vals:List Int):Prop where
 bel:Below w.heap.size w wq
 node:wq.heap[w.heap.size]?=some (.cells (N.c k) 25 (0,0))
 map:wq.heap[w.heap.size + 1]?=some (.map #[] 0)
 ob:wq.heap[w.heap.size + 1 + 1]?=some (.cells #[tv,hv,.nilFunc,.int .i64 0,.map (some (w.heap.size + 1)),.slice none 0 0,.slice none 0 0] 135 (0,0))
 row:wq.ownsRow (w.heap.size + 1 + 1 + 1) 3 1 hv i (I64 vals)
theorem Hol.next {w wr w1 w2:World} {N:Nd} {k:Int} {tv v':Value} {v1:Option Addr} {v3 i:Nat} {vals:List Int} {x:Int} (H:Hol w wr N k tv (.slice v1 i v3) i vals) (hb:Below wr.drew.heap.size wr.drew w1) (o:Obj) (hm:Moved (w1.alloc o) w2 (.slice v1 i v3) v')
  (ho:w2.ownsRow (w.heap.size + 1 + 1 + 1) 3 1 v' (i + 1) (I64 vals ++ [.int .i64 x])):Hol w (w2.setCell ⟨w.heap.size + 1 + 1,1,none⟩ v') N k tv v' (i + 1) (vals ++ [x]):=by
 have hlo:=(Array.getElem?_eq_some_iff.1 H.ob).1
 have hs1:wr.heap.size≤w1.heap.size:=hb.size
 have hne:∀ k,k < w.heap.size + 1 + 1 + 1→(Value.slice v1 i v3).ownBlock≠some k:=fun k hk e=>by have:=(H.row.lt k e).1;omega
 have e2:∀ k,k < w.heap.size + 1 + 1 + 1→w2.heap[k]?=wr.heap[k]?:=fun k hk=>(moved_old hm (by simp;omega) (hne k hk)).trans ((heap_alloc_old w1 o (by omega)).trans (hb.block k (by show k < wr.heap.size;omega)))
 have e3:∀ k,k < w.heap.size + 1 + 1→(w2.setCell ⟨w.heap.size + 1 + 1,1,none⟩ v').heap[k]?=wr.heap[k]?:=fun k hk=>(Below.heap_setCell _ _ _ _ (by show k≠w.heap.size + 1 + 1;omega)).trans (e2 k (by omega))
 have hob:=(e2 (w.heap.size + 1 + 1) (by omega)).trans H.ob
 have hs2:w1.heap.size≤w2.heap.size:=by rcases hm with ⟨_,h⟩ | ⟨_,h⟩ <;> (have:=h.size;simp at this;omega)
 refine ⟨⟨?_,?_,?_,?_,fun k hk=>(e3 k (by omega)).trans (H.bel.block k hk)⟩,(e3 _ (by omega)).trans H.node,(e3 _ (by omega)).trans H.map,Joins.block_setCell (i:=1) hob _,?_⟩
 ·rcases hm with ⟨_,h⟩ | ⟨_,h⟩ <;> exact h.os.trans (hb.os.trans H.bel.os)
 ·rcases hm with ⟨_,h⟩ | ⟨_,h⟩ <;> exact h.tape.trans (hb.tape.trans H.bel.tape)
 ·rcases hm with ⟨_,h⟩ | ⟨_,h⟩ <;> exact h.output.trans (hb.output.trans H.bel.output)
 ·have:=H.bel.size;simp [World.setCell];omega
 ·rw [show I64 (vals ++ [x])=I64 vals ++ [.int .i64 x] by simp]
  exact own_setCell ho (own_ne ho hob (by decide))
set_option maxRecDepth 100000 in
set_option maxHeartbeats 4000000 in
theorem newWalks31g (N:Nd) (k:Int) (tx:List Int) (ad:Option Addr) (tn tcap K:Nat) (gi:Int) (w:World) (htx:Look.TextAt w.heap.size w ad tn tx) (htn:tn≤64) (hK:(K:Int)=2 * gi + 2) (hgi:0≤gi∧gi≤500)
  (HGI:Hid (∀ w',Below w.heap.size w w'→Calls Tryz.prog 76 #[N.v k] w' fun e w''=>e=.returned (.int .i64 gi)∧Below w'.heap.size w' w'')) (PB:Int→Way→List Nat→List Nat→World→Prop) (hPB:∀ n W F FE w' w'',PB n W F FE w'→w'.heap.size≤w''.heap.size→(∀ k ∈ FE,w''.heap[k]?=w'.heap[k]?)→PB n W F FE w'')
  (HBG:Hid (∀ (A:Six) (w':World) (v:Value) (F0:List Nat),Below w.heap.size w w'→O7 w' (w.heap.size + 1 + 1) A 1→Rep (w.heap.size + 1 + 1) K AL w' v (.once 1 .through) F0→w.heap.size + 1 + 1 ∉ F0→(∀ k ∈ F0,w.heap.size + 1 + 1 + 1≤k) →
   Calls Tryz.prog 77 #[pt (w.heap.size + 1 + 1),N.v k,v] w' fun e w''=>∃ u F FE n1 W,e=.returned u∧Mk (w.heap.size + 1 + 1) K AL w' w'' A n1 u W (List.range w.heap.size ++ F0) F∧PB n1 W F FE w''∧(∀ k ∈ FE,k ∈ List.range w.heap.size ++ F0∨w'.heap.size≤k))) :
  Calls Tryz.prog 44 #[N.v k,.slice ad tn tcap] w fun e w'=>∃ g u F FE B C n1 W,e=.returned (pt g)∧g=w.heap.size + 1 + 1∧WS w.heap.size w' g C ⟨[],List.replicate K (-1),[]⟩ B∧C.tv=.slice ad tn tcap∧(∃ hb,TX w' C.hv (hols tx) [hb]∧w.heap.size≤hb∧hb ∉ B∧hb < w'.heap.size)∧C.wh=u∧C.K=K∧Rep g K AL w' u W F∧PB n1 W F FE w'∧(∀ k ∈ F,k ∉ B)∧(∀ k ∈ FE,k ∉ B)∧(∀ k ∈ B,w.heap.size≤k)∧Below w.heap.size w w':=by
 have hm:=hmf
 have hmm:∀ w,(Instr.makeMap 131 none).run Tryz.prog w=.ok (.map (some w.heap.size)) (w.alloc (.map #[] 0)):=fun _=>rfl
 obtain ⟨h1,h2,h3,h4⟩:=three_new w (N.o k) (.map #[] 0) (.cells #[.slice ad tn tcap,.slice none 0 0,.nilFunc,.int .i64 0,.map (some (w.heap.size + 1)),.slice none 0 0,.slice none 0 0] 135)
 have hH:Hol w _ N k (.slice ad tn tcap) (.slice none 0 0) 0 []:=⟨below_two' w _ _ |>.trans (Joins.below_le (Joins.below_alloc1 _ _) (by simp;omega)),h1,h2,h3,World.ownsRow_nil _ _ _ _⟩
 have HH:=hid hH
 obtain ⟨i0,hi0,hz0,hz1,hz2⟩:=info_parts info3
 have HT:=hid htx
 have HTL:Hid (tn=tx.length):=htx.1
 clear hH h1 h2 h3 h4 htx
 go_enter Tryz.func44,Tryz.ntmps44
 go_wp2_with fail
 obtain ⟨z,hz⟩:∃ z,z=w.heap.size:=⟨_,rfl⟩
 go_loopw [14] (fun x wq=>∃ i:Nat,x=.int .i64 (i:Int)∧i≤tn + 1∧Hid (∃ hv vals,Hol w wq N k (.slice ad tn tcap) hv i vals∧vals=(List.range i).map fun (p:Nat)=>Look.atN tx (p:Int))) (fun x _=>tn + 1 - (intOf x).toNat)
 case atStart=>exact ⟨0,rfl,by omega,by exact ⟨_,_,HH.out,rfl⟩⟩
 case round =>
  obtain ⟨i,rfl,hi,HI⟩:=hrel
  by_cases hil:i < tn + 1
  ·obtain ⟨hv,vals,hX,hvals⟩:=HI.out
   have HV:=hid hvals
   clear hvals
   have b1:decide ((i:Int) < (tn:Int) + 1)=true:=by simp;omega
   have b2:(i:Int) < (tn:Int) + 1:=by omega
   have HX:=hid hX
   have ad1:IntKind.i64.wrap ((i:Int) + 1)=(i:Int) + 1:=by simp [IntKind.wrap,IntKind.bits,IntKind.signed];omega
   have g1:wr.cell? ⟨w.heap.size + 1 + 1,1,none⟩=some hv:=Joins.cell_of_block hX.ob 1
   obtain ⟨v1,v3,rfl⟩:∃ v1 v3,hv=.slice v1 i v3:=by
    rcases Joins.ownsRow_forms hX.row with ⟨rfl,h⟩ | ⟨b,cap,rfl⟩
    ·exact ⟨none,0,by rw [h]⟩
    ·exact ⟨_,_,rfl⟩
   have hAt:=Look.at10 tx ad tn tcap (i:Int) wr.drew (text_below HT.out hX.bel.drew (by have:=hX.bel.size;exact this))
   clear hX HI
   rw [← hz] at g1 ⊢
   have HZ:=hid hz
   clear hz
   go_wp2_with fail
   have hrow1:∀ w1,Below wr.drew.heap.size wr.drew w1→w1.ownsRow (w.heap.size + 1 + 1 + 1) 3 1 (.slice v1 i v3) i (I64 vals)∧w1.heap[w.heap.size + 1 + 1]?=some (.cells #[.slice ad tn tcap,.slice v1 i v3,.nilFunc,.int .i64 0,.map (some (w.heap.size + 1)),.slice none 0 0,.slice none 0 0] 135 (0,0))∧w.heap.size + 1 + 1 + 1≤w1.heap.size:=fun w1 hb=>by
    have hl:=(Array.getElem?_eq_some_iff.1 HX.out.ob).1
    exact ⟨row_kept HX.out.row fun b hb2=>hb.block b (HX.out.row.lt b hb2).2,(hb.block _ hl).trans HX.out.ob,by have:=hb.size;have h:wr.heap.size≤w1.heap.size:=this;omega⟩
   rw [← HZ.out] at hrow1
   have HR1:=hid hrow1
   clear hrow1
   go_region_law (first | (refine step_append_moveN rfl (.tmp 21) (.tmp 25) 26 rfl (z + 1 + 1 + 1) 3 i0 (.int .i64 0) 1 8 Tryz.underlying26 hi0 hz0 hz1 hz2 rfl (by decide) (.slice v1 i v3) i (I64 vals) rfl ((HR1.out w1 HB1.out).1.alloc _) ⟨w1.heap.size,0,none⟩ 1 1 [.int .i64 (Look.atN tx (i:Int))] rfl rfl (by decide) (one_new w1 _ 3) (by intro u hu;simp at hu;subst hu;rfl) (by unfold maxLen;omega) (by omega) (by have:=(HR1.out w1 HB1.out).2.2;simp;omega) ?_;intro v' w2 ho2 hm2;obtain ⟨vb,vc,rfl⟩:=Joins.ownsRow_form ho2 (by omega);have hbl:=(HR1.out w1 HB1.out);have hne:(Value.slice v1 i v3).ownBlock≠some (z + 1 + 1):=(fun e=>by have:=(hbl.1.lt _ e).1;omega);have hb2:w2.heap[z + 1 + 1]?=some (.cells #[.slice ad tn tcap,.slice v1 i v3,.nilFunc,.int .i64 0,.map (some (z + 1)),.slice none 0 0,.slice none 0 0] 135 (0,0)):=(moved_old hm2 (by simp;omega) hne).trans ((heap_alloc_old w1 _ (by omega)).trans hbl.2.1);have c2:w2.cell? ⟨z + 1 + 1,1,none⟩=some (.slice v1 i v3):=Joins.cell_of_block hb2 1;have f2:=Joins.unfrozen_of_block hb2 1;have HO2:=hid ho2;have HM2:=hid hm2;have HB2:=hid hb2;clear ho2 hm2 hb2 hbl hne) | (refine step_call2 rfl 74 (.tmp 22) (.tmp 23) 26 3 rfl en50 (Calls.mono hAt (fun e w1 hG=>?_));obtain ⟨he,hb1⟩:=hG;subst he;refine ⟨_,rfl,?_⟩;have d1:w1.cell? ⟨z + 1 + 1,1,none⟩=some (.slice v1 i v3):=Joins.cell_of_block (HR1.out w1 hb1).2.1 1;have dl:z + 1 + 1 < w1.heap.size:=(by have:=(HR1.out w1 hb1).2.2;omega);have HB1:=hid hb1;clear hb1 hAt))
   all_goals
    go_wp2
    refine ⟨⟨i + 1,by push_cast;rfl,by omega,?_⟩,by simp [intOf];omega⟩
    have h:=HX.out.next HB1.out _ HM2.out (by rw [← HZ.out];exact HO2.out)
    rw [← HZ.out] at h
    exact ⟨_,_,h,by rw [HV.out,List.range_succ,List.map_append];rfl⟩
  ·obtain rfl:i=tn + 1:=by omega
   obtain ⟨hv,vals,hX,hvals⟩:=HI.out
   have HV:=hid hvals
   clear hvals
   have HX:=hid hX
   have hlo:=(Array.getElem?_eq_some_iff.1 hX.ob).1
   obtain ⟨o0,o1,o2,o3,o4,o5,o6,o7,o8⟩:=nine' hX.node
   have HG1:=HGI.out (wr.alloc (.cells #[M1] 3)) (hX.bel.alloc (by have:=hX.bel.size;omega) _)
   have b9:decide (((tn + 1:Nat):Int) < (tn:Int) + 1)=false:=by simp
   have b9':decide ((tn:Int) + 1 < (tn:Int) + 1)=false:=by simp
   have m1:IntKind.i64.wrap (2 * gi)=2 * gi:=by simp [IntKind.wrap,IntKind.bits,IntKind.signed];omega
   have m2:IntKind.i64.wrap (2 * gi + 2)=(K:Int):=by simp [IntKind.wrap,IntKind.bits,IntKind.signed];omega
   clear hX HI
   rw [← hz] at o0 o1 o2 o3 o4 o5 o6 o7 o8 hlo ⊢
   have HZ:=hid hz
   clear hz
   have zl:z < wr.heap.size:=by omega
   have hgo:∀ w1 w2,Below (wr.alloc (.cells #[M1] 3)).heap.size (wr.alloc (.cells #[M1] 3)) w1→Below w1.heap.size w1 w2→∀ k,k < wr.heap.size→w2.heap[k]?=wr.heap[k]?:=fun w1 w2 h1 h2 k hk=>(h2.block k (by have:=h1.size;simp at this;omega)).trans ((h1.block k (by simp;omega)).trans (heap_alloc_old wr _ hk))
   have HGO:=hid hgo
   have HKK:=hid hK
   clear hgo hK
   go_upto_region 8 with (first | (go_at_call 76;(with_reducible refine HG1.mono ?_);rintro e w1 ⟨rfl,hb1⟩;have HB1:=hid hb1;have HC1:=repeat51g wr.heap.size 1 K (by have:=HKK.out;omega) (by have:=HKK.out;omega) w1 ((hb1.cell (p:=⟨wr.heap.size,0,none⟩) (by simp)).trans (by simp)) (by have:=hb1.size;simp at this;omega);clear hb1 HG1) | (go_at_call 75;(with_reducible refine HC1.mono ?_);rintro e w2 ⟨rfl,hb2,hn2⟩;have HB2:=hid hb2;have HN2:=hid hn2;have hg2:w2.heap[z + 1 + 1]?=some (.cells #[.slice ad tn tcap,hv,.nilFunc,.int .i64 0,.map (some (z + 1)),.slice none 0 0,.slice none 0 0] 135 (0,0)):=(HGO.out w1 w2 HB1.out hb2 _ hlo).trans (by rw [HZ.out];exact HX.out.ob);have c5:w2.cell? ⟨z + 1 + 1,5,none⟩=some (.slice none 0 0):=Joins.cell_of_block hg2 5;have f5:=Joins.unfrozen_of_block hg2 5;have HG2:=hid hg2;clear hb2 hn2 HC1 hg2))
   obtain ⟨nb,hnb⟩:∃ nb,nb=w1.heap.size:=⟨_,rfl⟩
   rw [← hnb]
   obtain ⟨X,hX⟩:∃ X,X=w2.setCell ⟨z + 1 + 1,5,none⟩ (.slice (some ⟨nb,0,none⟩) K K):=⟨_,rfl⟩
   rw [← hX]
   have hs1:wr.heap.size < w1.heap.size:=by have:=HB1.out.size;simp at this;omega
   have hXs:X.heap.size=w2.heap.size:=by rw [hX];simp [World.setCell]
   obtain ⟨arr,ha1,ha2,ha3⟩:=HN2.out
   rw [← hnb] at ha1
   have hnl:nb < X.heap.size:=by rw [hXs];exact (Array.getElem?_eq_some_iff.1 ha1).1
   have hXo:∀ k,k < wr.heap.size→k≠z + 1 + 1→X.heap[k]?=wr.heap[k]?:=fun k hk hne=>by rw [hX];exact (Below.heap_setCell _ _ _ _ hne).trans (HGO.out w1 w2 HB1.out HB2.out k hk)
   have hXg:O7 X (z + 1 + 1) ⟨.slice ad tn tcap,hv,.nilFunc,.map (some (z + 1)),.slice (some ⟨nb,0,none⟩) K K,.slice none 0 0⟩ 0:=by rw [hX];exact Joins.block_setCell (i:=5) HG2.out _
   have hXn:X.heap[nb]?=some (.cells arr 3 (0,0)):=by rw [hX];exact (Below.heap_setCell _ _ _ _ (by show nb≠z + 1 + 1;omega)).trans ha1
   have hXz:X.heap[z]?=some (.cells (N.c k) 25 (0,0)):=(hXo z zl (by omega)).trans (by rw [HZ.out];exact HX.out.node)
   have hXm:X.heap[z + 1]?=some (.map #[] 0):=(hXo (z + 1) (by omega) (by omega)).trans (by rw [HZ.out];exact HX.out.map)
   have hXb:Below w.heap.size w X:=by
    rw [hX]
    have hz:=HZ.out
    exact (HX.out.bel.trans (Joins.below_le (((Below.refl _ wr).alloc (Nat.le_refl _) _).trans (Joins.below_le (HB1.out.trans (Joins.below_le HB2.out (by simp;omega))) (by simp))) HX.out.bel.size)).setCell (by show w.heap.size≤z + 1 + 1;omega) _
   have HC:Calls Tryz.prog 78 #[pt (z + 1 + 1),.func (.func 79) #[pt (z + 1 + 1)] #[]] X.drew fun e w'=>∃ v F,e=.returned v∧Mk (z + 1 + 1) K AL X.drew w' ⟨.slice ad tn tcap,hv,.nilFunc,.map (some (z + 1)),.slice (some ⟨nb,0,none⟩) K K,.slice none 0 0⟩ 1 v (.once 1 .through) [] F:=by
    simpa using once54 (z + 1 + 1) K AL _ 0 (.func (.func 79) #[pt (z + 1 + 1)] #[]) .through [] X.drew hXg .through (by simp) ⟨by omega,by omega⟩
   have hS:∀ w3:World,(∀ k,k < X.heap.size→k≠z + 1 + 1→w3.heap[k]?=X.heap[k]?)→w3.heap[z]?=some (.cells (N.c k) 25 (0,0)):=fun w3 h=>(h z (by omega) (by omega)).trans hXz
   have HSZ:=hid hS
   have HXG:=hid hXg
   have HXN:=hid hXn
   have HXM:=hid hXm
   have HXB:=hid hXb
   have HXS:=hid hXs
   have HXO:=hid hXo
   have HA2:=hid ha2
   have HA3:=hid ha3
   have hgX:z + 1 + 1 < X.heap.size:=by omega
   have x9:=nine' hXz
   have HBGz:=hid HBG.out
   rw [← HZ.out] at HBGz
   clear hX hXo hXg hXn hXz hXm hXb hXs hS c5 f5 o0 o1 o2 o3 o4 o5 o6 o7 o8 ha1 ha2 ha3
   go_region_held2 (fun w3=>w3.cell? ⟨z,0,none⟩=some (.int .i64 k)∧w3.cell? ⟨z,1,none⟩=some (.slice N.r1 N.r2 N.r3)∧w3.cell? ⟨z,2,none⟩=some (.int .i64 N.a2)∧w3.cell? ⟨z,3,none⟩=some (.slice N.s1 N.s2 N.s3)∧w3.cell? ⟨z,4,none⟩=some (.int .i64 N.a4)∧w3.cell? ⟨z,5,none⟩=some (.int .i64 N.a5)∧w3.cell? ⟨z,6,none⟩=some (.bool N.a6)∧w3.cell? ⟨z,7,none⟩=some (.int .i64 N.a7)∧w3.cell? ⟨z,8,none⟩=some (.string N.a8))
    (first | exact x9 | exact nine' (HSZ.out w3 (fun k hk hne=>M3.out.chg.block k hk (by simpa using hne))) | exact nine' (HSZ.out w4 (fun k hk hne=>HO4.out k hk hne)) | exact nine' (HSZ.out _ (fun k hk hne=>(Below.heap_setCell _ _ _ _ hne).trans (HO4.out k hk hne))))
    (first | (go_at_call 78;(with_reducible refine HC.mono ?_);rintro e w3 ⟨v3,F3,rfl,m3⟩;obtain ⟨f3,fi3,ca3,rfl⟩:=m3.rep.form;have HC2:=HBGz.out _ w3 _ F3 (by rw [HZ.out];exact HXB.out.drew.trans (m3.chg.below (by have:=HXB.out.size;show w.heap.size≤X.heap.size;omega) (fun k hk=>by simp at hk;have:=HZ.out;omega))) m3.ob m3.rep (m3.away (by simp) hgX) (fun k hk=>by rcases m3.new k hk with h | h;cases h;have h:X.heap.size≤k:=h;omega);have M3:=hid m3;clear m3 HC) | (go_at_call 77;(with_reducible refine HC2.mono ?_);rintro e w4 ⟨u,F,FE,n1,W1,rfl,m4,pb4,hE4⟩;obtain ⟨f4,fi4,ca4,rfl⟩:=m4.rep.form;have c2:w4.cell? ⟨z + 1 + 1,2,none⟩=some .nilFunc:=Joins.cell_of_block m4.ob 2;have f2:=Joins.unfrozen_of_block m4.ob 2;have ho4:∀ k,k < X.heap.size→k≠z + 1 + 1→w4.heap[k]?=X.heap[k]?:=(fun k hk hne=>(m4.chg.block k (by have:=M3.out.chg.size;have h:X.heap.size≤w3.heap.size:=this;omega) (by simpa using hne)).trans (M3.out.chg.block k hk (by simpa using hne)));have HO4:=hid ho4;have M4:=hid m4;have PB4:=hid pb4;have HE4:=hid hE4;clear m4 pb4 hE4 ho4 HC2))
   all_goals
    go_wp2
    go_ret
    obtain ⟨Y,hY⟩:∃ Y,Y=w4.setCell ⟨z + 1 + 1,2,none⟩ (.func (.func f4) fi4 ca4):=⟨_,rfl⟩
    have hYo:∀ k,k≠z + 1 + 1→Y.heap[k]?=w4.heap[k]?:=fun k hk=>by rw [hY];exact Below.heap_setCell _ _ _ _ hk
    have hYs:Y.heap.size=w4.heap.size:=by rw [hY];simp [World.setCell]
    have sX3:X.heap.size≤w3.heap.size:=M3.out.chg.size
    have s34:=M4.out.chg.size
    have hzz:=HZ.out
    have hsw:=HXB.out.size
    have hold:∀ k ∈ List.range z ++ F3,k < z∨X.heap.size≤k:=fun k hk=>by
     rcases List.mem_append.1 hk with h | h
     ·simp at h;exact .inl h
     ·rcases M3.out.new k h with h | h
      ·cases h
      ·exact .inr h
    have hFn:∀ k ∈ F,k < z∨X.heap.size≤k:=fun k hk=>by
     rcases M4.out.new k hk with h | h
     ·exact hold k h
     ·right;omega
    have hEn:∀ k ∈ FE,k < z∨X.heap.size≤k:=fun k hk=>by
     rcases HE4.out k hk with h | h
     ·exact hold k h
     ·right;omega
    have hYb:Below w.heap.size w Y:=by
     rw [hY]
     exact (HXB.out.drew.trans ((M3.out.chg.trans M4.out.chg).below (by show w.heap.size≤X.heap.size;omega) (fun k hk=>by simp at hk;omega))).setCell (by show w.heap.size≤z + 1 + 1;omega) _
    have harr:arr=(List.replicate K M1).toArray:=by
     apply Array.ext
     ·simp [HA2.out]
     ·intro i h1 h2
      have:=HA3.out i (by rw [← HA2.out];exact h1)
      rw [Array.getElem?_eq_getElem h1] at this
      simp at this ⊢
      exact this
    have hKK:=HKK.out
    have hYnb:Y.heap[nb]?=some (.cells (List.replicate K M1).toArray 3 (0,0)):=(hYo nb (by omega)).trans ((HO4.out nb hnl (by omega)).trans (by rw [← harr];exact HXN.out))
    obtain ⟨hb,hcap,rfl⟩:∃ hb hcap,hv=.slice (some ⟨hb,0,none⟩) (tn + 1) hcap:=by
     rcases Joins.ownsRow_forms HX.out.row with ⟨rfl,h⟩ | ⟨b,cap,rfl⟩
     ·omega
     ·exact ⟨_,_,rfl⟩
    have hrl:=HX.out.row.lt hb rfl
    have hrowY:Y.ownsRow (w.heap.size + 1 + 1 + 1) 3 1 (.slice (some ⟨hb,0,none⟩) (tn + 1) hcap) (tn + 1) (I64 vals):=row_kept HX.out.row fun b hb2=>by
     cases hb2
     exact (hYo hb (by omega)).trans ((HO4.out hb (by omega) (by omega)).trans (HXO.out hb hrl.2 (by omega)))
    have hvl:vals=hols tx:=by rw [HV.out,HTL.out];rfl
    have hlen:(hols tx).length=tn + 1:=by rw [hols_len,← HTL.out]
    have hcapl:tn + 1≤hcap:=by
     rcases hrowY.2 with ⟨h,_⟩ | ⟨g,cap,cur,h,_,_,h2,_⟩
     ·simp at h
     ·simp only [Value.slice.injEq] at h
      obtain ⟨_,h3,rfl⟩:=h
      omega
    have htx:TX Y (.slice (some ⟨hb,0,none⟩) (tn + 1) hcap) (hols tx) [hb]:=by
     refine ⟨some ⟨hb,0,none⟩,hcap,by rw [hlen],by rw [hlen];exact hcapl,.inr ⟨hb,0,rfl,by simp,(hrowY.lt hb rfl).2,fun j hj=>?_⟩⟩
     rw [Nat.zero_add,hrowY.cellAt j (by rw [hlen] at hj;omega),hvl]
     simp [List.getElem?_eq_getElem hj]
    have hws:WS w.heap.size Y (z + 1 + 1) ⟨.slice ad tn tcap,.slice (some ⟨hb,0,none⟩) (tn + 1) hcap,.func (.func f4) fi4 ca4,n1,z + 1,nb,K,K⟩ ⟨[],List.replicate K (-1),[]⟩ [z + 1 + 1,z + 1,nb]:=by
     refine ⟨⟨.slice none 0 0,[],[],?_,World.ownsRow_nil _ _ _ _,.nil,by simp,by simp [Value.ownBlock]⟩,⟨#[],0,?_,rfl,(by intro x hx;cases hx),(by intro x hx;cases hx)⟩,⟨by simp,.inr ⟨nb,K,(List.replicate K M1).toArray,by simp [Cx.nv],?_,hYnb,by simp,?_,by simp,?_⟩⟩,by simp,(by show 2≤K;omega),(by show K≤10000;omega),⟨(by show w.heap.size≤z + 1 + 1;omega),(by show w.heap.size≤z + 1;omega)⟩⟩
     ·rw [hY];exact Joins.block_setCell (i:=2) M4.out.ob _
     ·show Y.heap[z + 1]?=_
      exact (hYo (z + 1) (by omega)).trans ((HO4.out (z + 1) (by omega) (by omega)).trans HXM.out)
     ·show w.heap.size≤nb;omega
     ·unfold maxLen;omega
     ·simp
    have haB:∀ k,(k < z∨X.heap.size≤k)→k ∉ [z + 1 + 1,z + 1,nb]:=fun k h hm=>by
     simp only [List.mem_cons,List.not_mem_nil,or_false] at hm
     rcases h with h | h <;> omega
    have hrep:Rep (z + 1 + 1) K AL Y (.func (.func f4) fi4 ca4) W1 F:=M4.out.rep.kept fun k hk=>hYo k (by rcases hFn k hk with h | h <;> omega)
    have hpb:PB n1 W1 F FE Y:=hPB _ _ _ _ _ _ PB4.out (by omega) (fun k hk=>hYo k (by rcases hEn k hk with h | h <;> omega))
    rw [← hY]
    refine ⟨z + 1 + 1,.func (.func f4) fi4 ca4,F,FE,[z + 1 + 1,z + 1,nb],_,n1,W1,rfl,by omega,hws,rfl,⟨hb,htx,by omega,?_,(hrowY.lt hb rfl).2⟩,rfl,rfl,hrep,hpb,fun k hk=>haB k (hFn k hk),fun k hk=>haB k (hEn k hk),fun k hm=>?_,hYb⟩
    ·simp only [List.mem_cons,List.not_mem_nil,or_false]
     omega
    ·simp only [List.mem_cons,List.not_mem_nil,or_false] at hm
     omega
mutual
theorem Rep.only {g K:Nat} {L L':Nat→Prop} {w:World} {v:Value} {d:Way} {F:List Nat} (h:Rep g K L w v d F) (hL:∀ b ∈ d.ags,L' b):Rep g K L' w v d F:=by
 cases h with
 | through=>exact .through
 | once h5 h2 h3 hn hd=>exact .once h5 h2 h3 hn (hd.only hL)
 | noted h3 h4 h5 hc hd=>exact .noted h3 h4 h5 hc (hd.only hL)
 | runeOf h3 h4 h5 hr hd=>exact .runeOf h3 h4 h5 hr (hd.only hL)
 | ifHolds h4 h3 h5 hd=>exact .ifHolds h4 h3 h5 (hd.only hL)
 | inOrder h1 hs hl=>exact .inOrder h1 hs (hl.only hL)
 | again hb=>exact .again (hL _ (by simp [Way.ags]))
theorem Reps.only {g K:Nat} {L L':Nat→Prop} {w:World} {v:List Value} {d:List Way} {F:List Nat} (h:Reps g K L w v d F) (hL:∀ b ∈ agsL d,L' b):Reps g K L' w v d F:=by
 cases h with
 | nil=>exact .nil
 | cons h hs=>exact .cons (h.only fun b hb=>hL b (by simp [agsL,hb])) (hs.only fun b hb=>hL b (by simp [agsL,hb]))
end
theorem row_slice {w:World} {N e size n:Nat} {v:Value} {xs:List Value} (h:w.ownsRow N e size v n xs):∃ a l c,v=.slice a l c:=by
 rcases h.2 with ⟨rfl,_⟩ | ⟨g,cap,cur,rfl,_⟩
 ·exact ⟨_,_,_,rfl⟩
 ·exact ⟨_,_,_,rfl⟩
def Parsed (N:Nat) (w:World) (pv:Value) (l:List (Int × List Int)):Prop:=∃ cs F,w.ownsRow N 57 2 pv l.length cs∧PR N w cs l F
def ParsedD (N:Nat) (w:World) (pv:Value) (l:List (Int × List Int)):Prop:=∃ cs F,w.ownsRow N 57 2 pv l.length cs∧PR N w cs l F∧F.Nodup
theorem ParsedD.parsed {N:Nat} {w:World} {pv:Value} {l:List (Int × List Int)} (h:ParsedD N w pv l):Parsed N w pv l:=by
 obtain ⟨cs,F,h1,h2,_⟩:=h
 exact ⟨cs,F,h1,h2⟩
set_option maxRecDepth 100000 in
set_option maxHeartbeats 4000000 in
theorem from32g (N g p:Nat) (C:Cx) (L:Nat→Prop) (E:Nat→Way) (W:Way) (tx:List Int) (s s':Sg) (u:Value) (F FE Ft B:List Nat) (w:World) (hN:N≤w.heap.size) (hW:WS N w g C s B) (hwh:C.wh=u) (hR:Rep g C.K L w u W F) (hEn:Env g C.K L w E FE) (o:Bool) (hE:∀ k,(E k).few o) (hWf:W.few o) (hT:TT o w C tx Ft) (htx:tx.length≤100000)
  (aF:∀ k ∈ F,k ∉ B) (aE:∀ k ∈ FE,k ∉ B) (aT:∀ k ∈ Ft,k ∉ B) (hFE:∀ k ∈ FE,k < w.heap.size) (hFt:∀ k ∈ Ft,k < w.heap.size) (hp:p≤tx.length) (hl:s'.parses.length < 1000000) (hx:Ex tx E W p { s with notes:=s.notes.set 0 (p:Int) } s') :
  Calls Tryz.prog 45 #[pt g,.int .i64 (p:Int)] w fun e w'=>∃ pv,e=.returned pv∧ParsedD N w' pv s'.parses∧∃ B',Chg w w' B B':=by
 obtain ⟨pv,cs,F0,hg,_⟩:=hW.ex
 have hK:=hW.two
 have hnb:=hW.nblk
 obtain ⟨cur,hn⟩:=hnb
 have g5:w.cell? ⟨g,5,none⟩=some (.slice (some ⟨C.nb,0,none⟩) C.K C.ncap):=Joins.cell_of_block hg 5
 have rd:=hW.read 0 (by omega)
 have uf:=Joins.unfrozen_of_block hn 0
 have i1:(0:Int) < (C.K:Int):=by omega
 obtain ⟨f,fi,ca,hu⟩:=hR.form
 subst hu
 obtain ⟨X,hX⟩:∃ X,X=w.setCell ⟨C.nb,0,none⟩ (.int .i64 (p:Int)):=⟨_,rfl⟩
 have hXs:WS N X g C { s with notes:=s.notes.set 0 (p:Int) } B:=by rw [hX];exact hW.note 0 (by omega) (p:Int)
 have hXc:Chg w X B B:=by rw [hX];exact (Chg.refl w B).set (a:=⟨C.nb,0,none⟩) (.int .i64 (p:Int)) hW.blocks.2.2
 obtain ⟨pv2,cs2,F2,hg2,_⟩:=hXs.ex
 have x2:X.cell? ⟨g,2,none⟩=some (.func (.func f) fi ca):=by rw [← hwh];exact Joins.cell_of_block hg2 2
 have HC:=exec (N:=N) (g:=g) (C:=C) (L:=L) (FE:=FE) (Ft:=Ft) (tx:=tx) (E:=E) (o:=o) hE htx hx X _ F B hWf hp hl (Nat.le_trans hN hXc.size) hXs (hR.kept fun k hk=>hXc.block k (hR.low k hk) (aF k hk))
  (hEn.kept fun k hk hk2=>hXc.block k hk2 (aE k hk)) (hT.kept (fun k hk hk2=>hXc.block k hk2 (aT k hk)) hXc.size) aF aE aT (fun k hk=>Nat.lt_of_lt_of_le (hFE k hk) hXc.size) (fun k hk=>by have:=hXc.size;have:=hFt k hk;omega)
 obtain ⟨f',fi',ca',e1,hcf,hC⟩:=HC
 simp only [Value.func.injEq,Fn.func.injEq] at e1
 obtain ⟨rfl,rfl,rfl⟩:=e1
 have HXC:=hid hXc
 have HX:=hid hX
 clear hW hg hn hR hEn hT hx hXs hXc hg2 aF aE aT hFt hFE hE hWf hl
 go_enter Tryz.func45,Tryz.ntmps45
 go_upto_region 2 with fail
 rw [← hX]
 clear hX
 go_wp2_with (first | ((with_reducible refine hC.mono ?_);rintro e w2 ⟨rfl,B2,hW2,hC2⟩;obtain ⟨pv3,cs3,F3,hg3,hp3,hP3,hD3,_⟩:=hW2.ex;have y6:w2.cell? ⟨g,6,none⟩=some pv3:=Joins.cell_of_block hg3 6;have HP3:Hid (ParsedD N w2 pv3 s'.parses):=⟨cs3,F3,hp3,hP3,hD3.2⟩;obtain ⟨q1,q2,q3,rfl⟩:=row_slice hp3;have HC2:=hid hC2;clear hC hW2 hC2 hg3 hp3 hP3 hD3))
 go_ret
 exact ⟨_,rfl,HP3.out,B2,HXC.out.trans HC2.out⟩
def box (top len:Nat):List (Int × Int):=(List.range (top + 1)).flatMap fun (n:Nat)=>(List.range (len + 1)).map fun (p:Nat)=>((n:Int),(p:Int))
theorem mem_box {top len:Nat} {n:Int} {p:Nat} (h0:0≤n) (h1:n≤(top:Int)) (hp:p≤len):(n,(p:Int)) ∈ box top len:=by
 simp only [box,List.mem_flatMap,List.mem_range,List.mem_map]
 exact ⟨n.toNat,by omega,p,by omega,by rw [Int.toNat_of_nonneg h0]⟩
def left (top len:Nat) (s:Sg):Nat:=(box top len).countP fun q=>!decide (q ∈ s.done)
def left1 (len:Nat) (s:Sg):Nat:=(List.range (len + 1)).countP fun (p:Nat)=>!decide ((1,(p:Int)) ∈ s.done)
theorem countP_lt {α:Type} {l:List α} {p p':α→Bool} (h:∀ x ∈ l,p' x=true→p x=true) {q:α} (hq:q ∈ l) (h1:p q=true) (h2:p' q=false):l.countP p' + 1≤l.countP p:=by
 induction l with
 | nil=>cases hq
 | cons x l ih =>
  have hm:l.countP p'≤l.countP p:=List.countP_mono_left fun y hy=>h y (by simp [hy])
  simp only [List.mem_cons] at hq
  rcases hq with rfl | hq
  ·rw [List.countP_cons_of_pos h1,List.countP_cons_of_neg (by simp [h2])]
   omega
  ·have:=ih (fun y hy=>h y (by simp [hy])) hq
   by_cases hx:p' x=true
   ·rw [List.countP_cons_of_pos hx,List.countP_cons_of_pos (h x (by simp) hx)]
    omega
   ·rw [List.countP_cons_of_neg hx,List.countP_cons]
    omega
theorem left_done {top len:Nat} {s:Sg} {n:Int} {p:Nat} (h0:0≤n) (h1:n≤(top:Int)) (hp:p≤len) (hn:(n,(p:Int)) ∉ s.done):left top len { s with done:=s.done ++ [(n,(p:Int))] } + 1≤left top len s:=by
 refine countP_lt (fun x _ hx=>?_) (mem_box h0 h1 hp) (by simpa using hn) (by simp)
 simp at hx ⊢
 exact hx.1
theorem left1_le {len:Nat} {s:Sg} {q:Int × Int}:left1 len { s with done:=s.done ++ [q] }≤left1 len s:=by
 refine List.countP_mono_left fun x _ hx=>?_
 simp at hx ⊢
 exact hx.1
theorem left1_done {len:Nat} {s:Sg} {p:Nat} (hp:p≤len) (hn:((1:Int),(p:Int)) ∉ s.done):left1 len { s with done:=s.done ++ [(1,(p:Int))] } + 1≤left1 len s:=by
 refine countP_lt (q:=p) (fun x _ hx=>?_) (by simp;omega) (by simpa using hn) (by simp)
 simp at hx ⊢
 exact hx.1
def Good (tx:List Int) (E:Nat→Way) (top:Nat) (s:Sg) (W:Way) (p:Nat):Prop:=
 ∃ s',Ex tx E W p s s'∧s'.parses.length + left1 tx.length s'≤s.parses.length + left1 tx.length s∧left top tx.length s'≤left top tx.length s∧s'.notes.length=s.notes.length
section
variable {tx:List Int} {E:Nat→Way} {top:Nat}
mutual
theorem good_way (m:Nat) (IH:∀ s W p,left top tx.length s < m→W.tg top→p≤tx.length→Good tx E top s W p) (A:Nat→Prop) (hA:∀ b,A b→∀ s p,left top tx.length s≤m→p≤tx.length→Good tx E top s (.again b) p) :
  ∀ (W:Way),W.tg top→(∀ b ∈ W.ua,A b)→∀ s p,left top tx.length s≤m→p≤tx.length→Good tx E top s W p
 | .through,hg,_,s,p,hs,hp=>by simp [Way.tg] at hg
 | .once n d,hg,_,s,p,hs,hp=>by
  simp only [Way.tg] at hg
  by_cases hd:(n,(p:Int)) ∈ s.done
  ·exact ⟨s,.skip hd,Nat.le_refl _,Nat.le_refl _,rfl⟩
  ·have hl:=left_done hg.1.1 hg.1.2 hp hd
   rcases hg.2 with ⟨rfl,rfl⟩ | hg2
   ·have hl1:=left1_done (len:=tx.length) hp hd
    refine ⟨_,.once hd (.through p _),?_,?_,rfl⟩
    ·show (s.parses ++ [((p:Int),s.notes.set 1 (p:Int))]).length + left1 tx.length { s with done:=s.done ++ [(1,(p:Int))] }≤_
     simp only [List.length_append,List.length_cons,List.length_nil]
     omega
    ·show left top tx.length { s with done:=s.done ++ [(1,(p:Int))] }≤_
     omega
   ·obtain ⟨s',h1,h2,h3,h4⟩:=IH { s with done:=s.done ++ [(n,(p:Int))] } d p (by omega) hg2 hp
    have hl1:=left1_le (len:=tx.length) (s:=s) (q:=(n,(p:Int)))
    exact ⟨s',.once hd h1,by have h2:s'.parses.length + left1 tx.length s'≤s.parses.length + left1 tx.length { s with done:=s.done ++ [(n,(p:Int))] }:=h2;omega,by omega,h4⟩
 | .noted c d,hg,hu,s,p,hs,hp=>by
  simp only [Way.tg] at hg
  obtain ⟨s',h1,h2,h3,h4⟩:=good_way m IH A hA d hg (fun b hb=>hu b (by simpa [Way.ua] using hb)) { s with notes:=s.notes.set c (p:Int) } p hs hp
  exact ⟨_,.noted h1,h2,h3,by simpa using h4⟩
 | .runeOf R d,hg,hu,s,p,hs,hp=>by
  simp only [Way.tg] at hg
  by_cases h:tx.length≤p
  ·exact ⟨s,.over h,Nat.le_refl _,Nat.le_refl _,rfl⟩
  ·by_cases hr:(rightB R && hasB R (tx.getD p 0))=true
   ·obtain ⟨s',h1,h2,h3,h4⟩:=good_way m IH A hA d hg (fun b hb=>hu b (by simpa [Way.ua] using hb)) s (p + 1) hs (by omega)
    exact ⟨s',.rune (by omega) hr h1,h2,h3,h4⟩
   ·exact ⟨s,.other (by omega) (by simpa using hr),Nat.le_refl _,Nat.le_refl _,rfl⟩
 | .ifHolds a d,hg,hu,s,p,hs,hp=>by
  simp only [Way.tg] at hg
  by_cases h:heldB tx a p=true
  ·obtain ⟨s',h1,h2,h3,h4⟩:=good_way m IH A hA d hg (fun b hb=>hu b (by simpa [Way.ua] using hb)) s p hs hp
   exact ⟨s',.holds h h1,h2,h3,h4⟩
  ·exact ⟨s,.fails (by simpa using h),Nat.le_refl _,Nat.le_refl _,rfl⟩
 | .inOrder l,hg,hu,s,p,hs,hp=>by
  simp only [Way.tg] at hg
  obtain ⟨ss,h0,h1,h2⟩:=good_ways m IH A hA l hg (fun b hb=>hu b (by simpa [Way.ua] using hb)) s p hs hp
  subst h0
  exact ⟨_,.inOrder ss h1,h2⟩
 | .again b,hg,hu,s,p,hs,hp=>hA b (hu b (by simp [Way.ua])) s p hs hp
theorem good_ways (m:Nat) (IH:∀ s W p,left top tx.length s < m→W.tg top→p≤tx.length→Good tx E top s W p) (A:Nat→Prop) (hA:∀ b,A b→∀ s p,left top tx.length s≤m→p≤tx.length→Good tx E top s (.again b) p) :
  ∀ (l:List Way),tgL top l→(∀ b ∈ uaL l,A b)→∀ s p,left top tx.length s≤m→p≤tx.length→∃ ss:Nat→Sg,ss 0=s∧(∀ i (hi:i < l.length),Ex tx E (l[i]'hi) p (ss i) (ss (i + 1))) ∧
   (ss l.length).parses.length + left1 tx.length (ss l.length)≤s.parses.length + left1 tx.length s∧left top tx.length (ss l.length)≤left top tx.length s∧(ss l.length).notes.length=s.notes.length
 | [],hg,hu,s,p,hs,hp=>⟨fun _=>s,rfl,fun i hi=>by simp at hi,Nat.le_refl _,Nat.le_refl _,rfl⟩
 | d :: l,hg,hu,s,p,hs,hp=>by
  simp only [tgL] at hg
  obtain ⟨s1,h1,h2,h3,h4⟩:=good_way m IH A hA d hg.1 (fun b hb=>hu b (by simp [uaL,hb])) s p hs hp
  obtain ⟨ss,e0,e1,e2,e3,e4⟩:=good_ways m IH A hA l hg.2 (fun b hb=>hu b (by simp [uaL,hb])) s1 p (by omega) hp
  refine ⟨fun i=>match i with | 0=>s | i + 1=>ss i,rfl,fun i hi=>?_,by simp only [List.length_cons];omega,by simp only [List.length_cons];omega,by simp only [List.length_cons];rw [e4,h4]⟩
  cases i with
  | zero=>simpa [e0] using h1
  | succ i=>simpa using e1 i (by simpa using hi)
end
theorem good_all (hE:∀ b,(E b).tg top∧(E b).ua=[]):∀ (m:Nat) (s:Sg) (W:Way) (p:Nat),left top tx.length s≤m→W.tg top→p≤tx.length→Good tx E top s W p:=by
 intro m
 induction m using Nat.strongRecOn with
 | _ m ihm =>
 have IH:∀ s W p,left top tx.length s < m→W.tg top→p≤tx.length→Good tx E top s W p:=fun s W p h1 h2 h3=>ihm (left top tx.length s) h1 s W p (Nat.le_refl _) h2 h3
 have hA:∀ b,True→∀ s p,left top tx.length s≤m→p≤tx.length→Good tx E top s (.again b) p:=fun b _ s p hs hp=>by
  obtain ⟨s',h1,h2⟩:=good_way m IH (fun _=>False) (fun b hb=>hb.elim) (E b) (hE b).1 (fun x hx=>by rw [(hE b).2] at hx;cases hx) s p hs hp
  exact ⟨s',.again h1,h2⟩
 intro s W p hs hW hp
 exact good_way m IH (fun _=>True) hA W hW (fun _ _=>trivial) s p hs hp
end
end Go.Proofs.YtacaanhnlfpbhaaGreat
