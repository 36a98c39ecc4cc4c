/- HELPERS: texts of ours put together. -/
import Derived.Test.YtacaanhnlfpbhaaGreatK01
import Derived.Test.YtacaanhnlfpbhaaGreatK04
import Derived.Test.YtacaanhnlfpbhaaGreatK05
import Derived.Deep.RegionHeld2
import Derived.Lib.MinMax
import Derived.BigQuiet
import Derived.Deep.Cut
namespace Go.Proofs.YtacaanhnlfpbhaaGreat
open Go.RowKit
set_option linter.unusedVariables false
set_option linter.unusedSimpArgs false
abbrev FV (N:Nv) (ev:Value) (n d:Int):Array Value:=#[.int .i64 N.k,.slice N.r1 N.r2 N.r3,.int .i64 N.a2,.slice N.s1 N.s2 N.s3,.int .i64 N.a4,.int .i64 N.a5,.bool N.a6,.int .i64 N.a7,.string N.a8,ev,.int .i64 n,.int .i64 d]
def FC (w:World) (f:Nat) (N:Nv) (ev:Value) (t:Tn):Prop:=w.heap[f]? = some (.cells (FV N ev ((capN t.nodes:Nat):Int) ((t.depth:Nat):Int)) 151 (0,0))
abbrev NK (k:Int):Nv:=⟨k,none,0,0,0,none,0,0,0,0,false,0,⟨#[]⟩⟩
abbrev NO (k mn mx:Int) (lz:Bool) (ix:Int) (nm:ByteArray):Nv:=⟨k,none,0,0,0,none,0,0,mn,mx,lz,ix,nm⟩
def New (A:Nat → Prop) (w w':World):Nat → Prop:=fun b => A b ∨ w.heap.size ≤ b ∧ b < w'.heap.size
theorem New.more {A:Nat → Prop} {w w' v v':World} {b:Nat} (h:New A v v' b) (h1:w.heap.size ≤ v.heap.size) (h2:v'.heap.size ≤ w'.heap.size):New A w w' b:=by
 rcases h with h | h
 ·exact .inl h
 ·exact .inr ⟨by omega,by omega⟩
theorem New.trans {A:Nat → Prop} {w v v' w':World} {b:Nat} (h:New (New A w v) v' w' b) (h1:v.heap.size ≤ w'.heap.size) (h2:w.heap.size ≤ v'.heap.size):New A w w' b:=by
 rcases h with (h | h) | h
 ·exact .inl h
 ·exact .inr ⟨by omega,by omega⟩
 ·exact .inr ⟨by omega,by omega⟩
theorem New.low {A:Nat → Prop} {w w':World} (hA:∀ b,A b → b < w.heap.size) (h1:w.heap.size ≤ w'.heap.size):∀ b,New A w w' b → b < w'.heap.size:=fun b h => by
 rcases h with h | h
 ·have:=hA b h;omega
 ·omega
def RV (w:World) (A:Nat → Prop) (ad:Option Addr) (fs:Nat → Nat) (l:List (Tn × Nat)):Prop:=
 0 < l.length → ∃ b o,ad = some ⟨b,o,none⟩ ∧ A b ∧ ∀ i (hi:i < l.length),w.cell? ⟨b,o + i * 2,none⟩ = some (pt (fs i)) ∧ w.cell? ⟨b,o + i * 2 + 1,none⟩ = some (.int .i64 (l[i].2:Int))
inductive FA (w:World) (A:Nat → Prop):Nat → Tn → Prop
 | leaf {f:Nat} {N:Nv} {R:List (Int × Int)} (hf:A f) (hc:FC w f N (.func (.func 203) #[] #[]) (.mk N.k R N.a2 [] N.a4 N.a5 N.a6 N.a7 N.a8)) (ok:N.ok) (hr:N.r2 = R.length) (hR:RP w A N.r1 R) (hRk:∀ x ∈ R,I64ok x.1 ∧ I64ok x.2) (h5:R.length ≤ 5000) :
   FA w A f (.mk N.k R N.a2 [] N.a4 N.a5 N.a6 N.a7 N.a8)
 | over {f b g:Nat} {k mn mx ix:Int} {lz:Bool} {nm:ByteArray} {s:Tn} (hf:A f) (hc:FC w f (NO k mn mx lz ix nm) (.func (.func 202) #[] #[pt b]) (.mk k [] 0 [s] mn mx lz ix nm)) (ok:(NO k mn mx lz ix nm).ok) (hb:Bx w b 146 (pt g)) (hbB:A b) (hs:FA w A g s) :
   FA w A f (.mk k [] 0 [s] mn mx lz ix nm)
 | row {f b1 b2:Nat} {k:Int} {ad:Option Addr} {c:Nat} {fs:Nat → Nat} {l:List (Tn × Nat)} (hf:A f) (hc:FC w f (NK k) (.func (.func 198) #[] #[pt b1,pt b2]) (rowT k l)) (hk:k = 4 ∨ k = 5) (h1:Bx w b1 194 (.slice ad l.length c)) (h2:Bx w b2 3 (.int .i64 k)) (hb1:A b1) (hb2:A b2)
   (hv:RV w A ad fs l) (ht:∀ x ∈ l,0 < x.2 ∧ x.2 ≤ 1000) (hl:l.length ≤ 200000) (hs:∀ i (hi:i < l.length),FA w A (fs i) l[i].1):FA w A f (rowT k l)
 | opt {f b1 b2 b3 g n:Nat} {lz:Bool} {y:Tn} (hf:A f) (hc:FC w f (NO 6 0 1 lz 0 ⟨#[]⟩) (.func (.func 232) #[] #[pt b1,pt b2,pt b3]) (optT y lz (n + 2))) (h1:Bx w b1 146 (pt g)) (h2:Bx w b2 3 (.int .i64 ((n + 2:Nat):Int))) (h3:Bx w b3 4 (.bool lz)) (hb1:A b1) (hb2:A b2) (hb3:A b3) (hn:n + 2 ≤ 1000) (hd:y.depth ≤ 1000000000) (hs:FA w A g y):FA w A f (optT y lz (n + 2))
theorem FC.kept {w w':World} {f:Nat} {N:Nv} {ev:Value} {t:Tn} (h:FC w f N ev t) (hk:w'.heap[f]? = w.heap[f]?):FC w' f N ev t:=hk.trans h
theorem RV.kept {w w':World} {A A':Nat → Prop} {ad:Option Addr} {fs:Nat → Nat} {l:List (Tn × Nat)} (h:RV w A ad fs l) (hk:∀ b,A b → w'.heap[b]? = w.heap[b]?) (hA:∀ b,A b → A' b):RV w' A' ad fs l:=fun hp => by
 obtain ⟨b,o,h1,h2,h3⟩:=h hp
 exact ⟨b,o,h1,hA b h2,fun i hi => ⟨(cell_eq (hk b h2) _).trans (h3 i hi).1,(cell_eq (hk b h2) _).trans (h3 i hi).2⟩⟩
theorem FA.kept {w w':World} {A A':Nat → Prop} {f:Nat} {t:Tn} (h:FA w A f t) (hk:∀ b,A b → w'.heap[b]? = w.heap[b]?) (hA:∀ b,A b → A' b):FA w' A' f t:=by
 induction h with
 | leaf hf hc ok hr hR hRk h5 => exact .leaf (hA _ hf) (hc.kept (hk _ hf)) ok hr (hR.kept hk hA) hRk h5
 | over hf hc ok hb hbB hs ih => exact .over (hA _ hf) (hc.kept (hk _ hf)) ok ((hk _ hbB).trans hb) (hA _ hbB) ih
 | row hf hc hkk h1 h2 hb1 hb2 hv ht hl hs ih => exact .row (hA _ hf) (hc.kept (hk _ hf)) hkk ((hk _ hb1).trans h1) ((hk _ hb2).trans h2) (hA _ hb1) (hA _ hb2) (hv.kept hk hA) ht hl ih
 | opt hf hc h1 h2 h3 hb1 hb2 hb3 hn hd hs ih => exact .opt (hA _ hf) (hc.kept (hk _ hf)) ((hk _ hb1).trans h1) ((hk _ hb2).trans h2) ((hk _ hb3).trans h3) (hA _ hb1) (hA _ hb2) (hA _ hb3) hn hd ih
theorem FA.up {w w':World} {A A':Nat → Prop} {f:Nat} {t:Tn} (h:FA w A f t) (hL:∀ b,A b → b < w.heap.size) (hb:Below w.heap.size w w') (hA:∀ b,A b → A' b):FA w' A' f t:=h.kept (fun b hA => hb.block b (hL b hA)) hA
theorem FA.cells {w:World} {A:Nat → Prop} {f:Nat} {t:Tn} (h:FA w A f t):A f ∧ ∃ N ev,FC w f N ev t ∧ N.k = t.kind:=by
 cases h with
 | leaf hf hc ok hr hR hRk h5 => exact ⟨hf,_,_,hc,rfl⟩
 | over hf hc ok hb hbB hs => exact ⟨hf,_,_,hc,rfl⟩
 | row hf hc hkk h1 h2 hb1 hb2 hv ht hl hs => exact ⟨hf,_,_,hc,rfl⟩
 | opt hf hc h1 h2 h3 hb1 hb2 hb3 hn hd hs => exact ⟨hf,_,_,hc,(optT_kind _ _ _).symm⟩
theorem FC.num {w:World} {f:Nat} {N:Nv} {ev:Value} {t:Tn} (h:FC w f N ev t):w.cell? ⟨f,0,none⟩ = some (.int .i64 N.k) ∧ w.cell? ⟨f,9,none⟩ = some ev ∧ w.cell? ⟨f,10,none⟩ = some (.int .i64 ((capN t.nodes:Nat):Int)) ∧ w.cell? ⟨f,11,none⟩ = some (.int .i64 ((t.depth:Nat):Int)):=
 ⟨Joins.cell_of_block h 0,Joins.cell_of_block h 9,Joins.cell_of_block h 10,Joins.cell_of_block h 11⟩
theorem atMost62 (n:Nat) (w:World) (hn:n ≤ 4611686018427387904):Calls Tryz.prog 197 #[.int .i64 (n:Int)] w fun e w' => e = .returned (.int .i64 ((capN n:Nat):Int)) ∧ w' = w:=by
 have e:((capN n:Nat):Int) = min (n:Int) 200001:=by unfold capN;omega
 rw [e]
 go_enter Tryz.func197,Tryz.ntmps197
 go_wp2
 all_goals go_ret
 all_goals exact ⟨rfl,rfl⟩
set_option maxRecDepth 100000 in
set_option maxHeartbeats 4000000 in
theorem leaf48 (A:Nat → Prop) (N:Nv) (R:List (Int × Int)) (w:World) (ok:N.ok) (hr:N.r2 = R.length) (hA:∀ b,A b → b < w.heap.size) (hR:RP w A N.r1 R) (hRk:∀ x ∈ R,I64ok x.1 ∧ I64ok x.2) (h5:R.length ≤ 5000):Calls Tryz.prog 135 #[N.v] w fun e w' => ∃ f,e = .returned (pt f) ∧ FA w' (New A w w') f (.mk N.k R N.a2 [] N.a4 N.a5 N.a6 N.a7 N.a8) ∧ Below w.heap.size w w':=by
 have hb:=below_two' w (.cells #[.int .i64 N.k,.slice N.r1 N.r2 N.r3,.int .i64 N.a2,.slice N.s1 N.s2 N.s3,.int .i64 N.a4,.int .i64 N.a5,.bool N.a6,.int .i64 N.a7,.string N.a8] 25) (.cells (FV N (.func (.func 203) #[] #[]) 1 1) 151)
 have hn:=two_new w (.cells #[.int .i64 N.k,.slice N.r1 N.r2 N.r3,.int .i64 N.a2,.slice N.s1 N.s2 N.s3,.int .i64 N.a4,.int .i64 N.a5,.bool N.a6,.int .i64 N.a7,.string N.a8] 25) (FV N (.func (.func 203) #[] #[]) 1 1) 151
 have HB:=hid hb
 have HN:=hid hn
 have HOK:=hid ok
 have HR:=hid hR
 have HRL:=hid hr
 have HAA:=hid hA
 clear hb hn ok hR hr hA
 go_enter Tryz.func135,Tryz.ntmps135
 go_wp2
 all_goals go_ret
 all_goals refine ⟨w.heap.size + 1,rfl,?_,HB.out⟩
 all_goals exact .leaf (.inr ⟨by omega,by simp⟩) HN.out HOK.out HRL.out (HR.out.kept (fun b hb => HB.out.block b (HAA.out b hb)) (fun b hb => .inl hb)) hRk h5
theorem ok_NO (k mn mx:Int) (lz:Bool) (ix:Int) (nm:ByteArray) (hk:I64ok k) (h1:I64ok mn) (h2:I64ok mx) (h3:I64ok ix) (h4:nm.size ≤ maxLen):(NO k mn mx lz ix nm).ok:=
 ⟨hk,by constructor <;> simp,h1,h2,h3,h4,⟨Nat.le_refl _,Nat.zero_le _⟩,⟨Nat.le_refl _,Nat.zero_le _⟩⟩
theorem empty61 (A:Nat → Prop) (w:World):Calls Tryz.prog 196 #[] w fun e w' => ∃ f,e = .returned (pt f) ∧ FA w' (New A w w') f emptyT ∧ Below w.heap.size w w':=by
 have HC:=leaf48 (fun _ => False) (NK 1) [] w (ok_NO 1 0 0 false 0 ⟨#[]⟩ (by decide) (by decide) (by decide) (by decide) (Nat.zero_le _)) rfl (fun b h => h.elim) (fun h => absurd rfl h) (fun x hx => by cases hx) (by simp)
 go_enter Tryz.func196,Tryz.ntmps196
 go_wp2_with (first | (go_at_call 135;(with_reducible refine HC.mono ?_);rintro e w1 ⟨f,rfl,hf,hb⟩;have HF:=hid hf;have HB:=hid hb;clear hf hb HC))
 all_goals go_ret
 all_goals exact ⟨f,rfl,HF.out.kept (fun _ _ => rfl) (fun b hb => .inr (by rcases hb with h | h;exact h.elim;exact h)),HB.out⟩
set_option maxRecDepth 100000 in
set_option maxHeartbeats 4000000 in
theorem loop66 (mn mx:Int) (lz:Bool) (w:World):Calls Tryz.prog 201 #[.int .i64 mn,.int .i64 mx,.bool lz] w fun e w' => e = .returned (NO 6 mn mx lz 0 ⟨#[]⟩).v ∧ Below w.heap.size w w':=by
 go_enter Tryz.func201,Tryz.ntmps201
 go_wp2
 all_goals refine bodyPost_ret (results_cell_row rfl _ _ w.heap.size 25 _ (0,0) _ rfl (heap_alloc_new w _) Tryz.underlying25 rfl (by kernel_rfl)) rfl ⟨rfl,Joins.below_alloc1 w _⟩
theorem below_drew (w:World):Below w.heap.size w w.drew:=⟨rfl,rfl,rfl,Nat.le_refl _,fun _ _ => rfl⟩
set_option maxRecDepth 100000 in
set_option maxHeartbeats 4000000 in
theorem over47 (A:Nat → Prop) (k mn mx:Int) (lz:Bool) (ix:Int) (nm:ByteArray) (g:Nat) (s:Tn) (w:World) (ok:(NO k mn mx lz ix nm).ok) (hA:∀ b,A b → b < w.heap.size) (hg:FA w A g s) (hd:s.depth ≤ 4000000000) :
  Calls Tryz.prog 134 #[(NO k mn mx lz ix nm).v,pt g] w fun e w' => ∃ f,e = .returned (pt f) ∧ FA w' (New A w w') f (.mk k [] 0 [s] mn mx lz ix nm) ∧ Below w.heap.size w w':=by
 obtain ⟨hga,N0,ev,hc,hk0⟩:=hg.cells
 have hgl:=hA g hga
 obtain ⟨c0,c9,c10,c11⟩:=hc.num
 have eN:capN (Tn.mk k [] 0 [s] mn mx lz ix nm).nodes = capN (1 + capN s.nodes):=by simp only [Tn.nodes,nodesL,capN];omega
 have eD:(((Tn.mk k [] 0 [s] mn mx lz ix nm).depth:Nat):Int) = 1 + (s.depth:Int):=by simp only [Tn.depth,depthL];omega
 obtain ⟨m,hm⟩:∃ m,m = capN s.nodes:=⟨_,rfl⟩
 obtain ⟨d,hdd⟩:∃ d,d = s.depth:=⟨_,rfl⟩
 rw [← hm] at c10 eN
 rw [← hdd] at c11 eD hd
 have hm1:m ≤ 200001:=by rw [hm];unfold capN;omega
 have HC:∀ W':World,Calls Tryz.prog 197 #[.int .i64 (1 + (m:Int))] W' fun e w' => e = .returned (.int .i64 ((capN (1 + m):Nat):Int)) ∧ w' = W':=fun W' => by
  have:=atMost62 (1 + m) W' (by omega)
  rwa [show ((1 + m:Nat):Int) = 1 + (m:Int) by omega] at this
 have e1:IntKind.i64.wrap (1 + (m:Int)) = 1 + (m:Int):=by simp [IntKind.wrap,IntKind.bits,IntKind.signed];omega
 have e2:IntKind.i64.wrap (1 + (d:Int)) = 1 + (d:Int):=by simp [IntKind.wrap,IntKind.bits,IntKind.signed];omega
 obtain ⟨q,hq⟩:∃ q,q = capN (1 + m):=⟨_,rfl⟩
 rw [← hq] at HC eN
 clear hq
 obtain ⟨W,hW⟩:∃ W,W = (w.alloc (.cells #[.int .i64 k,.slice none 0 0,.int .i64 0,.slice none 0 0,.int .i64 mn,.int .i64 mx,.bool lz,.int .i64 ix,.string nm] 25)).alloc (.cells #[pt g] 146):=⟨_,rfl⟩
 have hbW:Below w.heap.size w W:=by rw [hW];exact below_two' w _ _
 have hB:Bx W (w.heap.size + 1) 146 (pt g):=by rw [hW];exact two_new w _ _ _
 have hN:W.heap[w.heap.size]? = some (.cells #[.int .i64 k,.slice none 0 0,.int .i64 0,.slice none 0 0,.int .i64 mn,.int .i64 mx,.bool lz,.int .i64 ix,.string nm] 25 (0,0)):=by rw [hW];exact (heap_alloc_old _ _ (by simp)).trans (heap_alloc_new w _)
 have hsW:W.heap.size = w.heap.size + 2:=by rw [hW];simp
 obtain ⟨z,hz⟩:∃ z,z = w.heap.size:=⟨_,rfl⟩
 have hS:∀ w1,Below W.heap.size W w1 → w1.cell? ⟨w.heap.size,0,none⟩ = some (.int .i64 k) ∧ w1.cell? ⟨w.heap.size,1,none⟩ = some (.slice none 0 0) ∧ w1.cell? ⟨w.heap.size,2,none⟩ = some (.int .i64 0) ∧ w1.cell? ⟨w.heap.size,3,none⟩ = some (.slice none 0 0) ∧ w1.cell? ⟨w.heap.size,4,none⟩ = some (.int .i64 mn) ∧ w1.cell? ⟨w.heap.size,5,none⟩ = some (.int .i64 mx) ∧ w1.cell? ⟨w.heap.size,6,none⟩ = some (.bool lz) ∧ w1.cell? ⟨w.heap.size,7,none⟩ = some (.int .i64 ix) ∧ w1.cell? ⟨w.heap.size,8,none⟩ = some (.string nm) ∧
   w1.cell? ⟨w.heap.size + 1,0,none⟩ = some (pt g) ∧ w1.cell? ⟨g,10,none⟩ = some (.int .i64 (m:Int)) ∧ w1.cell? ⟨g,11,none⟩ = some (.int .i64 (d:Int)):=fun w1 h1 => by
  have hN1:=(h1.block w.heap.size (by omega)).trans hN
  have hB1:=(h1.block (w.heap.size + 1) (by omega)).trans hB
  have hg1:w1.heap[g]? = w.heap[g]?:=(h1.block g (by omega)).trans (hbW.block g hgl)
  obtain ⟨q0,q1,q2,q3,q4,q5,q6,q7,q8⟩:=nine' hN1
  exact ⟨q0,q1,q2,q3,q4,q5,q6,q7,q8,bx0 hB1,(cell_eq hg1 _).trans c10,(cell_eq hg1 _).trans c11⟩
 have HD:=hid (below_drew W)
 have HSS:=hid hS
 have HG:=hid hg
 have HBW:=hid hbW
 have HBB:=hid hB
 have HOK:=hid ok
 have HAA:=hid hA
 have hzs:W.heap.size = w.heap.size + 2:=hsW
 have HZS:=hid hzs
 have HEN:=hid eN
 have HED:=hid eD
 have HHD:=hid hd
 clear hg hbW hB ok hsW hzs hA hS hN c0 c9 c10 c11 hc hk0 hm hdd eN eD hd
 go_enter Tryz.func134,Tryz.ntmps134
 go_wp2_with fail
 rw [← hW,← hz]
 rw [← hz] at HSS
 have HW:=hid hW
 have HZ:=hid hz
 clear hW hz
 go_region_held2 (fun w1 => w1.cell? ⟨z,0,none⟩ = some (.int .i64 k) ∧ w1.cell? ⟨z,1,none⟩ = some (.slice none 0 0) ∧ w1.cell? ⟨z,2,none⟩ = some (.int .i64 0) ∧ w1.cell? ⟨z,3,none⟩ = some (.slice none 0 0) ∧ w1.cell? ⟨z,4,none⟩ = some (.int .i64 mn) ∧ w1.cell? ⟨z,5,none⟩ = some (.int .i64 mx) ∧ w1.cell? ⟨z,6,none⟩ = some (.bool lz) ∧ w1.cell? ⟨z,7,none⟩ = some (.int .i64 ix) ∧ w1.cell? ⟨z,8,none⟩ = some (.string nm) ∧ w1.cell? ⟨z + 1,0,none⟩ = some (pt g) ∧ w1.cell? ⟨g,10,none⟩ = some (.int .i64 (m:Int)) ∧ w1.cell? ⟨g,11,none⟩ = some (.int .i64 (d:Int)))
  (first | exact HSS.out _ HD.out | exact HSS.out _ (HD.out.alloc (Nat.le_refl _) _))
  (first | (go_at_call 197;(with_reducible refine (HC _).mono ?_);rintro e w1 ⟨rfl,hw1⟩;have hw2:=hw1.symm;clear hw1;subst hw2))
 all_goals
  go_wp2
  go_ret
  have hz:=HZ.out
  have hs:=HZS.out
  have hnew:Below w.heap.size w (W.alloc (.cells (FV (NO k mn mx lz ix nm) (.func (.func 202) #[] #[pt (z + 1)]) q (1 + d)) 151)).drew:=(HBW.out.alloc (by omega) _).trans (Joins.below_le (below_drew _) (by simp;omega))
  have hsz:(W.alloc (.cells (FV (NO k mn mx lz ix nm) (.func (.func 202) #[] #[pt (z + 1)]) q (1 + d)) 151)).drew.heap.size = W.heap.size + 1:=by show (W.alloc _).heap.size = _;simp
  have hnn:(W.alloc (.cells (FV (NO k mn mx lz ix nm) (.func (.func 202) #[] #[pt (z + 1)]) q (1 + d)) 151)).drew.heap[W.heap.size]? = some (.cells (FV (NO k mn mx lz ix nm) (.func (.func 202) #[] #[pt (z + 1)]) q (1 + d)) 151 (0,0)):=heap_alloc_new W _
  have hold:∀ b,b < W.heap.size → (W.alloc (.cells (FV (NO k mn mx lz ix nm) (.func (.func 202) #[] #[pt (z + 1)]) q (1 + d)) 151)).drew.heap[b]? = W.heap[b]?:=fun b hb => heap_alloc_old W _ hb
  generalize (W.alloc (.cells (FV (NO k mn mx lz ix nm) (.func (.func 202) #[] #[pt (z + 1)]) q (1 + d)) 151)).drew = U at hnew hsz hnn hold ⊢
  refine ⟨W.heap.size,rfl,?_,hnew⟩
  refine .over (b:=z + 1) (g:=g) (.inr ⟨by omega,by omega⟩) ?_ HOK.out ((hold _ (by omega)).trans (by rw [hz];exact HBB.out)) (.inr ⟨by omega,by omega⟩) ?_
  ·unfold FC
   rw [HEN.out,HED.out]
   exact hnn
  ·exact HG.out.kept (fun b hb => (hold b (by have:=HAA.out b hb;omega)).trans (HBW.out.block b (HAA.out b hb))) (fun b hb => .inl hb)
theorem depthL_mem {ts:List Tn} {t:Tn} (h:t ∈ ts):t.depth ≤ depthL ts:=by
 induction ts with
 | nil => cases h
 | cons u ts ih =>
  simp only [depthL]
  rcases List.mem_cons.1 h with rfl | h
  ·omega
  ·have:=ih h;omega
theorem depthL_le_of {ts:List Tn} {M:Nat} (h:∀ t ∈ ts,t.depth ≤ M):depthL ts ≤ M:=by
 induction ts with
 | nil => simp [depthL]
 | cons u ts ih => simp only [depthL];have:=h u (by simp);have:=ih (fun t ht => h t (by simp [ht]));omega
theorem depR_le (k:Int) (l:List (Tn × Nat)) (i:Nat) (hi:i ≤ l.length) {M:Nat} (h:∀ x ∈ l,x.1.depth ≤ M):depR k l i ≤ M + 1:=by
 unfold depR
 split
 ·omega
 ·have:depthL (rowS k (l.take i)) ≤ M:=depthL_le_of fun t ht => by
   simp only [rowS,List.mem_flatMap,List.mem_flatten,List.mem_replicate] at ht
   obtain ⟨x,hx,y,⟨_,rfl⟩,hy⟩:=ht
   have h1:=h x (List.mem_of_mem_take hx)
   unfold within at hy
   split at hy
   ·have:=depthL_mem hy;have:=x.1.depth_subs;omega
   ·simp at hy;subst hy;exact h1
  omega
theorem row_next {w V:World} {z:Nat} {k:Int} {sv ev:Value} {a e:Int} (hb:Below z w V) (y0:Bx V z 3 (.int .i64 k)) (y1:Bx V (z + 1) 194 sv) (hx:V.heap[z + 1 + 1]? = some (.cells (FV (NK k) ev a e) 151 (0,0))) (p:Nat) (A E:Int) :
  Below z w (((V.drewN p).setCell ⟨z + 1 + 1,10,none⟩ (.int .i64 A)).setCell ⟨z + 1 + 1,11,none⟩ (.int .i64 E)) ∧ Bx (((V.drewN p).setCell ⟨z + 1 + 1,10,none⟩ (.int .i64 A)).setCell ⟨z + 1 + 1,11,none⟩ (.int .i64 E)) z 3 (.int .i64 k) ∧ Bx (((V.drewN p).setCell ⟨z + 1 + 1,10,none⟩ (.int .i64 A)).setCell ⟨z + 1 + 1,11,none⟩ (.int .i64 E)) (z + 1) 194 sv ∧
   (((V.drewN p).setCell ⟨z + 1 + 1,10,none⟩ (.int .i64 A)).setCell ⟨z + 1 + 1,11,none⟩ (.int .i64 E)).heap[z + 1 + 1]? = some (.cells (FV (NK k) ev A E) 151 (0,0)):=by
 have hb':Below z w (V.drewN p):=⟨hb.os,hb.tape,hb.output,hb.size,hb.block⟩
 have y0':Bx (V.drewN p) z 3 (.int .i64 k):=y0
 have y1':Bx (V.drewN p) (z + 1) 194 sv:=y1
 have hx':(V.drewN p).heap[z + 1 + 1]? = some (.cells (FV (NK k) ev a e) 151 (0,0)):=hx
 generalize V.drewN p = V1 at hb' y0' y1' hx' ⊢
 refine ⟨(hb'.setCell (by show z ≤ z + 1 + 1;omega) _).setCell (by show z ≤ z + 1 + 1;omega) _,?_,?_,?_⟩
 ·exact (Below.heap_setCell _ _ _ _ (by simp only;omega)).trans ((Below.heap_setCell _ _ _ _ (by simp only;omega)).trans y0')
 ·exact (Below.heap_setCell _ _ _ _ (by simp only;omega)).trans ((Below.heap_setCell _ _ _ _ (by simp only;omega)).trans y1')
 ·exact Joins.block_setCell (i:=11) (Joins.block_setCell (i:=10) hx' _) _
set_option maxRecDepth 100000 in
set_option maxHeartbeats 8000000 in
theorem row45 (A:Nat → Prop) (k:Int) (ad:Option Addr) (c:Nat) (fs:Nat → Nat) (l:List (Tn × Nat)) (w:World) (hk:k = 4 ∨ k = 5) (hA:∀ b,A b → b < w.heap.size) (hv:RV w A ad fs l) (ht:∀ x ∈ l,0 < x.2 ∧ x.2 ≤ 1000) (hl:l.length ≤ 200000) (hp:0 < l.length) (hs:∀ i (hi:i < l.length),FA w A (fs i) l[i].1) (hd:∀ x ∈ l,x.1.depth ≤ 4000000000) :
  Calls Tryz.prog 132 #[.int .i64 k,.slice ad l.length c] w fun e w' => ∃ f,e = .returned (pt f) ∧ FA w' (New A w w') f (rowT k l) ∧ Below w.heap.size w w':=by
 obtain ⟨n,hn⟩:∃ n,n = l.length:=⟨_,rfl⟩
 rw [← hn]
 obtain ⟨b,o,rfl,hbA,hcs⟩:=hv hp
 have hb:=hA b hbA
 obtain ⟨W,hW⟩:∃ W,W = ((w.alloc (.cells #[.int .i64 k] 3)).alloc (.cells #[.slice (some ⟨b,o,none⟩) n c] 194)).alloc (.cells (FV (NK k) .nilFunc 1 0) 151):=⟨_,rfl⟩
 have HS:=hid hs
 have HV:=hid hv
 have HN:=hid hn
 have HCS:=hid hcs
 have HT:=hid ht
 have HDD:=hid hd
 have HAA:=hid hA
 have hn2:n ≤ 200000:=by omega
 clear hs hv hcs hn ht hd hA hbA
 go_enter Tryz.func132,Tryz.ntmps132
 go_wp2_with fail
 obtain ⟨z,hz⟩:∃ z,z = w.heap.size:=⟨_,rfl⟩
 have hB0:Below z w W:=by rw [hW,hz];exact ((Joins.below_alloc1 w _).alloc (by simp) _).alloc (by simp;omega) _
 obtain ⟨t0,t1,t2,t3⟩:=three_new w (.cells #[.int .i64 k] 3) (.cells #[.slice (some ⟨b,o,none⟩) n c] 194) (.cells (FV (NK k) .nilFunc 1 0) 151)
 rw [← hW,← hz] at t0 t1 t2
 rw [← hW,← hz]
 have HB0:=hid hB0
 have T0:=hid t0
 have T1:=hid t1
 have T2:=hid t2
 have HZ:=hid hz
 rw [← hz] at hb
 clear hB0 t0 t1 t2 t3 hW hz
 go_loopw [16] (fun y wq => ∃ i:Nat,y = .int .i64 (i:Int) ∧ i ≤ n ∧ Hid (Below z w wq) ∧ Hid (Bx wq z 3 (.int .i64 k)) ∧ Hid (Bx wq (z + 1) 194 (.slice (some ⟨b,o,none⟩) n c)) ∧ Hid (wq.heap[z + 1 + 1]? = some (.cells (FV (NK k) .nilFunc ((capN (1 + nodesL (rowS k (l.take i))):Nat):Int) ((depR k l i:Nat):Int)) 151 (0,0)))) (fun y _ => n - (intOf y).toNat)
 case atStart => exact ⟨0,rfl,by omega,HB0.out,T0.out,T1.out,by have h:=T2.out;simp only [capN,rowS,nodesL,depR,List.take_zero,List.flatMap_nil,if_pos];exact h⟩
 case round =>
  obtain ⟨i,rfl,hi,BK,X0,X1,X2⟩:=hrel
  by_cases hil:i < n
  ·have b1:decide ((i:Int) < (n:Int)) = true:=by simp;omega
   have b2:(i:Int) < (n:Int):=by omega
   have ad1:IntKind.i64.wrap ((i:Int) + 1) = (i:Int) + 1:=by simp [IntKind.wrap,IntKind.bits,IntKind.signed];omega
   have hil':i < l.length:=by have:=HN.out;omega
   obtain ⟨e0,e1⟩:=HCS.out i hil'
   have hbw:=BK.out.block b hb
   have u0:=(cell_eq hbw (o + i * 2)).trans e0
   have u1:=(cell_eq hbw (o + i * 2 + 1)).trans e1
   have hFA:=HS.out i hil'
   obtain ⟨hfa,N0,ev,hc,hk0⟩:=hFA.cells
   have hfl:=HAA.out _ hfa
   obtain ⟨c0,c9,c10,c11⟩:=(hc.kept (BK.out.block _ (by have:=HZ.out;omega))).num
   rw [hk0] at c0
   have htt:=HT.out _ (List.getElem_mem hil')
   have hdd:=HDD.out _ (List.getElem_mem hil')
   have eN:=row_nodes_step k l i hil' htt.1
   have eD:=row_depth_step k l i hil' htt.1
   have hN1:1 ≤ (l[i]'hil').1.nodes:=Tn.pos _
   have hD1:1 ≤ (l[i]'hil').1.depth:=by rw [Tn.depth_subs];omega
   obtain ⟨f,hf⟩:∃ f,f = fs i:=⟨_,rfl⟩
   obtain ⟨m,hm⟩:∃ m,m = (l[i]'hil').2:=⟨_,rfl⟩
   obtain ⟨kd,hkd⟩:∃ kd,kd = (l[i]'hil').1.kind:=⟨_,rfl⟩
   obtain ⟨q,hq⟩:∃ q,q = capN (l[i]'hil').1.nodes:=⟨_,rfl⟩
   obtain ⟨d,hdq⟩:∃ d,d = (l[i]'hil').1.depth:=⟨_,rfl⟩
   rw [← hf] at u0 c0 c9 c10 c11 hfl
   rw [← hm] at u1 htt eN
   rw [← hkd] at c0 eN eD
   rw [← hq] at c10 eN
   rw [← hdq] at c11 hdd eD hD1
   have hq1:1 ≤ q ∧ q ≤ 200001:=by rw [hq];unfold capN;omega
   obtain ⟨a,ha⟩:∃ a,a = capN (1 + nodesL (rowS k (l.take i))):=⟨_,rfl⟩
   obtain ⟨e,he⟩:∃ e,e = depR k l i:=⟨_,rfl⟩
   have ha1:a ≤ 200001:=by rw [ha];unfold capN;omega
   have he1:e ≤ 4000000001:=by
    rw [he]
    exact depR_le k l i (by omega) HDD.out
   rw [← ha] at eN
   rw [← he] at eD
   have hX2:=X2.out
   rw [← ha,← he] at hX2
   have HEN:=hid eN
   have HED:=hid eD
   have hfz:f < z:=by have:=HZ.out;omega
   clear hfa hf hm hkd hq hdq ha he eN eD hFA hc hk0 hbw e0 e1 c9 hN1
   have hxl:z + 1 + 1 < wr.heap.size:=(Array.getElem?_eq_some_iff.1 hX2).1
   go_upto_region 5 with fail
   obtain ⟨V,hV⟩:∃ V,V = wr.alloc (.cells #[pt f,.int .i64 (m:Int)] 245):=⟨_,rfl⟩
   rw [← hV]
   obtain ⟨x,hx⟩:∃ x,x = wr.heap.size:=⟨_,rfl⟩
   have hVo:∀ b,b < wr.heap.size → V.heap[b]? = wr.heap[b]?:=fun b hb => by rw [hV];exact heap_alloc_old wr _ hb
   have hVx:V.heap[x]? = some (.cells #[pt f,.int .i64 (m:Int)] 245 (0,0)):=by rw [hV,hx];exact heap_alloc_new wr _
   have g0:=(cell_eq (hVo f (by omega)) 0).trans c0
   have g10:=(cell_eq (hVo f (by omega)) 10).trans c10
   have g11:=(cell_eq (hVo f (by omega)) 11).trans c11
   have r0:V.cell? ⟨x,0,none⟩ = some (pt f):=Joins.cell_of_block hVx 0
   have r1:V.cell? ⟨x,1,none⟩ = some (.int .i64 (m:Int)):=Joins.cell_of_block hVx 1
   have k0:=bx0 ((hVo z (by omega)).trans X0.out)
   have hbV:Below z w V:=by rw [hV];exact BK.out.alloc (by omega) _
   have hX2V:=(hVo (z + 1 + 1) hxl).trans hX2
   have x10:=Joins.cell_of_block hX2V 10
   have x11:=Joins.cell_of_block hX2V 11
   have f10:=Joins.unfrozen_of_block hX2V 10
   have f11:=Joins.unfrozen_of_block hX2V 11
   rw [← hx]
   have HXV:=hid hX2V
   have HBV:=hid hbV
   have Y0:=hid ((hVo z (by omega)).trans X0.out)
   have Y1:=hid ((hVo (z + 1) (by omega)).trans X1.out)
   clear c0 c10 c11 u0 u1 hX2 hV hx hVo hVx hX2V hbV X0 X1 X2 BK
   go_quiet (fail)
   go_upto_region 6 with fail
   by_cases hkk:kd = k
   ·have bk:(kd == k) = true:=by simpa using hkk
    have hen:=HEN.out
    have hed:=HED.out
    rw [if_pos hkk] at hen hed
    have w1:IntKind.i64.wrap ((q:Int) - 1) = (q:Int) - 1:=by simp [IntKind.wrap,IntKind.bits,IntKind.signed];omega
    have w2:IntKind.i64.wrap ((d:Int) - 1) = (d:Int) - 1:=by simp [IntKind.wrap,IntKind.bits,IntKind.signed];omega
    obtain ⟨q1,hq1'⟩:∃ q1:Nat,(q:Int) - 1 = (q1:Int) ∧ q - 1 = q1:=⟨q - 1,by omega,rfl⟩
    obtain ⟨d1,hd1'⟩:∃ d1:Nat,(d:Int) - 1 = (d1:Int) ∧ d - 1 = d1:=⟨d - 1,by omega,rfl⟩
    rw [hq1'.2] at hen
    rw [hd1'.2] at hed
    have hq1b:q1 ≤ 200001:=by omega
    have hd1b:d1 ≤ 4000000000:=by omega
    have hmq:m * q1 ≤ 200001000:=by have:=Nat.mul_le_mul htt.2 (show q1 ≤ 200001 by omega);omega
    have HC:∀ W':World,Calls Tryz.prog 197 #[.int .i64 ((a:Int) + (m:Int) * (q1:Int))] W' fun e w' => e = .returned (.int .i64 ((capN (a + m * q1):Nat):Int)) ∧ w' = W':=fun W' => by
     have:=atMost62 (a + m * q1) W' (by omega)
     rwa [show ((a + m * q1:Nat):Int) = (a:Int) + (m:Int) * (q1:Int) by push_cast;rfl] at this
    obtain ⟨AA,hAA⟩:∃ AA,AA = capN (a + m * q1):=⟨_,rfl⟩
    rw [← hAA] at hen HC
    have w3:IntKind.i64.wrap ((m:Int) * (q1:Int)) = (m:Int) * (q1:Int):=by
     have h1:(m:Int) * (q1:Int) = ((m * q1:Nat):Int):=by push_cast;rfl
     rw [h1];simp [IntKind.wrap,IntKind.bits,IntKind.signed];omega
    have w4:IntKind.i64.wrap ((a:Int) + (m:Int) * (q1:Int)) = (a:Int) + (m:Int) * (q1:Int):=by
     have h1:(a:Int) + (m:Int) * (q1:Int) = ((a + m * q1:Nat):Int):=by push_cast;rfl
     rw [h1];simp [IntKind.wrap,IntKind.bits,IntKind.signed];omega
    have w5:IntKind.i64.wrap (1 + (d1:Int)) = 1 + (d1:Int):=by simp [IntKind.wrap,IntKind.bits,IntKind.signed];omega
    have hmx:max (e:Int) (1 + (d1:Int)) = ((max e (1 + d1):Nat):Int):=by omega
    obtain ⟨E,hE⟩:∃ E,E = max e (1 + d1):=⟨_,rfl⟩
    rw [← hE] at hed hmx
    have HN2:=hid hen
    have HD2:=hid hed
    have HMX:=hid hmx
    have HQQ:=hid hq1'.1
    have HDQ:=hid hd1'.1
    clear hen hed HEN HED hAA hE hmx hq1' hd1'
    go_quiet (fail)
    go_upto_region 8 with fail
    rw [HQQ.out,HDQ.out]
    clear HQQ HDQ w1 w2
    go_region_with (first | (go_at_call 197;(with_reducible refine (HC _).mono ?_);rintro e w1 ⟨rfl,hw1⟩;have hw2:=hw1.symm;clear hw1;subst hw2))
    all_goals go_wp2
    all_goals
     refine ⟨⟨i + 1,by push_cast;rfl,by omega,(row_next HBV.out Y0.out Y1.out HXV.out _ _ _).1,(row_next HBV.out Y0.out Y1.out HXV.out _ _ _).2.1,(row_next HBV.out Y0.out Y1.out HXV.out _ _ _).2.2.1,?_⟩,by simp [intOf];omega⟩
     rw [HN2.out,HD2.out,← HMX.out]
     exact (row_next HBV.out Y0.out Y1.out HXV.out _ _ _).2.2.2
   ·have bk:(kd == k) = false:=by simpa using hkk
    have hen:=HEN.out
    have hed:=HED.out
    rw [if_neg hkk] at hen hed
    obtain ⟨q1,hq1e⟩:∃ q1:Nat,q = q1:=⟨q,rfl⟩
    obtain ⟨d1,hd1e⟩:∃ d1:Nat,d = d1:=⟨d,rfl⟩
    subst hq1e hd1e
    have hq1b:q ≤ 200001:=by omega
    have hd1b:d ≤ 4000000000:=by omega
    have hmq:m * q ≤ 200001000:=by have:=Nat.mul_le_mul htt.2 (show q ≤ 200001 by omega);omega
    have HC:∀ W':World,Calls Tryz.prog 197 #[.int .i64 ((a:Int) + (m:Int) * (q:Int))] W' fun e w' => e = .returned (.int .i64 ((capN (a + m * q):Nat):Int)) ∧ w' = W':=fun W' => by
     have:=atMost62 (a + m * q) W' (by omega)
     rwa [show ((a + m * q:Nat):Int) = (a:Int) + (m:Int) * (q:Int) by push_cast;rfl] at this
    obtain ⟨AA,hAA⟩:∃ AA,AA = capN (a + m * q):=⟨_,rfl⟩
    rw [← hAA] at hen HC
    have w3:IntKind.i64.wrap ((m:Int) * (q:Int)) = (m:Int) * (q:Int):=by
     have h1:(m:Int) * (q:Int) = ((m * q:Nat):Int):=by push_cast;rfl
     rw [h1];simp [IntKind.wrap,IntKind.bits,IntKind.signed];omega
    have w4:IntKind.i64.wrap ((a:Int) + (m:Int) * (q:Int)) = (a:Int) + (m:Int) * (q:Int):=by
     have h1:(a:Int) + (m:Int) * (q:Int) = ((a + m * q:Nat):Int):=by push_cast;rfl
     rw [h1];simp [IntKind.wrap,IntKind.bits,IntKind.signed];omega
    have w5:IntKind.i64.wrap (1 + (d:Int)) = 1 + (d:Int):=by simp [IntKind.wrap,IntKind.bits,IntKind.signed];omega
    have hmx:max (e:Int) (1 + (d:Int)) = ((max e (1 + d):Nat):Int):=by omega
    obtain ⟨E,hE⟩:∃ E,E = max e (1 + d):=⟨_,rfl⟩
    rw [← hE] at hed hmx
    have HN2:=hid hen
    have HD2:=hid hed
    have HMX:=hid hmx
    clear hen hed HEN HED hAA hE hmx
    go_quiet (fail)
    go_upto_region 8 with fail
    go_region_with (first | (go_at_call 197;(with_reducible refine (HC _).mono ?_);rintro e w1 ⟨rfl,hw1⟩;have hw2:=hw1.symm;clear hw1;subst hw2))
    all_goals go_wp2
    all_goals
     refine ⟨⟨i + 1,by push_cast;rfl,by omega,(row_next HBV.out Y0.out Y1.out HXV.out _ _ _).1,(row_next HBV.out Y0.out Y1.out HXV.out _ _ _).2.1,(row_next HBV.out Y0.out Y1.out HXV.out _ _ _).2.2.1,?_⟩,by simp [intOf];omega⟩
     rw [HN2.out,HD2.out,← HMX.out]
     exact (row_next HBV.out Y0.out Y1.out HXV.out _ _ _).2.2.2
  ·have b1:decide ((i:Int) < (n:Int)) = false:=by simp;omega
   obtain rfl:i = n:=by omega
   have hx9:=Joins.unfrozen_of_block X2.out 9
   have hc9:=Joins.cell_of_block X2.out 9
   go_wp2
   all_goals go_ret
   all_goals
    have hX:=Joins.block_setCell (i:=9) X2.out (.func (.func 198) #[] #[pt (z + 1),pt z])
    have hbb:=BK.out.setCell (p:=⟨z + 1 + 1,9,none⟩) (by show z ≤ z + 1 + 1;omega) (.func (.func 198) #[] #[pt (z + 1),pt z])
    have hol:∀ b,b ≠ z + 1 + 1 → (wr.setCell ⟨z + 1 + 1,9,none⟩ (.func (.func 198) #[] #[pt (z + 1),pt z])).heap[b]? = wr.heap[b]?:=fun b hb => Below.heap_setCell _ _ _ _ hb
    have hlt:z + 1 + 1 < (wr.setCell ⟨z + 1 + 1,9,none⟩ (.func (.func 198) #[] #[pt (z + 1),pt z])).heap.size:=(Array.getElem?_eq_some_iff.1 hX).1
    obtain ⟨U,hU⟩:∃ U,U = wr.setCell ⟨z + 1 + 1,9,none⟩ (.func (.func 198) #[] #[pt (z + 1),pt z]):=⟨_,rfl⟩
    rw [← hU] at hX hbb hol hlt
    simp only [← hU]
    have hz:=HZ.out
    have hn:=HN.out
    refine ⟨z + 1 + 1,rfl,?_,by rw [← hz];exact hbb⟩
    have hkk:∀ b,b < w.heap.size → U.heap[b]? = w.heap[b]?:=fun b hb => hbb.block b (by omega)
    refine .row (b1:=z + 1) (b2:=z) (ad:=some ⟨b,o,none⟩) (c:=c) (fs:=fs) (.inr ⟨by omega,by omega⟩) ?_ hk ((hol _ (by omega)).trans (by rw [← hn];exact X1.out)) ((hol _ (by omega)).trans X0.out) (.inr ⟨by omega,by omega⟩) (.inr ⟨by omega,by omega⟩) (HV.out.kept (fun b hb => hkk b (HAA.out b hb)) (fun b hb => .inl hb)) HT.out hl (fun i hi => (HS.out i hi).kept (fun b hb => hkk b (HAA.out b hb)) (fun b hb => .inl hb))
    unfold FC
    rw [rowT_nodes,rowT_depth]
    have e1:depR k l i = 1 + depthL (rowS k l):=by unfold depR;rw [if_neg (by omega),hn,List.take_length]
    rw [← e1]
    have e2:rowS k (l.take i) = rowS k l:=by rw [hn,List.take_length]
    rw [← e2]
    exact hX
end Go.Proofs.YtacaanhnlfpbhaaGreat
