/- HELPERS: texts of ours put together. -/
import Derived.Test.YtacaanhnlfpbhaaGreatK03
import Derived.Test.YtacaanhnlfpbhaaGreatK16
import Derived.Test.YtacaanhnlfpbhaaGreatK02
import Derived.Test.YtacaanhnlfpbhaaGreatK13
import Derived.Test.YtacaanhnlfpbhaaGreatK14
import Derived.Test.YtacaanhnlfpbhaaGreatK15
import Derived.Test.YtacaanhnlfpbhaaGreatProg
import Derived.WalkKit
import Derived.ProofKit
import Derived.BigQuiet
import Derived.WalkSmall
import Derived.Deep.QuietTactic
import Derived.Deep.RegionWith
import Derived.Laws.EntriesVeiled
import Derived.Deep.WholeRow
import Derived.Test.YtacaanhnlfpbhaaGreatK01
namespace Go.Proofs.YtacaanhnlfpbhaaGreat
open Go.RowKit
set_option linter.unusedVariables false
set_option linter.unusedSimpArgs false
set_option maxRecDepth 100000 in
set_option maxHeartbeats 8000000 in
theorem count47 {w0:World} {B:Nat} {N:Nv} {t:Tn} (h:TI w0 B N t):∀ (l d:Int) (w:World),0 ≤ l ∧ l ≤ 4194304 → 0 ≤ d ∧ d ≤ 10001 → B ≤ w.heap.size → (∀ b,b < B → w.heap[b]? = w0.heap[b]?) →
  Calls Tryz.prog 64 #[N.v,.int .i64 l,.int .i64 d] w fun e w' => e = .returned (.int .i64 (t.ct l d)) ∧ Below w.heap.size w w':=by
 induction h with
 | @mk N R ts ND ok hr hR hRk hs hS hk ih =>
 intro l d w hl hd hB hw
 have HN:=node60 N R (w.alloc (.cells #[.int .i64 N.k,.slice N.r1 N.r2 N.r3,.int .i64 N.a2,.slice N.s1 N.s2 N.s3,.int .i64 N.a4,.int .i64 N.a5,.bool N.a6,.int .i64 N.a7,.string N.a8] 25)) ok hr ((hR.kept (fun b hb => (heap_alloc_old w _ (by omega)).trans (hw b hb))).le (by simp;omega))
 have hmax:=ok.s
 obtain ⟨k,r1,r2,r3,a2,s1,s2,s3,a4,a5,a6,a7,a8⟩:=N
 dsimp only at hs hS hmax HN
 simp only [Tn.ct]
 rw [show nodeB k R a2 s2 a4 a5 a6 a7 a8 = nodeB k R a2 ts.length a4 a5 a6 a7 a8 by rw [hs]] at HN
 have ad0:IntKind.i64.wrap (l - 1) = l - 1:=by simp [IntKind.wrap,IntKind.bits,IntKind.signed];omega
 have adD:IntKind.i64.wrap (d + 1) = d + 1:=by simp [IntKind.wrap,IntKind.bits,IntKind.signed];omega
 generalize nodeB k R a2 ts.length a4 a5 a6 a7 a8 = nb at HN ⊢
 have HW:=hid' hw
 have HS:=hid' hS
 have IH:=hid' ih
 have hm2:s2 ≤ 9223372036854775807:=by have:maxLen = 9223372036854775807:=rfl;omega
 have HL:=hid' hs
 clear ok hr hR hRk hk hS hw ih hmax hs
 have HAL:=hid' (Joins.below_alloc1 w (.cells #[.int .i64 k,.slice r1 r2 r3,.int .i64 a2,.slice s1 s2 s3,.int .i64 a4,.int .i64 a5,.bool a6,.int .i64 a7,.string a8] 25))
 have HNB:=hid' (heap_alloc_new w (.cells #[.int .i64 k,.slice r1 r2 r3,.int .i64 a2,.slice s1 s2 s3,.int .i64 a4,.int .i64 a5,.bool a6,.int .i64 a7,.string a8] 25))
 cases nb
 ·simp only [Bool.false_eq_true,false_and,if_false]
  go_enter Tryz.func64,Tryz.ntmps64
  go_wp2_with (first | (go_at_call 101;(with_reducible refine HN.mono ?_);rintro e w1 ⟨rfl,hb1⟩;have HB1:=hid' hb1;clear hb1 HN))
  go_ret
  exact ⟨rfl,HAL.out.trans (Joins.below_le HB1.out (by simp))⟩
 by_cases hdd:d ≤ 10000
 ·have c1:decide (d > 10000) = false:=by simp;omega
  have c1':decide (10000 < d) = false:=by simp;omega
  rw [if_pos ⟨rfl,hdd⟩]
  obtain ⟨r,hrr⟩:∃ r,r = ctL ts (l - 1) (d + 1):=⟨_,rfl⟩
  rw [← hrr]
  have HR:=hid' hrr
  clear hrr
  go_enter Tryz.func64,Tryz.ntmps64
  go_wp2_with (first | (go_at_call 101;(with_reducible refine HN.mono ?_);rintro e w1 ⟨rfl,hb1⟩;obtain ⟨z0,z1,z2,z3,z4,z5,z6,z7,z8⟩:=nine' ((hb1.block w.heap.size (by simp)).trans HNB.out);have HB1:=hid' hb1;clear hb1 HN))
  have HF1:=hid' (HAL.out.trans (Joins.below_le HB1.out (by simp)))
  have HX1:=hid' ((HB1.out.block w.heap.size (by simp)).trans HNB.out)
  clear HAL HNB HB1 z0 z1 z2 z3 z4 z5 z6 z7 z8
  go_loopw [1,8] (fun u y wq => ∃ i:Nat,y = .int .i64 (i:Int) ∧ i ≤ s2 ∧ (∃ q,u = .int .i64 q ∧ (-1 ≤ q ∧ q ≤ 4194304) ∧ Hid (ctL (ts.drop i) q (d + 1) = r)) ∧ Hid (Below w.heap.size w wq) ∧ Hid (wq.heap[w.heap.size]? = some (.cells #[.int .i64 k,.slice r1 r2 r3,.int .i64 a2,.slice s1 s2 s3,.int .i64 a4,.int .i64 a5,.bool a6,.int .i64 a7,.string a8] 25 (0,0)))) (fun _ y _ => s2 - (intOf y).toNat)
  case atStart => exact ⟨0,rfl,by omega,⟨l - 1,rfl,by omega,HR.out.symm⟩,HF1.out,HX1.out⟩
  case round =>
   obtain ⟨i,rfl,hi,⟨q,rfl,hq,HQ⟩,BK,BX⟩:=hrel
   obtain ⟨o0,o1,o2,o3,o4,o5,o6,o7,o8⟩:=nine' BX.out
   by_cases hil:i < s2
   ·have b1:decide ((i:Int) < (s2:Int)) = true:=by simp;omega
    have b2:(i:Int) < (s2:Int):=by omega
    by_cases hq0:0 ≤ q
    ·have b3:decide (q ≥ 0) = true:=by simp;omega
     have b3':decide (0 ≤ q) = true:=by simp;omega
     have hlt:i < ts.length:=by rw [← HL.out];exact hil
     obtain ⟨b,o,hs1,hb,hc⟩:=HS.out (by omega)
     subst hs1
     have hwk:∀ b,b < B → wr.heap[b]? = w0.heap[b]?:=fun b hb => (BK.out.block b (by omega)).trans (HW.out b hb)
     obtain ⟨n0,n1,n2,n3,n4,n5,n6,n7,n8⟩:=(hc i hlt).kept (hwk b hb)
     have HC:=IH.out i hlt q (d + 1) wr ⟨hq0,hq.2⟩ (by omega) (by have:=BK.out.size;omega) hwk
     have hsp:=Tn.ct_spec ts[i] q (d + 1) hq0 (by omega)
     rw [ctL_drop ts i hlt q (d + 1) hq0] at HQ
     obtain ⟨g,hg⟩:∃ g,g = ts[i].ct q (d + 1):=⟨_,rfl⟩
     rw [← hg] at HC HQ hsp
     have hg2:-1 ≤ g ∧ g ≤ 4194304:=by omega
     obtain ⟨M,hM⟩:∃ M,M = ND i:=⟨_,rfl⟩
     rw [← hM] at HC n0 n1 n2 n3 n4 n5 n6 n7 n8
     have ad1:IntKind.i64.wrap ((i:Int) + 1) = (i:Int) + 1:=by simp [IntKind.wrap,IntKind.bits,IntKind.signed];omega
     clear hM hg hwk hc hsp hlt
     go_wp2_with (first | (go_at_call 64;(with_reducible refine HC.mono ?_);rintro e w2 ⟨rfl,hb2⟩;have HB2:=hid' hb2;clear hb2 HC))
     refine ⟨⟨i + 1,by push_cast;rfl,by omega,⟨_,rfl,hg2,HQ.out⟩,?_,?_⟩,?_⟩
     ·exact BK.out.trans (Joins.below_le HB2.out BK.out.size)
     ·exact (HB2.out.block _ (Array.getElem?_eq_some_iff.1 BX.out).1).trans BX.out
     ·simp [intOf]
      omega
    ·have b3:decide (q ≥ 0) = false:=by simp;omega
     have b3':decide (0 ≤ q) = false:=by simp;omega
     have e:=HQ.out
     rw [ctL_neg _ _ _ (by omega)] at e
     go_wp2
     go_ret
     exact ⟨by first | rfl | exact ret_int e,BK.out⟩
   ·have b1:decide ((i:Int) < (s2:Int)) = false:=by simp;omega
    obtain rfl:i = s2:=by omega
    have e:=HQ.out
    rw [HL.out,List.drop_length] at e
    simp only [ctL] at e
    go_wp2
    go_ret
    exact ⟨by first | rfl | exact ret_int e,BK.out⟩
 ·have c1:decide (d > 10000) = true:=by simp;omega
  have c1':decide (10000 < d) = true:=by simp;omega
  rw [if_neg (fun h => hdd h.2)]
  go_enter Tryz.func64,Tryz.ntmps64
  go_wp2_with (first | (go_at_call 101;(with_reducible refine HN.mono ?_);rintro e w1 ⟨rfl,hb1⟩;have HB1:=hid' hb1;clear hb1 HN))
  go_ret
  exact ⟨rfl,HAL.out.trans (Joins.below_le HB1.out (by simp))⟩
theorem sound25 {w:World} {N:Nv} {t:Tn} (h:TI w w.heap.size N t):Calls Tryz.prog 32 #[N.v] w fun e w' => e = .returned (.int .i64 (if t.sound then 0 else 50)) ∧ Below w.heap.size w w':=by
 have HC:=count47 h 200000 1 (w.alloc (.cells (Array.mk N.cs) 25)) (by omega) (by omega) (by simp) (fun b hb => heap_alloc_old w _ hb)
 have HS:=sound_ct t
 obtain ⟨k,r1,r2,r3,a2,s1,s2,s3,a4,a5,a6,a7,a8⟩:=N
 obtain ⟨g,hg⟩:∃ g,g = t.ct 200000 1:=⟨_,rfl⟩
 rw [← hg] at HC HS
 rw [← HS]
 clear hg HS
 by_cases h0:0 ≤ g
 ·have e1:decide (g < 0) = false:=by simp;omega
  rw [decide_eq_true h0]
  go_enter Tryz.func32,Tryz.ntmps32
  go_wp2_with (first | (go_at_call 64;(with_reducible refine HC.mono ?_);rintro e w2 ⟨rfl,hb2⟩;have HB2:=hid' hb2;clear hb2 HC))
  go_ret
  exact ⟨rfl,(Joins.below_alloc1 w _).trans (Joins.below_le HB2.out (by simp))⟩
 ·have e1:decide (g < 0) = true:=by simp;omega
  rw [decide_eq_false h0]
  go_enter Tryz.func32,Tryz.ntmps32
  go_wp2_with (first | (go_at_call 64;(with_reducible refine HC.mono ?_);rintro e w2 ⟨rfl,hb2⟩;have HB2:=hid' hb2;clear hb2 HC))
  go_ret
  exact ⟨rfl,(Joins.below_alloc1 w _).trans (Joins.below_le HB2.out (by simp))⟩
abbrev Rng:=List (Int × Int)
def encR (x:Int × Int):List Value:=[.int .i64 x.1,.int .i64 x.2]
def fl (L:List (Int × Int)):List Value:=L.flatMap encR
inductive Way where
 | through
 | once (n:Int) (d:Way)
 | noted (c:Nat) (d:Way)
 | runeOf (L:Rng) (d:Way)
 | ifHolds (a:Int) (d:Way)
 | inOrder (l:List Way)
 | again (b:Nat)
structure Sg where
 done:List (Int × Int)
 notes:List Int
 parses:List (Int × List Int)
def heldB (tx:List Int) (a:Int) (p:Nat):Bool:=bits .andNot .i64 a (Look.atN tx (p:Int)) == 0
inductive Ex (tx:List Int) (E:Nat → Way):Way → Nat → Sg → Sg → Prop
 | through (p:Nat) (s:Sg):Ex tx E .through p s { s with parses:=s.parses ++ [((p:Int),s.notes.set 1 (p:Int))] }
 | skip {n:Int} {d:Way} {p:Nat} {s:Sg} (h:(n,(p:Int)) ∈ s.done):Ex tx E (.once n d) p s s
 | once {n:Int} {d:Way} {p:Nat} {s s':Sg} (h:(n,(p:Int)) ∉ s.done) (hd:Ex tx E d p { s with done:=s.done ++ [(n,(p:Int))] } s'):Ex tx E (.once n d) p s s'
 | noted {c:Nat} {d:Way} {p:Nat} {s s':Sg} (hd:Ex tx E d p { s with notes:=s.notes.set c (p:Int) } s'):Ex tx E (.noted c d) p s { s' with notes:=s'.notes.set c (s.notes.getD c 0) }
 | over {L:Rng} {d:Way} {p:Nat} {s:Sg} (h:tx.length ≤ p):Ex tx E (.runeOf L d) p s s
 | other {L:Rng} {d:Way} {p:Nat} {s:Sg} (h:p < tx.length) (hr:(rightB L && hasB L (tx.getD p 0)) = false):Ex tx E (.runeOf L d) p s s
 | rune {L:Rng} {d:Way} {p:Nat} {s s':Sg} (h:p < tx.length) (hr:(rightB L && hasB L (tx.getD p 0)) = true) (hd:Ex tx E d (p + 1) s s'):Ex tx E (.runeOf L d) p s s'
 | fails {a:Int} {d:Way} {p:Nat} {s:Sg} (h:heldB tx a p = false):Ex tx E (.ifHolds a d) p s s
 | holds {a:Int} {d:Way} {p:Nat} {s s':Sg} (h:heldB tx a p = true) (hd:Ex tx E d p s s'):Ex tx E (.ifHolds a d) p s s'
 | inOrder {l:List Way} {p:Nat} (ss:Nat → Sg) (h:∀ i (hi:i < l.length),Ex tx E (l[i]'hi) p (ss i) (ss (i + 1))):Ex tx E (.inOrder l) p (ss 0) (ss l.length)
 | again {b p:Nat} {s s':Sg} (h:Ex tx E (E b) p s s'):Ex tx E (.again b) p s s'
def RowIn (w:World) (v:Value) (R:Rng) (G:List Nat):Prop:=(∃ ad cap,v = .slice ad 0 cap ∧ R = [] ∧ G = []) ∨
 ∃ b off cap,v = .slice (some ⟨b,off,none⟩) R.length cap ∧ 0 < R.length ∧ G = [b] ∧ (∀ k,k < R.length → w.cell? ⟨b,off + k * 2,none⟩ = some (.int .i64 (R.getD k (0,0)).1)) ∧ (∀ k,k < R.length → w.cell? ⟨b,off + k * 2 + 1,none⟩ = some (.int .i64 (R.getD k (0,0)).2))
theorem RowIn.kept {w w':World} {v:Value} {R:Rng} {G:List Nat} (h:RowIn w v R G) (hk:∀ b ∈ G,w'.heap[b]? = w.heap[b]?):RowIn w' v R G:=by
 rcases h with h | ⟨b,off,cap,h1,h2,rfl,h3,h4⟩
 ·exact .inl h
 ·have e:∀ o,w'.cell? ⟨b,o,none⟩ = w.cell? ⟨b,o,none⟩:=fun o => by simp only [World.cell?,hk b (by simp)]
  exact .inr ⟨b,off,cap,h1,h2,rfl,fun k hk => (e _).trans (h3 k hk),fun k hk => (e _).trans (h4 k hk)⟩
theorem RowIn.low {w:World} {v:Value} {R:Rng} {G:List Nat} (h:RowIn w v R G):∀ k ∈ G,k < w.heap.size:=by
 rcases h with ⟨_,_,_,_,rfl⟩ | ⟨b,off,cap,h1,h2,rfl,h3,h4⟩
 ·intro k hk;cases hk
 ·intro k hk
  simp at hk
  subst hk
  exact World.block_lt_of_cell? _ _ (h3 0 h2)
theorem RowIn.at {w:World} {v:Value} {R:Rng} {G:List Nat} (h:RowIn w v R G) {M:Nat} (hM:w.heap.size ≤ M):RowAt M w v R:=by
 rcases h with ⟨ad,cap,rfl,rfl,_⟩ | ⟨b,off,cap,h1,h2,rfl,h3,h4⟩
 ·exact ⟨ad,cap,rfl,.inl rfl⟩
 ·exact ⟨_,cap,h1,.inr ⟨b,off,rfl,Nat.lt_of_lt_of_le (World.block_lt_of_cell? _ _ (h3 0 h2)) hM,h3,h4⟩⟩
theorem RowIn.form {w:World} {v:Value} {R:Rng} {G:List Nat} (h:RowIn w v R G):∃ s1 s3,v = .slice s1 R.length s3:=by
 rcases h with ⟨ad,cap,rfl,rfl,_⟩ | ⟨b,off,cap,h1,_⟩
 ·exact ⟨_,_,rfl⟩
 ·exact ⟨_,_,h1⟩
mutual
inductive Rep (g K:Nat) (L:Nat → Prop) (w:World):Value → Way → List Nat → Prop
 | through:Rep g K L w (.func (.func 79) #[pt g] #[]) .through []
 | once {b5 b2 b3:Nat} {v:Value} {d:Way} {F:List Nat} {n:Int} (h5:Bx w b5 3 (.int .i64 n)) (h2:Bx w b2 71 (pt g)) (h3:Bx w b3 133 v) (hn:0 ≤ n ∧ n < 4611686018427387904) (hd:Rep g K L w v d F) :
   Rep g K L w (.func (.func 120) #[] #[pt b5,pt b2,pt b3]) (.once n d) (b5 :: b2 :: b3 :: F)
 | noted {b3 b4 b5 c:Nat} {v:Value} {d:Way} {F:List Nat} (h3:Bx w b3 71 (pt g)) (h4:Bx w b4 3 (.int .i64 (c:Int))) (h5:Bx w b5 133 v) (hc:c < K) (hd:Rep g K L w v d F) :
   Rep g K L w (.func (.func 187) #[] #[pt b3,pt b4,pt b5]) (.noted c d) (b3 :: b4 :: b5 :: F)
 | runeOf {b3 b4 b5:Nat} {v rv:Value} {d:Way} {F G:List Nat} {R:Rng} (h3:Bx w b3 71 (pt g)) (h4:Bx w b4 22 rv) (h5:Bx w b5 133 v) (hr:RowIn w rv R G) (hd:Rep g K L w v d F) :
   Rep g K L w (.func (.func 182) #[] #[pt b3,pt b4,pt b5]) (.runeOf R d) (b3 :: b4 :: b5 :: (G ++ F))
 | ifHolds {b4 b3 b5:Nat} {a:Int} {v:Value} {d:Way} {F:List Nat} (h4:Bx w b4 3 (.int .i64 a)) (h3:Bx w b3 71 (pt g)) (h5:Bx w b5 133 v) (hd:Rep g K L w v d F) :
   Rep g K L w (.func (.func 184) #[] #[pt b4,pt b3,pt b5]) (.ifHolds a d) (b4 :: b3 :: b5 :: F)
 | inOrder {b1 N0:Nat} {sv:Value} {l:List Way} {vs:List Value} {F:List Nat} (h1:Bx w b1 237 sv) (hs:w.ownsRow N0 133 1 sv l.length vs) (hl:Reps g K L w vs l F) :
   Rep g K L w (.func (.func 229) #[] #[pt b1]) (.inOrder l) (b1 :: (sv.ownBlock.toList ++ F))
 | again {b:Nat} (hb:L b):Rep g K L w (.func (.func 230) #[] #[pt b]) (.again b) []
inductive Reps (g K:Nat) (L:Nat → Prop) (w:World):List Value → List Way → List Nat → Prop
 | nil:Reps g K L w [] [] []
 | cons {v:Value} {vs:List Value} {d:Way} {l:List Way} {F G:List Nat} (h:Rep g K L w v d F) (hs:Reps g K L w vs l G):Reps g K L w (v :: vs) (d :: l) (F ++ G)
end
mutual
theorem Rep.kept {g K:Nat} {L:Nat → Prop} {w w':World} {v:Value} {d:Way} {F:List Nat} (h:Rep g K L w v d F) (hk:∀ k ∈ F,w'.heap[k]? = w.heap[k]?):Rep g K L w' v d F:=by
 cases h with
 | through => exact .through
 | once h5 h2 h3 hn hd => exact .once ((hk _ (by simp)).trans h5) ((hk _ (by simp)).trans h2) ((hk _ (by simp)).trans h3) hn (hd.kept fun k hkk => hk k (by simp [hkk]))
 | noted h3 h4 h5 hc hd => exact .noted ((hk _ (by simp)).trans h3) ((hk _ (by simp)).trans h4) ((hk _ (by simp)).trans h5) hc (hd.kept fun k hkk => hk k (by simp [hkk]))
 | runeOf h3 h4 h5 hr hd => exact .runeOf ((hk _ (by simp)).trans h3) ((hk _ (by simp)).trans h4) ((hk _ (by simp)).trans h5) (hr.kept fun b hb => hk b (by simp [hb])) (hd.kept fun k hkk => hk k (by simp [hkk]))
 | ifHolds h4 h3 h5 hd => exact .ifHolds ((hk _ (by simp)).trans h4) ((hk _ (by simp)).trans h3) ((hk _ (by simp)).trans h5) (hd.kept fun k hkk => hk k (by simp [hkk]))
 | inOrder h1 hs hl => exact .inOrder ((hk _ (by simp)).trans h1) (row_kept hs fun b hb => hk b (by simp [hb])) (hl.kept fun k hkk => hk k (by simp [hkk]))
 | again hb => exact .again hb
theorem Reps.kept {g K:Nat} {L:Nat → Prop} {w w':World} {v:List Value} {d:List Way} {F:List Nat} (h:Reps g K L w v d F) (hk:∀ k ∈ F,w'.heap[k]? = w.heap[k]?):Reps g K L w' v d F:=by
 cases h with
 | nil => exact .nil
 | cons h hs => exact .cons (h.kept fun k hkk => hk k (by simp [hkk])) (hs.kept fun k hkk => hk k (by simp [hkk]))
end
theorem bx_lt {w:World} {b:Nat} {t:TypeId} {v:Value} (h:Bx w b t v):b < w.heap.size:=(Array.getElem?_eq_some_iff.1 h).1
mutual
theorem Rep.low {g K:Nat} {L:Nat → Prop} {w:World} {v:Value} {d:Way} {F:List Nat} (h:Rep g K L w v d F):∀ k ∈ F,k < w.heap.size:=by
 cases h with
 | through => intro k hk;cases hk
 | once h5 h2 h3 hn hd =>
  intro k hk
  simp only [List.mem_cons] at hk
  rcases hk with rfl | rfl | rfl | hk
  ·exact bx_lt h5
  ·exact bx_lt h2
  ·exact bx_lt h3
  ·exact hd.low k hk
 | noted h3 h4 h5 hc hd =>
  intro k hk
  simp only [List.mem_cons] at hk
  rcases hk with rfl | rfl | rfl | hk
  ·exact bx_lt h3
  ·exact bx_lt h4
  ·exact bx_lt h5
  ·exact hd.low k hk
 | runeOf h3 h4 h5 hr hd =>
  intro k hk
  simp only [List.mem_cons,List.mem_append] at hk
  rcases hk with rfl | rfl | rfl | hk | hk
  ·exact bx_lt h3
  ·exact bx_lt h4
  ·exact bx_lt h5
  ·exact hr.low k hk
  ·exact hd.low k hk
 | ifHolds h4 h3 h5 hd =>
  intro k hk
  simp only [List.mem_cons] at hk
  rcases hk with rfl | rfl | rfl | hk
  ·exact bx_lt h4
  ·exact bx_lt h3
  ·exact bx_lt h5
  ·exact hd.low k hk
 | inOrder h1 hs hl =>
  intro k hk
  simp only [List.mem_cons,List.mem_append,Option.mem_toList] at hk
  rcases hk with rfl | hk | hk
  ·exact bx_lt h1
  ·exact (hs.lt k hk).2
  ·exact hl.low k hk
 | again hb => intro k hk;cases hk
theorem Reps.low {g K:Nat} {L:Nat → Prop} {w:World} {v:List Value} {d:List Way} {F:List Nat} (h:Reps g K L w v d F):∀ k ∈ F,k < w.heap.size:=by
 cases h with
 | nil => intro k hk;cases hk
 | cons h hs =>
  intro k hk
  rcases List.mem_append.1 hk with hk | hk
  ·exact h.low k hk
  ·exact hs.low k hk
end
inductive PR (N:Nat) (w:World):List Value → List (Int × List Int) → List Nat → Prop
 | nil:PR N w [] [] []
 | cons {e:Int} {cp:List Int} {cv:Value} {cs:List Value} {l:List (Int × List Int)} {F:List Nat} (h:w.ownsRow N 3 1 cv cp.length (I64 cp)) (hl:PR N w cs l F) :
   PR N w (.int .i64 e :: cv :: cs) ((e,cp) :: l) (cv.ownBlock.toList ++ F)
theorem PR.kept {N:Nat} {w w':World} {cs:List Value} {l:List (Int × List Int)} {F:List Nat} (h:PR N w cs l F) (hk:∀ k ∈ F,w'.heap[k]? = w.heap[k]?):PR N w' cs l F:=by
 induction h with
 | nil => exact .nil
 | cons h hl ih => exact .cons (row_kept h fun b hb => hk b (by simp [hb])) (ih fun k hkk => hk k (by simp [hkk]))
theorem PR.low {N:Nat} {w:World} {cs:List Value} {l:List (Int × List Int)} {F:List Nat} (h:PR N w cs l F):∀ k ∈ F,N ≤ k ∧ k < w.heap.size:=by
 induction h with
 | nil => intro k hk;cases hk
 | cons h hl ih =>
  intro k hk
  rcases List.mem_append.1 hk with hk | hk
  ·exact h.lt k (by simpa using hk)
  ·exact ih k hk
theorem PR.snoc {N:Nat} {w:World} {cs:List Value} {l:List (Int × List Int)} {F:List Nat} (h:PR N w cs l F) {e:Int} {cp:List Int} {cv:Value} (hc:w.ownsRow N 3 1 cv cp.length (I64 cp)):PR N w (cs ++ [.int .i64 e,cv]) (l ++ [(e,cp)]) (F ++ cv.ownBlock.toList):=by
 induction h with
 | nil => simpa using PR.cons (e:=e) hc .nil
 | cons h hl ih => rw [List.append_assoc];exact .cons h ih
structure Cx where
 tv:Value
 hv:Value
 wh:Value
 n:Int
 mb:Nat
 nb:Nat
 ncap:Nat
 K:Nat
def Cx.nv (C:Cx):Value:=.slice (some ⟨C.nb,0,none⟩) C.K C.ncap
structure WS (N:Nat) (w:World) (g:Nat) (C:Cx) (s:Sg) (B:List Nat):Prop where
 ex:∃ pv cs F,w.heap[g]? = some (.cells #[C.tv,C.hv,C.wh,.int .i64 C.n,.map (some C.mb),C.nv,pv] 135 (0,0)) ∧ w.ownsRow N 57 2 pv s.parses.length cs ∧ PR N w cs s.parses F ∧ C.nb ∉ F ∧
  B = g :: C.mb :: C.nb :: (pv.ownBlock.toList ++ F)
 map:MP w C.mb s.done
 notes:w.ownsRow N 3 1 C.nv s.notes.length (I64 s.notes)
 len:s.notes.length = C.K
 two:2 ≤ C.K
 few:C.K ≤ 10000
 low:N ≤ g ∧ N ≤ C.mb
theorem bx1 {w:World} {b:Nat} {t:TypeId} {v:Value} (o:Obj) (h:Bx w b t v):(w.alloc o).cell? ⟨b,0,none⟩ = some v:=Joins.cell_of_block ((heap_alloc_old w o (bx_lt h)).trans h) 0
theorem wf_two {n:Int} {p:Nat} (hn:0 ≤ n ∧ n < 4611686018427387904) (hp:p < 4611686018427387904):wf2 (n,(p:Int)):=by
 constructor <;> simp [Lit.wf,IntKind.bits,IntKind.min,IntKind.max,IntKind.signed] <;> omega
theorem MP.same {w w':World} {b:Nat} {D:List (Int × Int)} (h:MP w b D) (hk:w'.heap[b]? = w.heap[b]?):MP w' b D:=by
 obtain ⟨es,c,h1,h2⟩:=h
 exact ⟨es,c,hk.trans h1,h2⟩
theorem MP.lt {w:World} {b:Nat} {D:List (Int × Int)} (h:MP w b D):b < w.heap.size:=by
 obtain ⟨es,c,h1,h2⟩:=h
 exact (Array.getElem?_eq_some_iff.1 h1).1
set_option maxHeartbeats 2000000 in
theorem skip70 (N g:Nat) (C:Cx) (s:Sg) (B:List Nat) (w:World) (hW:Hid (WS N w g C s B)) (b5 b2 b3:Nat) (v:Value) (n:Int) (p:Nat) (h5:Bx w b5 3 (.int .i64 n)) (h2:Bx w b2 71 (pt g)) (h3:Bx w b3 133 v)
  (hn:0 ≤ n ∧ n < 4611686018427387904) (hp:p < 4611686018427387904) (hd:(n,(p:Int)) ∈ s.done) :
  Calls Tryz.prog 120 #[.int .i64 (p:Int),pt b5,pt b2,pt b3] w fun e w' => e = .returned (.tuple #[]) ∧ Below w.heap.size w w':=by
 obtain ⟨pv,cs,F,hg,_⟩:=hW.out.ex
 have hmp:=hW.out.map
 have hwf:wf2 (n,(p:Int)):=wf_two hn hp
 obtain ⟨W,hW1⟩:∃ W,W = w.alloc (.cells #[.int .i64 n,.int .i64 (p:Int)] 185):=⟨_,rfl⟩
 have hm4:W.cell? ⟨g,4,none⟩ = some (.map (some C.mb)):=by rw [hW1];exact Joins.cell_of_block ((heap_alloc_old w _ (Array.getElem?_eq_some_iff.1 hg).1).trans hg) 4
 have c5:=bx0 h5
 have c2:W.cell? ⟨b2,0,none⟩ = some (pt g):=by rw [hW1];exact bx1 _ h2
 go_enter Tryz.func120,Tryz.ntmps120
 go_wp2_with fail
 rw [← hW1]
 have hmW:MP W C.mb s.done:=MP.same hmp (by rw [hW1];exact heap_alloc_old w _ hmp.lt)
 have HL:(Instr.lookup 131 (.map (some C.mb)) (.agg #[.int .i64 n,.int .i64 (p:Int)]) true).run Tryz.prog W.drew = .ok (.tuple #[.agg #[],.bool true]) W.drew:=by
  rw [(MP.same (w':=W.drew) hmW rfl).look n (p:Int) hwf,decide_eq_true hd]
 have HL2:(Instr.lookup 131 (.map (some C.mb)) (.agg #[.int .i64 n,.int .i64 (p:Int)]) true).run Tryz.prog (W.alloc (.cells #[] 186)).drew = .ok (.tuple #[.agg #[],.bool true]) (W.alloc (.cells #[] 186)).drew:=by
  rw [(MP.same (w':=(W.alloc (.cells #[] 186)).drew) hmW (heap_alloc_old W _ hmW.lt)).look n (p:Int) hwf,decide_eq_true hd]
 have d0:W.cell? ⟨w.heap.size,0,none⟩ = some (.int .i64 n):=by rw [hW1];simp
 have d1:W.cell? ⟨w.heap.size,1,none⟩ = some (.int .i64 (p:Int)):=by rw [hW1];simp
 have hgl:g < W.heap.size:=by have:=(Array.getElem?_eq_some_iff.1 hg).1;rw [hW1];simp;omega
 have l2:b2 < W.heap.size:=by have:=bx_lt h2;rw [hW1];simp;omega
 have ld:w.heap.size < W.heap.size:=by rw [hW1];simp
 obtain ⟨db,hdb⟩:∃ db,db = w.heap.size:=⟨_,rfl⟩
 rw [← hdb] at d0 d1 ld ⊢
 have HW1:=hid hW1
 have HDB:=hid hdb
 clear hW1 hdb hmp hg hmW
 go_region
 all_goals
  go_wp2
  refine bodyPost_ret (results_none rfl _ _ _) rfl ?_
  refine ⟨rfl,?_⟩
  rw [HW1.out]
  exact (Joins.below_alloc1 w _).trans (Joins.below_le ((Joins.below_alloc1 _ _).drew) (by simp))
theorem mb_in {N:Nat} {w:World} {g:Nat} {C:Cx} {s:Sg} {B:List Nat} (h:WS N w g C s B):C.mb ∈ B:=by
 obtain ⟨pv,cs,F,_,_,_,_,rfl⟩:=h.ex
 simp
theorem WS.put_map {N:Nat} {w w':World} {g:Nat} {C:Cx} {s:Sg} {B:List Nat} {D:List (Int × Int)} (h:WS N w g C s B) (hk:∀ k,k < w.heap.size → k ≠ C.mb → w'.heap[k]? = w.heap[k]?) (hm:MP w' C.mb D):WS N w' g C { s with done:=D } B:=by
 obtain ⟨pv,cs,F,h1,h2,h3,h4,rfl⟩:=h.ex
 have hmb:∃ es cl,w.heap[C.mb]? = some (.map es cl):=by obtain ⟨es,cl,h,_⟩:=h.map;exact ⟨es,cl,h⟩
 obtain ⟨es,cl,hmb⟩:=hmb
 have hrow:∀ {base e size n:Nat} {v:Value} {xs:List Value},w.ownsRow base e size v n xs → w'.ownsRow base e size v n xs:=fun hr => row_kept hr fun b hb => hk b (hr.lt b hb).2 (fun e => by
  subst e
  rcases hr.2 with ⟨rfl,_⟩ | ⟨b2,cap,cur,rfl,_,hgg,_⟩
  ·simp [Value.ownBlock] at hb
  ·simp [Value.ownBlock] at hb
   subst hb
   rw [hgg] at hmb
   cases hmb)
 have hPR:∀ {cs:List Value} {l:List (Int × List Int)} {F:List Nat},PR N w cs l F → PR N w' cs l F:=fun hp => by
  induction hp with
  | nil => exact .nil
  | cons h hl ih => exact .cons (hrow h) ih
 refine ⟨⟨pv,cs,F,(hk g (Array.getElem?_eq_some_iff.1 h1).1 (fun e => by subst e;rw [h1] at hmb;cases hmb)).trans h1,hrow h2,hPR h3,h4,rfl⟩,hm,hrow h.notes,h.len,h.two,h.few,h.low⟩
def CallsV (v:Value) (p:Nat) (w:World) (Q:Ending → World → Prop):Prop:=∃ f fi ca,v = .func (.func f) fi ca ∧ (∀ args w,(callFunc f args).run Tryz.prog w = .ok (.enter f args) w) ∧ Calls Tryz.prog f (fi.push (.int .i64 (p:Int)) ++ ca) w Q
set_option maxRecDepth 100000 in
set_option maxHeartbeats 2000000 in
theorem go70 (N g:Nat) (C:Cx) (s:Sg) (B:List Nat) (w:World) (hW:Hid (WS N w g C s B)) (b5 b2 b3:Nat) (v:Value) (n:Int) (p:Nat) (h5:Bx w b5 3 (.int .i64 n)) (h2:Bx w b2 71 (pt g)) (h3:Bx w b3 133 v)
  (hB2:b2 ∉ B) (hB3:b3 ∉ B) (hn:0 ≤ n ∧ n < 4611686018427387904) (hp:p < 4611686018427387904) (hd:(n,(p:Int)) ∉ s.done) (R:World → Prop)
  (hQ:∀ w',WS N w' g C { s with done:=s.done ++ [(n,(p:Int))] } B → Chg w w' B B → CallsV v p w' fun e w2 => e = .returned (.tuple #[]) ∧ R w2) :
  Calls Tryz.prog 120 #[.int .i64 (p:Int),pt b5,pt b2,pt b3] w fun e w2 => e = .returned (.tuple #[]) ∧ R w2:=by
 obtain ⟨pv,cs,F,hg,_⟩:=hW.out.ex
 have hmp:=hW.out.map
 have hwf:wf2 (n,(p:Int)):=wf_two hn hp
 obtain ⟨W,hW1⟩:∃ W,W = w.alloc (.cells #[.int .i64 n,.int .i64 (p:Int)] 185):=⟨_,rfl⟩
 have hm4:W.cell? ⟨g,4,none⟩ = some (.map (some C.mb)):=by rw [hW1];exact Joins.cell_of_block ((heap_alloc_old w _ (Array.getElem?_eq_some_iff.1 hg).1).trans hg) 4
 have c5:=bx0 h5
 have c2:W.cell? ⟨b2,0,none⟩ = some (pt g):=by rw [hW1];exact bx1 _ h2
 have c3:W.cell? ⟨b3,0,none⟩ = some v:=by rw [hW1];exact bx1 _ h3
 go_enter Tryz.func120,Tryz.ntmps120
 go_wp2_with fail
 rw [← hW1]
 have hmW:MP W C.mb s.done:=MP.same hmp (by rw [hW1];exact heap_alloc_old w _ hmp.lt)
 have HL:(Instr.lookup 131 (.map (some C.mb)) (.agg #[.int .i64 n,.int .i64 (p:Int)]) true).run Tryz.prog W.drew = .ok (.tuple #[.agg #[],.bool false]) W.drew:=by
  rw [(MP.same (w':=W.drew) hmW rfl).look n (p:Int) hwf,decide_eq_false hd]
 have HL2:(Instr.lookup 131 (.map (some C.mb)) (.agg #[.int .i64 n,.int .i64 (p:Int)]) true).run Tryz.prog (W.alloc (.cells #[] 186)).drew = .ok (.tuple #[.agg #[],.bool false]) (W.alloc (.cells #[] 186)).drew:=by
  rw [(MP.same (w':=(W.alloc (.cells #[] 186)).drew) hmW (heap_alloc_old W _ hmW.lt)).look n (p:Int) hwf,decide_eq_false hd]
 have d0:W.cell? ⟨w.heap.size,0,none⟩ = some (.int .i64 n):=by rw [hW1];simp
 have d1:W.cell? ⟨w.heap.size,1,none⟩ = some (.int .i64 (p:Int)):=by rw [hW1];simp
 have hgl:g < W.heap.size:=by have:=(Array.getElem?_eq_some_iff.1 hg).1;rw [hW1];simp;omega
 have l2:b2 < W.heap.size:=by have:=bx_lt h2;rw [hW1];simp;omega
 have l3:b3 < W.heap.size:=by have:=bx_lt h3;rw [hW1];simp;omega
 have ld:w.heap.size < W.heap.size:=by rw [hW1];simp
 obtain ⟨db,hdb⟩:∃ db,db = w.heap.size:=⟨_,rfl⟩
 rw [← hdb] at d0 d1 ld ⊢
 obtain ⟨X,hX⟩:∃ X,X = (W.alloc (.cells #[] 186)).drew:=⟨_,rfl⟩
 obtain ⟨o,hrun,hput⟩:=(MP.same (w':=X.drew) hmW (by rw [hX];exact heap_alloc_old W _ hmW.lt)).put n (p:Int) hwf hd
 have HU:(Instr.mapUpdate 131 (.map (some C.mb)) (.agg #[.int .i64 n,.int .i64 (p:Int)]) (.agg #[])).run Tryz.prog X.drew = .ok () (putB X.drew C.mb o):=hrun
 have bX:∀ k,k < W.heap.size → X.heap[k]? = W.heap[k]?:=fun k hk => by rw [hX];exact heap_alloc_old W _ hk
 have bW:∀ k,k < w.heap.size → W.heap[k]? = w.heap[k]?:=fun k hk => by rw [hW1];exact heap_alloc_old w _ hk
 have x2:X.cell? ⟨b2,0,none⟩ = some (pt g):=bx0 (t:=71) ((bX _ l2).trans ((bW _ (bx_lt h2)).trans h2))
 have hgX:=(bX _ hgl).trans ((bW _ (Array.getElem?_eq_some_iff.1 hg).1).trans hg)
 have x4:X.cell? ⟨g,4,none⟩ = some (.map (some C.mb)):=Joins.cell_of_block hgX 4
 have hdX:X.heap[db]? = some (.cells #[.int .i64 n,.int .i64 (p:Int)] 185 (0,0)):=(bX _ ld).trans (by rw [hW1,hdb];exact heap_alloc_new w _)
 have e0:X.cell? ⟨db,0,none⟩ = some (.int .i64 n):=Joins.cell_of_block hdX 0
 have e1:X.cell? ⟨db,1,none⟩ = some (.int .i64 (p:Int)):=Joins.cell_of_block hdX 1
 have hne3:b3 ≠ C.mb:=fun e => hB3 (by rw [e];exact mb_in hW.out)
 have hp3:Bx (putB X.drew C.mb o) b3 133 v:=(putB_other X.drew o hne3).trans ((bX _ l3).trans ((bW _ (bx_lt h3)).trans h3))
 have x3:(putB X.drew C.mb o).cell? ⟨b3,0,none⟩ = some v:=bx0 hp3
 have HW1:=hid hW1
 have HDB:=hid hdb
 have HMW:=hid hmW
 have HX:=hid hX
 have HP:=hid hput
 have BX:=hid bX
 have BW:=hid bW
 clear hW1 hdb hmp hg hmW hrun hput hgX hdX hp3 bX bW
 have hgo:∀ k,k < w.heap.size → k ≠ C.mb → (putB X.drew C.mb o).heap[k]? = w.heap[k]?:=fun k hk hne => (putB_other X.drew o hne).trans ((BX.out k (by have:=HDB.out;omega)).trans (BW.out k hk))
 have hCh:Chg w (putB X.drew C.mb o) B B:=by
  refine ⟨?_,?_,?_,?_,fun k hk hn2 => hgo k hk (fun e => hn2 (by rw [e];exact mb_in hW.out)),fun k hk => .inl hk⟩
  ·show X.os = w.os
   rw [HX.out,HW1.out];rfl
  ·show X.tape = w.tape
   rw [HX.out,HW1.out];rfl
  ·show X.output = w.output
   rw [HX.out,HW1.out];rfl
  ·rw [putB_size]
   show w.heap.size ≤ X.heap.size
   rw [HX.out,HW1.out];simp;omega
 have hWS:WS N (putB X.drew C.mb o) g C { s with done:=s.done ++ [(n,(p:Int))] } B:=hW.out.put_map hgo HP.out
 obtain ⟨f,fi,ca,rfl,hcf,hC⟩:=hQ (putB X.drew C.mb o) hWS hCh
 go_region
 all_goals
  rw [← hX]
  clear hX
  go_wp2_with fail
  go_region
  all_goals
   go_wp2_with ((with_reducible refine hC.mono ?_);rintro e w2 ⟨rfl,hR⟩)
   go_end0
   exact ⟨rfl,hR⟩
end Go.Proofs.YtacaanhnlfpbhaaGreat
