/- HELPERS: texts of ours put together. -/
import Derived.Test.YtacaanhnlfpbhaaGreatK23
namespace Go.Proofs.YtacaanhnlfpbhaaGreat
open Go.RowKit
set_option linter.unusedVariables false
set_option linter.unusedSimpArgs false
set_option maxRecDepth 100000 in
set_option maxHeartbeats 16000000 in
theorem opt122 {tb N0:Nat} {W0:World} {N:Nv} {x:Tn} (hU:UnfC tb N0 W0 N x) (lz:Bool):∀ (k:Nat) (K:Int) (W:World) (v:Value) (Q:List E8),K = (k:Int) + 1 → k ≤ 100000 → UM tb N0 W v Q → N0 ≤ W.heap.size → (∀ b,b < N0 → W.heap[b]? = W0.heap[b]?) → Q.length + (optN x lz k).nodes ≤ 100000 → Calls Tryz.prog 122 #[.pointer (some ⟨tb,0,none⟩),N.v,.int .i64 K,.bool lz] W (BPost tb N0 W.heap.size (optN x lz k) Q.length Q W v):=by
 intro k
 induction k with
 | zero =>
  intro K W v Q hK hk1 h hN hlow hnod
  have hK':K = 1:=by omega
  subst hK'
  rw [optN,loopN_nodes] at hnod
  obtain ⟨U,hU1⟩:∃ U,U = W.alloc (.cells #[.int .i64 N.k,.slice N.r1 N.r2 N.r3,.int .i64 N.a2,.slice N.s1 N.s2 N.s3,.int .i64 N.a4,.int .i64 N.a5,.bool N.a6,.int .i64 N.a7,.string N.a8] 25):=⟨_,rfl⟩
  have hbU:Below W.heap.size W U:=by rw [hU1];exact Joins.below_alloc1 W _
  have hsU:U.heap.size = W.heap.size + 1:=by rw [hU1];simp
  obtain ⟨lo,hlo⟩:∃ lo,lo = W.heap.size:=⟨_,rfl⟩
  have hUB:U.heap[lo]? = some (.cells #[.int .i64 N.k,.slice N.r1 N.r2 N.r3,.int .i64 N.a2,.slice N.s1 N.s2 N.s3,.int .i64 N.a4,.int .i64 N.a5,.bool N.a6,.int .i64 N.a7,.string N.a8] 25 (0,0)):=by rw [hU1,hlo];exact heap_alloc_new W _
  obtain ⟨c0,c1,c2,c3,c4,c5,c6,c7,c8⟩:=nine' hUB
  have HC:=hU U v Q (h.below hbU) (by omega) (fun b hb => (hbU.block b (by omega)).trans (hlow b hb)) (by omega)
  obtain ⟨P1,hP1⟩:∃ P1,P1 = BPost tb N0 U.heap.size x Q.length Q U v:=⟨_,rfl⟩
  rw [← hP1] at HC
  have HPR1:Hid (∀ e w',P1 e w' → ∃ z,e = .returned (.int .i64 z)):=fun e w' hp => by rw [hP1] at hp;obtain ⟨v',Q',e1,_⟩:=hp;exact ⟨_,e1⟩
  have HG1:Hid (∀ z w1,P1 (.returned (.int .i64 z)) w1 → ∃ v' Q',Grw tb N0 Q.length Q W v [x] (w1.alloc (.cells #[.int .i64 z] 3)) v' Q' (.slice (some ⟨w1.heap.size,0,none⟩) 1 1)):=fun z w1 hp => Grw.one h hN hbU (by rw [hP1] at hp;exact hp)
  have htb:=(Array.getElem?_eq_some_iff.1 h.box).1
  have HKB:Hid (∀ z w1,P1 (.returned (.int .i64 z)) w1 → (w1.alloc (.cells #[.int .i64 z] 3)).heap[lo]? = some (.cells #[.int .i64 N.k,.slice N.r1 N.r2 N.r3,.int .i64 N.a2,.slice N.s1 N.s2 N.s3,.int .i64 N.a4,.int .i64 N.a5,.bool N.a6,.int .i64 N.a7,.string N.a8] 25 (0,0))):=fun z w1 hp => by
   rw [hP1] at hp
   obtain ⟨v',Q',e1,um,fr,_⟩:=hp
   have:=fr.size
   exact (heap_alloc_old w1 _ (by omega)).trans ((fr.old lo (by omega) (by omega) (fun e => by have:=(h.row.lt lo e).2;omega)).trans hUB)
  obtain ⟨P,hP⟩:∃ P,P = BPost tb N0 W.heap.size (optN x lz 0) Q.length Q W v:=⟨_,rfl⟩
  rw [← hP]
  have HP:=hid hP
  have HU1:=hid hU1
  have HLO0:=hid hlo
  have HNOD:=hid hnod
  have HNN:=hid hN
  have HH:=hid h
  have HLOW:=hid hlow
  clear hP hP1 hU1 hbU hsU hUB h hlow hnod hlo hK hN htb
  go_enter Tryz.func122,Tryz.ntmps122
  go_upto_region 1 with fail
  rw [← HU1.out,← HLO0.out]
  go_upto_region 2 with (first | (go_at_call 46;(with_reducible refine HC.mono ?_);rintro e w1 hp;obtain ⟨z1,rfl⟩:=HPR1.out _ _ hp;have HB1:=hid hp;clear hp HC))
  clear c0 c1 c2 c3 c4 c5 c6 c7 c8
  obtain ⟨v3,Q3,g1⟩:=HG1.out _ _ HB1.out
  have hKB:=HKB.out _ _ HB1.out
  obtain ⟨w3,hw3⟩:∃ w3,w3 = w1.alloc (.cells #[.int .i64 z1] 3):=⟨_,rfl⟩
  obtain ⟨l3,hl3⟩:∃ l3,l3 = w1.heap.size:=⟨_,rfl⟩
  rw [← hw3] at hKB
  rw [← hw3,← hl3] at g1 ⊢
  have HG:=hid g1
  clear g1 hw3 HB1 HG1 HPR1 hl3 HKB
  have HRW:=HG.out.rowcall rfl (by have:=HNOD.out;simp only [nodesL];omega)
  obtain ⟨P4,hP4⟩:∃ P4,P4 = BPost tb N0 W.heap.size (rowN [x]) Q.length Q W v:=⟨_,rfl⟩
  rw [← hP4] at HRW
  have HPR4:Hid (∀ e w',P4 e w' → ∃ z,e = .returned (.int .i64 z)):=fun e w' hp => by rw [hP4] at hp;obtain ⟨v',Q',e1,_⟩:=hp;exact ⟨_,e1⟩
  have HLAST:Hid (∀ z w4,P4 (.returned (.int .i64 z)) w4 → Calls Tryz.prog 81 #[.pointer (some ⟨tb,0,none⟩),.agg #[.int .i64 103,.int .i64 0,.int .i64 0,.slice none 0 0,.slice (some ⟨w4.heap.size,0,none⟩) 1 1,.bool lz,.int .i64 0,.int .i64 0]] (w4.alloc (.cells #[.int .i64 z] 3)) P):=fun z w4 hp => by
   rw [HP.out]
   exact wrap_built (T:=rowN [x]) HNN.out (by rw [hP4] at hp;exact hp) rfl (by have:=HNOD.out;simp only [rowN];omega)
  have HPE:Hid (∀ e w',P e w' → ∃ z,e = .returned (.int .i64 z)):=fun e w' hp => by rw [HP.out] at hp;obtain ⟨v',Q',e1,_⟩:=hp;exact ⟨_,e1⟩
  clear hP4 HG
  go_wp2_with (first | (go_at_call 123;(with_reducible refine HRW.mono ?_);rintro e w4 hp;obtain ⟨z,rfl⟩:=HPR4.out _ _ hp;have HL5:=HLAST.out z w4 hp;clear hp HRW) | (go_at_call 81;(with_reducible refine HL5.mono ?_);rintro e w5 hq;have HQ5:=hid hq;obtain ⟨_,rfl⟩:=HPE.out _ _ hq;clear HL5 hq))
  all_goals first | exact HQ5.out | (go_ret;exact HQ5.out)
 | succ k ih =>
  intro K W v Q hK hk1 h hN hlow hnod
  rw [optN,loopN_nodes,rowN_nodes2] at hnod
  have hK1:1 < K:=by omega
  have hK2:K ≤ 100001:=by omega
  have hK3:K - 1 = (k:Int) + 1:=by omega
  obtain ⟨U,hU1⟩:∃ U,U = W.alloc (.cells #[.int .i64 N.k,.slice N.r1 N.r2 N.r3,.int .i64 N.a2,.slice N.s1 N.s2 N.s3,.int .i64 N.a4,.int .i64 N.a5,.bool N.a6,.int .i64 N.a7,.string N.a8] 25):=⟨_,rfl⟩
  have hbU:Below W.heap.size W U:=by rw [hU1];exact Joins.below_alloc1 W _
  have hsU:U.heap.size = W.heap.size + 1:=by rw [hU1];simp
  obtain ⟨lo,hlo⟩:∃ lo,lo = W.heap.size:=⟨_,rfl⟩
  have hUB:U.heap[lo]? = some (.cells #[.int .i64 N.k,.slice N.r1 N.r2 N.r3,.int .i64 N.a2,.slice N.s1 N.s2 N.s3,.int .i64 N.a4,.int .i64 N.a5,.bool N.a6,.int .i64 N.a7,.string N.a8] 25 (0,0)):=by rw [hU1,hlo];exact heap_alloc_new W _
  obtain ⟨c0,c1,c2,c3,c4,c5,c6,c7,c8⟩:=nine' hUB
  have HC:=hU U v Q (h.below hbU) (by omega) (fun b hb => (hbU.block b (by omega)).trans (hlow b hb)) (by omega)
  obtain ⟨P1,hP1⟩:∃ P1,P1 = BPost tb N0 U.heap.size x Q.length Q U v:=⟨_,rfl⟩
  rw [← hP1] at HC
  have HPR1:Hid (∀ e w',P1 e w' → ∃ z,e = .returned (.int .i64 z)):=fun e w' hp => by rw [hP1] at hp;obtain ⟨v',Q',e1,_⟩:=hp;exact ⟨_,e1⟩
  have HG1:Hid (∀ z w1,P1 (.returned (.int .i64 z)) w1 → ∃ v' Q',Grw tb N0 Q.length Q W v [x] (w1.alloc (.cells #[.int .i64 z] 3)) v' Q' (.slice (some ⟨w1.heap.size,0,none⟩) 1 1)):=fun z w1 hp => Grw.one h hN hbU (by rw [hP1] at hp;exact hp)
  have htb:=(Array.getElem?_eq_some_iff.1 h.box).1
  have HKB:Hid (∀ z w1,P1 (.returned (.int .i64 z)) w1 → (w1.alloc (.cells #[.int .i64 z] 3)).heap[lo]? = some (.cells #[.int .i64 N.k,.slice N.r1 N.r2 N.r3,.int .i64 N.a2,.slice N.s1 N.s2 N.s3,.int .i64 N.a4,.int .i64 N.a5,.bool N.a6,.int .i64 N.a7,.string N.a8] 25 (0,0))):=fun z w1 hp => by
   rw [hP1] at hp
   obtain ⟨v',Q',e1,um,fr,_⟩:=hp
   have:=fr.size
   exact (heap_alloc_old w1 _ (by omega)).trans ((fr.old lo (by omega) (by omega) (fun e => by have:=(h.row.lt lo e).2;omega)).trans hUB)
  obtain ⟨P,hP⟩:∃ P,P = BPost tb N0 W.heap.size (optN x lz (k + 1)) Q.length Q W v:=⟨_,rfl⟩
  rw [← hP]
  have HP:=hid hP
  have HU1:=hid hU1
  have HLO0:=hid hlo
  have HNOD:=hid hnod
  have HNN:=hid hN
  have HH:=hid h
  have HLOW:=hid hlow
  clear hP hP1 hU1 hbU hsU hUB h hlow hnod hlo hK hN htb
  go_enter Tryz.func122,Tryz.ntmps122
  go_upto_region 1 with fail
  rw [← HU1.out,← HLO0.out]
  go_upto_region 2 with (first | (go_at_call 46;(with_reducible refine HC.mono ?_);rintro e w1 hp;obtain ⟨z1,rfl⟩:=HPR1.out _ _ hp;have HB1:=hid hp;clear hp HC))
  clear c0 c1 c2 c3 c4 c5 c6 c7 c8
  obtain ⟨v3,Q3,g1⟩:=HG1.out _ _ HB1.out
  have hKB:=HKB.out _ _ HB1.out
  obtain ⟨w3,hw3⟩:∃ w3,w3 = w1.alloc (.cells #[.int .i64 z1] 3):=⟨_,rfl⟩
  obtain ⟨l3,hl3⟩:∃ l3,l3 = w1.heap.size:=⟨_,rfl⟩
  rw [← hw3] at hKB
  rw [← hw3,← hl3] at g1 ⊢
  have HG:=hid g1
  clear g1 hw3 HB1 HG1 HPR1 hl3 HKB
  have hs1:=HG.out.fr.size
  obtain ⟨c0,c1,c2,c3,c4,c5,c6,c7,c8⟩:=nine' hKB
  have hl1:=HG.out.len
  have HC2:=ih ((k:Int) + 1) w3 v3 Q3 rfl (by omega) HG.out.um (by have:=HNN.out;omega) (fun b hb => ((HG.out.fr.ki HH.out HNN.out).1 b hb).trans (HLOW.out b hb)) (by have:=HNOD.out;simp only [nodesL] at hl1;omega)
  obtain ⟨P2,hP2⟩:∃ P2,P2 = BPost tb N0 w3.heap.size (optN x lz k) Q3.length Q3 w3 v3:=⟨_,rfl⟩
  rw [← hP2] at HC2
  have HP2:=hid hP2
  have HPR2:Hid (∀ e w',P2 e w' → ∃ z,e = .returned (.int .i64 z)):=fun e w' hp => by rw [hP2] at hp;obtain ⟨v',Q',e1,_⟩:=hp;exact ⟨_,e1⟩
  obtain ⟨L3,hL3⟩:∃ L3:List Int,L3 = (rts [x] Q.length).map fun (x:Nat) => (x:Int):=⟨_,rfl⟩
  have HAP:Hid (∀ z w5,P2 (.returned (.int .i64 z)) w5 → (w5.alloc (.cells #[.int .i64 z] 3)).ownsRow W.heap.size 3 1 (.slice (some ⟨l3,0,none⟩) 1 1) 1 (I64 L3) ∧ W.heap.size ≤ (w5.alloc (.cells #[.int .i64 z] 3)).heap.size ∧ ∀ l' w6,w6.ownsRow W.heap.size 3 1 l' (1 + 1) (I64 L3 ++ [.int .i64 z]) → Moved (w5.alloc (.cells #[.int .i64 z] 3)) w6 (.slice (some ⟨l3,0,none⟩) 1 1) l' → ∃ v' Q',Grw tb N0 Q.length Q W v ([x] ++ [optN x lz k]) w6 v' Q' l'):=fun z w5 hp => by
   rw [hP2] at hp
   have h1:=HG.out.own (Nat.le_refl _) (Below.refl _ _) rfl hp (Joins.below_alloc1 w5 (.cells #[.int .i64 z] 3))
   rw [hL3]
   exact ⟨h1.1,h1.2,fun l' w6 ho hm => by obtain ⟨v',Q',g,_⟩:=HG.out.snoc (Nat.le_refl _) (Below.refl _ _) rfl hp (Joins.below_alloc1 w5 _) hm ho;exact ⟨v',Q',g⟩⟩
  obtain ⟨i0,hi0,hz0,hz1,hz2⟩:=info_parts info3
  clear hP2 hs1 hl1 ih hKB hL3 HG
  go_upto_region 4 with (first | (go_at_call 122;(with_reducible refine HC2.mono ?_);rintro e w5 hp;obtain ⟨z2,rfl⟩:=HPR2.out _ _ hp;have HB2:=hid hp;clear hp HC2) | (at_builtin;refine wpList_append_move rfl (.tmp 16) (.tmp 23) 26 rfl W.heap.size 3 i0 (.int .i64 0) 8 Tryz.underlying26 hi0 hz0 hz1 hz2 rfl (.slice (some ⟨l3,0,none⟩) 1 1) 1 (I64 L3) rfl (HAP.out _ _ HB2.out).1 ⟨w5.heap.size,0,none⟩ 1 1 [.int .i64 z2] rfl rfl (by decide) (one_new w5 _ 3) (by intro u hu;simp at hu;subst hu;rfl) (by unfold maxLen;omega) (by omega) (HAP.out _ _ HB2.out).2.1 ?_;intro v6 w6 ho6 hm6;obtain ⟨v7,Q7,g7⟩:=(HAP.out _ _ HB2.out).2.2 v6 w6 ho6.out hm6.out;obtain ⟨vb,vc,rfl⟩:=Joins.ownsRow_form ho6.out (by decide);have HG:=hid g7;clear g7 ho6 hm6 c0 c1 c2 c3 c4 c5 c6 c7 c8))
  have HRW:=HG.out.rowcall rfl (by have:=HNOD.out;simp only [nodesL,List.cons_append,List.nil_append];omega)
  obtain ⟨P4,hP4⟩:∃ P4,P4 = BPost tb N0 W.heap.size (rowN ([x] ++ [optN x lz k])) Q.length Q W v:=⟨_,rfl⟩
  rw [← hP4] at HRW
  have HPR4:Hid (∀ e w',P4 e w' → ∃ z,e = .returned (.int .i64 z)):=fun e w' hp => by rw [hP4] at hp;obtain ⟨v',Q',e1,_⟩:=hp;exact ⟨_,e1⟩
  have HLAST:Hid (∀ z w4,P4 (.returned (.int .i64 z)) w4 → Calls Tryz.prog 81 #[.pointer (some ⟨tb,0,none⟩),.agg #[.int .i64 103,.int .i64 0,.int .i64 0,.slice none 0 0,.slice (some ⟨w4.heap.size,0,none⟩) 1 1,.bool lz,.int .i64 0,.int .i64 0]] (w4.alloc (.cells #[.int .i64 z] 3)) P):=fun z w4 hp => by
   rw [HP.out]
   exact wrap_built (T:=rowN ([x] ++ [optN x lz k])) HNN.out (by rw [hP4] at hp;exact hp) rfl (by have:=HNOD.out;have e:(rowN ([x] ++ [optN x lz k])).nodes = _:=rowN_nodes2 x (optN x lz k);omega)
  have HPE:Hid (∀ e w',P e w' → ∃ z,e = .returned (.int .i64 z)):=fun e w' hp => by rw [HP.out] at hp;obtain ⟨v',Q',e1,_⟩:=hp;exact ⟨_,e1⟩
  clear hP4 HG
  go_wp2_with (first | (go_at_call 123;(with_reducible refine HRW.mono ?_);rintro e w4 hp;obtain ⟨z,rfl⟩:=HPR4.out _ _ hp;have HL5:=HLAST.out z w4 hp;clear hp HRW) | (go_at_call 81;(with_reducible refine HL5.mono ?_);rintro e w5 hq;have HQ5:=hid hq;obtain ⟨_,rfl⟩:=HPE.out _ _ hq;clear HL5 hq))
  all_goals first | exact HQ5.out | (go_ret;exact HQ5.out)
end Go.Proofs.YtacaanhnlfpbhaaGreat
