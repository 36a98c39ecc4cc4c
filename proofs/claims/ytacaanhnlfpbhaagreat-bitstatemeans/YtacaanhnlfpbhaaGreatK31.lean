/- HELPERS: texts of ours put together. -/
import Derived.Test.YtacaanhnlfpbhaaGreatK30
import Derived.Deep.RegionHeld2
import Derived.OrdersHeld
import Derived.StillTail
import Derived.Tactics
import Derived.RowKit
import Derived.Below
namespace Go.Proofs.YtacaanhnlfpbhaaGreat
open Go.RowKit Go.Lk
set_option linter.unusedVariables false
set_option linter.unusedSimpArgs false
set_option maxHeartbeats 1000000 in
theorem closure79 (lo hi r:Int) (W:World):Calls Tryz.prog 220 #[.agg #[.int .i64 lo,.int .i64 hi],.int .i64 r] W fun e w' => e = .returned (.int .i64 (cmpI hi r)) ∧ Below W.heap.size W w':=by
 have hcon:=fun W' => compare69 hi r W'
 generalize cmpI hi r = c at hcon ⊢
 go_enter Tryz.func220,Tryz.ntmps220
 go_wp2_with (go_at_call 218;refine (hcon _).mono ?_;rintro e w' ⟨rfl,rfl⟩)
 go_ret
 exact ⟨rfl,(Below.refl _ _).alloc (Nat.le_refl _) _⟩
set_option maxHeartbeats 3000000 in
set_option maxRecDepth 1000000 in
theorem bs79 (L:List (Int × Int)) (ad:Option Addr) (n cap:Nat) (r:Int) (w:World) (hn:Hid (n = L.length)) (hl:Hid (RowAt w.heap.size w (.slice ad n cap) L)) (hS:n ≤ 5000) :
  Calls Tryz.prog 216 #[.slice ad n cap,.int .i64 r,.func (.func 220) #[] #[]] w fun e w' => ∃ (i:Nat) (f:Bool),e = .returned (.tuple #[.int .i64 i,.bool f]) ∧ Below w.heap.size w w' ∧ i ≤ n ∧ (i = 0 ∨ (L.getD (i - 1) (0,0)).2 < r) ∧ (i = n ∨ r ≤ (L.getD i (0,0)).2):=by
 go_enter Tryz.func216,Tryz.ntmps216
 go_wp2
 go_loopw [9,10] (fun a b wr => ∃ (i j:Nat),a = .int .i64 i ∧ b = .int .i64 j ∧ i ≤ j ∧ j ≤ n ∧ Below w.heap.size w wr ∧ Hid ((i = 0 ∨ (L.getD (i - 1) (0,0)).2 < r) ∧ (j = n ∨ r ≤ (L.getD j (0,0)).2)))
  (fun a b _ => (intOf b).toNat - (intOf a).toNat)
 case atStart => exact ⟨0,n,rfl,rfl,by omega,by omega,Below.refl _ _,by exact ⟨.inl rfl,.inl rfl⟩⟩
 case round =>
  obtain ⟨i,j,rfl,rfl,hij,hjn,hbw,HR⟩:=hrel
  have hsz:=hbw.size
  by_cases hlt:i < j
  ·obtain ⟨ad',cap',he,h | ⟨b,off,rfl,hbN,hc0,hc1⟩⟩:=hl.out
   ·exact absurd h (by rw [← hn.out];omega)
   ·have hn':=hn.out
    simp only [Value.slice.injEq] at he
    obtain ⟨rfl,-,rfl⟩:=he
    have hm1:i ≤ (i + j) / 2:=by omega
    have hm2:(i + j) / 2 < j:=by omega
    have d0:=(hbw.cell (p:=⟨b,off + (i + j) / 2 * 2,none⟩) hbN).trans (hc0 ((i + j) / 2) (by omega))
    have d1:=(hbw.cell (p:=⟨b,off + (i + j) / 2 * 2 + 1,none⟩) hbN).trans (hc1 ((i + j) / 2) (by omega))
    generalize hg:L.getD ((i + j) / 2) (0,0) = g at d0 d1
    obtain ⟨lo,hi⟩:=g
    simp only at d0 d1
    have HG:Hid (L.getD ((i + j) / 2) (0,0) = (lo,hi)):=hg
    clear hg hc0 hc1 hn'
    have hcl:=closure79 lo hi r
    have hcmp:=cmp_lt hi r
    generalize cmpI hi r = c at hcl hcmp
    by_cases hc:c < 0
    ·have HX:Hid (hi < r):=hcmp.1 hc
     clear hcmp
     go_wp2_with (go_at_call 220;refine (hcl _).mono ?_;rintro e w2 ⟨rfl,hb2⟩)
     go_roundw
     case rel => exact ⟨(i + j) / 2 + 1,j,by go_num,rfl,by omega,by omega,hbw.trans (hb2.mono hsz),by exact ⟨.inr (by rw [Nat.add_sub_cancel,HG.out];exact HX.out),HR.out.2⟩⟩
     case measure => simp [intOf];omega
    ·have HX:Hid (r ≤ hi):=by show r ≤ hi;have:=mt hcmp.2 hc;omega
     clear hcmp
     go_wp2_with (go_at_call 220;refine (hcl _).mono ?_;rintro e w2 ⟨rfl,hb2⟩)
     go_roundw
     case rel => exact ⟨i,(i + j) / 2,rfl,by go_num,by omega,by omega,hbw.trans (hb2.mono hsz),by exact ⟨HR.out.1,.inr (by rw [HG.out];exact HX.out)⟩⟩
     case measure => simp [intOf];omega
  ·obtain rfl:i = j:=by omega
   by_cases hin:i < n
   ·obtain ⟨ad',cap',he,h | ⟨b,off,rfl,hbN,hc0,hc1⟩⟩:=hl.out
    ·exact absurd h (by rw [← hn.out];omega)
    ·have hn':=hn.out
     simp only [Value.slice.injEq] at he
     obtain ⟨rfl,-,rfl⟩:=he
     have d0:=(hbw.cell (p:=⟨b,off + i * 2,none⟩) hbN).trans (hc0 i (by omega))
     have d1:=(hbw.cell (p:=⟨b,off + i * 2 + 1,none⟩) hbN).trans (hc1 i (by omega))
     generalize L.getD i (0,0) = g at d0 d1
     obtain ⟨lo,hi⟩:=g
     simp only at d0 d1
     clear hc0 hc1 hn'
     have hcl:=closure79 lo hi r
     generalize cmpI hi r = c at hcl
     go_wp2_with (go_at_call 220;refine (hcl _).mono ?_;rintro e w2 ⟨rfl,hb2⟩)
     go_ret2
     exact ⟨i,_,rfl,hbw.trans (hb2.mono hsz),by omega,HR.out.1,HR.out.2⟩
   ·go_wp2
    go_ret2
    exact ⟨i,_,rfl,hbw,by omega,HR.out.1,HR.out.2⟩
set_option maxRecDepth 100000 in
set_option maxHeartbeats 2000000 in
theorem fits54 {w:World} {B b j:Nat} {l:List In} {tx:List Int} {C:Bk} {V:Bv} {st:List Tk} {m:List Pt} {cp:List Int} {W:List Nat} {R:List (Int × Int)} {r1:Option Addr} {r2 r3:Nat} (h:BI w B b l tx C V st m cp W) (hj:j ≤ C.tn) (hn:r2 = R.length) (hl:RowAt w.heap.size w (.slice r1 r2 r3) R) (hR:rightB R = true) :
  Calls Tryz.prog 165 #[.pointer (some ⟨b,0,none⟩),.slice r1 r2 r3,.int .i64 (j:Int)] w fun e w' => e = .returned (.bool (decide (j < tx.length) && hsB R (tx.getD j 0))) ∧ Below w.heap.size w w':=by
 have c3:=h.mb.c 3
 simp at c3
 have HT:=hid h.tx
 have HL:=hid hl
 have HN:=hid hn
 have HR:=hid hR
 have htl:C.tn = tx.length:=h.tx.1
 have hBs:=h.size
 have hsm:r2 ≤ 5000:=by
  rw [hn];unfold rightB at hR;simp at hR;exact hR.1
 obtain ⟨ad,n,c,S,K,tad,tn,tc,ub,a⟩:=C
 dsimp only at c3 HT htl hj ⊢
 clear h hl hn hR
 rw [← htl]
 have HTL:=hid htl
 clear htl
 by_cases e:j = tn
 ·rw [show decide (j < tn) = false by simp [e]]
  have b1:((j:Int) == (tn:Int)) = true:=by simp;omega
  go_enter Tryz.func165,Tryz.ntmps165
  go_wp2
  all_goals go_ret
  all_goals exact ⟨rfl,Below.refl _ _⟩
 ·have b1:((j:Int) == (tn:Int)) = false:=by simp;omega
  have hlt:j < tn:=by omega
  rw [show decide (j < tn) = true by simp [hlt]]
  have b2:(j:Int) < (tn:Int):=by omega
  obtain ⟨_,h35,h0 | ⟨tb,tof,rfl,htb,htc⟩⟩:=HT.out
  ·omega
  have d0:=htc j hlt
  generalize hr:tx.getD j 0 = r at d0 ⊢
  have HRR:=hid hr
  clear htc hr
  generalize hX:hsB R r = X
  have HX:=hid hX
  clear hX
  have hj2:j < 9223372036854775807:=by omega
  clear h35
  have HS:Hid (Calls Tryz.prog 216 #[.slice r1 r2 r3,.int .i64 r,.func (.func 220) #[] #[]] w fun e w' => ∃ (i:Nat) (f:Bool),e = .returned (.tuple #[.int .i64 i,.bool f]) ∧ Below w.heap.size w w' ∧ i ≤ r2 ∧ (i = 0 ∨ (R.getD (i - 1) (0,0)).2 < r) ∧ (i = r2 ∨ r ≤ (R.getD i (0,0)).2)):=bs79 R r1 r2 r3 r w HN.out HL.out hsm
  go_enter Tryz.func165,Tryz.ntmps165
  go_upto_region 5 with (go_at_call 216;(with_reducible refine HS.out.mono ?_);rintro e w3 ⟨i,f,rfl,hb3,hi,hs1,hs2⟩;have HB3:=hid hb3;have H1:=hid hs1;have H2:=hid hs2;clear hb3 hs1 hs2 HS c3 d0)
  have hsr:inB R r = (decide (i < R.length) && decide ((R.getD i (0,0)).1 ≤ r)):=has_search R r i HR.out (by have:=HN.out;omega) H1.out (by have:=HN.out;rw [← this];exact H2.out)
  rw [← HN.out] at hsr
  have hhs:hsB R r = (decide (i < r2) && decide ((R.getD i (0,0)).1 ≤ r)):=by unfold hsB;rw [HR.out,hsr];rfl
  rw [HX.out] at hhs
  have HH:=hid hhs
  clear hsr hhs
  by_cases hir:i < r2
  ·have b3:decide ((i:Int) < (r2:Int)) = true:=by simp;omega
   have b4:(i:Int) < (r2:Int):=by omega
   obtain ⟨ad',cap',he,h | ⟨lb,lo,rfl,hlb,hc0,hc1⟩⟩:=HL.out
   ·have:=HN.out;omega
   simp only [Value.slice.injEq] at he
   obtain ⟨rfl,-,rfl⟩:=he
   have m0:=(HB3.out.cell (p:=⟨lb,lo + i * 2,none⟩) hlb).trans (hc0 i (by have:=HN.out;omega))
   generalize hx0:(R.getD i (0,0)).1 = x0 at m0
   have HX0:=hid hx0
   clear hx0
   clear hc0 hc1
   by_cases hx:x0 ≤ r
   ·have b5:decide (x0 ≤ r) = true:=by simp [hx]
    have HXV:Hid (X = true):=by show X = _;rw [HH.out,HX0.out];simp [hir,hx]
    go_wp2
    all_goals go_ret
    all_goals exact ⟨ret_bool (by simp [HXV.out]),HB3.out⟩
   ·have b5:decide (x0 ≤ r) = false:=by simp [hx]
    have HXV:Hid (X = false):=by show X = _;rw [HH.out,HX0.out];simp [hir,hx]
    go_wp2
    all_goals go_ret
    all_goals exact ⟨ret_bool (by simp [HXV.out]),HB3.out⟩
  ·have b3:decide ((i:Int) < (r2:Int)) = false:=by simp;omega
   have HXV:Hid (X = false):=by show X = _;rw [HH.out];simp [hir]
   go_wp2
   all_goals go_ret
   all_goals exact ⟨ret_bool (by simp [HXV.out]),HB3.out⟩
set_option maxRecDepth 100000 in
set_option maxHeartbeats 4000000 in
theorem match58 {w:World} {B b:Nat} {l:List In} {tx:List Int} {C:Bk} {V:Bv} {st:List Tk} {m:List Pt} {cp:List Int} {W:List Nat} (a:Int) (h:BI w B b l tx C V st m cp W) :
  Calls Tryz.prog 168 #[.pointer (some ⟨b,0,none⟩),.int .i64 a] w fun e w' => e = .returned (.tuple #[]) ∧ BI w' B b l tx C { V with fok:=true,f1:=some ⟨C.ub,0,none⟩,f2:=C.K,f3:=C.K,fw:=a } st m cp W ∧ Below B w w':=by
 have c4:=h.mb.c 4
 have c10:=h.mb.c 10
 have c11:=h.mb.c 11
 have c12:=h.mb.c 12
 have u10:=h.mb.u 10
 have u11:=h.mb.u 11
 have u12:=h.mb.u 12
 simp at c4 c10 c11 c12
 obtain ⟨w1,w2,w3,z1,z2,z3,most,fok,f1,f2,f3,fw,fs⟩:=V
 obtain ⟨g1,g2⟩:=h.put (V':=⟨w1,w2,w3,z1,z2,z3,most,true,f1,f2,f3,fw,fs⟩) 10 (.bool true) rfl ⟨rfl,rfl,rfl⟩ ⟨rfl,rfl,rfl⟩
 obtain ⟨g3,g4⟩:=g1.put (V':=⟨w1,w2,w3,z1,z2,z3,most,true,some ⟨C.ub,0,none⟩,C.K,C.K,fw,fs⟩) 11 (.slice (some ⟨C.ub,0,none⟩) C.K C.K) rfl ⟨rfl,rfl,rfl⟩ ⟨rfl,rfl,rfl⟩
 obtain ⟨g5,g6⟩:=g3.put (V':=⟨w1,w2,w3,z1,z2,z3,most,true,some ⟨C.ub,0,none⟩,C.K,C.K,a,fs⟩) 12 (.int .i64 a) rfl ⟨rfl,rfl,rfl⟩ ⟨rfl,rfl,rfl⟩
 have HG:=hid (⟨g5,g2.trans (g4.trans g6)⟩:_ ∧ _)
 clear g1 g2 g3 g4 g5 g6 h
 dsimp only at *
 go_enter Tryz.func168,Tryz.ntmps168
 go_wp2
 go_end0
 exact ⟨rfl,HG.out.1,HG.out.2⟩
set_option maxRecDepth 100000 in
set_option maxHeartbeats 4000000 in
theorem note55 {w:World} {B b a j:Nat} {l:List In} {tx:List Int} {C:Bk} {V:Bv} {st:List Tk} {m:List Pt} {cp:List Int} {W:List Nat} (h:BI w B b l tx C V st m cp W) (ha:a < C.K) (hK:C.K ≤ 1002) (ht:C.tn ≤ 4194304) (hj:j ≤ C.tn) (hst:st.length ≤ m.length) (hm:m.length ≤ 16777216) :
  Calls Tryz.prog 166 #[.pointer (some ⟨b,0,none⟩),.int .i64 (a:Int),.int .i64 (j:Int)] w fun e w' => e = .returned (.tuple #[]) ∧ ∃ y1 y3 mo,BI w' B b l tx C { V with z1:=y1,z2:=V.z2 + 1,z3:=y3,most:=mo } (.un a (cp.getD a 0) :: st) m (cp.set a (j:Int)) W ∧ Below B w w':=by
 have hcl:cp.length = C.K:=by have:=h.cap.1;simpa [I64] using this
 have c4:=h.mb.c 4
 simp at c4
 have d0:=h.cap.cellAt a (by omega)
 obtain ⟨o,ho⟩:∃ o,o = cp.getD a 0:=⟨_,rfl⟩
 have hoo:(I64 cp)[a]? = some (.int .i64 o):=by
  rw [ho];simp [I64,List.getD_eq_getElem?_getD,show a < cp.length by omega]
 rw [hoo] at d0
 have hor:=h.okc.get a
 rw [← ho] at hor ⊢
 have b2:(a:Int) < (C.K:Int):=by omega
 have H0:=hid h
 have HO:=hid ho
 have HOO:=hid hoo
 have HUN:Hid (∀ W',Calls Tryz.prog 221 #[.int .i64 (a:Int),.int .i64 o] W' fun e w' => e = .returned (unV a o) ∧ Below W'.heap.size W' w'):=fun W' => toUndo81 a o W' (by omega) (by omega)
 have HPU:Hid (∀ W',Below w.heap.size w W' → Calls Tryz.prog 158 #[.pointer (some ⟨b,8,none⟩),unV a o] W' fun e w' => e = .returned (.tuple #[]) ∧ ∃ y1 y3 mo,BI w' B b l tx C { V with z1:=y1,z2:=V.z2 + 1,z3:=y3,most:=mo } (.un a o :: st) m cp W ∧ Below B W' w'):=fun W' hb => push47 (.un a o) _ _ rfl (h.below hb) ⟨ha,hor⟩ hst hm
 have hub:C.ub < w.heap.size:=(h.cap.lt _ rfl).2
 have hbl:=h.mb.lt
 have hBs:=h.size
 clear h ho hoo hcl
 obtain ⟨w1,w2,w3,z1,z2,z3,most,fok,f1,f2,f3,fw,fs⟩:=V
 obtain ⟨ad,n,c,S,K,tad,tn,tc,ub,a0⟩:=C
 dsimp only at *
 go_enter Tryz.func166,Tryz.ntmps166
 go_upto_region 0 with fail
 go_cut [] from 6 to 18 (fun wx => ∃ y1 y3 mo,Hid (BI wx B b l tx ⟨ad,n,c,S,K,tad,tn,tc,ub,a0⟩ ⟨w1,w2,w3,y1,z2 + 1,y3,mo,fok,f1,f2,f3,fw,fs⟩ (.un a o :: st) m cp W) ∧ Hid (Below B w wx))
 case first =>
  go_region_held2 (fun w' => w'.cell? ⟨b,4,none⟩ = some (.slice (some ⟨ub,0,none⟩) K K) ∧ w'.cell? ⟨ub,a,none⟩ = some (.int .i64 o))
   (first | (exact ⟨c4,d0⟩) | (exact HS3.out) | (refine ⟨(HB2.out.cell (p:=⟨b,4,none⟩) hbl).trans c4,(HB2.out.cell (p:=⟨ub,a,none⟩) hub).trans d0⟩))
   (first | (go_at_call 221;(with_reducible refine (HUN.out _).mono ?_);rintro e wp ⟨rfl,hb2⟩;have HB2:Hid (Below w.heap.size w wp):=Below.trans ((Eqw.drew w).below _) hb2;clear hb2) | (go_at_call 158;(with_reducible refine (HPU.out _ HB2.out).mono ?_);rintro e wt ⟨rfl,y1,y3,mo,hbi,hb3⟩;have HBI:=hid hbi;have HB3:=hid hb3;have HS3:Hid (wt.cell? ⟨b,4,none⟩ = some (.slice (some ⟨ub,0,none⟩) K K) ∧ wt.cell? ⟨ub,a,none⟩ = some (.int .i64 o)):=⟨(hbi.mb.c 4),((hbi.cap.cellAt a (Nat.lt_of_lt_of_le ha (Nat.le_of_eq (Nat.mul_one _).symm))).trans HOO.out)⟩;clear hbi hb3))
  all_goals go_wp2_with fail
  all_goals go_meet
  all_goals exact ⟨_,_,_,HBI.out,(Joins.below_le HB2.out hBs).trans HB3.out⟩
 case rest =>
  obtain ⟨y1,y3,mo,HBI,HBW⟩:=hcut
  clear HPU HUN
  have k4:=HBI.out.mb.c 4
  simp at k4
  have k0:=(HBI.out.cap.cellAt a (Nat.lt_of_lt_of_le ha (Nat.le_of_eq (Nat.mul_one _).symm))).trans HOO.out
  have f0:=HBI.out.cap.frozenAt a
  dsimp only at k0 f0
  have HSC:=hid (HBI.out.setc a (v:=(j:Int)) ⟨by omega,by dsimp only;omega⟩)
  dsimp only at HSC
  clear c4 d0
  go_wp2
  go_end0
  exact ⟨rfl,y1,y3,mo,HSC.out.1,HBW.out.trans HSC.out.2⟩
end Go.Proofs.YtacaanhnlfpbhaaGreat
namespace Go.Proofs.YtacaanhnlfpbhaaGreat
open Go Go.RowKit
set_option linter.unusedVariables false
section
variable {P:Program} {ops:Array Oper} {Q:Exit → Act → World → Prop} {md:Region.Mode} {S:World → Prop}
def wpAnyY (P:Program) (md:Region.Mode) (ops:Array Oper) (Q:Exit → Act → World → Prop) (S:World → Prop):Nat → Array Bool → Act → World → Prop
 | 0,listed,a,w => Region.ready md ops listed = [] ∧ Q .normal a w
 | fuel + 1,listed,a,w =>
  (Region.ready md ops listed = [] → Q .normal a w) ∧
  ∀ i ∈ Region.ready md ops listed,wpOp P ops Q i (fun a' w' => S w' ∧ wpAnyY P md ops Q S fuel (listed.setIfInBounds i true) a' w') a w
theorem wpAny_of_Y:∀ (fuel:Nat) (listed:Array Bool) (a:Act) (w:World),wpAnyY P md ops Q S fuel listed a w → wpAny P md ops Q fuel listed a w
 | 0,_,_,_,h => h
 | fuel + 1,_,_,_,h => ⟨h.1,fun i hi => wpOp_mono (fun a' w' h' => wpAny_of_Y fuel _ a' w' h'.2) (h.2 i hi)⟩
theorem wpAnyY_first {i:Nat} {oi:Oper} {v:Value} (hi:ops[i]? = some oi) (hsel:∀ (j:Nat) (o:Oper) cs b,ops[j]? = some o → o.op ≠ .select cs b)
  (hQ:∀ c a w,Q (.panic c) (a.put oi.dst v) w → Q (.panic c) a w) :
  ∀ (fuel:Nat) (listed:Array Bool) (a:Act) (w:World),
   (∀ j oj,ops[j]? = some oj → j ≠ i → listed.getD j true = false → (∀ e ∈ oj.after,Region.binds md e = true → e.on ≠ i) → oi.apart ops oj = true) →
   i ∈ Region.ready md ops listed → YieldsIf P ops S oi v a → S w →
   wpAnyY P md ops Q S fuel (listed.setIfInBounds i true) (a.put oi.dst v) w → wpAnyY P md ops Q S (fuel + 1) listed a w:=by
 intro fuel
 induction fuel with
 | zero =>
  intro listed a w _ hr hy hS H
  refine ⟨fun h => (by rw [h] at hr;cases hr),fun j hj => ?_⟩
  by_cases hji:j = i
  ·subst hji;exact hy.wpOp hi hS ⟨hS,H⟩
  ·have:=ready_mono hj hji
   rw [H.1] at this
   cases this
 | succ fuel ih =>
  intro listed a w hfree hr hy hS H
  refine ⟨fun h => (by rw [h] at hr;cases hr),fun j hj => ?_⟩
  by_cases hji:j = i
  ·subst hji;exact hy.wpOp hi hS ⟨hS,H⟩
  ·have h1:=H.2 j (ready_mono hj hji)
   obtain ⟨hjun,oj,hoj,hall⟩:=mem_ready.1 hj
   have hnot:∀ e ∈ oj.after,Region.binds md e = true → e.on ≠ i:=fun e he hb heq => by
    have h1:=hall e he hb
    have h0:=(mem_ready.1 hr).1
    rw [heq] at h1
    rcases Nat.lt_or_ge i listed.size with h' | h'
    ·simp [h'] at h0 h1;rw [h0] at h1;cases h1
    ·simp [Array.getElem?_eq_none h'] at h1
   have h2:=wpOp_putIf hoj (hfree j oj hoj hji hjun hnot) (fun cs b => hsel i oi cs b hi) (fun cs b => hsel j oj cs b hoj) hQ hy h1
   have hfree':∀ k ok,ops[k]? = some ok → k ≠ i → (listed.setIfInBounds j true).getD k true = false →
     (∀ e ∈ ok.after,Region.binds md e = true → e.on ≠ i) → oi.apart ops ok = true:=fun k ok hk hki hun hno => by
    refine hfree k ok hk hki ?_ hno
    by_cases hjk:j = k
    ·subst hjk;exact hjun
    ·rw [getD_set_ne true hjk] at hun;exact hun
   refine wpOp_mono (fun a' w' h3 => ⟨h3.2.1,ih (listed.setIfInBounds j true) a' w' hfree' (ready_mono hr (Ne.symm hji)) h3.1 h3.2.1 ?_⟩) h2
   rw [Array.setIfInBounds_comm _ _ hji]
   exact h3.2.2
def wpLey (P:Program) (ops:Array Oper) (Q:Exit → Act → World → Prop) (S:World → Prop) (K:Act → Prop):List Oper → Act → Prop
 | [],a => K a
 | o :: l,a => ∃ v,YieldsIf P ops S o v a ∧ (∀ c a w,Q (.panic c) (a.put o.dst v) w → Q (.panic c) a w) ∧ wpLey P ops Q S K l (a.put o.dst v)
theorem ley_cons {K:Act → Prop} {o:Oper} {l:List Oper} {a:Act} (v:Value) (hw:Region.wanted o (yielded ops a.tmps) = true) (hv:∀ w,S w → (execOp a.eval o).run P w = .ok (.value v) w)
  (hQ:∀ c a w,Q (.panic c) (a.put o.dst v) w → Q (.panic c) a w) (h:wpLey P ops Q S K l (a.put o.dst v)):wpLey P ops Q S K (o :: l) a:=⟨v,.inl ⟨hw,hv⟩,hQ,h⟩
theorem ley_nil {K:Act → Prop} {a:Act} (h:K a):wpLey P ops Q S K [] a:=h
def lexC (md:Region.Mode) (ops:Array Oper):Nat → Nat → Array Bool → Bool
 | 0,_,_ => true
 | f + 1,k,listed => (Region.ready md ops listed).contains k && Region.free md ops listed k && lexC md ops f (k + 1) (listed.setIfInBounds k true)
def marky:Nat → Nat → Array Bool → Array Bool
 | 0,_,listed => listed
 | f + 1,k,listed => marky f (k + 1) (listed.setIfInBounds k true)
theorem wpAnyY_ley {g:Nat} {w:World} (hsel:Region.noSelect ops = true) (hS:S w) :
  ∀ (l:List Oper) (k:Nat) (listed:Array Bool) (a:Act),(∀ j,j < l.length → l[j]? = ops[k + j]?) → lexC md ops l.length k listed = true →
  wpLey P ops Q S (fun a' => wpAnyY P md ops Q S g (marky l.length k listed) a' w) l a → wpAnyY P md ops Q S (l.length + g) listed a w
 | [],k,listed,a,_,_,h => by simpa [marky,wpLey] using h
 | o :: l,k,listed,a,hl,hB,h => by
  have h0:ops[k]? = some o:=by simpa using (hl 0 (by simp)).symm
  simp only [List.length_cons,lexC,Bool.and_eq_true] at hB
  obtain ⟨⟨hr,hf⟩,hB'⟩:=hB
  obtain ⟨v,hy,hQ,hK⟩:=h
  rw [show (o :: l).length + g = (l.length + g) + 1 by simp only [List.length_cons];omega]
  exact wpAnyY_first h0 (Region.noSelect_spec hsel) hQ (l.length + g) listed a w (Region.free_spec h0 hf) (by simpa using hr) hy hS
   (wpAnyY_ley hsel hS l (k + 1) _ _ (fun j hj => by have:=hl (j + 1) (by simp;omega);simpa [Nat.add_assoc,Nat.add_comm 1 j] using this) hB' hK)
def wpTaiY (P:Program) (ops:Array Oper) (Q:Exit → Act → World → Prop) (S:World → Prop):List Oper → Nat → Act → World → Prop
 | [],_,a,w => Q .normal a w
 | o :: l,k,a,w => ∀ K:Act → World → Prop,Hid (∀ a' w',S w' → wpTaiY P ops Q S l (k + 1) a' w' → K a' w') → if Region.wanted o (yielded ops a.tmps) = true then Oper.wp P o a w K Q else K (a.put o.dst undef) w
theorem taiY_cons {o:Oper} {l:List Oper} {k:Nat} {a:Act} {w:World} (h:∀ K:Act → World → Prop,Hid (∀ a' w',S w' → wpTaiY P ops Q S l (k + 1) a' w' → K a' w') → if Region.wanted o (yielded ops a.tmps) = true then Oper.wp P o a w K Q else K (a.put o.dst undef) w):wpTaiY P ops Q S (o :: l) k a w:=h
theorem taiY_nil {k:Nat} {a:Act} {w:World} (h:Q .normal a w):wpTaiY P ops Q S [] k a w:=h
theorem wpAnyY_of_taiY:∀ (l:List Oper) (k:Nat) (listed:Array Bool) (a:Act) (w:World),(∀ j,l[j]? = ops[k + j]?) →
  Region.seqB md ops l.length k listed = true → wpTaiY P ops Q S l k a w → wpAnyY P md ops Q S l.length listed a w
 | [],_,_,_,_,_,hB,h => ⟨by simpa [Region.seqB] using hB,h⟩
 | o :: l,k,listed,a,w,hl,hB,h => by
  have h0:ops[k]? = some o:=by simpa using (hl 0).symm
  simp only [List.length_cons,Region.seqB,Bool.and_eq_true,decide_eq_true_eq] at hB
  refine ⟨fun h1 => absurd (hB.1.symm.trans h1) (by simp),fun j hj => ?_⟩
  rw [hB.1] at hj
  have:j = k:=by simpa using hj
  subst this
  have h1:=h (fun a' w' => S w' ∧ wpAnyY P md ops Q S l.length (listed.setIfInBounds j true) a' w') ((fun a' w' h1 h2 => ⟨h1,wpAnyY_of_taiY l (j + 1) _ a' w' (fun i => by have:=hl (i + 1);simpa [Nat.add_assoc,Nat.add_comm 1 i] using this) hB.2 h2⟩))
  unfold wpOp
  simp only [h0]
  split
  ·rename_i hw;rw [if_pos hw] at h1;exact .inl h1
  ·rename_i hw;rw [if_neg hw] at h1;exact h1
theorem wp_region_ley {id:Nat} {a:Act} {w:World} {l:List Oper} (n:Nat) (S:World → Prop) (hm:P.follows .mixedOrders = true) (hsel:Region.noSelect l.toArray = true) (hn:n ≤ l.length) (hB:lexC .any l.toArray n 0 (Array.replicate l.length false) = true)
  (hT:Region.seqB .any l.toArray (l.length - n) n (marky n 0 (Array.replicate l.length false)) = true) (hS:S w.drew)
  (h:wpLey P l.toArray Q S (fun a' => wpTaiY P l.toArray Q S (l.drop n) n a' w.drew) (l.take n) a):(Code.region id l.toArray true).wp P Q a w:=by
 have htl:(l.take n).length = n:=by simp;omega
 have hdl:(l.drop n).length = l.length - n:=by simp
 have hlex:∀ (l':List Oper) (a:Act),wpLey P l.toArray Q S (fun a' => wpTaiY P l.toArray Q S (l.drop n) n a' w.drew) l' a → wpLey P l.toArray Q S (fun a' => wpAnyY P .any l.toArray Q S (l.length - n) (marky n 0 (Array.replicate l.length false)) a' w.drew) l' a:=by
  intro l'
  induction l' with
  | nil => intro a h;have:=wpAnyY_of_taiY (md:=.any) (ops:=l.toArray) (Q:=Q) (S:=S) (P:=P) (l.drop n) n (marky n 0 (Array.replicate l.length false)) a w.drew (fun j => by simp [List.getElem?_drop]) (by rw [hdl];exact hT) h;rw [hdl] at this;exact this
  | cons o l' ih => rintro a ⟨v,h1,h2,h3⟩;exact ⟨v,h1,h2,ih _ h3⟩
 have H:=wpAnyY_ley (md:=.any) (Q:=Q) (g:=l.length - n) (P:=P) (w:=w.drew) hsel hS (l.take n) 0 (Array.replicate l.length false) a (fun j hj => by
  rw [htl] at hj
  simp [hj]) (by rw [htl];exact hB) (by rw [htl];exact hlex _ _ h)
 rw [htl,show n + (l.length - n) = l.length by omega] at H
 exact wp_region_any hm (by simpa using wpAny_of_Y _ _ _ _ H)
end
end Go.Proofs.YtacaanhnlfpbhaaGreat
