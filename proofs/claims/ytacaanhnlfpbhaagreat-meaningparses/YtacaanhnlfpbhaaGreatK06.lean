/- HELPERS: texts of ours put together. -/
import Derived.Test.YtacaanhnlfpbhaaGreatK05
import Derived.Test.YtacaanhnlfpbhaaGreatK01
import Derived.Deep.Cut
import Derived.Deep.CutRange
import Derived.Test.YtacaanhnlfpbhaaGreatK04
import Derived.Test.YtacaanhnlfpbhaaGreatK02
namespace Go.Proofs.YtacaanhnlfpbhaaGreat
open Go.RowKit
set_option linter.unusedVariables false
set_option linter.unusedSimpArgs false
theorem dom_bd {r:Int} (h:dom r=true):0≤r∧r < 1114112:=by simp [dom] at h;omega
theorem dom99 (r:Int) (w:World):Calls Tryz.prog 146 #[.int .i64 r] w fun e w'=>e=.returned (.bool (dom r))∧w'=w:=by
 go_enter Tryz.func146,Tryz.ntmps146
 go_wp2
 all_goals go_ret
 all_goals exact ⟨ret_bool (by rw [Bool.eq_iff_iff];simp [dom];omega),rfl⟩
theorem ok_of {ls gl gh ph:Int} {k:Nat} (h8:(!dom gl || !dom gh || decide (gh < gl) || gapB (gl,gh))=false) (hls:k=0∧ls=0∨0 < k∧ls=ph + 2)
  (h10:(decide (0 < k) && decide (gl < ph + 2) && !(decide (gl=57344) && decide (ph=55295)))=false):okG ls (gl,gh)=true:=by
 simp only [Bool.or_eq_false_iff,Bool.not_eq_false',decide_eq_false_iff_not] at h8
 obtain ⟨⟨⟨h1,h2⟩,h3⟩,h4⟩:=h8
 have hl:ls≤gl:=by
  rcases hls with ⟨_,rfl⟩ | ⟨hk,rfl⟩
  ·exact (dom_bd h1).1
  ·rw [decide_eq_true hk] at h10
   by_cases h:gl < ph + 2
   ·rw [decide_eq_true h] at h10
    simp at h10
    omega
   ·omega
 simp only [okG,h1,h2,h4,decide_eq_true hl,decide_eq_true (show gl≤gh by omega)]
 rfl
theorem bad_8 {ls gl gh:Int} (h8:(!dom gl || !dom gh || decide (gh < gl) || gapB (gl,gh))=true):okG ls (gl,gh)=false:=by
 cases h:okG ls (gl,gh)
 ·rfl
 ·simp only [okG,Bool.and_eq_true,decide_eq_true_eq,Bool.not_eq_true'] at h
  obtain ⟨⟨⟨⟨h0,h1⟩,h2⟩,h3⟩,h4⟩:=h
  rw [h2,h3,h4,decide_eq_false (show ¬ gh < gl by omega)] at h8
  exact absurd h8 (by decide)
theorem bad_10 {ls gl gh ph:Int} {k:Nat} (hls:k=0∧ls=0∨0 < k∧ls=ph + 2)
  (h10:(decide (0 < k) && decide (gl < ph + 2) && !(decide (gl=57344) && decide (ph=55295)))=true):okG ls (gl,gh)=false:=by
 simp only [Bool.and_eq_true,decide_eq_true_eq] at h10
 have:¬ ls≤gl:=by omega
 simp only [okG,decide_eq_false this,Bool.false_and]
set_option maxHeartbeats 8000000 in
set_option maxRecDepth 1000000 in
theorem rright_short (L:List (Int × Int)) (ad:Option Addr) (n cap:Nat) (w:World) (hn:Hid (L.length=n)) (hS:n≤5000) (hl:Hid (RowAt w.heap.size w (.slice ad n cap) L)) :
  Calls Tryz.prog 100 #[.slice ad n cap] w fun e w'=>e=.returned (.bool (rightFrom 0 L))∧Below w.heap.size w w':=by
 go_enter Tryz.func100,Tryz.ntmps100
 go_wp2
 go_loopw [3] (fun i wr=>∃ (k:Nat) (ls ph:Int),k≤n∧i=.int .i64 k∧Below w.heap.size w wr∧Hid (rightFrom 0 L=rightFrom ls (L.drop k))∧Hid (0 < k→ph=(L.getD (k - 1) (0,0)).2∧0≤ph∧ph≤1114111)∧Hid (k=0∧ls=0∨0 < k∧ls=ph + 2)) (fun i _=>n - (intOf i).toNat)
 case atStart=>exact ⟨0,0,0,by omega,rfl,Below.refl _ _,by exact rfl,fun h=>by omega,by exact .inl ⟨rfl,rfl⟩⟩
 case round =>
  obtain ⟨k,ls,ph,hk,rfl,hbw,HK,HP,HL⟩:=hrel
  have hsz:=hbw.size
  by_cases hlt:k < n
  ·obtain ⟨ad',cap',he,h | ⟨b,off,rfl,hbN,hc0,hc1⟩⟩:=hl.out
   ·exact absurd h (by rw [hn.out];omega)
   ·simp only [Value.slice.injEq] at he
    obtain ⟨rfl,-,rfl⟩:=he
    have hn':=hn.out
    have HC0:Hid (w.cell? ⟨b,off + k * 2,none⟩=some (.int .i64 (L.getD k (0,0)).1)):=hc0 k (by omega)
    have HC1:Hid (w.cell? ⟨b,off + k * 2 + 1,none⟩=some (.int .i64 (L.getD k (0,0)).2)):=hc1 k (by omega)
    have HC2:Hid (0 < k→w.cell? ⟨b,off + (k - 1) * 2 + 1,none⟩=some (.int .i64 ph)):=fun h=>by rw [(HP.out h).1];exact hc1 (k - 1) (by omega)
    have HPB:Hid (0 < k→0≤ph∧ph≤1114111):=fun h=>(HP.out h).2
    have HR:Hid (rightFrom 0 L=(okG ls (L.getD k (0,0)) && rightFrom ((L.getD k (0,0)).2 + 2) (L.drop (k + 1)))):=by
     show _=_
     rw [HK.out,drop_consR L k (by omega)]
     rfl
    have HG:Hid ((L.getD (k + 1 - 1) (0,0)).2=(L.getD k (0,0)).2):=by rw [Nat.add_sub_cancel];exact rfl
    have hgk:∃ g,L.getD k (0,0)=g:=⟨_,rfl⟩
    obtain ⟨⟨gl,gh⟩,hgk⟩:=hgk
    rw [hgk] at HC0 HC1 HR HG
    clear hgk hc0 hc1 hn' HK HP
    have HB8:Hid (∃ B,B=(!dom gl || !dom gh || decide (gh < gl) || gapB (gl,gh))):=⟨_,rfl⟩
    obtain ⟨B8,hB8⟩:=HB8.out
    have HB8:Hid (B8=(!dom gl || !dom gh || decide (gh < gl) || gapB (gl,gh))):=hB8
    have d0:=(hbw.cell (p:=⟨b,off + k * 2,none⟩) hbN).trans HC0.out
    have d1:=(hbw.cell (p:=⟨b,off + k * 2 + 1,none⟩) hbN).trans HC1.out
    have hkn:(k:Int) < (n:Int):=by omega
    have hdl:=dom99 gl
    have hdh:=dom99 gh
    generalize dom gl=e3 at hdl hB8
    generalize dom gh=e4 at hdh hB8
    have HB8':Hid (B8=(!e3 || !e4 || decide (gh < gl) || gapB (gl,gh))):=hB8
    simp only at d0 d1
    clear hB8
    go_wp2_with (first | (go_at_call_of 146 (Value.int .i64 gl);refine (hdl _).mono ?_;rintro e w' ⟨rfl,rfl⟩) | (go_at_call 146;refine (hdh _).mono ?_;rintro e w' ⟨rfl,rfl⟩))
    go_cut [61] from 9 to 96 (fun s wx=>s=.bool B8∧Below w.heap.size w wx)
    case first =>
     cases e3
     ·go_quiet (fail)
      go_wp2
      go_meet
      exact ⟨by rw [HB8'.out];rfl,below_drewN' hbw _⟩
     ·cases e4
      ·go_quiet (fail)
       go_wp2
       go_meet
       exact ⟨by rw [HB8'.out];rfl,below_drewN' hbw _⟩
      ·by_cases h1:gh < gl
       ·have x0:decide (gl > gh)=true:=decide_eq_true h1
        have x0':decide (gh < gl)=true:=decide_eq_true h1
        go_quiet (fail)
        go_wp2
        go_meet
        exact ⟨by rw [HB8'.out,x0'];rfl,below_drewN' hbw _⟩
       ·have x0:decide (gl > gh)=false:=decide_eq_false h1
        have x0':decide (gh < gl)=false:=decide_eq_false h1
        by_cases h2:gl≤55295
        ·have y1:decide (gl≤55295)=true:=decide_eq_true h2
         by_cases h3:57344≤gh
         ·have y2:decide (gh ≥ 57344)=true:=decide_eq_true h3
          have y2':decide (57344≤gh)=true:=decide_eq_true h3
          have hg:Hid (gapB (gl,gh)=true):=by show _=_;simp [gapB];omega
          go_quiet (fail)
          go_wp2
          go_meet
          exact ⟨by rw [HB8'.out,hg.out,x0'];rfl,below_drewN' hbw _⟩
         ·have y2:decide (gh ≥ 57344)=false:=decide_eq_false h3
          have y2':decide (57344≤gh)=false:=decide_eq_false h3
          have hg:Hid (gapB (gl,gh)=false):=by show _=_;simp [gapB];omega
          go_quiet (fail)
          go_wp2
          go_meet
          exact ⟨by rw [HB8'.out,hg.out,x0'];rfl,below_drewN' hbw _⟩
        ·have y1:decide (gl≤55295)=false:=decide_eq_false h2
         have hg:Hid (gapB (gl,gh)=false):=by show _=_;simp [gapB];omega
         go_quiet (fail)
         go_wp2
         go_meet
         exact ⟨by rw [HB8'.out,hg.out,x0'];rfl,below_drewN' hbw _⟩
    clear hdl hdh HB8' d0 d1 hbw hsz
    obtain ⟨w2,hw2⟩:∃ w2,w2=wc:=⟨_,rfl⟩
    rw [← hw2] at hcut ⊢
    clear hw2 wc
    obtain ⟨rfl,hb2⟩:=hcut
    cases B8
    ·have h8:(!dom gl || !dom gh || decide (gh < gl) || gapB (gl,gh))=false:=HB8.out.symm
     have hdg:dom gl=true∧dom gh=true:=by
      simp only [Bool.or_eq_false_iff,Bool.not_eq_false'] at h8
      exact ⟨h8.1.1.1,h8.1.1.2⟩
     have hgl:=dom_bd hdg.1
     have hgh:=dom_bd hdg.2
     have H8:Hid ((!dom gl || !dom gh || decide (gh < gl) || gapB (gl,gh))=false):=h8
     clear h8 hdg HB8
     obtain ⟨B10,hB10⟩:∃ B,B=(decide (0 < k) && decide (gl < ph + 2) && !(decide (gl=57344) && decide (ph=55295))):=⟨_,rfl⟩
     have HB10:Hid (B10=(decide (0 < k) && decide (gl < ph + 2) && !(decide (gl=57344) && decide (ph=55295)))):=hB10
     clear hB10
     have d0:=(hb2.cell (p:=⟨b,off + k * 2,none⟩) hbN).trans HC0.out
     have d1:=(hb2.cell (p:=⟨b,off + k * 2 + 1,none⟩) hbN).trans HC1.out
     go_wp2_with fail
     go_cut [96] from 9 to 96 (fun s wx=>s=.bool B10∧Below w.heap.size w wx)
     case first =>
      by_cases hk0:0 < k
      ·have x1:decide ((k:Int) > 0)=true:=decide_eq_true (by omega)
       have x1':decide (0 < (k:Int))=true:=decide_eq_true (by omega)
       have z1:decide (0 < k)=true:=decide_eq_true hk0
       have d2:=(hb2.cell (p:=⟨b,off + (k - 1) * 2 + 1,none⟩) hbN).trans (HC2.out hk0)
       obtain ⟨hp0,hp1⟩:=HPB.out hk0
       have hwr:IntKind.i64.wrap ((k:Int) - 1)=(k:Int) - 1:=IntWalk.i64_in _ ⟨by omega,by omega⟩
       have hwp:IntKind.i64.wrap (ph + 2)=ph + 2:=IntWalk.i64_in _ ⟨by omega,by omega⟩
       have hk1:((k:Int) - 1).toNat=k - 1:=by omega
       have hk6:(1:Int)≤(k:Int):=by omega
       have hk2:(0:Int)≤(k:Int) - 1:=by omega
       have hk3:(k:Int) - 1 < (n:Int):=by omega
       by_cases h5:gl < ph + 2
       ·have x2:decide (gl < ph + 2)=true:=decide_eq_true h5
        by_cases h6:gl=57344
        ·subst h6
         have x3':decide ((57344:Int)=57344)=true:=by simp
         have x5:(57344:Int) < ph + 2:=h5
         by_cases h7:ph=55295
         ·omega
         ·have x4:(ph == 55295)=false:=by simp [h7]
          have x4':decide (ph=55295)=false:=decide_eq_false h7
          go_quiet (fail)
          go_wp2
          go_meet
          exact ⟨by rw [HB10.out,z1,x2,x3',x4'];rfl,below_drewN' hb2 _⟩
        ·have x3:(gl == 57344)=false:=by simp [h6]
         have x3':decide (gl=57344)=false:=decide_eq_false h6
         go_quiet (fail)
         go_wp2
         go_meet
         exact ⟨by rw [HB10.out,z1,x2,x3'];rfl,below_drewN' hb2 _⟩
       ·have x2:decide (gl < ph + 2)=false:=decide_eq_false h5
        go_quiet (fail)
        go_wp2
        go_meet
        exact ⟨by rw [HB10.out,z1,x2];rfl,below_drewN' hb2 _⟩
      ·have x1:decide ((k:Int) > 0)=false:=decide_eq_false (by omega)
       have x1':decide (0 < (k:Int))=false:=decide_eq_false (by omega)
       have z1:decide (0 < k)=false:=decide_eq_false hk0
       go_quiet (fail)
       go_wp2
       go_meet
       exact ⟨by rw [HB10.out,z1];rfl,below_drewN' hb2 _⟩
     clear d0 d1
     obtain ⟨w3,hw3⟩:∃ w3,w3=wc:=⟨_,rfl⟩
     rw [← hw3] at hcut ⊢
     clear hw3 wc
     obtain ⟨rfl,hb3⟩:=hcut
     cases B10
     ·have HE:Hid (rightFrom 0 L=rightFrom (gh + 2) (L.drop (k + 1))):=by
       show _=_
       rw [HR.out,ok_of H8.out HL.out HB10.out.symm]
       rfl
      clear HR HB10 H8 HC0 HC1 HC2 HPB
      go_wp2
      go_roundw
      case rel=>exact ⟨k + 1,gh + 2,gh,by omega,by go_num,hb3,HE,by exact fun _=>⟨HG.out.symm,by omega,by omega⟩,by exact .inr ⟨by omega,rfl⟩⟩
      case measure=>simp [intOf];omega
     ·have HE:Hid (rightFrom 0 L=false):=by
       show _=_
       rw [HR.out,bad_10 HL.out HB10.out.symm]
       rfl
      clear HR HB10 H8 HC0 HC1 HC2 HPB HG HL
      go_wp2
      go_ret
      exact ⟨ret_bool HE.out.symm,hb3⟩
    ·have HE:Hid (rightFrom 0 L=false):=by
      show _=_
      rw [HR.out,bad_8 HB8.out.symm]
      rfl
     clear HR HB8 HC0 HC1 HC2 HPB HG HL
     go_wp2
     go_ret
     exact ⟨ret_bool HE.out.symm,hb2⟩
  ·have HA:Hid (rightFrom 0 L=true):=by
    show _=_
    rw [HK.out,List.drop_of_length_le (by rw [hn.out];omega)]
    rfl
   clear HK HP HL
   go_wp2
   go_ret
   exact ⟨ret_bool HA.out.symm,hbw⟩
set_option maxHeartbeats 1000000 in
theorem rright33 (L:List (Int × Int)) (ad:Option Addr) (n cap:Nat) (w:World) (hn:Hid (L.length=n)) (hS:n≤9223372036854775807) (hl:Hid (RowAt w.heap.size w (.slice ad n cap) L)) :
  Calls Tryz.prog 100 #[.slice ad n cap] w fun e w'=>e=.returned (.bool (rightB L))∧Below w.heap.size w w':=by
 by_cases h50:5000 < n
 ·have HBD:Hid (rightB L=false):=by show _=_;unfold rightB;rw [hn.out];simp;omega
  go_enter Tryz.func100,Tryz.ntmps100
  go_wp2
  go_ret
  exact ⟨by rw [HBD.out];rfl,Below.refl _ _⟩
 ·have hRB:rightB L=rightFrom 0 L:=by unfold rightB;rw [hn.out,decide_eq_true (show n≤5000 by omega)];rfl
  rw [hRB]
  exact rright_short L ad n cap w hn (by omega) hl
set_option maxRecDepth 100000 in
set_option maxHeartbeats 8000000 in
theorem node60E (N:Nv) (R:List (Int × Int)) (w:World) (ok:N.ok) (hr:N.r2=R.length) (hR:R2 w w.heap.size N.r1 R) (hk:N.k=1) :
  Calls Tryz.prog 101 #[N.v] w fun e w'=>e=.returned (.bool (nodeB N.k R N.a2 N.s2 N.a4 N.a5 N.a6 N.a7 N.a8))∧Below w.heap.size w w':=by
 have HB:=hid' (Joins.below_alloc1 w (.cells (Array.mk N.cs) 25))
 have HC:=bareE N
 have e1:nodeB N.k R N.a2 N.s2 N.a4 N.a5 N.a6 N.a7 N.a8=bareB N.r2 N.a2 N.s2 N.a4 N.a5 N.a6 N.a7 N.a8 false false false false false:=by simp [nodeB,hk,hr]
 rw [e1]
 generalize bareB N.r2 N.a2 N.s2 N.a4 N.a5 N.a6 N.a7 N.a8 false false false false false=q at HC ⊢
 obtain ⟨k,r1,r2,r3,a2,s1,s2,s3,a4,a5,a6,a7,a8⟩:=N
 simp only at hk
 subst hk
 clear ok hr hR e1
 go_enter Tryz.func101,Tryz.ntmps101
 go_wp2_with (first | (go_at_call 147;(with_reducible refine (HC _).mono ?_);rintro e w2 ⟨rfl,hb2⟩;have HB2:=hid' hb2;clear hb2 HC))
 go_ret
 exact ⟨rfl,HB.out.trans (Joins.below_le HB2.out (by simp))⟩
set_option maxRecDepth 100000 in
set_option maxHeartbeats 8000000 in
theorem node60C (N:Nv) (R:List (Int × Int)) (w:World) (ok:N.ok) (hr:N.r2=R.length) (hR:R2 w w.heap.size N.r1 R) (hk:N.k=2) :
  Calls Tryz.prog 101 #[N.v] w fun e w'=>e=.returned (.bool (nodeB N.k R N.a2 N.s2 N.a4 N.a5 N.a6 N.a7 N.a8))∧Below w.heap.size w w':=by
 have HB:=hid' (Joins.below_alloc1 w (.cells (Array.mk N.cs) 25))
 have HC:=bareC N
 have HRR:=rright33 R N.r1 N.r2 N.r3 (w.alloc (.cells (Array.mk N.cs) 25)) hr.symm (by have:=ok.r;have:maxLen=9223372036854775807:=rfl;omega) ((R2.row (hR.kept (fun b hb=>heap_alloc_old w _ hb)) hr).below (Below.refl _ _) (Nat.le_refl _) (by simp))
 have e1:nodeB N.k R N.a2 N.s2 N.a4 N.a5 N.a6 N.a7 N.a8=(rightB R && bareB N.r2 N.a2 N.s2 N.a4 N.a5 N.a6 N.a7 N.a8 true false false false false):=by simp [nodeB,hk,hr]
 rw [e1]
 generalize bareB N.r2 N.a2 N.s2 N.a4 N.a5 N.a6 N.a7 N.a8 true false false false false=q at HC ⊢
 generalize rightB R=q2 at HRR ⊢
 obtain ⟨k,r1,r2,r3,a2,s1,s2,s3,a4,a5,a6,a7,a8⟩:=N
 simp only at hk
 subst hk
 clear ok hr hR e1
 cases q2
 ·go_enter Tryz.func101,Tryz.ntmps101
  go_wp2_with (first | (go_at_call 100;(with_reducible refine HRR.mono ?_);rintro e w2 ⟨rfl,hb2⟩;obtain ⟨x0,x1,x2,x3,x4,x5,x6,x7,x8⟩:=nine' ((hb2.block w.heap.size (by simp)).trans (heap_alloc_new w _));have HB2:=hid' hb2;clear hb2 HRR) | (go_at_call 147;(with_reducible refine (HC _).mono ?_);rintro e w3 ⟨rfl,hb3⟩;have HB3:=hid' hb3;clear hb3 HC))
  go_ret
  exact ⟨rfl,HB.out.trans (Joins.below_le HB2.out (by simp))⟩
 ·go_enter Tryz.func101,Tryz.ntmps101
  go_wp2_with (first | (go_at_call 100;(with_reducible refine HRR.mono ?_);rintro e w2 ⟨rfl,hb2⟩;obtain ⟨x0,x1,x2,x3,x4,x5,x6,x7,x8⟩:=nine' ((hb2.block w.heap.size (by simp)).trans (heap_alloc_new w _));have HB2:=hid' hb2;clear hb2 HRR) | (go_at_call 147;(with_reducible refine (HC _).mono ?_);rintro e w3 ⟨rfl,hb3⟩;have HB3:=hid' hb3;clear hb3 HC))
  go_ret
  exact ⟨by simp,(HB.out.trans (Joins.below_le HB2.out (by simp))).trans (Joins.below_le HB3.out (by have:=HB2.out.size;simp at this;omega))⟩
set_option maxRecDepth 100000 in
set_option maxHeartbeats 8000000 in
theorem node60A (N:Nv) (R:List (Int × Int)) (w:World) (ok:N.ok) (hr:N.r2=R.length) (hR:R2 w w.heap.size N.r1 R) (hk:N.k=3) :
  Calls Tryz.prog 101 #[N.v] w fun e w'=>e=.returned (.bool (nodeB N.k R N.a2 N.s2 N.a4 N.a5 N.a6 N.a7 N.a8))∧Below w.heap.size w w':=by
 have HB:=hid' (Joins.below_alloc1 w (.cells (Array.mk N.cs) 25))
 have HC:=bareA N
 have HAA:=assertion74 N.a2
 have e1:nodeB N.k R N.a2 N.s2 N.a4 N.a5 N.a6 N.a7 N.a8=(assertB N.a2 && bareB N.r2 N.a2 N.s2 N.a4 N.a5 N.a6 N.a7 N.a8 false true false false false):=by simp [nodeB,hk,hr]
 rw [e1]
 generalize bareB N.r2 N.a2 N.s2 N.a4 N.a5 N.a6 N.a7 N.a8 false true false false false=q at HC ⊢
 generalize assertB N.a2=q2 at HAA ⊢
 obtain ⟨k,r1,r2,r3,a2,s1,s2,s3,a4,a5,a6,a7,a8⟩:=N
 simp only at hk
 subst hk
 clear ok hr hR e1
 cases q2
 ·go_enter Tryz.func101,Tryz.ntmps101
  go_wp2_with (first | (go_at_call 148;(with_reducible refine (HAA _).mono ?_);rintro e w2 ⟨rfl,hww⟩;subst hww) | (go_at_call 147;(with_reducible refine (HC _).mono ?_);rintro e w3 ⟨rfl,hb3⟩;have HB3:=hid' hb3;clear hb3 HC))
  go_ret
  exact ⟨rfl,HB.out⟩
 ·go_enter Tryz.func101,Tryz.ntmps101
  go_wp2_with (first | (go_at_call 148;(with_reducible refine (HAA _).mono ?_);rintro e w2 ⟨rfl,hww⟩;subst hww) | (go_at_call 147;(with_reducible refine (HC _).mono ?_);rintro e w3 ⟨rfl,hb3⟩;have HB3:=hid' hb3;clear hb3 HC))
  go_ret
  exact ⟨by simp,HB.out.trans (Joins.below_le HB3.out (by simp))⟩
set_option maxRecDepth 100000 in
set_option maxHeartbeats 8000000 in
theorem node60S4 (N:Nv) (R:List (Int × Int)) (w:World) (ok:N.ok) (hr:N.r2=R.length) (hR:R2 w w.heap.size N.r1 R) (hk:N.k=4) :
  Calls Tryz.prog 101 #[N.v] w fun e w'=>e=.returned (.bool (nodeB N.k R N.a2 N.s2 N.a4 N.a5 N.a6 N.a7 N.a8))∧Below w.heap.size w w':=by
 have HB:=hid' (Joins.below_alloc1 w (.cells (Array.mk N.cs) 25))
 have HC:=bareS N
 have e1:nodeB N.k R N.a2 N.s2 N.a4 N.a5 N.a6 N.a7 N.a8=(decide (2≤N.s2) && bareB N.r2 N.a2 N.s2 N.a4 N.a5 N.a6 N.a7 N.a8 false false true false false):=by simp [nodeB,hk,hr]
 rw [e1]
 generalize bareB N.r2 N.a2 N.s2 N.a4 N.a5 N.a6 N.a7 N.a8 false false true false false=q at HC ⊢
 have hm2:N.s2≤9223372036854775807:=by have:=ok.s;have:maxLen=9223372036854775807:=rfl;omega
 obtain ⟨k,r1,r2,r3,a2,s1,s2,s3,a4,a5,a6,a7,a8⟩:=N
 simp only at hk hm2
 subst hk
 clear ok hr hR e1
 by_cases h2:2≤s2
 ·have b1:decide ((s2:Int) ≥ 2)=true:=by simp;omega
  have b2:decide ((2:Int)≤(s2:Int))=true:=by simp;omega
  have e2:decide (2≤s2)=true:=by simp;omega
  rw [e2]
  go_enter Tryz.func101,Tryz.ntmps101
  go_wp2_with (first | (go_at_call 147;(with_reducible refine (HC _).mono ?_);rintro e w3 ⟨rfl,hb3⟩;have HB3:=hid' hb3;clear hb3 HC))
  go_ret
  exact ⟨by simp,HB.out.trans (Joins.below_le HB3.out (by simp))⟩
 ·have b1:decide ((s2:Int) ≥ 2)=false:=by simp;omega
  have b2:decide ((2:Int)≤(s2:Int))=false:=by simp;omega
  have e2:decide (2≤s2)=false:=by simp;omega
  rw [e2]
  go_enter Tryz.func101,Tryz.ntmps101
  go_wp2_with (first | (go_at_call 147;(with_reducible refine (HC _).mono ?_);rintro e w3 ⟨rfl,hb3⟩;have HB3:=hid' hb3;clear hb3 HC))
  go_ret
  exact ⟨by simp,HB.out⟩
set_option maxRecDepth 100000 in
set_option maxHeartbeats 8000000 in
theorem node60S5 (N:Nv) (R:List (Int × Int)) (w:World) (ok:N.ok) (hr:N.r2=R.length) (hR:R2 w w.heap.size N.r1 R) (hk:N.k=5) :
  Calls Tryz.prog 101 #[N.v] w fun e w'=>e=.returned (.bool (nodeB N.k R N.a2 N.s2 N.a4 N.a5 N.a6 N.a7 N.a8))∧Below w.heap.size w w':=by
 have HB:=hid' (Joins.below_alloc1 w (.cells (Array.mk N.cs) 25))
 have HC:=bareS N
 have e1:nodeB N.k R N.a2 N.s2 N.a4 N.a5 N.a6 N.a7 N.a8=(decide (2≤N.s2) && bareB N.r2 N.a2 N.s2 N.a4 N.a5 N.a6 N.a7 N.a8 false false true false false):=by simp [nodeB,hk,hr]
 rw [e1]
 generalize bareB N.r2 N.a2 N.s2 N.a4 N.a5 N.a6 N.a7 N.a8 false false true false false=q at HC ⊢
 have hm2:N.s2≤9223372036854775807:=by have:=ok.s;have:maxLen=9223372036854775807:=rfl;omega
 obtain ⟨k,r1,r2,r3,a2,s1,s2,s3,a4,a5,a6,a7,a8⟩:=N
 simp only at hk hm2
 subst hk
 clear ok hr hR e1
 by_cases h2:2≤s2
 ·have b1:decide ((s2:Int) ≥ 2)=true:=by simp;omega
  have b2:decide ((2:Int)≤(s2:Int))=true:=by simp;omega
  have e2:decide (2≤s2)=true:=by simp;omega
  rw [e2]
  go_enter Tryz.func101,Tryz.ntmps101
  go_wp2_with (first | (go_at_call 147;(with_reducible refine (HC _).mono ?_);rintro e w3 ⟨rfl,hb3⟩;have HB3:=hid' hb3;clear hb3 HC))
  go_ret
  exact ⟨by simp,HB.out.trans (Joins.below_le HB3.out (by simp))⟩
 ·have b1:decide ((s2:Int) ≥ 2)=false:=by simp;omega
  have b2:decide ((2:Int)≤(s2:Int))=false:=by simp;omega
  have e2:decide (2≤s2)=false:=by simp;omega
  rw [e2]
  go_enter Tryz.func101,Tryz.ntmps101
  go_wp2_with (first | (go_at_call 147;(with_reducible refine (HC _).mono ?_);rintro e w3 ⟨rfl,hb3⟩;have HB3:=hid' hb3;clear hb3 HC))
  go_ret
  exact ⟨by simp,HB.out⟩
set_option maxRecDepth 100000 in
set_option maxHeartbeats 8000000 in
theorem node60R (N:Nv) (R:List (Int × Int)) (w:World) (ok:N.ok) (hr:N.r2=R.length) (hR:R2 w w.heap.size N.r1 R) (hk:N.k=6) :
  Calls Tryz.prog 101 #[N.v] w fun e w'=>e=.returned (.bool (nodeB N.k R N.a2 N.s2 N.a4 N.a5 N.a6 N.a7 N.a8))∧Below w.heap.size w w':=by
 have HB:=hid' (Joins.below_alloc1 w (.cells (Array.mk N.cs) 25))
 have HC:=bareR N
 have e1:nodeB N.k R N.a2 N.s2 N.a4 N.a5 N.a6 N.a7 N.a8=(decide (N.s2=1) && decide (0≤N.a4) && decide (N.a4≤1000) && (decide (N.a5=-1) || decide (N.a4≤N.a5) && decide (N.a5≤1000)) && bareB N.r2 N.a2 N.s2 N.a4 N.a5 N.a6 N.a7 N.a8 false false true true false):=by simp [nodeB,hk,hr]
 rw [e1]
 generalize bareB N.r2 N.a2 N.s2 N.a4 N.a5 N.a6 N.a7 N.a8 false false true true false=q at HC ⊢
 have hm2:N.s2≤9223372036854775807:=by have:=ok.s;have:maxLen=9223372036854775807:=rfl;omega
 obtain ⟨k,r1,r2,r3,a2,s1,s2,s3,a4,a5,a6,a7,a8⟩:=N
 simp only at hk hm2
 subst hk
 clear ok hr hR e1
 by_cases h5:a5=-1
 ·subst h5
  go_enter Tryz.func101,Tryz.ntmps101
  go_wp2_with (first | (go_at_call 147;(with_reducible refine (HC _).mono ?_);rintro e w3 ⟨rfl,hb3⟩;have HB3:=hid' hb3;clear hb3 HC))
  all_goals go_ret
  all_goals (refine ⟨ret_bool ?_,by first | exact HB.out | exact HB.out.trans (Joins.below_le HB3.out (by simp))⟩)
  all_goals clear HB
  all_goals (try clear HB3)
  all_goals (try clear HC)
  all_goals (try clear HN)
  all_goals simp_all
  all_goals (intros;omega)
 ·have h5':(a5 == -1)=false:=by simpa using h5
  go_enter Tryz.func101,Tryz.ntmps101
  go_wp2_with (first | (go_at_call 147;(with_reducible refine (HC _).mono ?_);rintro e w3 ⟨rfl,hb3⟩;have HB3:=hid' hb3;clear hb3 HC))
  all_goals go_ret
  all_goals (refine ⟨ret_bool ?_,by first | exact HB.out | exact HB.out.trans (Joins.below_le HB3.out (by simp))⟩)
  all_goals clear HB
  all_goals (try clear HB3)
  all_goals (try clear HC)
  all_goals (try clear HN)
  all_goals simp_all
  all_goals (intros;omega)
set_option maxRecDepth 100000 in
set_option maxHeartbeats 8000000 in
theorem node60G (N:Nv) (R:List (Int × Int)) (w:World) (ok:N.ok) (hr:N.r2=R.length) (hR:R2 w w.heap.size N.r1 R) (hk:N.k=7) :
  Calls Tryz.prog 101 #[N.v] w fun e w'=>e=.returned (.bool (nodeB N.k R N.a2 N.s2 N.a4 N.a5 N.a6 N.a7 N.a8))∧Below w.heap.size w w':=by
 have HB:=hid' (Joins.below_alloc1 w (.cells (Array.mk N.cs) 25))
 have HC:=bareG N
 have HN:=fun w=>name75 N.a8 w (by have:=ok.a8;have:maxLen=9223372036854775807:=rfl;omega)
 have e1:nodeB N.k R N.a2 N.s2 N.a4 N.a5 N.a6 N.a7 N.a8=(decide (N.s2=1) && decide (1≤N.a7) && decide (N.a7≤500) && (N.a8.toList.isEmpty || nameB N.a8) && bareB N.r2 N.a2 N.s2 N.a4 N.a5 N.a6 N.a7 N.a8 false false true false true):=by simp [nodeB,hk,hr]
 rw [e1]
 generalize bareB N.r2 N.a2 N.s2 N.a4 N.a5 N.a6 N.a7 N.a8 false false true false true=q at HC ⊢
 generalize nameB N.a8=q2 at HN ⊢
 have hm2:N.s2≤9223372036854775807:=by have:=ok.s;have:maxLen=9223372036854775807:=rfl;omega
 obtain ⟨k,r1,r2,r3,a2,s1,s2,s3,a4,a5,a6,a7,a8⟩:=N
 simp only at hk hm2
 subst hk
 clear ok hr hR e1
 go_enter Tryz.func101,Tryz.ntmps101
 go_wp2_with (first | (go_at_call 149;(with_reducible refine (HN _).mono ?_);rintro e w2 ⟨rfl,hww⟩;subst hww) | (go_at_call 147;(with_reducible refine (HC _).mono ?_);rintro e w3 ⟨rfl,hb3⟩;have HB3:=hid' hb3;clear hb3 HC))
 all_goals go_ret
 all_goals (refine ⟨ret_bool ?_,by first | exact HB.out | exact HB.out.trans (Joins.below_le HB3.out (by simp))⟩)
 all_goals clear HB
 all_goals (try clear HB3)
 all_goals (try clear HC)
 all_goals (try clear HN)
 all_goals simp_all
 all_goals (intros;omega)
set_option maxRecDepth 100000 in
set_option maxHeartbeats 8000000 in
theorem node60O (N:Nv) (R:List (Int × Int)) (w:World) (ok:N.ok) (hr:N.r2=R.length) (hR:R2 w w.heap.size N.r1 R) (hk:N.k≠1∧N.k≠2∧N.k≠3∧N.k≠4∧N.k≠5∧N.k≠6∧N.k≠7) :
  Calls Tryz.prog 101 #[N.v] w fun e w'=>e=.returned (.bool (nodeB N.k R N.a2 N.s2 N.a4 N.a5 N.a6 N.a7 N.a8))∧Below w.heap.size w w':=by
 have HB:=hid' (Joins.below_alloc1 w (.cells (Array.mk N.cs) 25))
 rw [nodeB_ne hk]
 obtain ⟨k1,k2,k3,k4,k5,k6,k7⟩:=hk
 have j1:(N.k == 1)=false:=by simpa using k1
 have j2:(N.k == 2)=false:=by simpa using k2
 have j3:(N.k == 3)=false:=by simpa using k3
 have j4:(N.k == 4)=false:=by simpa using k4
 have j5:(N.k == 5)=false:=by simpa using k5
 have j6:(N.k == 6)=false:=by simpa using k6
 have j7:(N.k == 7)=false:=by simpa using k7
 obtain ⟨k,r1,r2,r3,a2,s1,s2,s3,a4,a5,a6,a7,a8⟩:=N
 simp only at j1 j2 j3 j4 j5 j6 j7
 clear ok hr hR k1 k2 k3 k4 k5 k6 k7
 go_enter Tryz.func101,Tryz.ntmps101
 go_wp2
 go_ret
 exact ⟨rfl,HB.out⟩
theorem node60 (N:Nv) (R:List (Int × Int)) (w:World) (ok:N.ok) (hr:N.r2=R.length) (hR:R2 w w.heap.size N.r1 R) :
  Calls Tryz.prog 101 #[N.v] w fun e w'=>e=.returned (.bool (nodeB N.k R N.a2 N.s2 N.a4 N.a5 N.a6 N.a7 N.a8))∧Below w.heap.size w w':=by
 by_cases k1:N.k=1
 ·exact node60E N R w ok hr hR k1
 by_cases k2:N.k=2
 ·exact node60C N R w ok hr hR k2
 by_cases k3:N.k=3
 ·exact node60A N R w ok hr hR k3
 by_cases k4:N.k=4
 ·exact node60S4 N R w ok hr hR k4
 by_cases k5:N.k=5
 ·exact node60S5 N R w ok hr hR k5
 by_cases k6:N.k=6
 ·exact node60R N R w ok hr hR k6
 by_cases k7:N.k=7
 ·exact node60G N R w ok hr hR k7
 ·exact node60O N R w ok hr hR ⟨k1,k2,k3,k4,k5,k6,k7⟩
mutual
def Tn.ct:Tn→Int→Int→Int
 | .mk k R a s mn mx lz ix nm,l,d=>if nodeB k R a s.length mn mx lz ix nm=true∧d≤10000 then ctL s (l - 1) (d + 1) else -1
def ctL:List Tn→Int→Int→Int
 | [],l,_=>l
 | t :: ts,l,d=>if l < 0 then l else ctL ts (t.ct l d) d
end
theorem ctL_neg (ts:List Tn) (l d:Int) (h:l < 0):ctL ts l d=l:=by cases ts <;> simp [ctL,h]
mutual
theorem Tn.ct_spec:∀ (t:Tn) (l d:Int),0≤l→d≤10001→(t.ct l d≤l - 1∨t.ct l d=-1)∧(-1≤t.ct l d)∧(0≤t.ct l d↔t.fine=true∧(t.depth:Int) + d≤10001∧(t.nodes:Int)≤l)∧(0≤t.ct l d→t.ct l d=l - t.nodes)
 | .mk k R a s mn mx lz ix nm,l,d,h,hd=>by
  simp only [Tn.ct,Tn.nodes,Tn.fine,Tn.depth]
  by_cases hn:nodeB k R a s.length mn mx lz ix nm=true∧d≤10000
  ·have:=ctL_spec s (l - 1) (d + 1) (by omega) (by omega)
   rw [if_pos hn]
   simp only [hn.1,Bool.true_and]
   refine ⟨by omega,by omega,?_,by omega⟩
   rw [this.2.2.1]
   constructor
   ·rintro ⟨h1,h2,h3⟩;exact ⟨h1,by omega,by omega⟩
   ·rintro ⟨h1,h2,h3⟩;exact ⟨h1,by omega,by omega⟩
  ·rw [if_neg hn]
   refine ⟨by omega,by omega,?_,by omega⟩
   constructor
   ·intro h;omega
   ·rintro ⟨h1,h2,h3⟩
    rw [Bool.and_eq_true] at h1
    exact absurd ⟨h1.1,by omega⟩ hn
theorem ctL_spec:∀ (ts:List Tn) (l d:Int),-1≤l→d≤10001→(ctL ts l d≤l∨ctL ts l d=-1)∧(-1≤ctL ts l d)∧(0≤ctL ts l d↔fineL ts=true∧(depthL ts:Int) + d≤10001∧(nodesL ts:Int)≤l)∧(0≤ctL ts l d→ctL ts l d=l - nodesL ts)
 | [],l,d,h,hd=>by simp [ctL,nodesL,fineL,depthL];omega
 | t :: ts,l,d,h,hd=>by
  simp only [ctL,nodesL,fineL,depthL]
  by_cases hl:l < 0
  ·rw [if_pos hl]
   refine ⟨by omega,by omega,?_,by omega⟩
   constructor
   ·intro h;omega
   ·rintro ⟨h1,h2,h3⟩;have:=t.pos;omega
  ·have h1:=Tn.ct_spec t l d (by omega) hd
   have h2:=ctL_spec ts (t.ct l d) d (by omega) hd
   rw [if_neg hl]
   refine ⟨by omega,by omega,?_,?_⟩
   ·constructor
    ·intro h
     obtain ⟨a1,a2,a3⟩:=h2.2.2.1.1 h
     have hc:0≤t.ct l d:=by omega
     obtain ⟨b1,b2,b3⟩:=h1.2.2.1.1 hc
     have:=h1.2.2.2 hc
     exact ⟨by rw [b1,a1];rfl,by omega,by omega⟩
    ·rintro ⟨a1,a2,a3⟩
     rw [Bool.and_eq_true] at a1
     have hc:=h1.2.2.1.2 ⟨a1.1,by omega,by omega⟩
     have:=h1.2.2.2 hc
     exact h2.2.2.1.2 ⟨a1.2,by omega,by omega⟩
   ·intro h
    have hc:0≤t.ct l d:=by
     by_cases hc:0≤t.ct l d
     ·exact hc
     ·rw [ctL_neg _ _ _ (by omega)] at h;omega
    have:=h1.2.2.2 hc
    have:=h2.2.2.2 h
    omega
end
theorem ctL_drop (ts:List Tn) (i:Nat) (hi:i < ts.length) (l d:Int) (h:0≤l):ctL (ts.drop i) l d=ctL (ts.drop (i + 1)) (ts[i].ct l d) d:=by
 rw [List.drop_eq_getElem_cons hi]
 simp only [ctL]
 rw [if_neg (by omega)]
theorem sound_ct (t:Tn):decide (0≤t.ct 200000 1)=t.sound:=by
 have:=(t.ct_spec 200000 1 (by omega) (by omega)).2.2.1
 rw [Bool.eq_iff_iff,decide_eq_true_eq,this]
 simp only [Tn.sound,Bool.and_eq_true,decide_eq_true_eq]
 constructor
 ·rintro ⟨h1,h2,h3⟩;exact ⟨⟨h1,by omega⟩,by omega⟩
 ·rintro ⟨⟨h1,h2⟩,h3⟩;exact ⟨h1,by omega,by omega⟩
set_option maxRecDepth 100000 in
set_option maxHeartbeats 8000000 in
theorem count47 {w0:World} {B:Nat} {N:Nv} {t:Tn} (h:TI w0 B N t):∀ (l d:Int) (w:World),0≤l∧l≤4194304→0≤d∧d≤10001→B≤w.heap.size→(∀ b,b < B→w.heap[b]?=w0.heap[b]?) →
  Calls Tryz.prog 64 #[N.v,.int .i64 l,.int .i64 d] w fun e w'=>e=.returned (.int .i64 (t.ct l d))∧Below w.heap.size w w':=by
 induction h with
 | @mk N R ts ND ok hr hR hRk hs hS hk ih =>
 intro l d w hl hd hB hw
 have HN:=node60 N R (w.alloc (.cells #[.int .i64 N.k,.slice N.r1 N.r2 N.r3,.int .i64 N.a2,.slice N.s1 N.s2 N.s3,.int .i64 N.a4,.int .i64 N.a5,.bool N.a6,.int .i64 N.a7,.string N.a8] 25)) ok hr ((hR.kept (fun b hb=>(heap_alloc_old w _ (by omega)).trans (hw b hb))).le (by simp;omega))
 have hmax:=ok.s
 obtain ⟨k,r1,r2,r3,a2,s1,s2,s3,a4,a5,a6,a7,a8⟩:=N
 dsimp only at hs hS hmax HN
 simp only [Tn.ct]
 rw [show nodeB k R a2 s2 a4 a5 a6 a7 a8=nodeB k R a2 ts.length a4 a5 a6 a7 a8 by rw [hs]] at HN
 have ad0:IntKind.i64.wrap (l - 1)=l - 1:=by simp [IntKind.wrap,IntKind.bits,IntKind.signed];omega
 have adD:IntKind.i64.wrap (d + 1)=d + 1:=by simp [IntKind.wrap,IntKind.bits,IntKind.signed];omega
 generalize nodeB k R a2 ts.length a4 a5 a6 a7 a8=nb at HN ⊢
 have HW:=hid' hw
 have HS:=hid' hS
 have IH:=hid' ih
 have hm2:s2≤9223372036854775807:=by have:maxLen=9223372036854775807:=rfl;omega
 have HL:=hid' hs
 clear ok hr hR hRk hk hS hw ih hmax hs
 have HAL:=hid' (Joins.below_alloc1 w (.cells #[.int .i64 k,.slice r1 r2 r3,.int .i64 a2,.slice s1 s2 s3,.int .i64 a4,.int .i64 a5,.bool a6,.int .i64 a7,.string a8] 25))
 have HNB:=hid' (heap_alloc_new w (.cells #[.int .i64 k,.slice r1 r2 r3,.int .i64 a2,.slice s1 s2 s3,.int .i64 a4,.int .i64 a5,.bool a6,.int .i64 a7,.string a8] 25))
 cases nb
 ·simp only [Bool.false_eq_true,false_and,if_false]
  go_enter Tryz.func64,Tryz.ntmps64
  go_wp2_with (first | (go_at_call 101;(with_reducible refine HN.mono ?_);rintro e w1 ⟨rfl,hb1⟩;have HB1:=hid' hb1;clear hb1 HN))
  go_ret
  exact ⟨rfl,HAL.out.trans (Joins.below_le HB1.out (by simp))⟩
 by_cases hdd:d≤10000
 ·have c1:decide (d > 10000)=false:=by simp;omega
  have c1':decide (10000 < d)=false:=by simp;omega
  rw [if_pos ⟨rfl,hdd⟩]
  obtain ⟨r,hrr⟩:∃ r,r=ctL ts (l - 1) (d + 1):=⟨_,rfl⟩
  rw [← hrr]
  have HR:=hid' hrr
  clear hrr
  go_enter Tryz.func64,Tryz.ntmps64
  go_wp2_with (first | (go_at_call 101;(with_reducible refine HN.mono ?_);rintro e w1 ⟨rfl,hb1⟩;obtain ⟨z0,z1,z2,z3,z4,z5,z6,z7,z8⟩:=nine' ((hb1.block w.heap.size (by simp)).trans HNB.out);have HB1:=hid' hb1;clear hb1 HN))
  have HF1:=hid' (HAL.out.trans (Joins.below_le HB1.out (by simp)))
  have HX1:=hid' ((HB1.out.block w.heap.size (by simp)).trans HNB.out)
  clear HAL HNB HB1 z0 z1 z2 z3 z4 z5 z6 z7 z8
  go_loopw [1,8] (fun u y wq=>∃ i:Nat,y=.int .i64 (i:Int)∧i≤s2∧(∃ q,u=.int .i64 q∧(-1≤q∧q≤4194304)∧Hid (ctL (ts.drop i) q (d + 1)=r))∧Hid (Below w.heap.size w wq)∧Hid (wq.heap[w.heap.size]?=some (.cells #[.int .i64 k,.slice r1 r2 r3,.int .i64 a2,.slice s1 s2 s3,.int .i64 a4,.int .i64 a5,.bool a6,.int .i64 a7,.string a8] 25 (0,0)))) (fun _ y _=>s2 - (intOf y).toNat)
  case atStart=>exact ⟨0,rfl,by omega,⟨l - 1,rfl,by omega,HR.out.symm⟩,HF1.out,HX1.out⟩
  case round =>
   obtain ⟨i,rfl,hi,⟨q,rfl,hq,HQ⟩,BK,BX⟩:=hrel
   obtain ⟨o0,o1,o2,o3,o4,o5,o6,o7,o8⟩:=nine' BX.out
   by_cases hil:i < s2
   ·have b1:decide ((i:Int) < (s2:Int))=true:=by simp;omega
    have b2:(i:Int) < (s2:Int):=by omega
    by_cases hq0:0≤q
    ·have b3:decide (q ≥ 0)=true:=by simp;omega
     have b3':decide (0≤q)=true:=by simp;omega
     have hlt:i < ts.length:=by rw [← HL.out];exact hil
     obtain ⟨b,o,hs1,hb,hc⟩:=HS.out (by omega)
     subst hs1
     have hwk:∀ b,b < B→wr.heap[b]?=w0.heap[b]?:=fun b hb=>(BK.out.block b (by omega)).trans (HW.out b hb)
     obtain ⟨n0,n1,n2,n3,n4,n5,n6,n7,n8⟩:=(hc i hlt).kept (hwk b hb)
     have HC:=IH.out i hlt q (d + 1) wr ⟨hq0,hq.2⟩ (by omega) (by have:=BK.out.size;omega) hwk
     have hsp:=Tn.ct_spec ts[i] q (d + 1) hq0 (by omega)
     rw [ctL_drop ts i hlt q (d + 1) hq0] at HQ
     obtain ⟨g,hg⟩:∃ g,g=ts[i].ct q (d + 1):=⟨_,rfl⟩
     rw [← hg] at HC HQ hsp
     have hg2:-1≤g∧g≤4194304:=by omega
     obtain ⟨M,hM⟩:∃ M,M=ND i:=⟨_,rfl⟩
     rw [← hM] at HC n0 n1 n2 n3 n4 n5 n6 n7 n8
     have ad1:IntKind.i64.wrap ((i:Int) + 1)=(i:Int) + 1:=by simp [IntKind.wrap,IntKind.bits,IntKind.signed];omega
     clear hM hg hwk hc hsp hlt
     go_wp2_with (first | (go_at_call 64;(with_reducible refine HC.mono ?_);rintro e w2 ⟨rfl,hb2⟩;have HB2:=hid' hb2;clear hb2 HC))
     refine ⟨⟨i + 1,by push_cast;rfl,by omega,⟨_,rfl,hg2,HQ.out⟩,?_,?_⟩,?_⟩
     ·exact BK.out.trans (Joins.below_le HB2.out BK.out.size)
     ·exact (HB2.out.block _ (Array.getElem?_eq_some_iff.1 BX.out).1).trans BX.out
     ·simp [intOf]
      omega
    ·have b3:decide (q ≥ 0)=false:=by simp;omega
     have b3':decide (0≤q)=false:=by simp;omega
     have e:=HQ.out
     rw [ctL_neg _ _ _ (by omega)] at e
     go_wp2
     go_ret
     exact ⟨by first | rfl | exact ret_int e,BK.out⟩
   ·have b1:decide ((i:Int) < (s2:Int))=false:=by simp;omega
    obtain rfl:i=s2:=by omega
    have e:=HQ.out
    rw [HL.out,List.drop_length] at e
    simp only [ctL] at e
    go_wp2
    go_ret
    exact ⟨by first | rfl | exact ret_int e,BK.out⟩
 ·have c1:decide (d > 10000)=true:=by simp;omega
  have c1':decide (10000 < d)=true:=by simp;omega
  rw [if_neg (fun h=>hdd h.2)]
  go_enter Tryz.func64,Tryz.ntmps64
  go_wp2_with (first | (go_at_call 101;(with_reducible refine HN.mono ?_);rintro e w1 ⟨rfl,hb1⟩;have HB1:=hid' hb1;clear hb1 HN))
  go_ret
  exact ⟨rfl,HAL.out.trans (Joins.below_le HB1.out (by simp))⟩
theorem sound25 {w:World} {N:Nv} {t:Tn} (h:TI w w.heap.size N t):Calls Tryz.prog 32 #[N.v] w fun e w'=>e=.returned (.int .i64 (if t.sound then 0 else 50))∧Below w.heap.size w w':=by
 have HC:=count47 h 200000 1 (w.alloc (.cells (Array.mk N.cs) 25)) (by omega) (by omega) (by simp) (fun b hb=>heap_alloc_old w _ hb)
 have HS:=sound_ct t
 obtain ⟨k,r1,r2,r3,a2,s1,s2,s3,a4,a5,a6,a7,a8⟩:=N
 obtain ⟨g,hg⟩:∃ g,g=t.ct 200000 1:=⟨_,rfl⟩
 rw [← hg] at HC HS
 rw [← HS]
 clear hg HS
 by_cases h0:0≤g
 ·have e1:decide (g < 0)=false:=by simp;omega
  rw [decide_eq_true h0]
  go_enter Tryz.func32,Tryz.ntmps32
  go_wp2_with (first | (go_at_call 64;(with_reducible refine HC.mono ?_);rintro e w2 ⟨rfl,hb2⟩;have HB2:=hid' hb2;clear hb2 HC))
  go_ret
  exact ⟨rfl,(Joins.below_alloc1 w _).trans (Joins.below_le HB2.out (by simp))⟩
 ·have e1:decide (g < 0)=true:=by simp;omega
  rw [decide_eq_false h0]
  go_enter Tryz.func32,Tryz.ntmps32
  go_wp2_with (first | (go_at_call 64;(with_reducible refine HC.mono ?_);rintro e w2 ⟨rfl,hb2⟩;have HB2:=hid' hb2;clear hb2 HC))
  go_ret
  exact ⟨rfl,(Joins.below_alloc1 w _).trans (Joins.below_le HB2.out (by simp))⟩
end Go.Proofs.YtacaanhnlfpbhaaGreat
