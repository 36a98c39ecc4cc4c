/- HELPERS: texts of ours put together. -/
import Derived.Test.YtjdbnoccdefnaaaGreatK02
import Derived.Deep.Cut
import Derived.Deep.CutRange
namespace Go.Proofs.YtjdbnoccdefnaaaGreat
open Go.RowKit
set_option linter.unusedVariables false
set_option linter.unusedSimpArgs false
theorem below_drewN' {B:Nat} {a w:World} (h:Below B a w) (n:Nat):Below B a (w.drewN n):=h.trans ⟨rfl,rfl,rfl,Nat.le_refl _,fun _ _ => rfl⟩
theorem dom_bd {r:Int} (h:dom r = true):0 ≤ r ∧ r < 1114112:=by simp [dom] at h;omega
theorem dom99 (r:Int) (w:World):Calls Tryz.prog 55 #[.int .i64 r] w fun e w' => e = .returned (.bool (dom r)) ∧ w' = w:=by
  go_enter Tryz.func55,Tryz.ntmps55
  go_wp2
  all_goals go_ret
  all_goals exact ⟨ret_bool (by rw [Bool.eq_iff_iff];simp [dom];omega),rfl⟩
theorem ok_of {ls gl gh ph:Int} {k:Nat} (h8:(!dom gl || !dom gh || decide (gh < gl) || gapB (gl,gh)) = false) (hls:k = 0 ∧ ls = 0 ∨ 0 < k ∧ ls = ph + 2)
    (h10:(decide (0 < k) && decide (gl < ph + 2) && !(decide (gl = 57344) && decide (ph = 55295))) = false):okG ls (gl,gh) = true:=by
  simp only [Bool.or_eq_false_iff,Bool.not_eq_false',decide_eq_false_iff_not] at h8
  obtain ⟨⟨⟨h1,h2⟩,h3⟩,h4⟩:=h8
  have hl:ls ≤ gl:=by
    rcases hls with ⟨_,rfl⟩ | ⟨hk,rfl⟩
    · exact (dom_bd h1).1
    · rw [decide_eq_true hk] at h10
      by_cases h:gl < ph + 2
      · rw [decide_eq_true h] at h10
        simp at h10
        omega
      · omega
  simp only [okG,h1,h2,h4,decide_eq_true hl,decide_eq_true (show gl ≤ gh by omega)]
  rfl
theorem bad_8 {ls gl gh:Int} (h8:(!dom gl || !dom gh || decide (gh < gl) || gapB (gl,gh)) = true):okG ls (gl,gh) = false:=by
  cases h:okG ls (gl,gh)
  · rfl
  · simp only [okG,Bool.and_eq_true,decide_eq_true_eq,Bool.not_eq_true'] at h
    obtain ⟨⟨⟨⟨h0,h1⟩,h2⟩,h3⟩,h4⟩:=h
    rw [h2,h3,h4,decide_eq_false (show ¬ gh < gl by omega)] at h8
    exact absurd h8 (by decide)
theorem bad_10 {ls gl gh ph:Int} {k:Nat} (hls:k = 0 ∧ ls = 0 ∨ 0 < k ∧ ls = ph + 2)
    (h10:(decide (0 < k) && decide (gl < ph + 2) && !(decide (gl = 57344) && decide (ph = 55295))) = true):okG ls (gl,gh) = false:=by
  simp only [Bool.and_eq_true,decide_eq_true_eq] at h10
  have:¬ ls ≤ gl:=by omega
  simp only [okG,decide_eq_false this,Bool.false_and]
set_option maxHeartbeats 8000000 in
set_option maxRecDepth 1000000 in
theorem rright_short (L:List (Int × Int)) (ad:Option Addr) (n cap:Nat) (w:World) (hn:Hid (L.length = n)) (hS:n ≤ 5000) (hl:Hid (RowAt w.heap.size w (.slice ad n cap) L)) :
    Calls Tryz.prog 41 #[.slice ad n cap] w fun e w' => e = .returned (.bool (rightFrom 0 L)) ∧ Below w.heap.size w w':=by
  go_enter Tryz.func41,Tryz.ntmps41
  go_wp2
  go_loopw [3] (fun i wr => ∃ (k:Nat) (ls ph:Int),k ≤ n ∧ i = .int .i64 k ∧ Below w.heap.size w wr ∧ Hid (rightFrom 0 L = rightFrom ls (L.drop k)) ∧ Hid (0 < k → ph = (L.getD (k - 1) (0,0)).2 ∧ 0 ≤ ph ∧ ph ≤ 1114111) ∧ Hid (k = 0 ∧ ls = 0 ∨ 0 < k ∧ ls = ph + 2)) (fun i _ => n - (intOf i).toNat)
  case atStart => exact ⟨0,0,0,by omega,rfl,Below.refl _ _,by exact rfl,fun h => by omega,by exact .inl ⟨rfl,rfl⟩⟩
  case round =>
    obtain ⟨k,ls,ph,hk,rfl,hbw,HK,HP,HL⟩:=hrel
    have hsz:=hbw.size
    by_cases hlt:k < n
    · obtain ⟨ad',cap',he,h | ⟨b,off,rfl,hbN,hc0,hc1⟩⟩:=hl.out
      · exact absurd h (by rw [hn.out];omega)
      · simp only [Value.slice.injEq] at he
        obtain ⟨rfl,-,rfl⟩:=he
        have hn':=hn.out
        have HC0:Hid (w.cell? ⟨b,off + k * 2,none⟩ = some (.int .i64 (L.getD k (0,0)).1)):=hc0 k (by omega)
        have HC1:Hid (w.cell? ⟨b,off + k * 2 + 1,none⟩ = some (.int .i64 (L.getD k (0,0)).2)):=hc1 k (by omega)
        have HC2:Hid (0 < k → w.cell? ⟨b,off + (k - 1) * 2 + 1,none⟩ = some (.int .i64 ph)):=fun h => by rw [(HP.out h).1];exact hc1 (k - 1) (by omega)
        have HPB:Hid (0 < k → 0 ≤ ph ∧ ph ≤ 1114111):=fun h => (HP.out h).2
        have HR:Hid (rightFrom 0 L = (okG ls (L.getD k (0,0)) && rightFrom ((L.getD k (0,0)).2 + 2) (L.drop (k + 1)))):=by
          show _ = _
          rw [HK.out,drop_consR L k (by omega)]
          rfl
        have HG:Hid ((L.getD (k + 1 - 1) (0,0)).2 = (L.getD k (0,0)).2):=by rw [Nat.add_sub_cancel];exact rfl
        have hgk:∃ g,L.getD k (0,0) = g:=⟨_,rfl⟩
        obtain ⟨⟨gl,gh⟩,hgk⟩:=hgk
        rw [hgk] at HC0 HC1 HR HG
        clear hgk hc0 hc1 hn' HK HP
        have HB8:Hid (∃ B,B = (!dom gl || !dom gh || decide (gh < gl) || gapB (gl,gh))):=⟨_,rfl⟩
        obtain ⟨B8,hB8⟩:=HB8.out
        have HB8:Hid (B8 = (!dom gl || !dom gh || decide (gh < gl) || gapB (gl,gh))):=hB8
        have d0:=(hbw.cell (p:=⟨b,off + k * 2,none⟩) hbN).trans HC0.out
        have d1:=(hbw.cell (p:=⟨b,off + k * 2 + 1,none⟩) hbN).trans HC1.out
        have hkn:(k:Int) < (n:Int):=by omega
        have hdl:=dom99 gl
        have hdh:=dom99 gh
        generalize dom gl = e3 at hdl hB8
        generalize dom gh = e4 at hdh hB8
        have HB8':Hid (B8 = (!e3 || !e4 || decide (gh < gl) || gapB (gl,gh))):=hB8
        simp only at d0 d1
        clear hB8
        go_wp2_with (first | (go_at_call_of 55 (Value.int .i64 gl);refine (hdl _).mono ?_;rintro e w' ⟨rfl,rfl⟩) | (go_at_call 55;refine (hdh _).mono ?_;rintro e w' ⟨rfl,rfl⟩))
        go_cut [61] from 9 to 96 (fun s wx => s = .bool B8 ∧ Below w.heap.size w wx)
        case first =>
          cases e3
          · go_quiet (fail)
            go_wp2
            go_meet
            exact ⟨by rw [HB8'.out];rfl,below_drewN' hbw _⟩
          · cases e4
            · go_quiet (fail)
              go_wp2
              go_meet
              exact ⟨by rw [HB8'.out];rfl,below_drewN' hbw _⟩
            · by_cases h1:gh < gl
              · have x0:decide (gl > gh) = true:=decide_eq_true h1
                have x0':decide (gh < gl) = true:=decide_eq_true h1
                go_quiet (fail)
                go_wp2
                go_meet
                exact ⟨by rw [HB8'.out,x0'];rfl,below_drewN' hbw _⟩
              · have x0:decide (gl > gh) = false:=decide_eq_false h1
                have x0':decide (gh < gl) = false:=decide_eq_false h1
                by_cases h2:gl ≤ 55295
                · have y1:decide (gl ≤ 55295) = true:=decide_eq_true h2
                  by_cases h3:57344 ≤ gh
                  · have y2:decide (gh ≥ 57344) = true:=decide_eq_true h3
                    have y2':decide (57344 ≤ gh) = true:=decide_eq_true h3
                    have hg:Hid (gapB (gl,gh) = true):=by show _ = _;simp [gapB];omega
                    go_quiet (fail)
                    go_wp2
                    go_meet
                    exact ⟨by rw [HB8'.out,hg.out,x0'];rfl,below_drewN' hbw _⟩
                  · have y2:decide (gh ≥ 57344) = false:=decide_eq_false h3
                    have y2':decide (57344 ≤ gh) = false:=decide_eq_false h3
                    have hg:Hid (gapB (gl,gh) = false):=by show _ = _;simp [gapB];omega
                    go_quiet (fail)
                    go_wp2
                    go_meet
                    exact ⟨by rw [HB8'.out,hg.out,x0'];rfl,below_drewN' hbw _⟩
                · have y1:decide (gl ≤ 55295) = false:=decide_eq_false h2
                  have hg:Hid (gapB (gl,gh) = false):=by show _ = _;simp [gapB];omega
                  go_quiet (fail)
                  go_wp2
                  go_meet
                  exact ⟨by rw [HB8'.out,hg.out,x0'];rfl,below_drewN' hbw _⟩
        clear hdl hdh HB8' d0 d1 hbw hsz
        obtain ⟨w2,hw2⟩:∃ w2,w2 = wc:=⟨_,rfl⟩
        rw [← hw2] at hcut ⊢
        clear hw2 wc
        obtain ⟨rfl,hb2⟩:=hcut
        cases B8
        · have h8:(!dom gl || !dom gh || decide (gh < gl) || gapB (gl,gh)) = false:=HB8.out.symm
          have hdg:dom gl = true ∧ dom gh = true:=by
            simp only [Bool.or_eq_false_iff,Bool.not_eq_false'] at h8
            exact ⟨h8.1.1.1,h8.1.1.2⟩
          have hgl:=dom_bd hdg.1
          have hgh:=dom_bd hdg.2
          have H8:Hid ((!dom gl || !dom gh || decide (gh < gl) || gapB (gl,gh)) = false):=h8
          clear h8 hdg HB8
          obtain ⟨B10,hB10⟩:∃ B,B = (decide (0 < k) && decide (gl < ph + 2) && !(decide (gl = 57344) && decide (ph = 55295))):=⟨_,rfl⟩
          have HB10:Hid (B10 = (decide (0 < k) && decide (gl < ph + 2) && !(decide (gl = 57344) && decide (ph = 55295)))):=hB10
          clear hB10
          have d0:=(hb2.cell (p:=⟨b,off + k * 2,none⟩) hbN).trans HC0.out
          have d1:=(hb2.cell (p:=⟨b,off + k * 2 + 1,none⟩) hbN).trans HC1.out
          go_wp2_with fail
          go_cut [96] from 9 to 96 (fun s wx => s = .bool B10 ∧ Below w.heap.size w wx)
          case first =>
            by_cases hk0:0 < k
            · have x1:decide ((k:Int) > 0) = true:=decide_eq_true (by omega)
              have x1':decide (0 < (k:Int)) = true:=decide_eq_true (by omega)
              have z1:decide (0 < k) = true:=decide_eq_true hk0
              have d2:=(hb2.cell (p:=⟨b,off + (k - 1) * 2 + 1,none⟩) hbN).trans (HC2.out hk0)
              obtain ⟨hp0,hp1⟩:=HPB.out hk0
              have hwr:IntKind.i64.wrap ((k:Int) - 1) = (k:Int) - 1:=IntWalk.i64_in _ ⟨by omega,by omega⟩
              have hwp:IntKind.i64.wrap (ph + 2) = ph + 2:=IntWalk.i64_in _ ⟨by omega,by omega⟩
              have hk1:((k:Int) - 1).toNat = k - 1:=by omega
              have hk6:(1:Int) ≤ (k:Int):=by omega
              have hk2:(0:Int) ≤ (k:Int) - 1:=by omega
              have hk3:(k:Int) - 1 < (n:Int):=by omega
              by_cases h5:gl < ph + 2
              · have x2:decide (gl < ph + 2) = true:=decide_eq_true h5
                by_cases h6:gl = 57344
                · subst h6
                  have x3':decide ((57344:Int) = 57344) = true:=by simp
                  have x5:(57344:Int) < ph + 2:=h5
                  by_cases h7:ph = 55295
                  · omega
                  · have x4:(ph == 55295) = false:=by simp [h7]
                    have x4':decide (ph = 55295) = false:=decide_eq_false h7
                    go_quiet (fail)
                    go_wp2
                    go_meet
                    exact ⟨by rw [HB10.out,z1,x2,x3',x4'];rfl,below_drewN' hb2 _⟩
                · have x3:(gl == 57344) = false:=by simp [h6]
                  have x3':decide (gl = 57344) = false:=decide_eq_false h6
                  go_quiet (fail)
                  go_wp2
                  go_meet
                  exact ⟨by rw [HB10.out,z1,x2,x3'];rfl,below_drewN' hb2 _⟩
              · have x2:decide (gl < ph + 2) = false:=decide_eq_false h5
                go_quiet (fail)
                go_wp2
                go_meet
                exact ⟨by rw [HB10.out,z1,x2];rfl,below_drewN' hb2 _⟩
            · have x1:decide ((k:Int) > 0) = false:=decide_eq_false (by omega)
              have x1':decide (0 < (k:Int)) = false:=decide_eq_false (by omega)
              have z1:decide (0 < k) = false:=decide_eq_false hk0
              go_quiet (fail)
              go_wp2
              go_meet
              exact ⟨by rw [HB10.out,z1];rfl,below_drewN' hb2 _⟩
          clear d0 d1
          obtain ⟨w3,hw3⟩:∃ w3,w3 = wc:=⟨_,rfl⟩
          rw [← hw3] at hcut ⊢
          clear hw3 wc
          obtain ⟨rfl,hb3⟩:=hcut
          cases B10
          · have HE:Hid (rightFrom 0 L = rightFrom (gh + 2) (L.drop (k + 1))):=by
              show _ = _
              rw [HR.out,ok_of H8.out HL.out HB10.out.symm]
              rfl
            clear HR HB10 H8 HC0 HC1 HC2 HPB
            go_wp2
            go_roundw
            case rel => exact ⟨k + 1,gh + 2,gh,by omega,by go_num,hb3,HE,by exact fun _ => ⟨HG.out.symm,by omega,by omega⟩,by exact .inr ⟨by omega,rfl⟩⟩
            case measure => simp [intOf];omega
          · have HE:Hid (rightFrom 0 L = false):=by
              show _ = _
              rw [HR.out,bad_10 HL.out HB10.out.symm]
              rfl
            clear HR HB10 H8 HC0 HC1 HC2 HPB HG HL
            go_wp2
            go_ret
            exact ⟨ret_bool HE.out.symm,hb3⟩
        · have HE:Hid (rightFrom 0 L = false):=by
            show _ = _
            rw [HR.out,bad_8 HB8.out.symm]
            rfl
          clear HR HB8 HC0 HC1 HC2 HPB HG HL
          go_wp2
          go_ret
          exact ⟨ret_bool HE.out.symm,hb2⟩
    · have HA:Hid (rightFrom 0 L = true):=by
        show _ = _
        rw [HK.out,List.drop_of_length_le (by rw [hn.out];omega)]
        rfl
      clear HK HP HL
      go_wp2
      go_ret
      exact ⟨ret_bool HA.out.symm,hbw⟩
set_option maxHeartbeats 1000000 in
theorem rright33 (L:List (Int × Int)) (ad:Option Addr) (n cap:Nat) (w:World) (hn:Hid (L.length = n)) (hS:n ≤ 9223372036854775807) (hl:Hid (RowAt w.heap.size w (.slice ad n cap) L)) :
    Calls Tryz.prog 41 #[.slice ad n cap] w fun e w' => e = .returned (.bool (rightB L)) ∧ Below w.heap.size w w':=by
  by_cases h50:5000 < n
  · have HBD:Hid (rightB L = false):=by show _ = _;unfold rightB;rw [hn.out];simp;omega
    go_enter Tryz.func41,Tryz.ntmps41
    go_wp2
    go_ret
    exact ⟨by rw [HBD.out];rfl,Below.refl _ _⟩
  · have hRB:rightB L = rightFrom 0 L:=by unfold rightB;rw [hn.out,decide_eq_true (show n ≤ 5000 by omega)];rfl
    rw [hRB]
    exact rright_short L ad n cap w hn (by omega) hl
theorem R2.row {w:World} {B:Nat} {N:Nv} {R:List (Int × Int)} (h:R2 w B N.r1 R) (hr:N.r2 = R.length):RowAt B w (.slice N.r1 N.r2 N.r3) R:=by
  refine ⟨N.r1,N.r3,by rw [hr],?_⟩
  rcases R with _ | ⟨x,R⟩
  · exact .inl rfl
  · obtain ⟨b,o,h1,h2,h3⟩:=h (by simp)
    refine .inr ⟨b,o,h1,h2,fun k hk => ?_,fun k hk => ?_⟩
    · rw [(h3 k hk).1];simp only [List.getD_eq_getElem?_getD,List.getElem?_eq_getElem hk,Option.getD_some]
    · rw [(h3 k hk).2];simp only [List.getD_eq_getElem?_getD,List.getElem?_eq_getElem hk,Option.getD_some]
end Go.Proofs.YtjdbnoccdefnaaaGreat
