/- HELPERS: texts of ours put together. -/
import Derived.Test.YtjdbnoccdefnaaaGreatK35
namespace Go.Proofs.YtjdbnoccdefnaaaGreat
open Go.RowKit
set_option linter.unusedVariables false
set_option linter.unusedSimpArgs false
variable {l:List In} {k:Int}
theorem inst_at {w:World} {N n a:Nat} {ad:Option Addr} (h:PI w N ad n l) (ha:a < n):∃ g of r1 r2 r3,ad = some ⟨g,of,none⟩ ∧ g < N ∧ w.cell? ⟨g,of + a * 5,none⟩ = some (.int .i64 (at0 l a).op) ∧ w.cell? ⟨g,of + a * 5 + 1,none⟩ = some (.int .i64 (at0 l a).x) ∧
    w.cell? ⟨g,of + a * 5 + 2,none⟩ = some (.int .i64 (at0 l a).y) ∧ w.cell? ⟨g,of + a * 5 + 3,none⟩ = some (.int .i64 (at0 l a).a) ∧ w.cell? ⟨g,of + a * 5 + 4,none⟩ = some (.slice r1 r2 r3) ∧ RowAt N w (.slice r1 r2 r3) (at0 l a).R ∧ r2 = (at0 l a).R.length ∧ r2 ≤ 100000000000000:=by
  obtain ⟨g,of,ND,e,hg,hcs⟩:=h.mem (by omega)
  have hl:a < l.length:=by have:=h.len;omega
  obtain ⟨⟨m0,m1,m2,m3,m4⟩,hIM⟩:=hcs a hl
  rw [at0_lt hl]
  rw [hIM.op] at m0
  rw [hIM.x] at m1
  rw [hIM.y] at m2
  rw [hIM.a] at m3
  exact ⟨g,of,_,_,_,e,hg,m0,m1,m2,m3,m4,hIM.row,hIM.len,by have:=hIM.sm;omega⟩
def Prs (l:List In) (o:List Nat) (i:Nat):Prop:=∀ a b (ha:a < o.length) (hb:b < o.length),a < b → b < i → (pd l).rd o[a] = true → (pd l).rd o[b] = true → (pd l).ap o[a] o[b]
theorem Prs.all {o:List Nat}:Prs l o o.length ↔ (o.filter (pd l).rd).Pairwise (pd l).ap:=by
  rw [List.pairwise_filter,List.pairwise_iff_getElem]
  exact ⟨fun h a b ha hb hab h1 h2 => h a b ha hb hab hb h1 h2,fun h a b ha hb hab _ h1 h2 => h a b ha hb hab h1 h2⟩
theorem Prs.mono {o:List Nat} {i:Nat} (h:Prs l o o.length) (hi:i ≤ o.length):Prs l o i:=fun a b ha hb hab _ => h a b ha hb hab hb
def cm (l:List In) (o:List Nat) (i:Nat):Nat:=((o.take i).filter (pd l).mt).length
theorem cm_succ {o:List Nat} {i:Nat} (h:i < o.length):cm l o (i + 1) = cm l o i + if (pd l).mt o[i] = true then 1 else 0:=by
  unfold cm
  rw [List.take_succ_eq_append_getElem h,List.filter_append,List.length_append]
  congr 1
  by_cases e:(pd l).mt o[i] = true
  · simp [e]
  · simp [e]
theorem cm_le {o:List Nat} {i:Nat}:cm l o i ≤ i:=by
  unfold cm
  exact Nat.le_trans (List.length_filter_le _ _) (by simp;omega)
theorem en32:∀ args w,(callFunc 32 args).run Tryz.prog w = .ok (.enter 32 args) w:=enter_of Tryz.func32 (by kernel_rfl) rfl
set_option maxRecDepth 100000 in
set_option maxHeartbeats 8000000 in
theorem plain21 {w:World} {ad oa:Option Addr} {n c on oc:Nat} {s k:Int} {o:List Nat} (hP:PI w w.heap.size ad n l) (hn:n ≤ 20000) (hon:on = o.length) (hol:∀ x ∈ o,x < n) (ho2:on ≤ 20000)
    (hro:0 < on → ∃ b f,oa = some ⟨b,f,none⟩ ∧ b < w.heap.size ∧ ∀ j (hj:j < o.length),w.cell? ⟨b,f + j,none⟩ = some (.int .i64 (o[j]:Int))) :
    Calls Tryz.prog 21 #[pv ad n c s k,.slice oa on oc] w fun e w' => ∃ r,e = .returned (.bool r) ∧ Below w.heap.size w w' ∧ (r = true ↔ (pd l).PL o):=by
  obtain ⟨p,hp⟩:∃ p,p = w.heap.size:=⟨_,rfl⟩
  obtain ⟨W0,hW0⟩:∃ W0,W0 = w.alloc (.cells #[.slice ad n c,.int .i64 s,.int .i64 k] 24):=⟨_,rfl⟩
  have hbx:W0.heap[p]? = some (.cells #[.slice ad n c,.int .i64 s,.int .i64 k] 24 (0,0)):=by rw [hW0,hp];exact heap_alloc_new w _
  have hz0:W0.heap.size = p + 1:=by rw [hW0,hp];simp
  have hB0:Below p w W0:=by rw [hW0,hp];exact Joins.below_alloc1 w _
  have hP0:PI W0 W0.heap.size ad n l:=hP.kept (by rw [← hp];exact hB0) (by omega)
  have c0:W0.cell? ⟨p,0,none⟩ = some (.slice ad n c):=Joins.cell_of_block hbx 0
  have HRO:Hid (0 < on → ∃ b f,oa = some ⟨b,f,none⟩ ∧ b < W0.heap.size ∧ ∀ j (hj:j < o.length),W0.cell? ⟨b,f + j,none⟩ = some (.int .i64 (o[j]:Int))):=fun h => by
    obtain ⟨b,f,e,hb,h2⟩:=hro h
    exact ⟨b,f,e,by omega,fun j hj => (hB0.cell (p:=⟨b,f + j,none⟩) (by rw [hp];exact hb)).trans (h2 j hj)⟩
  have HB0:=hid hB0
  have HP0:=hid hP0
  have HPE:=hid hp
  have HON:=hid hon
  have HOL:=hid hol
  have hpl:p < W0.heap.size:=by omega
  clear hbx hB0 hP0 hP hon hol hro
  go_enter Tryz.func21,Tryz.ntmps21
  go_upto_region 3 with fail
  rw [← hW0,← hp]
  clear hW0 hp
  go_loopw [5,6] (fun x y wq => ∃ i:Nat,y = .int .i64 (i:Int) ∧ x = .int .i64 (cm l o i:Int) ∧ i ≤ on ∧ Hid (Below W0.heap.size W0 wq) ∧ Hid (Prs l o i)) (fun _ y _ => on - (intOf y).toNat)
  case atStart => exact ⟨0,rfl,by simp [cm],by omega,Below.refl _ _,fun a b ha hb hab h => (by omega)⟩
  case round =>
    obtain ⟨i,rfl,rfl,hi,HW,HQ⟩:=hrel
    by_cases hil:i < on
    · have b1:decide ((i:Int) < (on:Int)) = true:=by simp;omega
      have b2:(i:Int) < (on:Int):=by omega
      have ad1:IntKind.i64.wrap ((i:Int) + 1) = (i:Int) + 1:=by simp [IntKind.wrap,IntKind.bits,IntKind.signed];omega
      have hlt:i < o.length:=by have:=HON.out;omega
      obtain ⟨ob,of2,rfl,hob,hoc⟩:=HRO.out (by omega)
      have hxn:=HOL.out _ (List.getElem_mem hlt)
      obtain ⟨x,hx⟩:∃ x,o[i] = x:=⟨_,rfl⟩
      have q0:=(HW.out.cell (p:=⟨ob,of2 + i,none⟩) hob).trans (hoc i hlt)
      rw [hx] at q0 hxn
      have hPw:PI wr W0.heap.size ad n l:=HP0.out.kept HW.out (Nat.le_refl _)
      obtain ⟨g,of,r1,r2,r3,rfl,hg,m0,m1,m2,m3,m4,hrow,hr2,hr5⟩:=inst_at hPw hxn
      have c0w:=(HW.out.cell (p:=⟨p,0,none⟩) hpl).trans c0
      have b3:(x:Int) < (n:Int):=by omega
      obtain ⟨op,hop⟩:∃ op,op = (at0 l x).op:=⟨_,rfl⟩
      obtain ⟨xx,hxx⟩:∃ xx,xx = (at0 l x).x:=⟨_,rfl⟩
      obtain ⟨yy,hyy⟩:∃ yy,yy = (at0 l x).y:=⟨_,rfl⟩
      obtain ⟨aa,haa⟩:∃ aa,aa = (at0 l x).a:=⟨_,rfl⟩
      rw [← hop] at m0
      rw [← hxx] at m1
      rw [← hyy] at m2
      rw [← haa] at m3
      have HX:=hid hx
      have HOP:=hid hop
      have HR2:=hid hr2
      clear hxx hyy haa hPw hoc hx hop hr2
      go_upto_region 5 with fail
      refine wp_region_lexT [0,1,2,3,4,5,6,7] 2 9 (fun V => V.cell? ⟨p,0,none⟩ = some (.slice (some ⟨g,of,none⟩) n c) ∧ V.cell? ⟨ob,of2 + i,none⟩ = some (.int .i64 (x:Int)) ∧ V.cell? ⟨g,of + x * 5,none⟩ = some (.int .i64 op) ∧ V.cell? ⟨g,of + x * 5 + 1,none⟩ = some (.int .i64 xx) ∧ V.cell? ⟨g,of + x * 5 + 2,none⟩ = some (.int .i64 yy) ∧ V.cell? ⟨g,of + x * 5 + 3,none⟩ = some (.int .i64 aa) ∧ V.cell? ⟨g,of + x * 5 + 4,none⟩ = some (.slice r1 r2 r3)) (by kernel_rfl) (by kernel_rfl) rfl (by kernel_rfl) (by exact ⟨c0w,q0,m0,m1,m2,m3,m4⟩) ?_
      simp only [opsAt,opsNo,List.getElem?_toArray,List.getElem?_cons_zero,List.getElem?_cons_succ]
      iterate 8
        refine lex_cons ?_ rfl (fun V hV => ?_) (fun _ _ _ h => h) ?_
        rotate_left
        · obtain ⟨v0,v1,v2,v3,v4,v5,v6⟩:=hV
          go_simp <;> with_reducible rfl
        simp only [Act.put,List.setIfInBounds_toArray,List.set_cons_zero,List.set_cons_succ]
      refine lex_nil ?_
      refine wpAnyX_one (i:=8) (by decide +kernel) rfl (fun K1 hK1 => ?_)
      go_simp
      have BA:∀ ob,Below W0.heap.size W0 (wr.alloc ob).drew:=fun ob => by
        have h1:=HW.out.alloc HW.out.size ob
        exact ⟨h1.os,h1.tape,h1.output,h1.size,h1.block⟩
      have SA:∀ ob b f v,b < W0.heap.size → W0.cell? ⟨b,f,none⟩ = some v → (wr.alloc ob).drew.cell? ⟨b,f,none⟩ = some v:=fun ob b f v hb h => ((BA ob).cell (p:=⟨b,f,none⟩) hb).trans h
      have SB:∀ z b f v,b < W0.heap.size → wr.cell? ⟨b,f,none⟩ = some v → (wr.alloc z).drew.cell? ⟨b,f,none⟩ = some v:=fun z b f v hb h => by
        rw [← h]
        exact cell_eq (heap_alloc_old wr z (by have:=HW.out.size;omega)) _
      refine hK1.out _ _ (fun _ => ?_) ?_
      · exact ⟨SB _ _ _ _ hpl c0w,SB _ _ _ _ hob q0,SB _ _ _ _ hg m0,SB _ _ _ _ hg m1,SB _ _ _ _ hg m2,SB _ _ _ _ hg m3,SB _ _ _ _ hg m4⟩
      refine wpAnyX_one (i:=9) (by decide +kernel) rfl (fun K2 hK2 => ?_)
      go_simp
      refine hK2.out _ _ (fun h => absurd rfl h) ?_
      refine ⟨by kernel_rfl,?_⟩
      clear hK1 K1 hK2 K2
      obtain ⟨y,hy⟩:∃ y,y = wr.heap.size:=⟨_,rfl⟩
      obtain ⟨V1,hV1⟩:∃ V1,V1 = (wr.alloc (.cells #[.int .i64 op,.int .i64 xx,.int .i64 yy,.int .i64 aa,.slice r1 r2 r3] 43)).drew:=⟨_,rfl⟩
      have hb1:V1.heap[y]? = some (.cells #[.int .i64 op,.int .i64 xx,.int .i64 yy,.int .i64 aa,.slice r1 r2 r3] 43 (0,0)):=by rw [hV1,hy];exact heap_alloc_new wr _
      have y0:V1.cell? ⟨y,0,none⟩ = some (.int .i64 op):=Joins.cell_of_block hb1 0
      have y4:V1.cell? ⟨y,4,none⟩ = some (.slice r1 r2 r3):=Joins.cell_of_block hb1 4
      have hyl:y < V1.heap.size:=(Array.getElem?_eq_some_iff.1 hb1).1
      have hB1:Below W0.heap.size W0 V1:=by rw [hV1];exact BA _
      have hr1:RowAt W0.heap.size V1 (.slice r1 r2 r3) (at0 l x).R:=by
        have h1:Below wr.heap.size wr V1:=by
          have h2:=(Below.refl wr.heap.size wr).alloc (Nat.le_refl _) (.cells #[.int .i64 op,.int .i64 xx,.int .i64 yy,.int .i64 aa,.slice r1 r2 r3] 43)
          rw [hV1]
          exact ⟨h2.os,h2.tape,h2.output,h2.size,h2.block⟩
        exact hrow.below h1 HW.out.size (Nat.le_refl _)
      rw [← hV1,← hy]
      have HB1:=hid hB1
      have HR1:=hid hr1
      clear hV1 hy hb1 hB1 hr1 BA SA SB hrow m0 m1 m2 m3 m4 c0w q0
      have hcm:=cm_succ (l:=l) hlt
      have hcl:=cm_le (l:=l) (o:=o) (i:=i)
      obtain ⟨cc,hcc⟩:∃ cc,cm l o i = cc:=⟨_,rfl⟩
      obtain ⟨c2,hc2⟩:∃ c2,cm l o (i + 1) = c2:=⟨_,rfl⟩
      rw [hcc,hc2,HX.out] at hcm
      rw [hcc] at hcl ⊢
      have hmt:(pd l).mt x = decide (op = 5):=by rw [HOP.out];rfl
      rw [hmt] at hcm
      have HCM:=hid hcm
      have HC2:=hid hc2
      clear hcm hcc hmt hc2
      go_upto_if 26 with (fail)
      go_cut [5] from 24 to 28 (fun v wx => v = .int .i64 (c2:Int) ∧ wx = V1)
      case first =>
        by_cases e5:op = 5
        · have b5:decide (op = 5) = true:=decide_eq_true e5
          have ad3:IntKind.i64.wrap ((cc:Int) + 1) = (cc:Int) + 1:=by simp [IntKind.wrap,IntKind.bits,IntKind.signed];omega
          go_wp2
          go_meet
          have h1:=HCM.out
          rw [b5] at h1
          simp at h1
          exact ⟨by rw [h1];push_cast;rfl,rfl⟩
        · have b5:decide (op = 5) = false:=decide_eq_false e5
          go_wp2
          go_meet
          have h1:=HCM.out
          rw [b5] at h1
          simp at h1
          exact ⟨by rw [h1],rfl⟩
      case rest =>
        obtain ⟨rfl,hw⟩:=hcut
        subst hw
        have HBV:=HB1
        have hW0:=HB1.out.size
        go_upto_region 9 with fail
        go_loopw [8] (fun z wq => ∃ t:Nat,z = .int .i64 (t:Int) ∧ t ≤ i ∧ Hid (Below wc.heap.size wc wq) ∧ Hid (∀ a (ha:a < o.length),a < t → (pd l).rd o[a] = true → apartR (at0 l o[a]).R (at0 l x).R)) (fun z _ => i - (intOf z).toNat)
        case atStart => exact ⟨0,rfl,by omega,Below.refl _ _,fun a ha h => (by omega)⟩
        case round =>
          obtain ⟨t,rfl,ht,HV,HS⟩:=hrel
          have y0w:=(HV.out.cell (p:=⟨y,0,none⟩) hyl).trans y0
          have y4w:=(HV.out.cell (p:=⟨y,4,none⟩) hyl).trans y4
          have hBW:Below W0.heap.size W0 wr:=HB1.out.trans (HV.out.mono hW0)
          have HBW:=hid hBW
          have hWr:=hBW.size
          clear hBW
          by_cases htl:t < i
          · have b6:decide ((t:Int) < (i:Int)) = true:=by simp;omega
            by_cases e1:op = 1
            · have b7:decide (op = 1) = true:=decide_eq_true e1
              have b7b:(op == 1) = true:=by simp [e1]
              have E1:=hid e1
              clear e1
              have b8:(t:Int) < (on:Int):=by omega
              have ad4:IntKind.i64.wrap ((t:Int) + 1) = (t:Int) + 1:=by simp [IntKind.wrap,IntKind.bits,IntKind.signed];omega
              have htl2:t < o.length:=by omega
              obtain ⟨ob',of2',eo,hob',hoc⟩:=HRO.out (by omega)
              simp only [Option.some.injEq,Addr.mk.injEq,and_true] at eo
              obtain ⟨rfl,rfl⟩:=eo
              have hun:=HOL.out _ (List.getElem_mem htl2)
              obtain ⟨u,hu⟩:∃ u,o[t] = u:=⟨_,rfl⟩
              have q0:=(HBW.out.cell (p:=⟨ob,of2 + t,none⟩) hob).trans (hoc t htl2)
              rw [hu] at q0 hun
              have hPw:PI wr W0.heap.size (some ⟨g,of,none⟩) n l:=HP0.out.kept HBW.out (Nat.le_refl _)
              obtain ⟨g',of',s1,s2,s3,eg,hg',m0,m1,m2,m3,m4,hrow,hs2,hs5⟩:=inst_at hPw hun
              simp only [Option.some.injEq,Addr.mk.injEq,and_true] at eg
              obtain ⟨rfl,rfl⟩:=eg
              have c0w:=(HBW.out.cell (p:=⟨p,0,none⟩) hpl).trans c0
              have b9:(u:Int) < (n:Int):=by omega
              obtain ⟨ou,hou⟩:∃ ou,ou = (at0 l u).op:=⟨_,rfl⟩
              rw [← hou] at m0
              have HU:=hid hu
              have HOU:=hid hou
              have HS2:=hid hs2
              have HROW:=hid hrow
              clear hu hou hs2 hoc hPw m1 m2 m3 hrow
              by_cases e2:ou = 1
              · have b10:decide (ou = 1) = true:=decide_eq_true e2
                have b11:(ou == 1) = true:=by simp [e2]
                have E2:=hid e2
                clear e2
                go_upto_region 11 with fail
                go_simp
                go_big_quiet (fail)
                go_upto_region 12 with fail
                have D32:=fun W (hW:Below wr.heap.size wr W) => apart32 (w:=W) (ca:=s3) (cb:=r3) (RowAt.below HROW.out hW hWr (Nat.le_trans hWr hW.size)) (RowAt.below HR1.out (HV.out.trans (hW.mono HV.out.size)) hW0 (Nat.le_trans hWr hW.size)) HS2.out HR2.out ⟨hs5,hr5⟩
                refine wp_region_lexT [0,1,2,3,4,5,6,7,8,9,10] 2 12 (fun V => V.cell? ⟨p,0,none⟩ = some (.slice (some ⟨g,of,none⟩) n c) ∧ V.cell? ⟨ob,of2 + t,none⟩ = some (.int .i64 (u:Int)) ∧ V.cell? ⟨g,of + u * 5 + 4,none⟩ = some (.slice s1 s2 s3) ∧ V.cell? ⟨y,4,none⟩ = some (.slice r1 r2 r3)) (by kernel_rfl) (by kernel_rfl) rfl (by kernel_rfl) (by exact ⟨c0w,q0,m4,y4w⟩) ?_
                simp only [opsAt,opsNo,List.getElem?_toArray,List.getElem?_cons_zero,List.getElem?_cons_succ]
                iterate 11
                  refine lex_cons ?_ rfl (fun V hV => ?_) (fun _ _ _ h => h) ?_
                  rotate_left
                  · obtain ⟨v0,v1,v2,v3⟩:=hV
                    go_simp <;> with_reducible rfl
                  simp only [Act.put,List.setIfInBounds_toArray,List.set_cons_zero,List.set_cons_succ]
                refine lex_nil ?_
                refine wpAnyX_one (i:=11) (by decide +kernel) rfl (fun K1 hK1 => ?_)
                refine step_callG2 rfl 32 (.tmp 57) (.tmp 59) 41 41 rfl en32 ?_
                refine (D32 _ ?_).mono ?_
                · exact ⟨rfl,rfl,rfl,Nat.le_refl _,fun _ _ => rfl⟩
                rintro e w4 ⟨rr,rfl,z1,z2⟩
                have hz:Below wr.heap.size wr w4:=⟨z1.os,z1.tape,z1.output,z1.size,z1.block⟩
                have HZ:=hid hz
                have HZ2:=hid z2
                clear z1 z2 hz
                refine .inl ⟨_,rfl,?_⟩
                refine hK1.out _ _ (fun _ => ⟨(HZ.out.cell (p:=⟨p,0,none⟩) (by show p < _;omega)).trans c0w,(HZ.out.cell (p:=⟨ob,of2 + t,none⟩) (by show ob < _;omega)).trans q0,(HZ.out.cell (p:=⟨g,of + u * 5 + 4,none⟩) (by show g < _;omega)).trans m4,(HZ.out.cell (p:=⟨y,4,none⟩) (by have:=HV.out.size;show y < _;omega)).trans y4w⟩) ?_
                refine wpAnyX_one (i:=12) (by decide +kernel) rfl (fun K2 hK2 => ?_)
                go_simp
                refine hK2.out _ _ (fun h => absurd rfl h) ?_
                refine ⟨by kernel_rfl,?_⟩
                clear hK1 K1 hK2 K2 D32
                cases rr
                · go_wp2
                  go_ret
                  refine ⟨false,rfl,by rw [← HPE.out];exact HB0.out.trans ((HBW.out.trans (HZ.out.mono hWr)).mono (by omega)),fun h => (by cases h),fun h => ?_⟩
                  have h1:=Prs.all.2 h.2 t i htl2 hlt htl hlt (by rw [HU.out];simp [pd];rw [← HOU.out];exact E2.out) (by rw [HX.out];simp [pd];rw [← HOP.out];exact E1.out)
                  rw [HU.out,HX.out] at h1
                  exact HZ2.out.2 h1
                · go_wp2
                  go_roundw
                  case rel =>
                    refine ⟨t + 1,by push_cast;rfl,by omega,HV.out.trans (HZ.out.mono HV.out.size),fun a ha h hr => ?_⟩
                    by_cases e:a = t
                    · subst e
                      rw [HU.out]
                      exact HZ2.out.1 (by trivial)
                    · exact HS.out a ha (by omega) hr
                  case measure => simp [intOf];omega
              · have b10:decide (ou = 1) = false:=decide_eq_false e2
                have b11:(ou == 1) = false:=by simp [e2]
                go_upto_region 11 with fail
                go_simp
                go_big_quiet (fail)
                go_wp2
                go_roundw
                case rel =>
                  refine ⟨t + 1,by push_cast;rfl,by omega,⟨HV.out.os,HV.out.tape,HV.out.output,HV.out.size,HV.out.block⟩,fun a ha h hr => ?_⟩
                  by_cases e:a = t
                  · subst e
                    rw [HU.out] at hr
                    simp [pd] at hr
                    exact absurd (HOU.out.trans hr) e2
                  · exact HS.out a ha (by omega) hr
                case measure => simp [intOf];omega
            · have b7:decide (op = 1) = false:=decide_eq_false e1
              have b7b:(op == 1) = false:=by simp [e1]
              go_wp2
              go_roundw
              case rel =>
                refine ⟨i + 1,by push_cast;rfl,by rw [HC2.out],by omega,HBW.out,fun a b ha hb hab h h1 h2 => ?_⟩
                by_cases e:b = i
                · subst e
                  rw [HX.out] at h2
                  simp [pd] at h2
                  exact absurd (HOP.out.trans h2) e1
                · exact HQ.out a b ha hb hab (by omega) h1 h2
              case measure => simp [intOf];omega
          · have b6:decide ((t:Int) < (i:Int)) = false:=by simp;omega
            go_wp2
            go_roundw
            case rel =>
              refine ⟨i + 1,by push_cast;rfl,by rw [HC2.out],by omega,HBW.out,fun a b ha hb hab h h1 h2 => ?_⟩
              by_cases e:b = i
              · subst e
                have h3:=HS.out a ha (by omega) h1
                rw [HX.out]
                exact h3
              · exact HQ.out a b ha hb hab (by omega) h1 h2
            case measure => simp [intOf];omega
    · have b1:decide ((i:Int) < (on:Int)) = false:=by simp;omega
      have hio:i = o.length:=by have:=HON.out;omega
      have hcm:cm l o i = (o.filter (pd l).mt).length:=by unfold cm;rw [hio,List.take_length]
      have hpl2:(pd l).PL o ↔ cm l o i ≤ 1:=by
        rw [hcm]
        exact ⟨fun h => h.1,fun h => ⟨h,Prs.all.1 (by rw [← hio];exact HQ.out)⟩⟩
      obtain ⟨cc,hcc⟩:∃ cc,cm l o i = cc:=⟨_,rfl⟩
      rw [hcc] at hpl2 ⊢
      have HPL:=hid hpl2
      clear hcm hpl2 hcc hio
      go_wp2
      go_ret
      refine ⟨_,rfl,by rw [← HPE.out];exact HB0.out.trans (HW.out.mono (by omega)),?_⟩
      rw [decide_eq_true_iff,HPL.out]
      omega
end Go.Proofs.YtjdbnoccdefnaaaGreat
