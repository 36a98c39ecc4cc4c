/- HELPERS: texts of ours put together. -/
import Derived.Test.YtjdbnoccdefnaaaGreatK49
namespace Go.Proofs.YtjdbnoccdefnaaaGreat
open Go.RowKit Go.Lk
set_option linter.unusedVariables false
set_option linter.unusedSimpArgs false
theorem results_cell_tmp' {P:Program} {fn:Func} {p u:Tmp} {ty:TypeId} (h:fn.results = #[.cell p ty,.tmp u]) (tmps:Array Value) (w:World) (g:Nat) (t:TypeId) (cs:Array Value) (fr:Nat × Nat) (d:TypeDesc)
    (hp:tmps.getD p undef = .pointer (some ⟨g,0,none⟩)) (hg:w.heap[g]? = some (.cells cs t fr))
    (hu:P.underlying ty = some d) (hd:(match d with | .struct _ | .array _ _ => true | _ => false) = true) (hi:(P.info? ty).map (·.size) = some cs.size) :
    (results fn tmps).run P w = .ok (.tuple #[.agg cs,tmps.getD u undef]) w:=by
  have hp':tmps[p]?.getD undef = .pointer (some ⟨g,0,none⟩):=by simpa using hp
  simp [results,h,hp',asAddr,run_loadVar_row w g t ty cs fr d hg hu hd hi]
def RunP (w:World) (K:Nat) (code:Int) (S2:MS) (e:Ending) (w':World):Prop:=
  ∃ vf,e = .returned (.tuple #[.agg #[.bool S2.ok,vf,.int .i64 S2.wh,.int .i64 (S2.st:Int)],.int .i64 code]) ∧ Below w.heap.size w w' ∧ (S2.ok = true → ∃ fb,vf = .slice (some ⟨fb,0,none⟩) K K ∧ w'.ownsRow w.heap.size 3 1 (.slice (some ⟨fb,0,none⟩) K K) K (I64 S2.fc)) ∧ (S2.ok = false → vf = .slice none 0 0)
abbrev fdV (b:Bool) (vf:Value) (x y:Int):Array Value:=#[.bool b,vf,.int .i64 x,.int .i64 y]
set_option maxRecDepth 100000 in
set_option maxHeartbeats 16000000 in
theorem run15_found {w:World} {ad tad:Option Addr} {n c tn tc a K:Nat} {s k:Int} {l:List In} {tx:List Int} {S2:MS} (hP:PI w w.heap.size ad n l) (hT:TxAt w.heap.size w tad tn tx) (ht:tn ≤ 4194304) (hI:IsP l s k) (ha:a ≤ tn) (hK:k = (K:Int))
    (hr:Rn l tx a (some s.toNat) (List.replicate K (-1)) (S00 K) S2) (hst:S2.st ≤ 1000000000000) :
    Calls Tryz.prog 15 #[pv ad n c s k,.slice tad tn tc,.int .i64 (a:Int)] w (RunP w K 0 S2):=by
  subst hK
  obtain ⟨hm,how⟩:=hI
  obtain ⟨hn1,hs0,hsn,hk1,hk2,hF⟩:=may_fit hm
  have hnl:=hP.len
  have hn:n ≤ 20000:=by omega
  obtain ⟨p,hp⟩:∃ p,p = w.heap.size:=⟨_,rfl⟩
  obtain ⟨y,hy⟩:∃ y,y = w.heap.size + 1:=⟨_,rfl⟩
  obtain ⟨W0,hW0⟩:∃ W0,W0 = (w.alloc (.cells #[.slice ad n c,.int .i64 s,.int .i64 (K:Int)] 24)).alloc (.cells #[.bool false,.slice none 0 0,.int .i64 0,.int .i64 0] 32):=⟨_,rfl⟩
  have hbx:W0.heap[p]? = some (.cells #[.slice ad n c,.int .i64 s,.int .i64 (K:Int)] 24 (0,0)):=by rw [hW0,hp];exact (heap_alloc_old _ _ (by simp)).trans (heap_alloc_new w _)
  have hby:W0.heap[y]? = some (.cells #[.bool false,.slice none 0 0,.int .i64 0,.int .i64 0] 32 (0,0)):=by
    rw [hW0,hy]
    have h1:=heap_alloc_new (w.alloc (.cells #[.slice ad n c,.int .i64 s,.int .i64 (K:Int)] 24)) (.cells #[.bool false,.slice none 0 0,.int .i64 0,.int .i64 0] 32)
    simpa using h1
  have hz0:W0.heap.size = p + 2:=by rw [hW0,hp];simp
  have hB0:Below p w W0:=by rw [hW0,hp];exact ((Below.refl _ _).alloc (Nat.le_refl _) _).alloc (by simp) _
  have hP0:PI W0 W0.heap.size ad n l:=hP.kept (by rw [← hp];exact hB0) (by omega)
  have hT0:TxAt W0.heap.size W0 tad tn tx:=(hT.below (by rw [← hp];exact hB0)).mono (by omega)
  have c0:W0.cell? ⟨p,0,none⟩ = some (.slice ad n c):=Joins.cell_of_block hbx 0
  have c1:W0.cell? ⟨p,1,none⟩ = some (.int .i64 s):=Joins.cell_of_block hbx 1
  have c2:W0.cell? ⟨p,2,none⟩ = some (.int .i64 (K:Int)):=Joins.cell_of_block hbx 2
  have D22:=check10 (c:=c) (s:=s) (k:=(K:Int)) hP0
  rw [if_pos hm] at D22
  have HZ0:=hid hz0
  have hpl:p < W0.heap.size:=by omega
  have hyl:y < W0.heap.size:=by omega
  have HYP:Hid (y = p + 1):=by show y = p + 1;omega
  have b1:decide ((tn:Int) > 4194304) = false:=by simp;omega
  have b2:decide ((4194304:Int) < (tn:Int)) = false:=by simp;omega
  have b3:decide ((a:Int) < 0) = false:=by simp
  have b4:decide ((a:Int) > (tn:Int)) = false:=by simp;omega
  have b5:decide ((tn:Int) < (a:Int)) = false:=by simp;omega
  have HBY:=hid hby
  have HB0:=hid hB0
  have HP0:=hid hP0
  have HT0:=hid hT0
  have HPE:=hid hp
  have HYE:=hid hy
  have HF:=hid hF
  have HNL:=hid hnl
  have HOW:=hid how
  have HR:=hid hr
  have HM:=hid hm
  have hsn':s < (n:Int):=by omega
  clear hbx hby hB0 hP0 hT0 hP hT hF hnl how hr hm hsn hn1 hz0
  go_enter Tryz.func15,Tryz.ntmps15
  go_upto_region 1 with fail
  rw [← hW0,← hy,← hp]
  clear hW0 hp hy
  go_upto_region 6 with (go_at_call 22;(with_reducible refine D22.mono ?_);rintro e w2 ⟨rfl,z2⟩;have Z2:=hid z2;clear z2 D22)
  have k0:=(Z2.out.cell (p:=⟨p,0,none⟩) hpl).trans c0
  have k1:=(Z2.out.cell (p:=⟨p,1,none⟩) hpl).trans c1
  have k2:=(Z2.out.cell (p:=⟨p,2,none⟩) hpl).trans c2
  have D23:=oneWay23 (k:=(K:Int)) (c:=c) (s:=s) (w:=w2) (HP0.out.kept Z2.out Z2.out.size) HF.out hn ⟨hs0,hsn'⟩
  go_upto_region 10 with (go_at_call 23;(with_reducible refine D23.mono ?_);rintro e w3 ⟨b,rfl,z3,z4⟩;have Z3:=hid (Z2.out.trans (z3.mono Z2.out.size));have hb:=z4.2 HOW.out;subst hb;clear z3 z4 D23)
  have j0:=(Z3.out.cell (p:=⟨p,0,none⟩) hpl).trans c0
  have j1:=(Z3.out.cell (p:=⟨p,1,none⟩) hpl).trans c1
  have j2:=(Z3.out.cell (p:=⟨p,2,none⟩) hpl).trans c2
  have D28:=new28 (c:=c) (s:=s) (K:=K) (tc:=tc) (w:=w3) (HP0.out.kept Z3.out Z3.out.size) ((HT0.out.below Z3.out).mono Z3.out.size) (by omega) (by omega)
  clear k0 k1 k2
  go_upto_region 11 with (go_at_call 28;(with_reducible refine D28.mono ?_);rintro e w4 ⟨mb,cb,nb,rfl,z5,z6⟩;have Z5:=hid z5;have Z6:=hid z6;clear z5 z6 D28)
  obtain ⟨si,hsi⟩:∃ si:Nat,si = s.toNat:=⟨_,rfl⟩
  have hss:s = (si:Int):=by omega
  have D29:=run29 (at_:=a) (si:=si) (S2:=S2) (k:=(K:Int)) HF.out hn HNL.out ha rfl (by omega) hss (by omega) (by rw [hsi];exact HR.out) hst Z5.out.size Z6.out
  have HSS:=hid hss
  clear hsi hss
  go_upto_region 12 with (go_at_call 29;(with_reducible refine D29.mono ?_);rintro e w5 ⟨rfl,z7,vf,y9,y10,y11,y12,y13,y14⟩;have Z7:=hid (Z5.out.trans z7);have Y13:=hid y13;have Y14:=hid y14;clear z7 y13 y14 D29)
  have hby5:w5.heap[y]? = some (.cells #[.bool false,.slice none 0 0,.int .i64 0,.int .i64 0] 32 (0,0)):=by
    rw [Z7.out.block y (by have:=Z3.out.size;omega),Z3.out.block y hyl]
    exact HBY.out
  have g0:=Joins.unfrozen_of_block hby5 0
  have g1:=Joins.unfrozen_of_block hby5 1
  have g2:=Joins.unfrozen_of_block hby5 2
  have g3:=Joins.unfrozen_of_block hby5 3
  have x0:=Joins.cell_of_block hby5 0
  have x1:=Joins.cell_of_block hby5 1
  have x2:=Joins.cell_of_block hby5 2
  have x3:=Joins.cell_of_block hby5 3
  simp at x0 x1 x2 x3
  have hsl:∃ fa fn fc,vf = .slice fa fn fc:=by
    cases e:S2.ok
    · exact ⟨_,_,_,Y14.out e⟩
    · obtain ⟨fb,e2,-⟩:=Y13.out e;exact ⟨_,_,_,e2⟩
  obtain ⟨fa,fnn,fc,rfl⟩:=hsl
  have HY5:=hid hby5
  clear hby5 j0 j1 j2
  go_wp2
  obtain ⟨V0,hV0⟩:∃ V0,V0 = w5.setCell ⟨y,0,none⟩ (.bool S2.ok):=⟨_,rfl⟩
  have t0:V0.heap[y]? = some (.cells (fdV S2.ok (.slice none 0 0) 0 0) 32 (0,0)):=by
    rw [hV0]
    have h:=Joins.block_setCell (i:=0) HY5.out (.bool S2.ok)
    exact h
  obtain ⟨V1,hV1⟩:∃ V1,V1 = V0.setCell ⟨y,1,none⟩ (.slice fa fnn fc):=⟨_,rfl⟩
  have t1:V1.heap[y]? = some (.cells (fdV S2.ok (.slice fa fnn fc) 0 0) 32 (0,0)):=by
    rw [hV1]
    have h:=Joins.block_setCell (i:=1) t0 (.slice fa fnn fc)
    exact h
  obtain ⟨V2,hV2⟩:∃ V2,V2 = V1.setCell ⟨y,2,none⟩ (.int .i64 S2.wh):=⟨_,rfl⟩
  have t2:V2.heap[y]? = some (.cells (fdV S2.ok (.slice fa fnn fc) S2.wh 0) 32 (0,0)):=by
    rw [hV2]
    have h:=Joins.block_setCell (i:=2) t1 (.int .i64 S2.wh)
    exact h
  obtain ⟨V3,hV3⟩:∃ V3,V3 = V2.setCell ⟨y,3,none⟩ (.int .i64 (S2.st:Int)):=⟨_,rfl⟩
  have t3:V3.heap[y]? = some (.cells (fdV S2.ok (.slice fa fnn fc) S2.wh S2.st) 32 (0,0)):=by
    rw [hV3]
    have h:=Joins.block_setCell (i:=3) t2 (.int .i64 (S2.st:Int))
    exact h
  have ho:∀ b,b ≠ y → V3.heap[b]? = w5.heap[b]?:=fun b hb => by
    rw [hV3,heap_setCell_other _ _ _ _ hb,hV2,heap_setCell_other _ _ _ _ hb,hV1,heap_setCell_other _ _ _ _ hb,hV0,heap_setCell_other _ _ _ _ hb]
  have hBV:Below p w5 V3:=by
    rw [hV3,hV2,hV1,hV0]
    have e:p ≤ y:=by have:=HYP.out;omega
    exact ((((Below.refl p w5).setCell (p:=⟨y,0,none⟩) e _).setCell (p:=⟨y,1,none⟩) e _).setCell (p:=⟨y,2,none⟩) e _).setCell (p:=⟨y,3,none⟩) e _
  rw [← hV0,← hV1,← hV2,← hV3]
  clear hV0 hV1 hV2 hV3 t0 t1 t2
  refine bodyPost_ret (results_cell_tmp' rfl _ _ y 32 _ (0,0) _ rfl t3 Tryz.underlying32 rfl (by kernel_rfl)) rfl ?_
  have hps:=HZ0.out
  refine ⟨.slice fa fnn fc,rfl,?_,fun e => ?_,Y14.out⟩
  · rw [← HPE.out]
    exact (HB0.out.trans ((Z3.out.trans (Z7.out.mono Z3.out.size)).mono (by omega))).trans hBV
  · obtain ⟨fb,e1,e2⟩:=Y13.out e
    refine ⟨fb,e1,Joins.ownsRow_le (row_kept e2 fun b hb => ho b (fun e3 => ?_)) (by rw [← HPE.out];have:=Z3.out.size;omega)⟩
    have:=(e2.lt b hb).1
    have:=Z3.out.size
    omega
end Go.Proofs.YtjdbnoccdefnaaaGreat
