/- HELPERS: texts of ours put together. -/
import Derived.Test.YtjdbnoccdefnaaaGreatK36
import Derived.Test.YtjdbnoccdefnaaaGreatK37
namespace Go.Proofs.YtjdbnoccdefnaaaGreat
open Go.RowKit
set_option linter.unusedVariables false
set_option linter.unusedSimpArgs false
variable {l:List In} {k:Int}
def marked (w:World) (b:Nat):Nat:=match w.heap[b]? with
  | some (.cells cs _ _) => cs.toList.countP fun v => match v with | .bool true => true | _ => false
  | _ => 0
theorem MT.count {w:World} {b n:Nat} {V:List Nat} (h:MT w b n V) (hn:V.Nodup) (hl:∀ x ∈ V,x < n):marked w b = V.length:=by
  obtain ⟨cs,h1,h2,h3⟩:=h
  have e:cs.toList = (List.range n).map fun i => Value.bool (decide (i ∈ V)):=by
    apply List.ext_getElem?
    intro i
    rw [Array.getElem?_toList]
    by_cases hi:i < n
    · rw [h3 i hi]
      simp [hi]
    · rw [Array.getElem?_eq_none (by omega),List.getElem?_eq_none (by simp;omega)]
  unfold marked
  rw [h1]
  simp only [e,List.countP_map]
  have e2:((fun v => match v with | Value.bool true => true | _ => false) ∘ fun i => Value.bool (decide (i ∈ V))) = fun i => decide (i ∈ V):=by
    funext i
    simp only [Function.comp]
    by_cases hi:i ∈ V <;> simp [hi]
  rw [e2,List.countP_eq_length_filter]
  refine (List.Perm.length_eq ?_)
  refine (List.perm_ext_iff_of_nodup (List.nodup_range.filter _) hn).2 fun x => ?_
  simp only [List.mem_filter,List.mem_range,decide_eq_true_eq]
  exact ⟨fun h => h.2,fun h => ⟨hl x h,h⟩⟩
theorem en20:∀ args w,(callFunc 20 args).run Tryz.prog w = .ok (.enter 20 args) w:=enter_of Tryz.func20 (by kernel_rfl) rfl
def nxs (l:List In) (o:List Nat) (t:Nat):List Nat:=((o.take t).filter (pd l).rd).map (nxI l)
theorem nxs_succ {o:List Nat} {t:Nat} (h:t < o.length):nxs l o (t + 1) = nxs l o t ++ (if (pd l).rd o[t] = true then [nxI l o[t]] else []):=by
  unfold nxs
  rw [List.take_succ_eq_append_getElem h,List.filter_append,List.map_append]
  congr 1
  by_cases e:(pd l).rd o[t] = true
  · simp [e]
  · simp [e]
theorem nxs_len {o:List Nat} {t:Nat}:(nxs l o t).length ≤ t:=by
  unfold nxs
  rw [List.length_map]
  exact Nat.le_trans (List.length_filter_le _ _) (by simp;omega)
theorem mul_step (n v m t:Nat) (hv:v < n) (ht:t ≤ n):(n - (v + 1)) * (n + 1) + (m + t) < (n - v) * (n + 1) + (m + 1):=by
  obtain ⟨d,hd⟩:∃ d,n - v = d + 1:=⟨n - v - 1,by omega⟩
  rw [show n - (v + 1) = d by omega,hd,Nat.add_mul]
  omega
set_option maxRecDepth 100000 in
set_option maxHeartbeats 8000000 in
theorem ris7_ok {w:World} {ad:Option Addr} {n c:Nat} {s k:Int} (hP:PI w w.heap.size ad n l) (hm:mayB l s k = true) :
    Calls Tryz.prog 7 #[pv ad n c s k] w fun e w' => ∃ b,e = .returned (.bool b) ∧ Below w.heap.size w w' ∧ (b = true ↔ IsP l s k):=by
  obtain ⟨hn1,hs0,hsn,-,-,hF⟩:=may_fit hm
  have hnl:=hP.len
  have hn:n ≤ 20000:=by omega
  have hsn':s < (n:Int):=by omega
  obtain ⟨g,of,ND,had,hgl,-⟩:=hP.mem (by omega)
  obtain ⟨p,hp⟩:∃ p,p = w.heap.size:=⟨_,rfl⟩
  obtain ⟨W0,hW0⟩:∃ W0,W0 = w.alloc (.cells #[.slice ad n c,.int .i64 s,.int .i64 k] 24):=⟨_,rfl⟩
  have hbx:W0.heap[p]? = some (.cells #[.slice ad n c,.int .i64 s,.int .i64 k] 24 (0,0)):=by rw [hW0,hp];exact heap_alloc_new w _
  have hz0:W0.heap.size = p + 1:=by rw [hW0,hp];simp
  have hB0:Below p w W0:=by rw [hW0,hp];exact Joins.below_alloc1 w _
  have hP0:PI W0 W0.heap.size ad n l:=hP.kept (by rw [← hp];exact hB0) (by omega)
  have c0:W0.cell? ⟨p,0,none⟩ = some (.slice ad n c):=Joins.cell_of_block hbx 0
  have c1:W0.cell? ⟨p,1,none⟩ = some (.int .i64 s):=Joins.cell_of_block hbx 1
  have c2:W0.cell? ⟨p,2,none⟩ = some (.int .i64 k):=Joins.cell_of_block hbx 2
  have D19:=rcheck9 (c:=c) (s:=s) (k:=k) hP0
  rw [if_pos hm] at D19
  have hmk:=run_make_row' (P:=Tryz.prog) 45 4 (.bool false) 1 Tryz.underlying45 info4 rfl .i64 .i64 n (by omega) (by omega)
  have HAD:=hid had
  have HM:=hid hm
  have HB0:=hid hB0
  have HP0:=hid hP0
  have HPE:=hid hp
  have HF:=hid hF
  have HNL:=hid hnl
  have hpl:p < W0.heap.size:=by omega
  clear hbx hB0 hP0 hP hm hF hnl hgl hsn hn1 had
  go_enter Tryz.func7,Tryz.ntmps7
  go_upto_region 1 with fail
  rw [← hW0,← hp]
  clear hW0 hp
  go_upto_region 4 with (go_at_call 19;(with_reducible refine D19.mono ?_);rintro e w2 ⟨rfl,z2⟩;have Z2:=hid z2;clear z2 D19)
  have k0:=(Z2.out.cell (p:=⟨p,0,none⟩) hpl).trans c0
  have k1:=(Z2.out.cell (p:=⟨p,1,none⟩) hpl).trans c1
  have k2:=(Z2.out.cell (p:=⟨p,2,none⟩) hpl).trans c2
  go_upto_region 5 with fail
  obtain ⟨q,hq⟩:∃ q,q = w2.heap.size:=⟨_,rfl⟩
  obtain ⟨W1,hW1⟩:∃ W1,W1 = w2.alloc (.cells (madeCells #[.bool false] n) 4):=⟨_,rfl⟩
  have hM1:MT W1 q n []:=by rw [hW1,hq];exact MT.made
  have hz1:W1.heap.size = q + 1:=by rw [hW1,hq];simp
  have hpq:p < q:=by have:=Z2.out.size;omega
  have k11:W1.cell? ⟨p,1,none⟩ = some (.int .i64 s):=by rw [← k1,hW1];exact cell_eq (heap_alloc_old w2 _ (by omega)) _
  rw [← hW1,← hq]
  have HZ1:=hid hz1
  have HQE:=hid hq
  have HB1:Hid (Below q w2 W1):=by rw [hW1,hq];exact (Below.refl _ _).alloc (Nat.le_refl _) _
  clear hW1 hq hz1 k0 k1 k2 hmk
  go_upto_region 6 with fail
  obtain ⟨r,hr⟩:∃ r,r = W1.heap.size:=⟨_,rfl⟩
  obtain ⟨W2,hW2⟩:∃ W2,W2 = W1.alloc (.cells #[.int .i64 s] 3):=⟨_,rfl⟩
  have hM2:MT W2 q n []:=hM1.kept (by rw [hW2];exact heap_alloc_old _ _ (by have:=HZ1.out;omega))
  have hst:s = ((s.toNat:Nat):Int):=by omega
  have hR2:W2.ownsRow q 3 1 (.slice (some ⟨r,0,none⟩) 1 1) 1 (I64 (Ix [s.toNat])):=by
    rw [hW2,hr]
    have:=World.ownsRow_lit (base:=q) (e:=3) (size:=1) W1 #[.int .i64 s] 1 (by have:=HZ1.out;omega) (by unfold maxLen;omega) (by simp)
    simpa [I64,Ix,← hst] using this
  have hB2:Below q w2 W2:=by
    rw [hW2]
    exact HB1.out.alloc (by have:=HZ1.out;omega) _
  have hWq:W0.heap.size ≤ q:=by rw [HQE.out];exact Z2.out.size
  have hC2:CS q q n w2 W2 [] [] [s.toNat] (.slice none 0 0) (.slice (some ⟨r,0,none⟩) 1 1) 0 1:=⟨hM2,World.ownsRow_nil _ _ _ _,hR2,fun b hb => (by cases hb),fun e => by simp [Value.ownBlock] at e;have:=HZ1.out;omega,hB2⟩
  have HC2:=hid hC2
  have hsn2:s.toNat < n:=by omega
  rw [← hW2,← hr]
  clear hW2 hr hM1 hM2 hR2 hB2 hC2 hst k11
  have hqz:Hid (W0.heap.size ≤ q):=hWq
  have HW02:Hid (Below W0.heap.size W0 w2):=Z2.out
  have hM0:marked W2 q = 0:=HC2.out.mt.count .nil (fun x hx => (by cases hx))
  have HW2q:Hid (q ≤ W2.heap.size):=by have h1:=HC2.out.mt.lt;show q ≤ _;omega
  clear hM0 hWq Z2
  go_loopw [5] (fun vl wq => ∃ (V st:List Nat) (ln:Nat) (la:Option Addr) (lc:Nat),vl = .slice la ln lc ∧ ln ≤ 1 + V.length * n ∧ q < wq.heap.size ∧ Hid (DI (pd l) (nxI l) s.toNat (fun x => x ∈ V) (fun x => x ∈ st)) ∧ Hid V.Nodup ∧ Hid (∀ x ∈ V,x < n) ∧ Hid (∀ x ∈ st,x < n) ∧ Hid (CS q q n w2 wq V [] st (.slice none 0 0) (.slice la ln lc) 0 ln)) (fun vl wq => (n - marked wq q) * (n + 1) + slLen vl)
  case atStart =>
    refine ⟨[],[s.toNat],1,_,_,rfl,by omega,HC2.out.mt.lt,?_,.nil,fun x hx => (by cases hx),fun x hx => (by simp at hx;omega),HC2.out⟩
    have e1:(fun x => x ∈ ([]:List Nat)) = fun _ => False:=funext fun x => by simp
    have e2:(fun x => x ∈ [s.toNat]) = fun x => x = s.toNat:=funext fun x => by simp
    show DI _ _ _ _ _
    rw [e1,e2]
    exact DI.start
  case round =>
    obtain ⟨V,st,ln,la,lc,rfl,hlv,hqw,HDI,HVN,HVL,HSL,HCS⟩:=hrel
    clear HC2 HB1
    have HMT:=hid HCS.out.mt
    have HRL:=hid HCS.out.rl
    have HLQ:=hid HCS.out.lq
    have hln:ln = st.length:=by have:=HRL.out.1;simpa [I64,Ix] using this.symm
    have HLN:=hid hln
    have hvn:V.length ≤ n:=nodup_lt HVN.out HVL.out
    have hlb:ln ≤ 1 + 400000000:=by
      have h1:V.length * n ≤ 20000 * 20000:=Nat.mul_le_mul (by omega) hn
      omega
    have hBW:Below W0.heap.size W0 wr:=HW02.out.trans (HCS.out.bw.mono hqz.out)
    have k0:=(hBW.cell (p:=⟨p,0,none⟩) hpl).trans c0
    have k1:=(hBW.cell (p:=⟨p,1,none⟩) hpl).trans c1
    have k2:=(hBW.cell (p:=⟨p,2,none⟩) hpl).trans c2
    have HBW:=hid hBW
    have HCN:=hid (HMT.out.count HVN.out HVL.out)
    clear hln hBW
    by_cases h0:ln = 0
    · subst h0
      have hst:st = []:=List.length_eq_zero_iff.1 HLN.out.symm
      have h1:=HDI.out
      rw [hst] at h1
      have h2:=h1.done (fun i hi => by simp at hi)
      go_wp2
      go_ret
      exact ⟨true,rfl,by rw [← HPE.out];exact HB0.out.trans (HBW.out.mono (by omega)),fun _ => ⟨HM.out,h2⟩,fun _ => rfl⟩
    · obtain ⟨m,hm⟩:∃ m,ln = m + 1:=⟨ln - 1,by omega⟩
      have b1:decide ((ln:Int) > 0) = true:=by simp;omega
      have b2:(0:Int) < (ln:Int):=by omega
      have b3:decide ((0:Int) < (ln:Int)) = true:=by simp;omega
      have hlc:m ≤ lc ∧ lc ≤ maxLen:=by
        obtain ⟨a',c',e,h1,h2⟩:=row_shape HRL.out
        simp only [Value.slice.injEq] at e
        obtain ⟨-,-,rfl⟩:=e
        omega
      obtain ⟨st',x,hst⟩:∃ st' x,st = st' ++ [x]:=by
        have:st ≠ []:=fun e => by have:=HLN.out;rw [e] at this;simp at this;omega
        exact ⟨st.dropLast,st.getLast this,(List.dropLast_concat_getLast this).symm⟩
      subst hst
      have hml:st'.length = m:=by have:=HLN.out;simp at this;omega
      obtain ⟨lb,rfl,kf⟩:∃ lb,la = some ⟨lb,0,none⟩ ∧ wr.cell? ⟨lb,m,none⟩ = some (.int .i64 (x:Int)):=by
        have hrw:=HRL.out
        rcases hrw.2 with ⟨e,_⟩ | ⟨g',cap,cur,e,_⟩
        · simp only [Value.slice.injEq] at e;omega
        · simp only [Value.slice.injEq] at e
          obtain ⟨rfl,-,rfl⟩:=e
          refine ⟨g',rfl,?_⟩
          rw [hrw.cellAt m (by omega)]
          simp [I64,Ix,← hml]
      have hxn:x < n:=HSL.out x (by simp)
      have ws:IntKind.i64.wrap ((ln:Int) - 1) = (m:Int):=by simp [IntKind.wrap,IntKind.bits,IntKind.signed];omega
      have b4:(m:Int) < (ln:Int):=by omega
      have hlp:wr.ownsRow q 3 1 (.slice (some ⟨lb,0,none⟩) m lc) m (I64 (Ix st')):=by
        have h1:=HRL.out
        rw [hm] at h1
        exact own_pop (ys:=[.int .i64 (x:Int)]) (by simpa [I64,Ix] using h1) (by simp [I64,Ix,hml])
      have HLP:=hid hlp
      have HML:=hid hml
      have HM2:=hid hm
      obtain ⟨k7,f7⟩:=HMT.out.at_ hxn
      clear hlp hml hm HRL
      by_cases hx:x ∈ V
      · rw [decide_eq_true hx] at k7
        go_wp2
        refine ⟨⟨V,st',m,_,_,rfl,by omega,hqw,?_,HVN.out,HVL.out,fun z hz => HSL.out z (by simp [hz]),⟨HMT.out,World.ownsRow_nil _ _ _ _,HLP.out,fun b hb => (by cases hb),HLQ.out,HCS.out.bw⟩⟩,by simp [slLen];omega⟩
        exact HDI.out.skip hx (fun z hz => by simp at hz;exact hz.symm) (fun z hz => by simp [hz])
      · rw [decide_eq_false hx] at k7
        go_upto_region 11 with fail
        obtain ⟨W3,hW3⟩:∃ W3,W3 = wr.setCell ⟨q,x,none⟩ (.bool true):=⟨_,rfl⟩
        have ho3:∀ b,b ≠ q → W3.heap[b]? = wr.heap[b]?:=fun b hb => by rw [hW3];exact heap_setCell_other _ _ _ _ hb
        have hz3:W3.heap.size = wr.heap.size:=by rw [hW3];simp
        have hC3:CS q q n w2 W3 (V ++ [x]) [] st' (.slice none 0 0) (.slice (some ⟨lb,0,none⟩) m lc) 0 m:=
          ⟨by rw [hW3];exact HMT.out.put hxn,World.ownsRow_nil _ _ _ _,row_kept HLP.out fun b hb => ho3 b (fun e => HLQ.out (e ▸ hb)),fun b hb => (by cases hb),HLQ.out,by rw [hW3];exact HCS.out.bw.setCell (p:=⟨q,x,none⟩) (Nat.le_refl q) _⟩
        have hWB:Below W0.heap.size W0 W3:=HW02.out.trans (hC3.bw.mono hqz.out)
        have j0:=(hWB.cell (p:=⟨p,0,none⟩) hpl).trans c0
        have j1:=(hWB.cell (p:=⟨p,1,none⟩) hpl).trans c1
        have j2:=(hWB.cell (p:=⟨p,2,none⟩) hpl).trans c2
        have D20:=closure20 (l:=l) (k:=k) (w:=W3) (ad:=ad) (n:=n) (c:=c) (i:=x) (s:=s) (HP0.out.kept hWB hWB.size) HF.out hn hxn
        have HC3:=hid hC3
        have HWB:=hid hWB
        have hq3:q < W3.heap.size:=hC3.mt.lt
        rw [← hW3]
        clear hW3 ho3 hz3 hC3 hWB k7 f7 kf k0 k1 k2 HCS HMT HLP HLQ HBW
        go_upto_region 14 with (go_at_call 20;(with_reducible refine D20.mono ?_);rintro e w4 ⟨v,b,rfl,z1,z2,z3⟩;have Z1:=hid z1;have Z2:=hid z2;have Z3:=hid z3;clear z1 z2 z3 D20;cases b)
        · go_wp2
          go_ret
          exact ⟨false,rfl,by rw [← HPE.out];exact HB0.out.trans ((HWB.out.trans (Z1.out.mono HWB.out.size)).mono (by omega)),fun h => (by cases h),fun h => by
            obtain ⟨o,h1,h2,h3⟩:=h.2 x (HDI.out.t x (by simp))
            exact absurd h2 (Z3.out (by trivial) o h1)⟩
        · obtain ⟨o,hu,hnd,hrow⟩:=Z2.out (by trivial)
          obtain ⟨cn,hcn⟩:∃ cn,cn = o.length:=⟨_,rfl⟩
          rw [← hcn] at hrow
          obtain ⟨ca,cc,rfl,-,-⟩:=row_shape hrow
          have hol:∀ y ∈ o,y < n:=hu.lt (N:=n) (by rw [HNL.out];exact eps_lt HF.out) (fun y hy => by simp at hy;omega)
          have hcn2:cn ≤ n:=by rw [hcn];exact nodup_lt hnd hol
          have hC4:=HC3.out.at_ (by omega) Z1.out
          have hlb3:lb < W3.heap.size:=(HC3.out.rl.lt lb rfl).2
          have hC4':CS q q n w2 w4 (V ++ [x]) o st' (.slice ca cn cc) (.slice (some ⟨lb,0,none⟩) m lc) cn m:=
            ⟨hC4.mt,Joins.ownsRow_le hrow (by omega),hC4.rl,fun b hb => ⟨fun e => by have:=(hrow.lt b hb).1;omega,fun e => by have:=(hrow.lt b hb).1;simp [Value.ownBlock] at e;omega⟩,hC4.lq,hC4.bw⟩
          have hWB4:Below W0.heap.size W0 w4:=HWB.out.trans (Z1.out.mono HWB.out.size)
          have i0:=(hWB4.cell (p:=⟨p,0,none⟩) hpl).trans c0
          have i1:=(hWB4.cell (p:=⟨p,1,none⟩) hpl).trans c1
          have i2:=(hWB4.cell (p:=⟨p,2,none⟩) hpl).trans c2
          have D21:=plain21 (l:=l) (k:=k) (w:=w4) (ad:=ad) (oa:=ca) (n:=n) (c:=c) (on:=cn) (oc:=cc) (s:=s) (o:=o) (HP0.out.kept hWB4 hWB4.size) hn hcn hol (by omega) (fun h => by
            rcases hrow.2 with ⟨e,_⟩ | ⟨g',cap,cur,e,_⟩
            · simp only [Value.slice.injEq] at e;omega
            · simp only [Value.slice.injEq] at e
              obtain ⟨rfl,-,rfl⟩:=e
              refine ⟨g',0,rfl,(hrow.lt g' rfl).2,fun j hj => ?_⟩
              rw [Nat.zero_add,hrow.cellAt j (by omega)]
              simp [I64,Ix,List.getElem?_eq_getElem hj])
          have HC4:=hid hC4'
          have HWB4:=hid hWB4
          have HU:=hid hu
          have HND:=hid hnd
          have HCNN:=hid hcn
          have HOL:=hid hol
          have hq4:q < w4.heap.size:=hC4.mt.lt
          clear hC4 hC4' hWB4 hu hnd hrow hcn hol j0 j1 j2 Z1 Z2 Z3 hlb3 HC3 HWB
          go_upto_region 17 with (go_at_call 21;(with_reducible refine D21.mono ?_);rintro e w5 ⟨rr,rfl,z1,z2⟩;have Z1:=hid z1;have Z2:=hid z2;clear z1 z2 D21;cases rr)
          · go_wp2
            go_ret
            exact ⟨false,rfl,by rw [← HPE.out];exact HB0.out.trans ((HWB4.out.trans (Z1.out.mono HWB4.out.size)).mono (by omega)),fun h => (by cases h),fun h => by
              obtain ⟨o2,h1,h2,h3⟩:=h.2 x (HDI.out.t x (by simp))
              obtain rfl:=h1.det HU.out
              have:=Z2.out.2 h3
              cases this⟩
          · have hpl2:(pd l).Pl x:=⟨o,HU.out,HND.out,Z2.out.1 (by trivial)⟩
            have HPL:=hid hpl2
            have hC5:=HC4.out.at_ (by omega) Z1.out
            have HC5:=hid hC5
            have hq5:q < w5.heap.size:=hC5.mt.lt
            clear hpl2 hC5 i0 i1 i2 HC4 Z2
            have hmB:m ≤ 400000000:=by have:=HM2.out;omega
            go_upto_region 18 with fail
            go_loopw [5,10] (fun vl yy wq => ∃ (t ln2:Nat) (la2:Option Addr) (lc2:Nat),yy = .int .i64 (t:Int) ∧ vl = .slice la2 ln2 lc2 ∧ t ≤ cn ∧ ln2 = m + (nxs l o t).length ∧ q < wq.heap.size ∧ Hid (CS q q n w2 wq (V ++ [x]) o (st' ++ nxs l o t) (.slice ca cn cc) (.slice la2 ln2 lc2) cn ln2)) (fun _ yy _ => cn - (intOf yy).toNat)
            case atStart => exact ⟨0,m,_,_,rfl,rfl,by omega,by simp [nxs],hq5,by simpa [nxs] using HC5⟩
            case round =>
              obtain ⟨t,ln2,la2,lc2,rfl,rfl,ht,hl2,hq6,HC6⟩:=hrel
              clear HC5
              have HL2:=hid hl2
              have hnt:=nxs_len (l:=l) (o:=o) (t:=t)
              clear hl2
              by_cases htl:t < cn
              · have b5:decide ((t:Int) < (cn:Int)) = true:=by simp;omega
                have b6:(t:Int) < (cn:Int):=by omega
                have ad4:IntKind.i64.wrap ((t:Int) + 1) = (t:Int) + 1:=by simp [IntKind.wrap,IntKind.bits,IntKind.signed];omega
                have hlt:t < o.length:=by have:=HCNN.out;omega
                obtain ⟨u,hu⟩:∃ u,o[t] = u:=⟨_,rfl⟩
                obtain ⟨cb,rfl,kf⟩:∃ cb,ca = some ⟨cb,0,none⟩ ∧ wr.cell? ⟨cb,t,none⟩ = some (.int .i64 (u:Int)):=by
                  have hrw:=HC6.out.ro
                  rcases hrw.2 with ⟨e,_⟩ | ⟨g',cap,cur,e,_⟩
                  · simp only [Value.slice.injEq] at e;omega
                  · simp only [Value.slice.injEq] at e
                    obtain ⟨rfl,-,rfl⟩:=e
                    refine ⟨g',rfl,?_⟩
                    rw [hrw.cellAt t (by omega)]
                    simp [I64,Ix,List.getElem?_eq_getElem hlt,hu]
                have hun:u < n:=by rw [← hu];exact HOL.out _ (List.getElem_mem hlt)
                have b9:(u:Int) < (n:Int):=by omega
                have hBW:Below W0.heap.size W0 wr:=HW02.out.trans (HC6.out.bw.mono hqz.out)
                have c0w:=(hBW.cell (p:=⟨p,0,none⟩) hpl).trans c0
                obtain ⟨g',of',s1,s2,s3,eg,hg',m0,m1,-,-,-,-,-,-⟩:=inst_at (HP0.out.kept hBW (Nat.le_refl _)) hun
                have hsu:=nxs_succ (l:=l) hlt
                have hfit:=HF.out
                rw [hu] at hsu
                obtain ⟨ou,hou⟩:∃ ou,ou = (at0 l u).op:=⟨_,rfl⟩
                obtain ⟨xu,hxu⟩:∃ xu,xu = (at0 l u).x:=⟨_,rfl⟩
                rw [← hou] at m0
                rw [← hxu] at m1
                have HEG:=hid eg
                have HU2:=hid hu
                have HOU:=hid hou
                have HXU:=hid hxu
                have HSU:=hid hsu
                clear hu hou hxu hsu eg hfit
                subst HEG
                have HBWW:=hid hBW
                clear hBW
                by_cases e2:ou = 1
                · have b10:decide (ou = 1) = true:=decide_eq_true e2
                  have b11:(ou == 1) = true:=by simp [e2]
                  have hrd:(pd l).rd u = true:=by simp [pd];rw [← HOU.out];exact e2
                  have hxr:=rune_nx HF.out (i:=u) (by have:=HNL.out;omega) (by rw [← HOU.out];exact e2)
                  rw [← HXU.out,← HNL.out] at hxr
                  have HRD:=hid hrd
                  clear e2 hrd
                  go_upto_region 20 with fail
                  go_simp
                  go_big_quiet (fail)
                  go_upto_region 21 with fail
                  obtain ⟨i3,hi3,hz3,hs3,hb3⟩:=iparts info3
                  have hG:=fun (W w':World) (v:Value) (hW:Below wr.heap.size wr W) (hf:Frm W w' (.slice la2 ln2 lc2) v) (hr:w'.ownsRow q 3 1 v (ln2 + 1) (I64 (Ix (st' ++ nxs l o t)) ++ [.int .i64 xu])) =>
                    (HC6.out.at_ (by omega) hW).grow_st (xs:=[xu.toNat]) (by have:=hW.size;omega) hf (by simpa [I64,Ix,show ((xu.toNat:Nat):Int) = xu by omega] using hr)
                  have hO:=fun (W:World) (hW:Below wr.heap.size wr W) => (HC6.out.at_ (by omega) hW).rl
                  have HG:=hid hG
                  have hlnb:ln2 ≤ 500000000:=by have:=HL2.out;omega
                  have hcb:cb < wr.heap.size:=(HC6.out.ro.lt cb rfl).2
                  have hps:p < wr.heap.size:=by have:=HBWW.out.size;omega
                  have hgs:g' < wr.heap.size:=by have:=HBWW.out.size;omega
                  have hqs:q ≤ wr.heap.size:=by omega
                  clear hG
                  refine wp_region_lexT [0,1,2,3,4,5,6,7,8,9] 3 12 (fun V => V.cell? ⟨p,0,none⟩ = some (.slice (some ⟨g',of',none⟩) n c) ∧ V.cell? ⟨cb,t,none⟩ = some (.int .i64 (u:Int)) ∧ V.cell? ⟨g',of' + u * 5 + 1,none⟩ = some (.int .i64 xu)) (by kernel_rfl) (by kernel_rfl) rfl (by kernel_rfl) (by exact ⟨c0w,kf,m1⟩) ?_
                  simp only [opsAt,opsNo,List.getElem?_toArray,List.getElem?_cons_zero,List.getElem?_cons_succ]
                  iterate 10
                    refine lex_cons ?_ rfl (fun V hV => ?_) (fun _ _ _ h => h) ?_
                    rotate_left
                    · obtain ⟨v0,v1,v2⟩:=hV
                      go_simp <;> with_reducible rfl
                    simp only [Act.put,List.setIfInBounds_toArray,List.set_cons_zero,List.set_cons_succ]
                  refine lex_nil ?_
                  refine wpAnyX_one (i:=10) (by decide +kernel) rfl (fun K1 hK1 => ?_)
                  go_simp
                  refine hK1.out _ _ (fun _ => ?_) ?_
                  · refine ⟨?_,?_,?_⟩
                    · rw [← c0w];exact cell_eq (heap_alloc_old _ _ hps) _
                    · rw [← kf];exact cell_eq (heap_alloc_old _ _ hcb) _
                    · rw [← m1];exact cell_eq (heap_alloc_old _ _ hgs) _
                  refine wpAnyX_one (i:=11) (by decide +kernel) rfl (fun K2 hK2 => ?_)
                  refine step_append_moveN rfl (.tmp 72) (.tmp 82) 30 rfl q 3 i3 (.int .i64 0) 1 8 Tryz.underlying30 hi3 hz3 hs3 hb3 rfl (by decide) (.slice la2 ln2 lc2) ln2 (I64 (Ix (st' ++ nxs l o t))) (by simp [Act.eval,Act.put]) (hO _ ?_) ⟨wr.heap.size,0,none⟩ 1 1 [.int .i64 xu] (by simp [Act.eval,Act.put]) rfl (by decide) (lit1 (t:=3) (fr:=(0,0)) ?_) (by simp [Value.oneCell']) (by unfold maxLen;omega) (by omega) ?_ ?_
                  · exact ⟨rfl,rfl,rfl,by simp,fun b hb => heap_alloc_old _ _ hb⟩
                  · exact heap_alloc_new _ _
                  · simp;omega
                  intro v5 w5 ho5 hm5
                  obtain ⟨ya,yc,rfl,-,-⟩:=row_shape ho5
                  have h8:=HG.out _ _ _ (by exact ⟨rfl,rfl,rfl,by simp,fun b hb => heap_alloc_old _ _ hb⟩) hm5.frm ho5
                  have H8:=hid h8
                  have h8b:Below W0.heap.size W0 w5:=HW02.out.trans (h8.bw.mono hqz.out)
                  have y0:=(h8b.cell (p:=⟨p,0,none⟩) hpl).trans c0
                  refine hK2.out _ _ (fun _ => ⟨y0,(h8.ro.cellAt t (by omega)).trans ((HC6.out.ro.cellAt t (by omega)).symm.trans kf),(h8b.cell (p:=⟨g',of' + u * 5 + 1,none⟩) hg').trans ((HBWW.out.cell (p:=⟨g',of' + u * 5 + 1,none⟩) hg').symm.trans m1)⟩) ?_
                  have hq8:q < w5.heap.size:=h8.mt.lt
                  clear h8 h8b y0 ho5 hm5 hO HG
                  refine wpAnyX_one (i:=12) (by decide +kernel) rfl (fun K3 hK3 => ?_)
                  go_simp
                  refine hK3.out _ _ (fun h => absurd rfl h) ?_
                  refine ⟨by kernel_rfl,?_⟩
                  clear hK1 K1 hK2 K2 hK3 K3
                  go_wp2
                  have e5:nxs l o (t + 1) = nxs l o t ++ [xu.toNat]:=by
                    have h1:=HSU.out
                    rw [HRD.out] at h1
                    rw [h1]
                    simp [nxI,HXU.out]
                  refine ⟨⟨t + 1,ln2 + 1,_,_,by push_cast;rfl,rfl,by omega,by rw [e5,HL2.out];simp;omega,hq8,?_⟩,by simp [intOf];omega⟩
                  rw [e5,← List.append_assoc]
                  exact H8.out
                · have b10:decide (ou = 1) = false:=decide_eq_false e2
                  have b11:(ou == 1) = false:=by simp [e2]
                  have hrd:(pd l).rd u = false:=by simp [pd];rw [← HOU.out];exact e2
                  have HRD:=hid hrd
                  clear e2 hrd
                  go_upto_region 20 with fail
                  go_simp
                  go_big_quiet (fail)
                  go_wp2
                  have e5:nxs l o (t + 1) = nxs l o t:=by
                    have h1:=HSU.out
                    rw [HRD.out] at h1
                    simpa using h1
                  refine ⟨⟨t + 1,ln2,_,_,by push_cast;rfl,rfl,by omega,by rw [e5];exact HL2.out,hq6,?_⟩,by simp [intOf];omega⟩
                  rw [e5]
                  exact HC6.out.at_ (by omega) (Below.draws _ _ _)
              · have b5:decide ((t:Int) < (cn:Int)) = false:=by simp;omega
                have htc:t = o.length:=by have:=HCNN.out;omega
                have hnx:nxs l o t = (o.filter (pd l).rd).map (nxI l):=by unfold nxs;rw [htc,List.take_length]
                go_wp2
                have hVn:(V ++ [x]).Nodup:=List.nodup_append.2 ⟨HVN.out,by simp,fun a ha b hb e => by simp at hb;subst hb;exact hx (e ▸ ha)⟩
                have hVl:∀ z ∈ V ++ [x],z < n:=fun z hz => by
                  rcases List.mem_append.1 hz with hz | hz
                  · exact HVL.out z hz
                  · rw [List.mem_singleton.1 hz];exact hxn
                have hmk2:=HC6.out.mt.count hVn hVl
                have hrn:∀ j ∈ o,(pd l).rd j = true → nxI l j < n:=fun j hj hr => by
                  have h1:=rune_nx HF.out (i:=j) (by have:=HOL.out j hj;have:=HNL.out;omega) (by simpa [pd] using hr)
                  have:=HNL.out
                  show (at0 l j).x.toNat < n
                  omega
                have hmul:(V.length + 1) * n = V.length * n + n:=by rw [Nat.add_mul,Nat.one_mul]
                have hmm2:=HM2.out
                have hl2e:=HL2.out
                have hstep:=mul_step n V.length m (nxs l o t).length (by have:=nodup_lt hVn hVl;simp at this;omega) (by omega)
                refine ⟨⟨V ++ [x],st' ++ nxs l o t,ln2,_,_,rfl,by rw [List.length_append,List.length_singleton,hmul];omega,hq6,?_,hVn,hVl,?_,⟨HC6.out.mt,World.ownsRow_nil _ _ _ _,HC6.out.rl,fun b hb => (by cases hb),HC6.out.lq,HC6.out.bw⟩⟩,?_⟩
                · refine HDI.out.step (i:=x) (o:=o) (by simp) HPL.out HU.out (fun z => by simp) (fun z hz => ?_) (fun z hz => ?_) (fun j hj hr => ?_)
                  · simp at hz
                    rcases hz with hz | hz
                    · exact .inr (by simp [hz])
                    · exact .inl hz
                  · rcases List.mem_append.1 hz with hz | hz
                    · exact .inl (by simp [hz])
                    · rw [hnx] at hz
                      obtain ⟨j,hj,rfl⟩:=List.mem_map.1 hz
                      obtain ⟨h1,h2⟩:=List.mem_filter.1 hj
                      exact .inr ⟨j,h1,h2,rfl⟩
                  · refine List.mem_append_right _ ?_
                    rw [hnx]
                    exact List.mem_map.2 ⟨j,List.mem_filter.2 ⟨hj,hr⟩,rfl⟩
                · intro z hz
                  rcases List.mem_append.1 hz with hz | hz
                  · exact HSL.out z (by simp [hz])
                  · rw [hnx] at hz
                    obtain ⟨j,hj,rfl⟩:=List.mem_map.1 hz
                    obtain ⟨h1,h2⟩:=List.mem_filter.1 hj
                    exact hrn j h1 h2
                · rw [hmk2,HCN.out]
                  simp only [slLen,List.length_append,List.length_singleton]
                  omega
end Go.Proofs.YtjdbnoccdefnaaaGreat
