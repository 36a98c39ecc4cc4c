/- HELPERS: texts of ours put together. -/
import Derived.Test.YtjdbnoccdefnaaaGreatK33
namespace Go.Proofs.YtjdbnoccdefnaaaGreat
open Go.RowKit
set_option linter.unusedVariables false
set_option linter.unusedSimpArgs false
theorem own_pop {w:World} {bs e size n c:Nat} {z:Option Addr} {xs ys:List Value} (h:w.ownsRow bs e size (.slice z (n + 1) c) (n + 1) (xs ++ ys)) (hx:xs.length = n * size):w.ownsRow bs e size (.slice z n c) n xs:=by
  refine ⟨hx,?_⟩
  rcases h.2 with ⟨_,h0⟩ | ⟨g,cap,cur,e1,h1,h2,h3,h4,h5,h6⟩
  · omega
  · simp only [Value.slice.injEq] at e1
    obtain ⟨rfl,_,rfl⟩:=e1
    refine .inr ⟨g,c,cur,rfl,h1,h2,by omega,h4,h5,?_⟩
    have:(cur.toList.take ((n + 1) * size)).take (n * size) = (xs ++ ys).take (n * size):=by rw [h6]
    rw [List.take_take,Nat.min_eq_left (Nat.mul_le_mul_right _ (by omega)),← hx,List.take_left] at this
    rw [← hx]
    exact this
def MT (w:World) (b n:Nat) (out:List Nat):Prop:=∃ cs,w.heap[b]? = some (.cells cs 4 (0,0)) ∧ cs.size = n ∧ ∀ i,i < n → cs[i]? = some (.bool (decide (i ∈ out)))
theorem MT.kept {w w':World} {b n:Nat} {out:List Nat} (h:MT w b n out) (hk:w'.heap[b]? = w.heap[b]?):MT w' b n out:=by
  obtain ⟨cs,h1,h2,h3⟩:=h
  exact ⟨cs,hk.trans h1,h2,h3⟩
theorem MT.lt {w:World} {b n:Nat} {out:List Nat} (h:MT w b n out):b < w.heap.size:=by
  obtain ⟨cs,h1,h2,h3⟩:=h
  exact (Array.getElem?_eq_some_iff.1 h1).1
theorem MT.at_ {w:World} {b n i:Nat} {out:List Nat} (h:MT w b n out) (hi:i < n):w.cell? ⟨b,i,none⟩ = some (.bool (decide (i ∈ out))) ∧ w.frozen? ⟨b,i,none⟩ = false:=by
  obtain ⟨cs,h1,h2,h3⟩:=h
  exact ⟨(Joins.cell_of_block h1 i).trans (h3 i hi),Joins.unfrozen_of_block h1 i⟩
theorem MT.put {w:World} {b n i:Nat} {out:List Nat} (h:MT w b n out) (hi:i < n):MT (w.setCell ⟨b,i,none⟩ (.bool true)) b n (out ++ [i]):=by
  obtain ⟨cs,h1,h2,h3⟩:=h
  refine ⟨_,Joins.block_setCell (i:=i) h1 (.bool true),by simpa using h2,fun j hj => ?_⟩
  by_cases e:j = i
  · subst e
    rw [Array.getElem?_setIfInBounds_self,if_pos (by omega)]
    simp
  · rw [Array.getElem?_setIfInBounds_ne (by omega),h3 j hj]
    simp [e]
theorem zero4 (w:World):(zeroValue 4).run Tryz.prog w = .ok (.bool false) w:=by kernel_rfl
theorem info4:(Tryz.prog.info? 4).map (fun i => (i.zero,i.size,i.bytes)) = some (some (.bool false),1,1):=by kernel_rfl
theorem MT.made {w:World} {n:Nat}:MT (w.alloc (.cells (madeCells #[.bool false] n) 4)) w.heap.size n []:=by
  refine ⟨_,heap_alloc_new w _,by rw [size_madeCells] <;> simp,fun i hi => ?_⟩
  rw [← Array.getElem?_toList,toList_madeCells_one]
  simp [hi]
def slLen:Value → Nat
  | .slice _ n _ => n
  | _ => 0
theorem nodup_lt {n:Nat} {l:List Nat} (hn:l.Nodup) (h:∀ x ∈ l,x < n):l.length ≤ n:=by
  have:=nodup_len n (Ix l) (Ix_nodup.2 hn) (fun x hx => by
    obtain ⟨i,hi,rfl⟩:=List.mem_map.1 hx
    have:=h i hi
    omega)
  simpa [Ix] using this
theorem lit2 {w:World} {b t:Nat} {x y:Value} {fr:Nat × Nat} (h:w.heap[b]? = some (.cells #[x,y] t fr)):∀ j u,[x,y][j]? = some u → w.cell? ((⟨b,0,none⟩:Addr).add j) = some u:=fun j u hj => by
  match j,hj with
  | 0,hj => simp at hj;subst hj;exact Joins.cell_of_block h 0
  | 1,hj => simp at hj;subst hj;exact Joins.cell_of_block h 1
structure CS (B q n:Nat) (w0 w:World) (mo out st:List Nat) (vo vl:Value) (on ln:Nat):Prop where
  mt:MT w q n mo
  ro:w.ownsRow B 3 1 vo on (I64 (Ix out))
  rl:w.ownsRow B 3 1 vl ln (I64 (Ix st))
  oq:∀ b,vo.ownBlock = some b → b ≠ q ∧ vl.ownBlock ≠ some b
  lq:vl.ownBlock ≠ some q
  bw:Below B w0 w
theorem CS.at_ {B q n:Nat} {w0 w W:World} {mo out st:List Nat} {vo vl:Value} {on ln:Nat} (h:CS B q n w0 w mo out st vo vl on ln) (hB:B ≤ w.heap.size) (hW:Below w.heap.size w W):CS B q n w0 W mo out st vo vl on ln:=
  ⟨h.mt.kept (hW.block q h.mt.lt),row_kept h.ro fun b hb => hW.block b (h.ro.lt b hb).2,row_kept h.rl fun b hb => hW.block b (h.rl.lt b hb).2,h.oq,h.lq,h.bw.trans (hW.mono hB)⟩
theorem CS.grow_out {B q n:Nat} {w0 w w':World} {mo out st:List Nat} {vo vl vo':Value} {on ln:Nat} {x:Nat} (h:CS B q n w0 w mo out st vo vl on ln) (hB:B ≤ w.heap.size) (hf:Frm w w' vo vo') (hr:w'.ownsRow B 3 1 vo' (on + 1) (I64 (Ix out) ++ [.int .i64 (x:Int)])):CS B q n w0 w' mo (out ++ [x]) st vo' vl (on + 1) ln:=by
  refine ⟨h.mt.kept (hf.block q h.mt.lt fun e => (h.oq q e).1 rfl),by simpa [I64,Ix] using hr,row_kept h.rl fun b hb => hf.block b (h.rl.lt b hb).2 fun e => (h.oq b e).2 hb,fun b hb => ?_,h.lq,h.bw.trans ⟨hf.os,hf.tape,hf.output,hf.size,fun b hb => hf.block b (by omega) fun e => by have:=(h.ro.lt b e).1;omega⟩⟩
  rcases hf.own b hb with h1 | rfl
  · exact h.oq b h1
  · exact ⟨fun e => by have:=h.mt.lt;omega,fun e => by have:=(h.rl.lt _ e).2;omega⟩
theorem CS.grow_st {B q n:Nat} {w0 w w':World} {mo out st:List Nat} {vo vl vl':Value} {on ln t:Nat} {xs:List Nat} (h:CS B q n w0 w mo out st vo vl on ln) (hB:B ≤ w.heap.size) (hf:Frm w w' vl vl') (hr:w'.ownsRow B 3 1 vl' t (I64 (Ix st) ++ I64 (Ix xs))):CS B q n w0 w' mo out (st ++ xs) vo vl' on t:=by
  refine ⟨h.mt.kept (hf.block q h.mt.lt h.lq),row_kept h.ro fun b hb => hf.block b (h.ro.lt b hb).2 fun e => (h.oq b hb).2 e,by simpa [I64,Ix] using hr,fun b hb => ⟨(h.oq b hb).1,fun e => ?_⟩,fun e => ?_,h.bw.trans ⟨hf.os,hf.tape,hf.output,hf.size,fun b hb => hf.block b (by omega) fun e => by have:=(h.rl.lt b e).1;omega⟩⟩
  · rcases hf.own b e with h1 | rfl
    · exact (h.oq b hb).2 h1
    · have:=(h.ro.lt _ hb).2;omega
  · rcases hf.own q e with h1 | h1
    · exact h.lq h1
    · have:=h.mt.lt;omega
def CloPost (l:List In) (w:World) (i:Nat) (e:Ending) (w':World):Prop:=
  ∃ v b,e = .returned (.tuple #[v,.bool b]) ∧ Below w.heap.size w w' ∧ (b = true → ∃ o,Us (pd l).eps [i] o ∧ o.Nodup ∧ w'.ownsRow w.heap.size 3 1 v o.length (I64 (Ix o))) ∧ (b = false → ∀ o,Us (pd l).eps [i] o → ¬ o.Nodup)
variable {l:List In} {k:Int}
set_option maxRecDepth 100000 in
set_option maxHeartbeats 8000000 in
theorem closure20 {w:World} {ad:Option Addr} {n c i:Nat} {s k:Int} (hP:PI w w.heap.size ad n l) (hF:∀ I ∈ l,Fit (l.length:Int) k I) (hn:n ≤ 20000) (hi:i < n) :
    Calls Tryz.prog 20 #[pv ad n c s k,.int .i64 (i:Int)] w (CloPost l w i):=by
  obtain ⟨g,of,ND,had,hgl,-⟩:=hP.mem (by omega)
  obtain ⟨p,hp⟩:∃ p,p = w.heap.size:=⟨_,rfl⟩
  obtain ⟨W0,hW0⟩:∃ W0,W0 = w.alloc (.cells #[.slice ad n c,.int .i64 s,.int .i64 k] 24):=⟨_,rfl⟩
  have hbx:W0.heap[p]? = some (.cells #[.slice ad n c,.int .i64 s,.int .i64 k] 24 (0,0)):=by rw [hW0,hp];exact heap_alloc_new w _
  have hz0:W0.heap.size = p + 1:=by rw [hW0,hp];simp
  have hB0:Below p w W0:=by rw [hW0,hp];exact Joins.below_alloc1 w _
  have hP0:PI W0 W0.heap.size ad n l:=hP.kept (by rw [← hp];exact hB0) (by omega)
  have c0:W0.cell? ⟨p,0,none⟩ = some (.slice ad n c):=Joins.cell_of_block hbx 0
  obtain ⟨q,hq⟩:∃ q,q = W0.heap.size:=⟨_,rfl⟩
  obtain ⟨W1,hW1⟩:∃ W1,W1 = W0.alloc (.cells (madeCells #[.bool false] n) 4):=⟨_,rfl⟩
  have hM1:MT W1 q n []:=by rw [hW1,hq];exact MT.made
  have hz1:W1.heap.size = q + 1:=by rw [hW1,hq];simp
  obtain ⟨r,hr⟩:∃ r,r = W1.heap.size:=⟨_,rfl⟩
  obtain ⟨W2,hW2⟩:∃ W2,W2 = W1.alloc (.cells #[.int .i64 (i:Int)] 3):=⟨_,rfl⟩
  have hz2:W2.heap.size = r + 1:=by rw [hW2,hr];simp
  have hM2:MT W2 q n []:=hM1.kept (by rw [hW2];exact heap_alloc_old _ _ (by omega))
  have hR2:W2.ownsRow q 3 1 (.slice (some ⟨r,0,none⟩) 1 1) 1 (I64 (Ix [i])):=by
    rw [hW2,hr]
    have:=World.ownsRow_lit (base:=q) (e:=3) (size:=1) W1 #[.int .i64 (i:Int)] 1 (by omega) (by unfold maxLen;omega) (by simp)
    simpa [I64,Ix] using this
  have hB2:Below q W0 W2:=by
    rw [hW2,hW1,hq]
    exact ((Below.refl _ _).alloc (Nat.le_refl _) _).alloc (by simp) _
  have hmk:=run_make_row' (P:=Tryz.prog) 45 4 (.bool false) 1 Tryz.underlying45 info4 rfl .i64 .i64 n (by omega) (by omega)
  have HB0:=hid hB0
  have HP0:=hid hP0
  have HPE:=hid hp
  have HQE:=hid hq
  have HAD:=hid had
  have HM2:=hid hM2
  have HR2:=hid hR2
  have HB2:=hid hB2
  have hql:q < r:=by omega
  have hpq:p < q:=by omega
  clear hbx hB0 hP0 hP hM1 hM2 hR2 hB2 had hgl
  go_enter Tryz.func20,Tryz.ntmps20
  go_upto_region 4 with fail
  have hr3:r = w.heap.size + 1 + 1:=by omega
  have hq3:q = w.heap.size + 1:=by omega
  rw [← hW0,← hW1,← hW2]
  rw [← hr3,← hq3,← hp]
  clear hW0 hp hW1 hq hW2 hr hmk hr3 hq3
  go_loopw [7,8] (fun vo vl wq => ∃ (out st:List Nat) (on ln:Nat) (oa la:Option Addr) (oc lc:Nat),vo = .slice oa on oc ∧ vl = .slice la ln lc ∧ on = out.length ∧ ln = st.length ∧ ln ≤ on + 1 ∧ Hid (StK (pd l).eps i out st) ∧ Hid (∀ x ∈ st,x < n) ∧ Hid (∀ x ∈ out,x < n) ∧ Hid (CS W0.heap.size q n W0 wq out out st (.slice oa on oc) (.slice la ln lc) on ln)) (fun vo _ _ => n - slLen vo)
  case atStart => exact ⟨[],[i],0,1,none,some ⟨r,0,none⟩,0,1,rfl,rfl,rfl,rfl,by omega,.start i,fun x hx => by simp at hx;omega,fun x hx => (by cases hx),⟨HM2.out,World.ownsRow_nil _ _ _ _,by rw [← HQE.out];exact HR2.out,fun b hb => (by cases hb),(fun e => by simp [Value.ownBlock] at e;omega),by rw [← HQE.out];exact HB2.out⟩⟩
  case round =>
    obtain ⟨out,st,on,ln,oa,la,oc,lc,rfl,rfl,hon,hln,hlo,HST,HSL,HOL,HCS⟩:=hrel
    have HMT:=hid HCS.out.mt
    have HRO:=hid HCS.out.ro
    have HRL:=hid HCS.out.rl
    have HAP:=hid HCS.out.oq
    have HLQ:=hid HCS.out.lq
    have HBW:=hid HCS.out.bw
    clear HM2 HR2 HB2
    have c0r:wr.cell? ⟨p,0,none⟩ = some (.slice ad n c):=(HBW.out.cell (p:=⟨p,0,none⟩) (by have:=HQE.out;show p < _;omega)).trans c0
    have HON:=hid hon
    have HLN:=hid hln
    clear hon hln
    by_cases h0:ln = 0
    · subst h0
      have hst:st = []:=List.length_eq_zero_iff.1 HLN.out.symm
      go_wp2
      refine bodyPost_ret (results_tmp2 rfl _ _ _) rfl ?_
      have h1:=HST.out
      rw [hst] at h1
      obtain ⟨h2,h3⟩:=h1.done
      exact ⟨_,true,rfl,by rw [← HPE.out];exact HB0.out.trans (HBW.out.mono (by omega)),fun _ => ⟨out,h2,h3,by rw [← HPE.out,← HON.out];exact Joins.ownsRow_le HRO.out (by omega)⟩,fun h => (by cases h)⟩
    · obtain ⟨m,hm⟩:∃ m,ln = m + 1:=⟨ln - 1,by omega⟩
      have b1:decide ((ln:Int) > 0) = true:=by simp;omega
      have b2:(0:Int) < (ln:Int):=by omega
      have b3:decide ((0:Int) < (ln:Int)) = true:=by simp;omega
      have hlc:m ≤ lc ∧ lc ≤ maxLen:=by
        obtain ⟨a',c',e,h1,h2⟩:=row_shape HRL.out
        simp only [Value.slice.injEq] at e
        obtain ⟨-,-,rfl⟩:=e
        omega
      obtain ⟨st',x,hst⟩:∃ st' x,st = st' ++ [x]:=by
        have:st ≠ []:=fun e => by have:=HLN.out;rw [e] at this;simp at this;omega
        exact ⟨st.dropLast,st.getLast this,(List.dropLast_concat_getLast this).symm⟩
      subst hst
      have hml:st'.length = m:=by have:=HLN.out;simp at this;omega
      obtain ⟨lb,rfl,kf⟩:∃ lb,la = some ⟨lb,0,none⟩ ∧ wr.cell? ⟨lb,m,none⟩ = some (.int .i64 (x:Int)):=by
        have hrw:=HRL.out
        rcases hrw.2 with ⟨e,_⟩ | ⟨g',cap,cur,e,_⟩
        · simp only [Value.slice.injEq] at e;omega
        · simp only [Value.slice.injEq] at e
          obtain ⟨rfl,-,rfl⟩:=e
          refine ⟨g',rfl,?_⟩
          rw [hrw.cellAt m (by omega)]
          simp [I64,Ix,← hml]
      have hxn:x < n:=HSL.out x (by simp)
      have ws:IntKind.i64.wrap ((ln:Int) - 1) = (m:Int):=by simp [IntKind.wrap,IntKind.bits,IntKind.signed];unfold maxLen at hlc;omega
      have b4:(m:Int) < (ln:Int):=by omega
      have hlp:wr.ownsRow W0.heap.size 3 1 (.slice (some ⟨lb,0,none⟩) m lc) m (I64 (Ix st')):=by
        have h1:=HRL.out
        rw [hm] at h1
        exact own_pop (ys:=[.int .i64 (x:Int)]) (by simpa [I64,Ix] using h1) (by simp [I64,Ix,hml])
      have HLP:=hid hlp
      have HML:=hid hml
      have HM:=hid hm
      obtain ⟨k7,f7⟩:=HMT.out.at_ hxn
      clear hlp hml hm HRL
      by_cases hx:x ∈ out
      · rw [decide_eq_true hx] at k7
        go_wp2
        refine bodyPost_ret (results_tmp2 rfl _ _ _) rfl ?_
        exact ⟨_,false,rfl,by rw [← HPE.out];exact HB0.out.trans (HBW.out.mono (by omega)),fun h => (by cases h),fun _ => HST.out.twice hx⟩
      · rw [decide_eq_false hx] at k7
        go_upto_region 10 with fail
        obtain ⟨W3,hW3⟩:∃ W3,W3 = wr.setCell ⟨q,x,none⟩ (.bool true):=⟨_,rfl⟩
        have hM3:MT W3 q n (out ++ [x]):=by rw [hW3];exact HMT.out.put hxn
        have hB3:Below W0.heap.size W0 W3:=by rw [hW3];exact HBW.out.setCell (p:=⟨q,x,none⟩) (by rw [← HQE.out];exact Nat.le_refl _) _
        have ho3:∀ b,b ≠ q → W3.heap[b]? = wr.heap[b]?:=fun b hb => by rw [hW3];exact heap_setCell_other _ _ _ _ hb
        have hz3:W3.heap.size = wr.heap.size:=by rw [hW3];simp
        have hRO3:W3.ownsRow W0.heap.size 3 1 (.slice oa on oc) on (I64 (Ix out)):=row_kept HRO.out fun b hb => ho3 b (HAP.out b hb).1
        have hRL3:W3.ownsRow W0.heap.size 3 1 (.slice (some ⟨lb,0,none⟩) m lc) m (I64 (Ix st')):=row_kept HLP.out fun b hb => ho3 b (fun e => HLQ.out (e ▸ hb))
        have hstep:=HST.out.step hx
        have hout:(out ++ [x]).length ≤ n:=nodup_lt hstep.nd (fun y hy => by
          rcases List.mem_append.1 hy with hy | hy
          · exact HOL.out y hy
          · rw [List.mem_singleton.1 hy];exact hxn)
        have hon1:on + 1 ≤ n:=by have:=HON.out;simp at hout;omega
        have hC3:CS W0.heap.size q n W0 W3 (out ++ [x]) out st' (.slice oa on oc) (.slice (some ⟨lb,0,none⟩) m lc) on m:=⟨hM3,hRO3,hRL3,HAP.out,HLQ.out,hB3⟩
        have HC3:=hid hC3
        have HSTP:=hid hstep
        have hWz:W0.heap.size ≤ W3.heap.size:=hB3.size
        rw [← hW3]
        clear hW3 hM3 hB3 ho3 hRO3 hRL3 hstep hout hz3 k7 f7 kf c0r hC3 HCS HMT HRO HAP HLQ HBW HLP
        go_upto_region 11 with (at_builtin;refine wpList_append_one rfl (.tmp 38) (.tmp 40) 30 rfl W0.heap.size 3 (.int .i64 0) 8 Tryz.underlying30 info3 rfl (.slice oa on oc) (.int .i64 (x:Int)) on 1 (I64 (Ix out)) rfl HC3.out.ro W3.heap.size rfl rfl rfl (by unfold maxLen;omega) (by omega) hWz ?_;intro v5 w5 ho5 hm5;obtain ⟨ya,yc,rfl,-,-⟩:=row_shape ho5.out)
        have hC4:=(HC3.out.at_ hWz ((Below.refl _ _).alloc (Nat.le_refl _) (.cells #[.int .i64 (x:Int)] 3)))
        have hC5:=hC4.grow_out (by simp;omega) hm5.out.frm ho5.out
        have hz5:W0.heap.size ≤ w5.heap.size:=hC5.bw.size
        have c05:w5.cell? ⟨p,0,none⟩ = some (.slice ad n c):=(hC5.bw.cell (p:=⟨p,0,none⟩) (by show p < _;omega)).trans c0
        obtain ⟨g',of',ND',had',hg',hcs⟩:=(HP0.out.kept hC5.bw hz5).mem (by omega)
        have hlen:x < l.length:=by have:=HP0.out.len;omega
        obtain ⟨hI5,hIM⟩:=hcs x hlen
        obtain ⟨M,hM⟩:∃ M,M = ND' x:=⟨_,rfl⟩
        rw [← hM] at hI5 hIM
        obtain ⟨m0,m1,m2,m3,m4⟩:=hI5
        subst had'
        have HC5:=hid hC5
        have HIM:=hid hIM
        clear hC4 hC5 ho5 hm5 hcs hM hIM hg'
        go_upto_region 12 with fail
        obtain ⟨y,hy⟩:∃ y,y = w5.heap.size:=⟨_,rfl⟩
        obtain ⟨W6,hW6⟩:∃ W6,W6 = w5.alloc (.cells #[.int .i64 M.op,.int .i64 M.x,.int .i64 M.y,.int .i64 M.a,.slice M.r1 M.r2 M.r3] 43):=⟨_,rfl⟩
        have hb6:W6.heap[y]? = some (.cells #[.int .i64 M.op,.int .i64 M.x,.int .i64 M.y,.int .i64 M.a,.slice M.r1 M.r2 M.r3] 43 (0,0)):=by rw [hW6,hy];exact heap_alloc_new w5 _
        have k0:W6.cell? ⟨y,0,none⟩ = some (.int .i64 M.op):=Joins.cell_of_block hb6 0
        have k1:W6.cell? ⟨y,1,none⟩ = some (.int .i64 M.x):=Joins.cell_of_block hb6 1
        have k2:W6.cell? ⟨y,2,none⟩ = some (.int .i64 M.y):=Joins.cell_of_block hb6 2
        have hC6:CS W0.heap.size q n W0 W6 (out ++ [x]) (out ++ [x]) st' (.slice ya (on + 1) yc) (.slice (some ⟨lb,0,none⟩) m lc) (on + 1) m:=by rw [hW6];exact HC5.out.at_ hz5 (Joins.below_alloc1 w5 _)
        have hz6:W0.heap.size ≤ W6.heap.size:=hC6.bw.size
        rw [← hW6,← hy]
        clear hW6 hy hb6 m0 m1 m2 m3 m4 c05 HC5 hz5
        have HC6:=hid hC6
        have hf:=hF _ (List.getElem_mem hlen)
        have eo:=HIM.out.op
        have ex:=HIM.out.x
        have ey:=HIM.out.y
        have hat:=at0_lt hlen
        have hep:(pd l).eps x = l[x].eps:=by show (at0 l x).eps = _;rw [hat]
        obtain ⟨I,hI⟩:∃ I,I = l[x]:=⟨_,rfl⟩
        rw [← hI] at hf eo ex ey hep
        have hmn:m + 2 ≤ 40000:=by have:=HM.out;omega
        have hnl:n = l.length:=HP0.out.len
        rw [← hnl] at hf
        have HST':Hid (∀ z ∈ st',z < n):=fun z hz => HSL.out z (by simp [hz])
        have HOL':Hid (∀ z ∈ out ++ [x],z < n):=fun z hz => by
          rcases List.mem_append.1 hz with hz | hz
          · exact HOL.out z hz
          · rw [List.mem_singleton.1 hz];exact hxn
        have HLM:=hid hlo
        have hom:=HM.out
        have HEP:=hid hep
        clear hC6 hI hat hep hnl HIM HSL HOL HST
        cases hf
        all_goals dsimp only at eo ex ey
        all_goals rw [eo] at k0
        all_goals rw [ex] at k1
        all_goals rw [ey] at k2
        all_goals clear eo ex ey
        case alt x1 y1 e1 e2 e3 e4 =>
          have he:(pd l).eps x = [x1.toNat,y1.toNat]:=by rw [HEP.out];simp [In.eps]
          have HE:=hid he
          clear he HEP
          obtain ⟨i3,hi3,hz3,hs3,hb3⟩:=iparts info3
          have hc6:=HC6.out.at_ hz6 (Joins.below_alloc1 W6 (.cells #[.int .i64 y1,.int .i64 x1] 3))
          have HC7:=hid hc6
          clear hc6
          go_wp2_with (first
            | (at_builtin;refine wpList_append_move rfl (.tmp 51) (.tmp 56) 30 rfl W0.heap.size 3 i3 (.int .i64 0) 8 Tryz.underlying30 hi3 hz3 hs3 hb3 rfl (.slice (some ⟨lb,0,none⟩) m lc) m (I64 (Ix st')) rfl HC7.out.rl ⟨W6.heap.size,0,none⟩ 2 2 [.int .i64 y1,.int .i64 x1] rfl rfl (by omega) (lit2 (heap_alloc_new W6 _)) (by simp [Value.oneCell']) (by unfold maxLen;omega) (by omega) (by simp;omega) ?_;intro v8 w8 ho8 hm8;obtain ⟨za,zc,rfl,-,-⟩:=row_shape ho8.out)
            | go_in)
          have hc8:=HC7.out.grow_st (xs:=[y1.toNat,x1.toNat]) (by simp;omega) hm8.out.frm (by have h1:=ho8.out;simpa [I64,Ix,show ((y1.toNat:Nat):Int) = y1 by omega,show ((x1.toNat:Nat):Int) = x1 by omega] using h1)
          refine ⟨⟨out ++ [x],st' ++ [y1.toNat,x1.toNat],on + 1,m + 2,_,_,_,_,rfl,rfl,by have:=HON.out;simp;omega,by simp [HML.out],by omega,?_,?_,HOL'.out,hc8⟩,by simp [slLen];omega⟩
          · have h1:=HSTP.out
            rw [HE.out] at h1
            exact h1
          · intro z hz
            rcases List.mem_append.1 hz with hz | hz
            · exact HST'.out z hz
            · simp at hz;omega
        case cap x1 a1 e1 e2 e3 e4 =>
          have he:(pd l).eps x = [x1.toNat]:=by rw [HEP.out];simp [In.eps]
          have HE:=hid he
          clear he HEP
          go_wp2_with (first
            | (at_builtin;refine wpList_append_one rfl (.tmp 62) (.tmp 65) 30 rfl W0.heap.size 3 (.int .i64 0) 8 Tryz.underlying30 info3 rfl (.slice (some ⟨lb,0,none⟩) m lc) (.int .i64 x1) m 1 (I64 (Ix st')) rfl HC6.out.rl W6.heap.size rfl rfl rfl (by unfold maxLen;omega) (by omega) hz6 ?_;intro v8 w8 ho8 hm8;obtain ⟨za,zc,rfl,-,-⟩:=row_shape ho8.out)
            | go_in)
          have hc7:=HC6.out.at_ hz6 (Joins.below_alloc1 W6 (.cells #[.int .i64 x1] 3))
          have hc8:=hc7.grow_st (xs:=[x1.toNat]) (by simp;omega) hm8.out.frm (by have h1:=ho8.out;simpa [I64,Ix,show ((x1.toNat:Nat):Int) = x1 by omega] using h1)
          refine ⟨⟨out ++ [x],st' ++ [x1.toNat],on + 1,m + 1,_,_,_,_,rfl,rfl,by have:=HON.out;simp;omega,by simp [HML.out],by omega,?_,?_,HOL'.out,hc8⟩,by simp [slLen];omega⟩
          · have h1:=HSTP.out
            rw [HE.out] at h1
            exact h1
          · intro z hz
            rcases List.mem_append.1 hz with hz | hz
            · exact HST'.out z hz
            · simp at hz;omega
        case assert x1 a1 e1 e2 e3 e4 =>
          have he:(pd l).eps x = [x1.toNat]:=by rw [HEP.out];simp [In.eps]
          have HE:=hid he
          clear he HEP
          go_wp2_with (first
            | (at_builtin;refine wpList_append_one rfl (.tmp 62) (.tmp 65) 30 rfl W0.heap.size 3 (.int .i64 0) 8 Tryz.underlying30 info3 rfl (.slice (some ⟨lb,0,none⟩) m lc) (.int .i64 x1) m 1 (I64 (Ix st')) rfl HC6.out.rl W6.heap.size rfl rfl rfl (by unfold maxLen;omega) (by omega) hz6 ?_;intro v8 w8 ho8 hm8;obtain ⟨za,zc,rfl,-,-⟩:=row_shape ho8.out)
            | go_in)
          have hc7:=HC6.out.at_ hz6 (Joins.below_alloc1 W6 (.cells #[.int .i64 x1] 3))
          have hc8:=hc7.grow_st (xs:=[x1.toNat]) (by simp;omega) hm8.out.frm (by have h1:=ho8.out;simpa [I64,Ix,show ((x1.toNat:Nat):Int) = x1 by omega] using h1)
          refine ⟨⟨out ++ [x],st' ++ [x1.toNat],on + 1,m + 1,_,_,_,_,rfl,rfl,by have:=HON.out;simp;omega,by simp [HML.out],by omega,?_,?_,HOL'.out,hc8⟩,by simp [slLen];omega⟩
          · have h1:=HSTP.out
            rw [HE.out] at h1
            exact h1
          · intro z hz
            rcases List.mem_append.1 hz with hz | hz
            · exact HST'.out z hz
            · simp at hz;omega
        case nop x1 e1 e2 =>
          have he:(pd l).eps x = [x1.toNat]:=by rw [HEP.out];simp [In.eps]
          have HE:=hid he
          clear he HEP
          go_wp2_with (first
            | (at_builtin;refine wpList_append_one rfl (.tmp 62) (.tmp 65) 30 rfl W0.heap.size 3 (.int .i64 0) 8 Tryz.underlying30 info3 rfl (.slice (some ⟨lb,0,none⟩) m lc) (.int .i64 x1) m 1 (I64 (Ix st')) rfl HC6.out.rl W6.heap.size rfl rfl rfl (by unfold maxLen;omega) (by omega) hz6 ?_;intro v8 w8 ho8 hm8;obtain ⟨za,zc,rfl,-,-⟩:=row_shape ho8.out)
            | go_in)
          have hc7:=HC6.out.at_ hz6 (Joins.below_alloc1 W6 (.cells #[.int .i64 x1] 3))
          have hc8:=hc7.grow_st (xs:=[x1.toNat]) (by simp;omega) hm8.out.frm (by have h1:=ho8.out;simpa [I64,Ix,show ((x1.toNat:Nat):Int) = x1 by omega] using h1)
          refine ⟨⟨out ++ [x],st' ++ [x1.toNat],on + 1,m + 1,_,_,_,_,rfl,rfl,by have:=HON.out;simp;omega,by simp [HML.out],by omega,?_,?_,HOL'.out,hc8⟩,by simp [slLen];omega⟩
          · have h1:=HSTP.out
            rw [HE.out] at h1
            exact h1
          · intro z hz
            rcases List.mem_append.1 hz with hz | hz
            · exact HST'.out z hz
            · simp at hz;omega
        all_goals
          have he:(pd l).eps x = []:=by rw [HEP.out];simp [In.eps]
          have HE:=hid he
          clear he HEP
          go_wp2
          refine ⟨⟨out ++ [x],st',on + 1,m,_,_,_,_,rfl,rfl,by have:=HON.out;simp;omega,by simp [HML.out],by omega,?_,HST'.out,HOL'.out,HC6.out⟩,by simp [slLen];omega⟩
          have h1:=HSTP.out
          rw [HE.out,List.reverse_nil,List.append_nil] at h1
          exact h1
end Go.Proofs.YtjdbnoccdefnaaaGreat
