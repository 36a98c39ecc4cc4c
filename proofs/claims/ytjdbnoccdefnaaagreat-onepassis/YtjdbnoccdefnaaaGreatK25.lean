/- HELPERS: texts of ours put together. -/
import Derived.Test.YtjdbnoccdefnaaaGreatK24
namespace Go.Proofs.YtjdbnoccdefnaaaGreat
open Go.RowKit
set_option linter.unusedVariables false
set_option linter.unusedSimpArgs false
variable {N:Nat} {w:World} {sb o:Nat} {A:Array Value} {n g of:Nat} {l:List In} {k:Int}
  {S2:List Int} {R2:List Nat} {G2:List (Int × Int)} {m2:Nat} {D2:List Int} {mg2:Nat} {Fm2:List Nat} {vr2 vg2 vd2:Value}
theorem own_ints {N:Nat} {w:World} {ad:Option Addr} {n c:Nat} {L:List Int} (h:w.ownsRow N 3 1 (.slice ad n c) n (I64 L)):IntAt w (.slice ad n c) L ∧ n = L.length:=by
  have hl:n = L.length:=by have:=h.1;simp [I64] at this;omega
  refine ⟨⟨ad,c,by rw [hl],?_⟩,hl⟩
  by_cases h0:L.length = 0
  · exact .inl h0
  rcases h.2 with ⟨e,_⟩ | ⟨g',cap,cur,e,hb,hg,_⟩
  · simp only [Value.slice.injEq] at e;omega
  · simp only [Value.slice.injEq] at e
    obtain ⟨rfl,-,rfl⟩:=e
    refine .inr ⟨g',0,rfl,fun i hi => ?_⟩
    have:=h.cellAt i (by omega)
    rw [Nat.zero_add,this]
    simp [I64,List.getElem?_eq_getElem hi]
theorem Ix_inj:∀ {a b:List Nat},Ix a = Ix b → a = b
  | [],[],_ => rfl
  | [],_ :: _,h => by simp [Ix] at h
  | _ :: _,[],h => by simp [Ix] at h
  | x :: a,y :: b,h => by
    simp only [Ix,List.map_cons,List.cons.injEq] at h
    rw [Ix_inj (a:=a) (b:=b) h.2,show x = y by omega]
def FPost (N:Nat) (w:World) (sb:Nat) (A:Array Value) (iv:Value) (n g of:Nat) (mg2:Nat) (Fm2:List Nat) (vr2 vg2 vd2:Value) (l:List In) (dd:List Nat) (e:Ending) (w':World):Prop:=
  ∃ b A' S' R' G' m' D' Fm' vr' vg' vd',e = .returned (.bool b) ∧ CV N w' sb 8 A' iv n g of S' R' G' m' D' mg2 Fm' vr' vg' vd' ∧ Rest A A' 8 ∧ Chg w w' (FC sb Fm2 vr2 vg2 vd2) (FC sb Fm' vr' vg' vd') ∧
    (b = true → ∃ q,Us (pd l).eps dd q ∧ Gat l q S' R' G' m') ∧ (b = false → ∀ q,Us (pd l).eps dd q → ¬ (q.Nodup ∧ (pd l).PL q))
theorem gatherFar {ad da:Option Addr} {c dn dc:Nat} {dd:List Nat} {V w7:World} {gN n0:Nat} {FN:List Nat} (hF:∀ I ∈ l,Fit (l.length:Int) k I) (hn2:n ≤ 20000) (hN:N ≤ w.heap.size)
    (hC2:CV N w sb 8 A (.slice ad n c) n g of S2 R2 G2 m2 D2 mg2 Fm2 vr2 vg2 vd2) (hP:PI w N ad n l) (hat:0 < n → ad = some ⟨g,of,none⟩)
    (hd:w.ownsRow N 3 1 (.slice da dn dc) dn (I64 (Ix dd))) (hdd:∀ b,(Value.slice da dn dc).ownBlock = some b → b ∉ FC sb Fm2 vr2 vg2 vd2) (hd0:0 < dn) (hdl:dn ≤ 900000) (hdn:∀ i ∈ dd,i < n)
    (hV:Below w.heap.size w V) (hS:SetS V.heap.size w7 gN FN n0 []) (h7:Below V.heap.size V w7) :
    Calls Tryz.prog 71 #[.pointer (some ⟨sb,8,none⟩),.slice da dn dc,.pointer (some ⟨gN,0,none⟩)] w7 (FPost N w sb A (.slice ad n c) n g of mg2 Fm2 vr2 vg2 vd2 l dd):=by
  have hB:Below w.heap.size w w7:=hV.trans (h7.mono hV.size)
  have hBN:Below N w w7:=hB.mono hN
  have hC7:=hC2.kept (w':=w7) (fun b hb => hB.block b (hC2.low b hb).2)
  have hd7:w7.ownsRow N 3 1 (.slice da dn dc) dn (I64 (Ix dd)):=row_kept hd (fun b hb => hB.block b (hd.lt b hb).2)
  have hl:dn = dd.length:=by have:=(own_ints hd).2;simpa [Ix] using this
  have hlow:∀ b ∈ FN,b ∉ FC sb Fm2 vr2 vg2 vd2:=fun b hb hm => by
    have h1:=(hS.low b hb).1
    have h2:=(hC2.low b hm).2
    have:=hV.size
    omega
  have hE:CE N w7 ad n g of l gN FN n0 []:=⟨hP.kept hBN (Nat.le_refl _),hat,hS.mono (Nat.le_trans hN hV.size),hn2⟩
  have hG:=gather71 (k:=k) (fn:=dn) (fc:=dc) (fa:=da) (Kl:=[]) (Fr:=dd) hF (fun i hi => by cases hi) hC7 hE hlow (Nat.le_trans hN hB.size) hl (fun _ => by
    rcases hd.2 with ⟨e,_⟩ | ⟨g',cap,cur,e,hb,hg,_⟩
    · simp only [Value.slice.injEq] at e;omega
    · simp only [Value.slice.injEq] at e
      obtain ⟨rfl,-,rfl⟩:=e
      refine ⟨g',0,rfl,(hd7.lt g' rfl).2,hdd g' rfl,fun j hj => ?_⟩
      have:=hd7.cellAt j (by omega)
      rw [Nat.zero_add,this]
      simp [I64,Ix,List.getElem?_eq_getElem hj]) hdn hdl
  refine hG.mono ?_
  rintro e w' ⟨b,A',S',R',G',m',D',Fm',vr',vg',vd',rfl,h1,h2,h3,h4,h5⟩
  refine ⟨b,A',S',R',G',m',D',Fm',vr',vg',vd',rfl,h1,h2,⟨h3.os.trans hB.os,h3.tape.trans hB.tape,h3.output.trans hB.output,Nat.le_trans hB.size h3.size,fun b hb hn => (h3.block b (Nat.lt_of_lt_of_le hb hB.size) hn).trans (hB.block b hb),fun b hb => (h3.new b hb).imp id (fun h => Nat.le_trans hB.size h)⟩,fun hb => ?_,fun hb q hq => h5 hb q [] (hq.uk (fun i hi => by cases hi))⟩
  obtain ⟨q,d,u1,u2,u3,u4,u5,u6,u7,u8,u9,u10⟩:=h4 hb
  obtain ⟨v1,-⟩:=u1.none (fun i hi => by cases hi)
  have hlt:=(u1.lt (N:=n) (by rw [hP.len];exact eps_lt hF) hdn).1
  exact ⟨q,v1,u4,u5,u6,u8,u9,u10,u2,u3,fun i hi => by rw [← hP.len];exact hlt i hi⟩
def OPost (N:Nat) (w:World) (sb:Nat) (A:Array Value) (iv:Value) (n g of:Nat) (mg2:Nat) (Fm2:List Nat) (vr2 vg2 vd2 vb:Value) (l:List In) (dd:List Nat) (e:Ending) (w':World):Prop:=
  ∃ b A' S' R' G' m' D' Fm' vr' vg' vd' vb',e = .returned (.bool b) ∧ CV N w' sb 8 A' iv n g of S' R' G' m' D' mg2 Fm' vr' vg' vd' ∧ A'.size = A.size ∧ (∀ j,j < 8 → A'[j]? = A[j]?) ∧
    Chg w w' (FC sb Fm2 vr2 vg2 vd2 ++ vb.ownBlock.toList) (FC sb Fm' vr' vg' vd' ++ vb'.ownBlock.toList) ∧ A'[14]? = some vb' ∧ w'.ownsRow N 3 1 vb' dd.length (I64 (Ix dd)) ∧ (∀ b,vb'.ownBlock = some b → b ∉ FC sb Fm' vr' vg' vd') ∧
    (b = true → ∃ q,Us (pd l).eps dd q ∧ Gat l q S' R' G' m') ∧ (b = false → ∀ q,Us (pd l).eps dd q → ¬ (q.Nodup ∧ (pd l).PL q))
set_option maxRecDepth 100000 in
set_option maxHeartbeats 8000000 in
theorem open74 {ad da:Option Addr} {c dn dc:Nat} {vb:Value} {DD:List Int} {dd:List Nat} (hF:∀ I ∈ l,Fit (l.length:Int) k I) (hn2:n ≤ 20000) (hN:N ≤ w.heap.size)
    (hC2:CV N w sb 8 A (.slice ad n c) n g of S2 R2 G2 m2 D2 mg2 Fm2 vr2 vg2 vd2) (hP:PI w N ad n l) (hat:0 < n → ad = some ⟨g,of,none⟩)
    (h14:A[14]? = some vb) (hb:w.ownsRow N 3 1 vb DD.length (I64 DD)) (hbd:∀ b,vb.ownBlock = some b → b ∉ FC sb Fm2 vr2 vg2 vd2)
    (hd:w.ownsRow N 3 1 (.slice da dn dc) dn (I64 (Ix dd))) (hdd:∀ b,(Value.slice da dn dc).ownBlock = some b → b ∉ FC sb Fm2 vr2 vg2 vd2 ∧ vb.ownBlock ≠ some b) (hd0:0 < dn) (hdl:dn ≤ 900000) (hdn:∀ i ∈ dd,i < n)
    (hfar:∃ q2 ds,DD = Ix ds ∧ Us (pd l).eps ds q2 ∧ Gat l q2 S2 R2 G2 m2) :
    Calls Tryz.prog 74 #[.pointer (some ⟨sb,0,none⟩),.slice da dn dc] w (OPost N w sb A (.slice ad n c) n g of mg2 Fm2 vr2 vg2 vd2 vb l dd):=by
  obtain ⟨va,vc,rfl,-,-⟩:=row_shape hb
  obtain ⟨vn,hvn⟩:∃ vn,vn = DD.length:=⟨_,rfl⟩
  rw [← hvn] at hb hbd hdd h14 ⊢
  obtain ⟨i1,hl1⟩:=own_ints hd
  obtain ⟨i2,hl2⟩:=own_ints hb
  have D100:=equal100 i1 i2 (by omega)
  have c14:w.cell? ⟨sb,14,none⟩ = some (.slice va vn vc):=(hC2.cell _).trans h14
  have f14:=hC2.frz 14
  have hE0:=(row_empty hb).1
  have hEb:=(row_empty hb).2
  have HC2:=hid hC2
  have HP:=hid hP
  have HAT:=hid hat
  have H14:=hid h14
  have HB:=hid hb
  have HBD:=hid hbd
  have HD:=hid hd
  have HDD:=hid hdd
  have HDN:=hid hdn
  have HFA:=hid hfar
  have HE0:=hid hE0
  have HEB:=hid hEb
  have HL1:=hid hl1
  have HL2:=hid hl2
  clear hC2 hP hat h14 hb hbd hd hdd hdn hfar hE0 hEb i1 i2 hl1 hl2 hvn
  obtain ⟨i0,hi0,hz0,hz1,hz2⟩:=iparts info3
  by_cases heq:Ix dd = DD
  · have e1:decide (Ix dd = DD) = true:=decide_eq_true heq
    rw [e1] at D100
    have HEQ:=hid heq
    clear e1 heq
    go_enter Tryz.func74,Tryz.ntmps74
    go_wp2_with (go_at_call 100;(with_reducible refine D100.mono ?_);rintro e w1 ⟨rfl,kd,rfl⟩)
    go_ret
    have hcv:=HC2.out.kept (w':=w.drewN kd) (fun _ _ => rfl)
    refine ⟨true,A,S2,R2,G2,m2,D2,Fm2,vr2,vg2,vd2,.slice va vn vc,rfl,hcv,rfl,fun _ _ => rfl,⟨rfl,rfl,rfl,Nat.le_refl _,fun _ _ _ => rfl,fun k hk => .inl hk⟩,H14.out,?_,HBD.out,fun _ => ?_,fun h => (by cases h)⟩
    · have h1:=HEQ.out
      have h2:=HB.out
      rw [← h1] at h2
      have h3:vn = dd.length:=by have:=h2.1;simp [I64,Ix] at this;omega
      rw [← h3]
      exact row_kept h2 (fun _ _ => rfl)
    · obtain ⟨q2,ds,h1,h2,h3⟩:=HFA.out
      obtain rfl:=Ix_inj (HEQ.out.trans h1)
      exact ⟨q2,h2,h3⟩
  · have e1:decide (Ix dd = DD) = false:=decide_eq_false heq
    rw [e1] at D100
    clear e1 heq
    have HW:Hid (∀ (W V:World) v',Frm W V (.slice va 0 vc) v' → W.heap = w.heap → V.heap[sb]? = some (.cells A 81 (0,0))):=fun W V v' hf hw =>
      (hf.block sb (by rw [hw];exact HC2.out.sblt) (fun e => HBD.out sb (HEB.out.symm.trans e) (by simp))).trans (by rw [hw];exact HC2.out.box)
    go_enter Tryz.func74,Tryz.ntmps74
    go_upto_region 4 with (first | (go_at_call 100;(with_reducible refine D100.mono ?_);rintro e w1 ⟨rfl,kd,rfl⟩) | (at_builtin;refine wpList_append_row rfl (.tmp 16) (.tmp 17) 30 rfl N 3 i0 (.int .i64 0) 1 8 Tryz.underlying30 hi0 hz0 hz1 hz2 rfl (by decide) (.slice va 0 vc) 0 [] rfl (row_kept HE0.out (fun _ _ => rfl)) (.slice da dn dc) dn N (I64 (Ix dd)) rfl (row_kept HD.out (fun _ _ => rfl)) (by intro h;omega) (by intro u hu;simp [I64] at hu;obtain ⟨x,-,rfl⟩:=hu;rfl) (by unfold maxLen;omega) (by omega) (by exact hN) ?_;intro v5 w5 ho5 hm5 _;obtain ⟨ya,yc,rfl,-,-⟩:=row_shape ho5.out;have hb5:=HW.out _ _ _ hm5.out rfl;have k5:=(Joins.cell_of_block hb5 14).trans H14.out;have f5:=Joins.unfrozen_of_block hb5 14;have HB5:=hid hb5;clear hb5))
    have hm:=hm5.out
    have hv6:(Value.slice ya (0 + dn) yc) = .slice ya dn yc:=by rw [Nat.zero_add]
    have ho6:w5.ownsRow N 3 1 (.slice ya dn yc) dn (I64 (Ix dd)):=by simpa using ho5.out
    have hnb:∀ b,(Value.slice va 0 vc).ownBlock = some b → b ∉ FC sb Fm2 vr2 vg2 vd2:=fun b e => HBD.out b (HEB.out.symm.trans e)
    have hsz:=hm.size
    change w.heap.size ≤ w5.heap.size at hsz
    have hblk:∀ b,b < w.heap.size → (Value.slice va 0 vc).ownBlock ≠ some b → w5.heap[b]? = w.heap[b]?:=fun b h1 h2 => hm.block b h1 h2
    have hys:∀ b,(Value.slice ya dn yc).ownBlock = some b → b ≠ sb:=fun b hb e => own_ne ho6 HB5.out (by decide) (by rw [hb,e])
    obtain ⟨w6,hw6⟩:∃ w6,w6 = w5.setCell ⟨sb,14,none⟩ (.slice ya dn yc):=⟨_,rfl⟩
    have hb6:∀ b,b ≠ sb → w6.heap[b]? = w5.heap[b]?:=fun b hb => by rw [hw6];exact Below.heap_setCell _ _ _ _ hb
    have hC6:CV N w6 sb 8 (A.setIfInBounds 14 (.slice ya dn yc)) (.slice ad n c) n g of S2 R2 G2 m2 D2 mg2 Fm2 vr2 vg2 vd2:=
      HC2.out.other (by rw [hw6];exact Joins.block_setCell (i:=14) HB5.out _) (by simp) (fun j hj => Array.getElem?_setIfInBounds_ne (by omega)) (fun b hb hne => (hb6 b hne).trans (hblk b (HC2.out.low b hb).2 (fun e => hnb b e hb)))
    have hs6:w6.heap.size = w5.heap.size:=by rw [hw6];simp
    have hbl6:Below N w w6:=⟨by rw [hw6];exact hm.os,by rw [hw6];exact hm.tape,by rw [hw6];exact hm.output,by rw [hs6];exact hsz,fun b hb => (hb6 b (fun e => by have:=HC2.out.lo;omega)).trans (hblk b (by omega) (fun e => by have:=(HE0.out.lt b e).1;omega))⟩
    have hP6:=HP.out.kept hbl6 (Nat.le_refl _)
    have hd6:w6.ownsRow N 3 1 (.slice da dn dc) dn (I64 (Ix dd)):=row_kept HD.out (fun b hb => (hb6 b (fun e => (HDD.out b hb).1 (by rw [e];simp))).trans (hblk b (HD.out.lt b hb).2 (fun e => (HDD.out b hb).2 (HEB.out.symm.trans e))))
    have hb14:w6.ownsRow N 3 1 (.slice ya dn yc) dn (I64 (Ix dd)):=by rw [hw6];exact own_setCell ho6 (fun e => hys sb e rfl)
    have hyn:∀ b,(Value.slice ya dn yc).ownBlock = some b → (Value.slice va 0 vc).ownBlock = some b ∨ b = w.heap.size:=fun b hb => hm.own b (by rw [hv6];exact hb)
    have hch:∀ b,b < w.heap.size → b ∉ FC sb Fm2 vr2 vg2 vd2 ++ (Value.slice va vn vc).ownBlock.toList → w6.heap[b]? = w.heap[b]?:=fun b h1 h2 => by
      simp only [List.mem_append,not_or,Option.mem_toList,Option.mem_def] at h2
      exact (hb6 b (fun e => h2.1 (by rw [e];simp))).trans (hblk b h1 (fun e => h2.2 (HEB.out.symm.trans e)))
    have hw6s:w.heap.size ≤ w6.heap.size:=by rw [hs6];exact hsz
    have D71:=fun V w7 gN n0 FN hV hS h7 => gatherFar (k:=k) (w:=w6) (V:=V) (w7:=w7) (gN:=gN) (n0:=n0) (FN:=FN) hF hn2 (Nat.le_trans hN hw6s) hC6 hP6 HAT.out hd6 (fun b hb => (HDD.out b hb).1) hd0 hdl HDN.out hV hS h7
    have HG6:=hid hbl6
    have HB14:=hid hb14
    have HYN:=hid hyn
    have HCH:=hid hch
    have hld:dn = dd.length:=by have:=(own_ints ho6).2;simpa [Ix] using this
    have HLD:=hid hld
    have HA14:Hid ((A.setIfInBounds 14 (.slice ya dn yc))[14]? = some (.slice ya dn yc)):=by
      have:=HC2.out.sz
      exact Array.getElem?_setIfInBounds_self_of_lt (by omega)
    first | rw [← hw6] | rw [hv6,← hw6]
    clear hld hb14 hyn hch hC6 hP6 hd6 hbl6 hs6 hb6 hys hblk hsz hnb ho6 hm ho5 hm5 HB5 HW k5 f5 hw6
    go_region_with (first | (go_at_call 34;(with_reducible refine (new8 0 _).mono ?_);rintro e w7 ⟨gN,FN,rfl,hs7,hb7⟩;have HS7:=hid hs7;have HB7:=hid hb7;clear hs7 hb7) | (go_at_call 71;(with_reducible refine (D71 _ _ _ _ _ ?_ HS7.out HB7.out).mono ?_);(exact ⟨rfl,rfl,rfl,Nat.le_refl _,fun _ _ => rfl⟩);rintro e w8 ⟨b,A',S',R',G',m',D',Fm',vr',vg',vd',rfl,x1,x2,x3,x4,x5⟩;have X1:=hid x1;have X2:=hid x2;have X3:=hid x3;have X4:=hid x4;have X5:=hid x5;clear x1 x2 x3 x4 x5))
    all_goals
      go_wp2
      go_ret
      have hyF:∀ b,(Value.slice ya dn yc).ownBlock = some b → b ∉ FC sb Fm2 vr2 vg2 vd2:=fun b hb hm => by
        rcases HYN.out b hb with h | h
        · exact HBD.out b (HEB.out.symm.trans h) hm
        · have:=(HC2.out.low b hm).2;omega
      refine ⟨b,A',S',R',G',m',D',Fm',vr',vg',vd',.slice ya dn yc,rfl,X1.out,X2.out.1.trans (by simp),fun j hj => (X2.out.2 j (.inl hj)).trans (Array.getElem?_setIfInBounds_ne (by omega)),⟨X3.out.os.trans HG6.out.os,X3.out.tape.trans HG6.out.tape,X3.out.output.trans HG6.out.output,Nat.le_trans hw6s X3.out.size,fun b hb hn => (X3.out.block b (Nat.lt_of_lt_of_le hb hw6s) (fun hm => hn (List.mem_append_left _ hm))).trans (HCH.out b hb hn),fun b hb => ?_⟩,(X2.out.2 14 (.inr (by omega))).trans HA14.out,?_,fun b hb hm => ?_,X4.out,X5.out⟩
      · rcases List.mem_append.1 hb with h | h
        · rcases X3.out.new b h with h1 | h1
          · exact .inl (List.mem_append_left _ h1)
          · exact .inr (Nat.le_trans hw6s h1)
        · rcases HYN.out b (by simpa using h) with h1 | h1
          · exact .inl (List.mem_append_right _ (by simpa using HEB.out.symm.trans h1))
          · exact .inr (by omega)
      · rw [← HLD.out]
        exact row_kept HB14.out (fun b hb => X3.out.block b (HB14.out.lt b hb).2 (hyF b hb))
      · rcases X3.out.new b hm with h1 | h1
        · exact hyF b hb h1
        · have:=(HB14.out.lt b hb).2;omega
end Go.Proofs.YtjdbnoccdefnaaaGreat
