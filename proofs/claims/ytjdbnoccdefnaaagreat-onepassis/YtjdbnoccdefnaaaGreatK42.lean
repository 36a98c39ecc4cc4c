/- HELPERS: texts of ours put together. -/
import Derived.Test.YtjdbnoccdefnaaaGreatK05
import Derived.Test.YtjdbnoccdefnaaaGreatK04
import Derived.Test.YtjdbnoccdefnaaaGreatK01
import Derived.Deep.SlicePairs
import Derived.RowKit
import Derived.Test.YtjdbnoccdefnaaaGreatProg
import Derived.WalkKit
import Derived.ProofKit
import Derived.BigQuiet
import Derived.WalkSmall
import Derived.Deep.QuietTactic
import Derived.Deep.RegionWith
import Derived.Lib.SmallJoins
import Derived.Lib.MinMax
import Derived.Maps.AppendAt
import Derived.Laws.AppendOwnNone
import Derived.Test.YtjdbnoccdefnaaaGreatK02
import Derived.Lib.Small
import Derived.Test.YtjdbnoccdefnaaaGreatK03
import Derived.Deep.Cut
import Derived.Deep.CutRange
import Derived.Deep.RegionHeld3
import Derived.Test.YtjdbnoccdefnaaaGreatK06
import Derived.Laws.EntriesVeiled
import Derived.Test.YtjdbnoccdefnaaaGreatK13
import Derived.Test.YtjdbnoccdefnaaaGreatK12
import Derived.OrdersHeld
import Derived.StillTail
import Derived.Tactics
import Derived.Below
import Derived.Deep.MidRow
import Derived.Deep.OwnRows
import Derived.Laws.Rows
import Derived.WalkLawsBesides
import Derived.Deep.RegionLaw
import Derived.Laws.CopyOwn
import Derived.Lib.LazyBuf
import Derived.Test.YtjdbnoccdefnaaaGreatK39
import Derived.Test.YtjdbnoccdefnaaaGreatK41
namespace Go.Proofs.YtjdbnoccdefnaaaGreat
open Go.RowKit
set_option linter.unusedVariables false
set_option linter.unusedSimpArgs false
def inB (R:List (Int × Int)) (r:Int):Bool:=R.any fun x => decide (x.1 ≤ r) && decide (r ≤ x.2)
def hsB (R:List (Int × Int)) (r:Int):Bool:=rightB R && inB R r
set_option maxRecDepth 100000 in
set_option maxHeartbeats 4000000 in
theorem in78 (R:List (Int × Int)) (r:Int) (ad:Option Addr) (n cap:Nat) (w:World) (hn:n = R.length) (hS:n * 16 ≤ 140737488351232) (hl:RowAt w.heap.size w (.slice ad n cap) R) :
    Calls Tryz.prog 42 #[.slice ad n cap,.int .i64 r] w fun e w' => e = .returned (.bool (inB R r)) ∧ w' = w:=by
  have HN:=hid hn
  have HR:=hid hl
  clear hn hl
  go_enter Tryz.func42,Tryz.ntmps42
  go_wp2_with fail
  go_loopw [5] (fun y wq => ∃ i:Nat,y = .int .i64 (i:Int) ∧ i ≤ n ∧ wq = w ∧ Hid (∀ j,j < i → (decide ((R.getD j (0,0)).1 ≤ r) && decide (r ≤ (R.getD j (0,0)).2)) = false)) (fun y _ => n - (intOf y).toNat)
  case atStart => exact ⟨0,rfl,by omega,rfl,fun j hj => by omega⟩
  case round =>
    obtain ⟨i,rfl,hi,rfl,HA⟩:=hrel
    by_cases hil:i < n
    · have b1:decide ((i:Int) < (n:Int)) = true:=by simp;omega
      have b2:(i:Int) < (n:Int):=by omega
      have ad1:IntKind.i64.wrap ((i:Int) + 1) = (i:Int) + 1:=by simp [IntKind.wrap,IntKind.bits,IntKind.signed];omega
      obtain ⟨ad',cap',e,h1⟩:=HR.out
      simp only [Value.slice.injEq] at e
      obtain ⟨rfl,_,rfl⟩:=e
      rcases h1 with h0 | ⟨b,off,rfl,hb,h2,h3⟩
      · have:=HN.out;omega
      have m0:=h2 i (by have:=HN.out;omega)
      have m1:=h3 i (by have:=HN.out;omega)
      have hget:R.getD i (0,0) ∈ R:=by
        have hil':i < R.length:=by have:=HN.out;omega
        have:R.getD i (0,0) = R[i]:=by simp [List.getD_eq_getElem?_getD,List.getElem?_eq_getElem hil']
        rw [this];exact List.getElem_mem hil'
      have HG:=hid hget
      clear h2 h3 hget
      generalize hlo:(R.getD i (0,0)).1 = lo at m0
      generalize hhi:(R.getD i (0,0)).2 = hi' at m1
      have HLO:=hid hlo
      have HHI:=hid hhi
      clear hlo hhi
      by_cases g1:lo ≤ r
      · have d1:decide (lo ≤ r) = true:=by simpa using g1
        by_cases g2:r ≤ hi'
        · have d2:decide (r ≤ hi') = true:=by simpa using g2
          go_wp2
          all_goals go_ret
          all_goals refine ⟨ret_bool ?_,rfl⟩
          all_goals
            symm
            unfold inB
            rw [List.any_eq_true]
            exact ⟨_,HG.out,by rw [HLO.out,HHI.out,d1,d2];rfl⟩
        · have d2:decide (r ≤ hi') = false:=by simpa using g2
          go_wp2
          refine ⟨⟨i + 1,by push_cast;rfl,by omega,trivial,fun j hj => ?_⟩,by simp [intOf];omega⟩
          by_cases e:j = i
          · subst e;rw [HLO.out,HHI.out,d1,d2];rfl
          · exact HA.out j (by omega)
      · have d1:decide (lo ≤ r) = false:=by simpa using g1
        go_wp2
        refine ⟨⟨i + 1,by push_cast;rfl,by omega,trivial,fun j hj => ?_⟩,by simp [intOf];omega⟩
        by_cases e:j = i
        · subst e;rw [HLO.out,d1];rfl
        · exact HA.out j (by omega)
    · have b1:decide ((i:Int) < (n:Int)) = false:=by simp;omega
      go_wp2
      all_goals go_ret
      all_goals refine ⟨ret_bool ?_,rfl⟩
      all_goals
        symm
        unfold inB
        rw [List.any_eq_false]
        intro x hx
        obtain ⟨j,hj,rfl⟩:=List.getElem_of_mem hx
        have:=HA.out j (by have:=HN.out;omega)
        rw [show R.getD j (0,0) = R[j] by simp [List.getD_eq_getElem?_getD,List.getElem?_eq_getElem hj]] at this
        rw [this]
        simp
set_option maxRecDepth 100000 in
set_option maxHeartbeats 4000000 in
theorem has56 (R:List (Int × Int)) (r:Int) (ad:Option Addr) (n cap:Nat) (w:World) (hn:n = R.length) (hS:n * 16 ≤ 140737488351232) (hl:RowAt w.heap.size w (.slice ad n cap) R) :
    Calls Tryz.prog 27 #[.slice ad n cap,.int .i64 r] w fun e w' => e = .returned (.bool (hsB R r)) ∧ Below w.heap.size w w':=by
  have HC:=rright33 R ad n cap w hn.symm (by omega) hl
  have HI:Hid (∀ W,Below w.heap.size w W → Calls Tryz.prog 42 #[.slice ad n cap,.int .i64 r] W fun e w' => e = .returned (.bool (inB R r)) ∧ w' = W):=fun W hb => in78 R r ad n cap W hn hS (hl.below hb (Nat.le_refl _) hb.size)
  clear hl hn
  cases g:rightB R
  · rw [g] at HC
    go_enter Tryz.func27,Tryz.ntmps27
    go_wp2_with (first | (go_at_call 41;(with_reducible refine HC.mono ?_);rintro e w2 ⟨rfl,hb⟩;have HB:=hid hb;clear hb HC))
    all_goals go_ret
    all_goals exact ⟨ret_bool (by simp [hsB,g]),HB.out⟩
  · rw [g] at HC
    go_enter Tryz.func27,Tryz.ntmps27
    go_wp2_with (first | (go_at_call 41;(with_reducible refine HC.mono ?_);rintro e w2 ⟨rfl,hb⟩;have HB:=hid hb;have HJ:=HI.out w2 HB.out;clear hb HC) | (go_at_call 42;(with_reducible refine HJ.mono ?_);rintro e w3 ⟨rfl,hw⟩;have hw':=hw.symm;clear hw;subst hw';clear HJ))
    all_goals go_ret
    all_goals exact ⟨ret_bool (by simp [hsB,g]),HB.out⟩
end Go.Proofs.YtjdbnoccdefnaaaGreat
namespace Go.Proofs.YtjdbnoccdefnaaaGreat
open Go.RowKit Go.Lk
set_option linter.unusedVariables false
set_option linter.unusedSimpArgs false
structure MS where
  nx:Option Nat
  nc:List Int
  ok:Bool
  fc:List Int
  wh:Int
  st:Nat
def MS.inc (s:MS):MS:={ s with st:=s.st + 1 }
inductive Cm (l:List In) (tx:List Int) (p:Nat):List Int → Nat → MS → Bool → MS → Prop
  | altT {c:List Int} {i:Nat} {s s1 s2:MS} {b:Bool}:(at0 l i).op = 2 → Cm l tx p c (at0 l i).x.toNat s.inc true s1 → Cm l tx p c (at0 l i).y.toNat s1 b s2 → Cm l tx p c i s b s2
  | altF {c:List Int} {i:Nat} {s s1:MS}:(at0 l i).op = 2 → Cm l tx p c (at0 l i).x.toNat s.inc false s1 → Cm l tx p c i s false s1
  | nop {c:List Int} {i:Nat} {s s1:MS} {b:Bool}:(at0 l i).op = 7 → Cm l tx p c (at0 l i).x.toNat s.inc b s1 → Cm l tx p c i s b s1
  | cap {c:List Int} {i:Nat} {s s1:MS} {b:Bool}:(at0 l i).op = 3 → Cm l tx p (c.set (at0 l i).a.toNat (p:Int)) (at0 l i).x.toNat s.inc b s1 → Cm l tx p c i s b s1
  | asrt {c:List Int} {i:Nat} {s s1:MS} {b:Bool}:(at0 l i).op = 4 → holdsB (at0 l i).a (atN tx p) = true → Cm l tx p c (at0 l i).x.toNat s.inc b s1 → Cm l tx p c i s b s1
  | asrtN {c:List Int} {i:Nat} {s:MS}:(at0 l i).op = 4 → holdsB (at0 l i).a (atN tx p) = false → Cm l tx p c i s true s.inc
  | rune {c:List Int} {i:Nat} {s:MS}:(at0 l i).op = 1 → p < tx.length → inB (at0 l i).R (tx.getD p 0) = true → Cm l tx p c i s true { s.inc with nx:=some (at0 l i).x.toNat,nc:=c }
  | runeN {c:List Int} {i:Nat} {s:MS}:(at0 l i).op = 1 → ¬ (p < tx.length ∧ inB (at0 l i).R (tx.getD p 0) = true) → Cm l tx p c i s true s.inc
  | mtch {c:List Int} {i:Nat} {s:MS}:(at0 l i).op = 5 → Cm l tx p c i s false { s.inc with ok:=true,fc:=c,wh:=(at0 l i).a }
  | fail {c:List Int} {i:Nat} {s:MS}:(at0 l i).op = 6 → Cm l tx p c i s true s.inc
inductive Rn (l:List In) (tx:List Int):Nat → Option Nat → List Int → MS → MS → Prop
  | done {p:Nat} {c:List Int} {s:MS}:Rn l tx p none c s s
  | step {p i:Nat} {c:List Int} {s s1 s2:MS} {b:Bool}:Cm l tx p c i { s with nx:=none } b s1 → Rn l tx (p + 1) s1.nx s1.nc { s1 with nc:=c } s2 → Rn l tx p (some i) c s s2
theorem Cm.st_le {l:List In} {tx:List Int} {p:Nat} {c:List Int} {i:Nat} {s s':MS} {b:Bool} (h:Cm l tx p c i s b s'):s.st < s'.st:=by
  induction h with
  | altT _ _ _ h1 h2 => simp only [MS.inc] at h1;omega
  | altF _ _ h1 => simp only [MS.inc] at h1;omega
  | nop _ _ h1 => simp only [MS.inc] at h1;omega
  | cap _ _ h1 => simp only [MS.inc] at h1;omega
  | asrt _ _ _ h1 => simp only [MS.inc] at h1;omega
  | _ => simp only [MS.inc];omega
theorem Cm.len {l:List In} {tx:List Int} {p:Nat} {c:List Int} {i:Nat} {s s':MS} {b:Bool} (h:Cm l tx p c i s b s'):∀ {K:Nat},c.length = K → s.nc.length = K → (s.ok = true → s.fc.length = K) → s'.nc.length = K ∧ (s'.ok = true → s'.fc.length = K):=by
  induction h with
  | altT _ _ _ h1 h2 => intro K hc hn hf;have h3:=h1 hc hn hf;exact h2 hc h3.1 h3.2
  | altF _ _ h1 => intro K hc hn hf;exact h1 hc hn hf
  | nop _ _ h1 => intro K hc hn hf;exact h1 hc hn hf
  | cap _ _ h1 => intro K hc hn hf;exact h1 (by simpa using hc) hn hf
  | asrt _ _ _ h1 => intro K hc hn hf;exact h1 hc hn hf
  | mtch _ => intro K hc hn hf;exact ⟨hn,fun _ => hc⟩
  | rune _ _ _ => intro K hc hn hf;exact ⟨hc,hf⟩
  | _ => intro K hc hn hf;exact ⟨hn,hf⟩
def nxV:Option Nat → Value
  | none => .int .i64 (-1)
  | some i => .int .i64 (i:Int)
abbrev mac (ad:Option Addr) (n cp:Nat) (s k:Int) (tad:Option Addr) (tn tc:Nat) (p:Nat) (bt:Int) (cb K:Nat) (S:MS) (nb:Nat) (vf:Value):Array Value:=
  #[.slice ad n cp,.int .i64 s,.int .i64 k,.slice tad tn tc,.int .i64 (p:Int),.int .i64 bt,.slice (some ⟨cb,0,none⟩) K K,nxV S.nx,.slice (some ⟨nb,0,none⟩) K K,.bool S.ok,vf,.int .i64 S.wh,.int .i64 (S.st:Int)]
structure MM (N:Nat) (w:World) (mb:Nat) (ad:Option Addr) (n cp:Nat) (s k:Int) (tad:Option Addr) (tn tc:Nat) (l:List In) (tx:List Int) (K:Nat) (p:Nat) (bt:Int) (cb:Nat) (c:List Int) (S:MS) (nb:Nat) (vf:Value):Prop where
  box:w.heap[mb]? = some (.cells (mac ad n cp s k tad tn tc p bt cb K S nb vf) 62 (0,0))
  lo:N ≤ mb
  rc:w.ownsRow N 3 1 (.slice (some ⟨cb,0,none⟩) K K) K (I64 c)
  rn:w.ownsRow N 3 1 (.slice (some ⟨nb,0,none⟩) K K) K (I64 S.nc)
  rf:S.ok = true → ∃ fb,vf = .slice (some ⟨fb,0,none⟩) K K ∧ w.ownsRow N 3 1 (.slice (some ⟨fb,0,none⟩) K K) K (I64 S.fc) ∧ fb ≠ mb ∧ fb ≠ cb ∧ fb ≠ nb
  nf:S.ok = false → vf = .slice none 0 0
  d1:cb ≠ mb
  d2:nb ≠ mb
  d3:cb ≠ nb
  bt:bt = 0 ∨ bt = atN tx p
  pi:PI w N ad n l
  tx:TxAt N w tad tn tx
variable {N:Nat} {w:World} {mb:Nat} {ad:Option Addr} {n cp:Nat} {s k:Int} {tad:Option Addr} {tn tc:Nat} {l:List In} {tx:List Int} {K p:Nat} {bt:Int} {cb:Nat} {c:List Int} {S:MS} {nb:Nat} {vf:Value}
theorem MM.lt (h:MM N w mb ad n cp s k tad tn tc l tx K p bt cb c S nb vf):mb < w.heap.size:=(Array.getElem?_eq_some_iff.1 h.box).1
theorem MM.cell (h:MM N w mb ad n cp s k tad tn tc l tx K p bt cb c S nb vf) (i:Nat):w.cell? ⟨mb,i,none⟩ = (mac ad n cp s k tad tn tc p bt cb K S nb vf)[i]?:=Joins.cell_of_block h.box i
theorem MM.frz (h:MM N w mb ad n cp s k tad tn tc l tx K p bt cb c S nb vf) (i:Nat):w.frozen? ⟨mb,i,none⟩ = false:=Joins.unfrozen_of_block h.box i
theorem MM.at_ {W:World} (h:MM N w mb ad n cp s k tad tn tc l tx K p bt cb c S nb vf) (hW:Below w.heap.size w W):MM N W mb ad n cp s k tad tn tc l tx K p bt cb c S nb vf:=by
  have hlo:=h.lo
  have hlt:=h.lt
  have hb:Below N w W:=hW.mono (by omega)
  refine ⟨(hW.block mb hlt).trans h.box,h.lo,row_kept h.rc fun b hb => hW.block b (h.rc.lt b hb).2,row_kept h.rn fun b hb => hW.block b (h.rn.lt b hb).2,fun e => ?_,h.nf,h.d1,h.d2,h.d3,h.bt,h.pi.kept hb (Nat.le_refl _),h.tx.below hb⟩
  obtain ⟨fb,h1,h2,h3⟩:=h.rf e
  exact ⟨fb,h1,row_kept h2 fun b hb => hW.block b (h2.lt b hb).2,h3⟩
theorem MM.rebox {W:World} {bt':Int} {S':MS} (h:MM N w mb ad n cp s k tad tn tc l tx K p bt cb c S nb vf) (hx:W.heap[mb]? = some (.cells (mac ad n cp s k tad tn tc p bt' cb K S' nb vf) 62 (0,0))) (ho:∀ b,b ≠ mb → W.heap[b]? = w.heap[b]?) (hB:Below N w W)
    (hnc:S'.nc = S.nc) (hok:S'.ok = S.ok) (hfc:S'.fc = S.fc) (hbt:bt' = 0 ∨ bt' = atN tx p):MM N W mb ad n cp s k tad tn tc l tx K p bt' cb c S' nb vf:=by
  refine ⟨hx,h.lo,row_kept h.rc fun b hb => ho b (by simp [Value.ownBlock] at hb;rw [← hb];exact h.d1),row_kept (by rw [hnc];exact h.rn) fun b hb => ho b (by simp [Value.ownBlock] at hb;rw [← hb];exact h.d2),fun e => ?_,fun e => h.nf (by rw [← hok];exact e),h.d1,h.d2,h.d3,hbt,h.pi.kept hB (Nat.le_refl _),h.tx.below hB⟩
  obtain ⟨fb,h1,h2,h3,h4,h5⟩:=h.rf (by rw [← hok];exact e)
  exact ⟨fb,h1,row_kept (by rw [hfc];exact h2) fun b hb => ho b (by simp [Value.ownBlock] at hb;rw [← hb];exact h3),h3,h4,h5⟩
theorem look_text {N:Nat} {w:World} {ad:Option Addr} {n:Nat} {l:List Int} (h:TxAt N w ad n l):Look.TxAt N w ad n l:=h
theorem look_at (l:List Int) (p:Int):Look.atN l p = atN l p:=rfl
theorem en79:∀ args w,(callFunc 79 args).run Tryz.prog w = .ok (.enter 79 args) w:=enter_of Tryz.func79 (by kernel_rfl) rfl
set_option maxRecDepth 100000 in
set_option maxHeartbeats 8000000 in
theorem holds58 {a:Int} (h:MM N w mb ad n cp s k tad tn tc l tx K p bt cb c S nb vf) (hN:N ≤ w.heap.size) :
    Calls Tryz.prog 58 #[.pointer (some ⟨mb,0,none⟩),.int .i64 a] w fun e w' => e = .returned (.bool (holdsB a (atN tx p))) ∧ ∃ bt',MM N w' mb ad n cp s k tad tn tc l tx K p bt' cb c S nb vf ∧ Below N w w':=by
  have k3:w.cell? ⟨mb,3,none⟩ = some (.slice tad tn tc):=h.cell 3
  have k4:w.cell? ⟨mb,4,none⟩ = some (.int .i64 (p:Int)):=h.cell 4
  have k5:w.cell? ⟨mb,5,none⟩ = some (.int .i64 bt):=h.cell 5
  have hmb:=h.lt
  have HM:=hid h
  clear h
  by_cases h0:bt = 0
  · have b1:decide (bt = 0) = true:=decide_eq_true h0
    have b2:(bt == 0) = true:=by simp [h0]
    have D79:=fun W (hW:Below w.heap.size w W) => Look.at10 tx tad tn tc (p:Int) W (look_text ((HM.out.tx.below (hW.mono hN)).mono (Nat.le_trans hN hW.size)))
    have H0:=hid h0
    clear h0
    go_enter Tryz.func58,Tryz.ntmps58
    go_upto_region 2 with fail
    refine wp_region_lexT [0,1,2,3,4,5,6,7,8] 4 12 (fun V => V.cell? ⟨mb,3,none⟩ = some (.slice tad tn tc) ∧ V.cell? ⟨mb,4,none⟩ = some (.int .i64 (p:Int))) (by kernel_rfl) (by kernel_rfl) rfl (by kernel_rfl) (by exact ⟨k3,k4⟩) ?_
    simp only [opsAt,opsNo,List.getElem?_toArray,List.getElem?_cons_zero,List.getElem?_cons_succ]
    iterate 9
      refine lex_cons ?_ rfl (fun V hV => ?_) (fun _ _ _ h => h) ?_
      rotate_left
      · obtain ⟨v0,v1⟩:=hV
        go_simp <;> with_reducible rfl
      simp only [Act.put,List.setIfInBounds_toArray,List.set_cons_zero,List.set_cons_succ]
    refine lex_nil ?_
    refine wpAnyX_one (i:=9) (by decide +kernel) rfl (fun K1 hK1 => ?_)
    refine step_callG2 rfl 79 (.tmp 14) (.tmp 18) 30 3 rfl en79 ?_
    refine (D79 _ ?_).mono ?_
    · exact ⟨rfl,rfl,rfl,Nat.le_refl _,fun _ _ => rfl⟩
    rintro e w1 ⟨rfl,z1⟩
    have hz:Below w.heap.size w w1:=⟨z1.os,z1.tape,z1.output,z1.size,z1.block⟩
    rw [look_at]
    have HZ:=hid hz
    clear z1 hz D79
    have hM1:=HM.out.at_ HZ.out
    have j3:w1.cell? ⟨mb,3,none⟩ = some (.slice tad tn tc):=hM1.cell 3
    have j4:w1.cell? ⟨mb,4,none⟩ = some (.int .i64 (p:Int)):=hM1.cell 4
    have j5:w1.cell? ⟨mb,5,none⟩ = some (.int .i64 bt):=hM1.cell 5
    have f5:=hM1.frz 5
    have HM1:=hid hM1
    clear hM1
    refine .inl ⟨_,rfl,?_⟩
    refine hK1.out _ _ (fun _ => ⟨j3,j4⟩) ?_
    refine wpAnyX_one (i:=10) (by decide +kernel) rfl (fun K2 hK2 => ?_)
    go_simp
    refine hK2.out _ _ (fun _ => ⟨j3,j4⟩) ?_
    refine wpAnyX_one (i:=11) (by decide +kernel) rfl (fun K3 hK3 => ?_)
    go_simp
    refine hK3.out _ _ (fun _ => ⟨j3,j4⟩) ?_
    refine wpAnyX_one (i:=12) (by decide +kernel) rfl (fun K4 hK4 => ?_)
    go_simp
    refine hK4.out _ _ (fun h => absurd rfl h) ?_
    refine ⟨by kernel_rfl,?_⟩
    clear hK1 K1 hK2 K2 hK3 K3 hK4 K4
    obtain ⟨b',hb'⟩:∃ b',b' = atN tx (p:Int):=⟨_,rfl⟩
    rw [← hb']
    obtain ⟨W2,hW2⟩:∃ W2,W2 = w1.setCell ⟨mb,5,none⟩ (.int .i64 b'):=⟨_,rfl⟩
    have hx2:W2.heap[mb]? = some (.cells (mac ad n cp s k tad tn tc p b' cb K S nb vf) 62 (0,0)):=by rw [hW2];exact Joins.block_setCell (i:=5) HM1.out.box (.int .i64 b')
    have hB2:Below N w1 W2:=by rw [hW2];exact (Below.refl N w1).setCell (p:=⟨mb,5,none⟩) HM1.out.lo _
    have hM2:=HM1.out.rebox (S':=S) hx2 (fun b hb => by rw [hW2];exact heap_setCell_other _ _ _ _ hb) hB2 rfl rfl rfl (.inr hb')
    have hBw:Below N w W2:=(HZ.out.mono hN).trans hB2
    have m5:W2.cell? ⟨mb,5,none⟩ = some (.int .i64 b'):=hM2.cell 5
    have D80:=fun W => Look.holds13 a b' W
    have HM2:=hid hM2
    have HBW:=hid hBw
    have HBE:=hid hb'
    rw [← hW2]
    clear hW2 hx2 hB2 hM2 hBw hb' j3 j4 j5 f5 k3 k4 k5
    go_wp2_with (go_at_call 80;(with_reducible refine (D80 _).mono ?_);rintro e w3 ⟨rfl,rfl⟩)
    go_ret
    exact ⟨by rw [HBE.out];rfl,b',HM2.out,HBW.out⟩
  · have b1:decide (bt = 0) = false:=decide_eq_false h0
    have b2:(bt == 0) = false:=by simp [h0]
    have hbt:bt = atN tx p:=HM.out.bt.resolve_left h0
    have D80:=fun W => Look.holds13 a bt W
    have HBT:=hid hbt
    clear hbt h0
    go_enter Tryz.func58,Tryz.ntmps58
    go_wp2_with (go_at_call 80;(with_reducible refine (D80 _).mono ?_);rintro e w3 ⟨rfl,rfl⟩)
    go_ret
    exact ⟨by rw [← HBT.out];rfl,bt,HM.out,Below.refl _ _⟩
end Go.Proofs.YtjdbnoccdefnaaaGreat
