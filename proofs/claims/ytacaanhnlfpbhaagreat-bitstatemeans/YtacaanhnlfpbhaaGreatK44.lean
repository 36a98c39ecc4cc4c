/- HELPERS: texts of ours put together. -/
import Derived.Test.YtacaanhnlfpbhaaGreatK32
import Derived.Test.YtacaanhnlfpbhaaGreatK04
import Derived.Test.YtacaanhnlfpbhaaGreatK05
import Derived.Deep.Onto
import Derived.Laws.Rows
import Derived.Test.YtacaanhnlfpbhaaGreatK29
import Derived.Deep.RegionHeld2
namespace Go.Proofs.YtacaanhnlfpbhaaGreat
open Go.RowKit Go.Lk
set_option linter.unusedVariables false
set_option linter.unusedSimpArgs false
theorem bgs_anch (P:Pr) (a:Nat):∀ (m j:Nat),a < j → bgs P a true none m j = []
 | 0,_,_ => rfl
 | m + 1,j,h => by
  have hn:¬ bgB a true j none = true:=by simp [bgB];omega
  simp only [bgs]
  rw [if_neg hn,bgs_anch P a m (j + 1) (by omega)]
  rfl
def lastP (anch:Bool) (a tn:Nat):Nat:=if anch = true then a else tn
theorem bgs_in (P:Pr) {a tn j:Nat} {anch:Bool} (ha:a ≤ j) (hj:j ≤ lastP anch a tn) (hat:a ≤ tn):bgs P a anch none (tn + 1 - j) j = (P.S,j,List.replicate P.K (-1)) :: bgs P a anch none (tn + 1 - (j + 1)) (j + 1):=by
 have hjt:j ≤ tn:=by unfold lastP at hj;split at hj <;> omega
 rw [show tn + 1 - j = (tn + 1 - (j + 1)) + 1 by omega]
 simp only [bgs]
 rw [if_pos]
 ·rfl
 ·unfold lastP at hj
  cases anch
  ·simp [bgB]
  ·simp at hj;simp [bgB];omega
theorem bgs_out (P:Pr) {a tn j:Nat} {anch:Bool} (ha:a ≤ j) (hj:lastP anch a tn < j):bgs P a anch none (tn + 1 - j) j = []:=by
 unfold lastP at hj
 cases anch
 ·simp at hj
  rw [show tn + 1 - j = 0 by omega]
  rfl
 ·simp at hj
  exact bgs_anch P a _ _ hj
def BR (w0 w:World) (B b:Nat) (l:List In) (tx:List Int) (C:Bk) (anch:Bool) (r:Fd) (m':List Pt) (p:Nat):Prop:=
 ∃ V st m cp W,BI w B b l tx C V st m cp W ∧ V.fs = m.length ∧ Below B w0 w ∧
  ((st = [] ∧ cp = List.replicate C.K (-1) ∧ NF V ∧ Da (act l tx) m (bgs (prOf l tx C.S C.K) C.a anch none (C.tn + 1 - p) p) m' r) ∨ (m = m' ∧ ∃ y,r = some y ∧ BF C V st (List.replicate C.K (-1)) cp r))
set_option maxRecDepth 100000 in
set_option maxHeartbeats 16000000 in
theorem run22 {w:World} {B b:Nat} {l:List In} {tx:List Int} {C:Bk} {V:Bv} {anch:Bool} {r:Fd} {m':List Pt} (h:BI w B b l tx C V [] [] (List.replicate C.K (-1)) []) (hc:BC l tx C) (hfs:V.fs = 0) (hnf:NF V) (hd:Da (act l tx) [] (bgs (prOf l tx C.S C.K) C.a anch none (C.tn + 1 - C.a) C.a) m' r) :
  Calls Tryz.prog 70 #[.pointer (some ⟨b,0,none⟩),.int .i64 (C.a:Int),.bool anch] w fun e w' => e = .returned (.tuple #[]) ∧ ∃ V' st cp' W',BI w' B b l tx C V' st m' cp' W' ∧ V'.fs = m'.length ∧ BF C V' st (List.replicate C.K (-1)) cp' r ∧ Below B w w':=by
 have hat:=hc.at_
 have htl:=hc.tl
 have HBC:=hid hc
 have c3:=h.mb.c 3
 simp at c3
 have HBR:Hid (BR w w B b l tx C anch r m' C.a):=⟨V,[],[],_,[],h,hfs,Below.refl _ _,.inl ⟨rfl,rfl,hnf,hd⟩⟩
 obtain ⟨L,hL⟩:∃ L,L = lastP anch C.a C.tn:=⟨_,rfl⟩
 have HL:=hid hL
 have hLt:L ≤ C.tn:=by rw [hL];unfold lastP;split <;> omega
 have HBG:Hid (∀ (V:Bv) m W (w:World) (p:Nat) (r1:Fd) (m1:List Pt),BI w B b l tx C V [] m (List.replicate C.K (-1)) W → V.fs = m.length → NF V → C.a ≤ p → p ≤ C.tn → Df (act l tx) m C.S p (List.replicate C.K (-1)) m1 r1 → Calls Tryz.prog 110 #[.pointer (some ⟨b,0,none⟩),.int .i64 (p:Int)] w fun e w' => e = .returned (.tuple #[]) ∧ ∃ V' st cp' W',BI w' B b l tx C V' st m1 cp' W' ∧ V'.fs = m1.length ∧ BF C V' st (List.replicate C.K (-1)) cp' r1 ∧ Below B w w'):=fun V m W w p r1 m1 h hf hn ha hp hdf => by
  obtain ⟨N,hev⟩:=df_ev1 hdf
  exact begin30 h hc hf hn ha hp hev
 clear h hc hfs hnf hd
 go_enter Tryz.func70,Tryz.ntmps70
 have hcase:(anch = true ∧ L = C.a) ∨ (anch = false ∧ L = C.tn):=by
  rw [hL];unfold lastP
  cases anch <;> simp
 clear hL
 rcases hcase with ⟨rfl,rfl⟩ | ⟨rfl,rfl⟩
 all_goals go_wp2_with fail
 ·clear c3
  go_loopw [7] (fun s7 wr => ∃ p:Nat,s7 = .int .i64 (p:Int) ∧ C.a ≤ p ∧ p ≤ C.tn + 1 ∧ Hid (BR w wr B b l tx C true r m' p)) (fun s7 _ => C.tn + 1 - (intOf s7).toNat)
  case atStart => exact ⟨C.a,rfl,Nat.le_refl _,by omega,HBR⟩
  case round =>
   clear HBR
   obtain ⟨p,rfl,hap,hpt,HBR⟩:=hrel
   obtain ⟨V1,st,m1,cp1,W1,hbi,hfs,hbw,hcs⟩:=HBR.out
   clear HBR
   have HBI:=hid hbi
   have HFS:=hid hfs
   have HBW:=hid hbw
   have c10:=hbi.mb.c 10
   simp at c10
   by_cases hpl:p ≤ C.a
   ·have b1:decide ((p:Int) ≤ (C.a:Int)) = true:=by simp;omega
    have b1':(p:Int) ≤ (C.a:Int):=by omega
    rcases hcs with ⟨rfl,rfl,hnf,hda⟩ | ⟨rfl,y,rfl,hbf⟩
    ·rw [hnf.1] at c10
     rw [bgs_in _ hap (by rw [← HL.out];exact hpl) hat] at hda
     have ap:IntKind.i64.wrap ((p:Int) + 1) = ((p + 1:Nat):Int):=by rw [wrap_ok _ (by omega) (by omega)];omega
     cases hda with
     | hit _ _ _ _ _ _ z hdf =>
      have HB:=HBG.out _ _ _ _ p _ _ hbi hfs hnf hap (by omega) hdf
      clear hbi hfs hbw hnf hdf HBG
      go_wp2_with (go_at_call 110;(with_reducible refine HB.mono ?_);rintro e w2 ⟨rfl,V2,st2,cp2,W2,hb2,hf2,hbf2,hbw2⟩;have HB2:=hid hb2;have HF2:=hid hf2;have HBF2:=hid hbf2;have HBW2:=hid hbw2;clear hb2 hf2 hbf2 hbw2 HB)
      refine ⟨⟨p + 1,rfl,by omega,by omega,_,_,_,_,_,HB2.out,HF2.out,HBW.out.trans HBW2.out,.inr ⟨rfl,_,rfl,HBF2.out⟩⟩,by simp [intOf];omega⟩
     | miss _ _ _ _ _ m2 _ _ hdf hda =>
      have HB:=HBG.out _ _ _ _ p _ _ hbi hfs hnf hap (by omega) hdf
      have HDA:=hid hda
      clear hbi hfs hbw hnf hdf HBG hda
      go_wp2_with (go_at_call 110;(with_reducible refine HB.mono ?_);rintro e w2 ⟨rfl,V2,st2,cp2,W2,hb2,hf2,hbf2,hbw2⟩;have HB2:=hid hb2;have HF2:=hid hf2;have HBF2:=hid hbf2;have HBW2:=hid hbw2;clear hb2 hf2 hbf2 hbw2 HB)
      refine ⟨⟨p + 1,rfl,by omega,by omega,_,_,_,_,_,HB2.out,HF2.out,HBW.out.trans HBW2.out,.inl ⟨HBF2.out.1,HBF2.out.2.1,HBF2.out.2.2,HDA.out⟩⟩,by simp [intOf];omega⟩
    ·rw [hbf.1] at c10
     have HBF:=hid hbf
     clear hbi hfs hbw hbf HBG
     go_wp2
     go_end0
     exact ⟨rfl,_,_,_,_,HBI.out,HFS.out,HBF.out,HBW.out⟩
   ·have b1:decide ((p:Int) ≤ (C.a:Int)) = false:=by simp;omega
    have b1':¬ ((p:Int) ≤ (C.a:Int)):=by omega
    have hres:m1 = m' ∧ BF C V1 st (List.replicate C.K (-1)) cp1 r:=by
     rcases hcs with ⟨rfl,rfl,hnf,hda⟩ | ⟨rfl,y,rfl,hbf⟩
     ·rw [bgs_out _ hap (by rw [← HL.out];omega)] at hda
      cases hda with
      | nil => exact ⟨rfl,rfl,rfl,hnf⟩
     ·exact ⟨rfl,hbf⟩
    obtain ⟨rfl,hbf⟩:=hres
    have HBF:=hid hbf
    clear hbi hfs hbw hcs hbf HBG c10
    go_wp2
    go_end0
    first | exact ⟨rfl,V1,st,cp1,W1,HBI.out,HFS.out,HBF.out,HBW.out⟩ | exact ⟨rfl,V1,st,cp1,⟨W1,HBI.out⟩,HFS.out,HBF.out,HBW.out⟩ | exact ⟨rfl,⟨V1,st,cp1,⟨W1,HBI.out⟩,HFS.out,HBF.out⟩,HBW.out⟩
 ·clear c3
  go_loopw [7] (fun s7 wr => ∃ p:Nat,s7 = .int .i64 (p:Int) ∧ C.a ≤ p ∧ p ≤ C.tn + 1 ∧ Hid (BR w wr B b l tx C false r m' p)) (fun s7 _ => C.tn + 1 - (intOf s7).toNat)
  case atStart => exact ⟨C.a,rfl,Nat.le_refl _,by omega,HBR⟩
  case round =>
   clear HBR
   obtain ⟨p,rfl,hap,hpt,HBR⟩:=hrel
   obtain ⟨V1,st,m1,cp1,W1,hbi,hfs,hbw,hcs⟩:=HBR.out
   clear HBR
   have HBI:=hid hbi
   have HFS:=hid hfs
   have HBW:=hid hbw
   have c10:=hbi.mb.c 10
   simp at c10
   by_cases hpl:p ≤ C.tn
   ·have b1:decide ((p:Int) ≤ (C.tn:Int)) = true:=by simp;omega
    have b1':(p:Int) ≤ (C.tn:Int):=by omega
    rcases hcs with ⟨rfl,rfl,hnf,hda⟩ | ⟨rfl,y,rfl,hbf⟩
    ·rw [hnf.1] at c10
     rw [bgs_in _ hap (by rw [← HL.out];exact hpl) hat] at hda
     have ap:IntKind.i64.wrap ((p:Int) + 1) = ((p + 1:Nat):Int):=by rw [wrap_ok _ (by omega) (by omega)];omega
     cases hda with
     | hit _ _ _ _ _ _ z hdf =>
      have HB:=HBG.out _ _ _ _ p _ _ hbi hfs hnf hap (by omega) hdf
      clear hbi hfs hbw hnf hdf HBG
      go_wp2_with (go_at_call 110;(with_reducible refine HB.mono ?_);rintro e w2 ⟨rfl,V2,st2,cp2,W2,hb2,hf2,hbf2,hbw2⟩;have HB2:=hid hb2;have HF2:=hid hf2;have HBF2:=hid hbf2;have HBW2:=hid hbw2;clear hb2 hf2 hbf2 hbw2 HB)
      refine ⟨⟨p + 1,rfl,by omega,by omega,_,_,_,_,_,HB2.out,HF2.out,HBW.out.trans HBW2.out,.inr ⟨rfl,_,rfl,HBF2.out⟩⟩,by simp [intOf];omega⟩
     | miss _ _ _ _ _ m2 _ _ hdf hda =>
      have HB:=HBG.out _ _ _ _ p _ _ hbi hfs hnf hap (by omega) hdf
      have HDA:=hid hda
      clear hbi hfs hbw hnf hdf HBG hda
      go_wp2_with (go_at_call 110;(with_reducible refine HB.mono ?_);rintro e w2 ⟨rfl,V2,st2,cp2,W2,hb2,hf2,hbf2,hbw2⟩;have HB2:=hid hb2;have HF2:=hid hf2;have HBF2:=hid hbf2;have HBW2:=hid hbw2;clear hb2 hf2 hbf2 hbw2 HB)
      refine ⟨⟨p + 1,rfl,by omega,by omega,_,_,_,_,_,HB2.out,HF2.out,HBW.out.trans HBW2.out,.inl ⟨HBF2.out.1,HBF2.out.2.1,HBF2.out.2.2,HDA.out⟩⟩,by simp [intOf];omega⟩
    ·rw [hbf.1] at c10
     have HBF:=hid hbf
     clear hbi hfs hbw hbf HBG
     go_wp2
     go_end0
     exact ⟨rfl,_,_,_,_,HBI.out,HFS.out,HBF.out,HBW.out⟩
   ·have b1:decide ((p:Int) ≤ (C.tn:Int)) = false:=by simp;omega
    have b1':¬ ((p:Int) ≤ (C.tn:Int)):=by omega
    have hres:m1 = m' ∧ BF C V1 st (List.replicate C.K (-1)) cp1 r:=by
     rcases hcs with ⟨rfl,rfl,hnf,hda⟩ | ⟨rfl,y,rfl,hbf⟩
     ·rw [bgs_out _ hap (by rw [← HL.out];omega)] at hda
      cases hda with
      | nil => exact ⟨rfl,rfl,rfl,hnf⟩
     ·exact ⟨rfl,hbf⟩
    obtain ⟨rfl,hbf⟩:=hres
    have HBF:=hid hbf
    clear hbi hfs hbw hcs hbf HBG c10
    go_wp2
    go_end0
    first | exact ⟨rfl,V1,st,cp1,W1,HBI.out,HFS.out,HBF.out,HBW.out⟩ | exact ⟨rfl,V1,st,cp1,⟨W1,HBI.out⟩,HFS.out,HBF.out,HBW.out⟩ | exact ⟨rfl,⟨V1,st,cp1,⟨W1,HBI.out⟩,HFS.out,HBF.out⟩,HBW.out⟩
end Go.Proofs.YtacaanhnlfpbhaaGreat
namespace Go.Proofs.YtacaanhnlfpbhaaGreat
open Go.RowKit
set_option linter.unusedVariables false
set_option linter.unusedSimpArgs false
theorem next65c (m ad:Nat) (z1:Option Addr) (n c:Nat) (w:World) (h:w.cell? ⟨m,0,none⟩ = some (.slice z1 n c)):Calls Tryz.prog 137 #[pt m] w fun e w' => e = .returned (.int .i64 (n:Int)) ∧ w' = w:=by
 go_enter Tryz.func137,Tryz.ntmps137
 go_wp2
 all_goals go_ret
 all_goals exact ⟨rfl,rfl⟩
abbrev Z5:Value:=.agg #[.int .i64 0,.int .i64 0,.int .i64 0,.int .i64 0,.slice none 0 0]
abbrev BxM (w:World) (m:Nat) (z1:Option Addr) (n c:Nat):Prop:=w.heap[m]? = some (.cells #[.slice z1 n c] 93 (0,0))
set_option maxRecDepth 100000 in
set_option maxHeartbeats 4000000 in
theorem add42 {w:World} {m:Nat} {z1:Option Addr} {n c base:Nat} {xs:List Value} (N:Iv) (hm:BxM w m z1 n c) (hrow:w.ownsRow base 86 5 (.slice z1 n c) n xs) (hn:n ≤ 20000) (hb:base ≤ w.heap.size) :
  Calls Tryz.prog 95 #[pt m,N.v] w fun e w' => e = .returned (.tuple #[]) ∧ ∃ z1' c',BxM w' m z1' (n + 1) c' ∧ w'.ownsRow base 86 5 (.slice z1' (n + 1) c') (n + 1) (xs ++ Iv.cs N) ∧ (∀ b,(Value.slice z1' (n + 1) c').ownBlock = some b → (Value.slice z1 n c).ownBlock = some b ∨ w.heap.size ≤ b) ∧ Chs (fun b => b = m ∨ (Value.slice z1 n c).ownBlock = some b) w w':=by
 obtain ⟨i2,hi2,hz20,hz21,hz22⟩:=info_parts info51
 obtain ⟨op,xx,yy,aa,r1,r2,r3⟩:=N
 have hml:m < w.heap.size:=(Array.getElem?_eq_some_iff.1 hm).1
 have hmz:(Value.slice z1 n c).ownBlock ≠ some m:=own_ne hrow hm (by decide)
 obtain ⟨U,hU⟩:∃ U,U = w.alloc (.cells #[.int .i64 op,.int .i64 xx,.int .i64 yy,.int .i64 aa,.slice r1 r2 r3] 86):=⟨_,rfl⟩
 have hbU:Below w.heap.size w U:=by rw [hU];exact Joins.below_alloc1 w _
 have hQ:U.heap[w.heap.size]? = some (.cells #[.int .i64 op,.int .i64 xx,.int .i64 yy,.int .i64 aa,.slice r1 r2 r3] 86 (0,0)):=by rw [hU];exact heap_alloc_new w _
 have hmU:U.heap[m]? = some (.cells #[.slice z1 n c] 93 (0,0)):=(hbU.block m hml).trans hm
 have hsU:w.heap.size < U.heap.size:=(Array.getElem?_eq_some_iff.1 hQ).1
 have hmlU:m < U.heap.size:=by omega
 obtain ⟨d0,d1,d2,d3,d4⟩:=five hQ
 have p0:U.cell? ⟨m,0,none⟩ = some (.slice z1 n c):=Joins.cell_of_block hmU 0
 have HRU:Hid (U.ownsRow base 86 5 (.slice z1 n c) n xs):=row_kept hrow (fun b hb' => hbU.block b (hrow.lt b hb').2)
 have HO6:Hid ((U.drew.alloc (.cells #[.int .i64 op,.int .i64 xx,.int .i64 yy,.int .i64 aa,.slice r1 r2 r3] 86)).ownsRow base 86 5 (.slice z1 n c) n xs):=(HRU.out.drew).alloc _
 have HBU:=hid hbU
 have HMU:=hid hmU
 have HROW:=hid hrow
 obtain ⟨p,hp⟩:∃ p,p = w.heap.size:=⟨_,rfl⟩
 clear hbU hQ hmU hm hrow
 go_enter Tryz.func95,Tryz.ntmps95
 go_upto_region 1 with fail
 rw [← hU,← hp]
 rw [← hp] at d0 d1 d2 d3 d4
 have HPE:=hid hp
 have hpU:p < U.heap.size:=by omega
 clear hU hp
 refine wp_region_lex 6 10 (fun W => W.cell? ⟨m,0,none⟩ = some (.slice z1 n c) ∧ W.cell? ⟨p,0,none⟩ = some (.int .i64 op) ∧ W.cell? ⟨p,1,none⟩ = some (.int .i64 xx) ∧ W.cell? ⟨p,2,none⟩ = some (.int .i64 yy) ∧ W.cell? ⟨p,3,none⟩ = some (.int .i64 aa) ∧ W.cell? ⟨p,4,none⟩ = some (.slice r1 r2 r3)) (by kernel_rfl) (by kernel_rfl) (by decide) (by kernel_rfl) (by kernel_rfl) ⟨by simpa using p0,by simpa using d0,by simpa using d1,by simpa using d2,by simpa using d3,by simpa using d4⟩ ?_
 simp only [List.take_succ_cons,List.take_zero,List.drop_succ_cons,List.drop_zero]
 iterate 6
  refine lex_cons ?_ rfl (fun W hW => ?_) (fun _ _ _ h => h) ?_
  rotate_left
  ·obtain ⟨s0,s1,s2,s3,s4,s5⟩:=hW
   go_simp <;> with_reducible rfl
  simp only [Act.put,List.setIfInBounds_toArray,List.set_cons_zero,List.set_cons_succ]
 refine lex_nil (tail_cons fun K hK => ?_)
 go_simp
 refine hK.out _ _ (fun _ => ⟨by simp [p0,hmlU,World.cell?_alloc_lt],by simp [d0,hpU,World.cell?_alloc_lt],by simp [d1,hpU,World.cell?_alloc_lt],by simp [d2,hpU,World.cell?_alloc_lt],by simp [d3,hpU,World.cell?_alloc_lt],by simp [d4,hpU,World.cell?_alloc_lt]⟩) (tail_cons fun K hK => ?_)
 refine step_append_row rfl (.tmp 8) (.tmp 10) 44 rfl base 86 i2 Z5 5 56 Tryz.underlying44 hi2 hz20 hz21 hz22 rfl (by decide) (.slice z1 n c) n xs (by simp [Act.eval,Act.put]) (by exact HO6.out) U.heap.size 1 1 #[.int .i64 op,.int .i64 xx,.int .i64 yy,.int .i64 aa,.slice r1 r2 r3] 86 (by simp [Act.eval,Act.put]) (by exact heap_alloc_new U.drew _) rfl (by decide) (by simp [Value.oneCell']) (by unfold maxLen;omega) (by omega) (by (try simp) <;> omega) ?_
 intro v3 w3 ho3 hf3
 obtain ⟨y1,y3,rfl,_⟩:=row_shape ho3.out
 have hz3:U.heap.size + 1 ≤ w3.heap.size:=(by have:=hf3.out.size;simpa using this)
 have hpz:(Value.slice z1 n c).ownBlock ≠ some p:=fun e => by have:=(HROW.out.lt p e).2;have:=HPE.out;omega
 have e1:w3.heap[m]? = U.heap[m]?:=(hf3.out.block m (by (try simp) <;> omega) hmz).trans (heap_alloc_old _ _ (by (try simp) <;> omega))
 have e2:w3.heap[p]? = U.heap[p]?:=(hf3.out.block p (by (try simp) <;> omega) hpz).trans (heap_alloc_old _ _ (by (try simp) <;> omega))
 have q0:=(cell_eq e1 0).trans p0
 have q1:=(frz_eq e1 0).trans (Joins.unfrozen_of_block HMU.out 0)
 have E1:=hid e1
 have t0:=(cell_eq e2 0).trans d0
 have t1:=(cell_eq e2 1).trans d1
 have t2:=(cell_eq e2 2).trans d2
 have t3:=(cell_eq e2 3).trans d3
 have t4:=(cell_eq e2 4).trans d4
 clear e1 e2
 refine hK.out _ _ (fun _ => ⟨q0,t0,t1,t2,t3,t4⟩) (tail_cons fun K hK => ?_)
 simp only [Act.put,List.setIfInBounds_toArray,List.set_cons_zero,List.set_cons_succ]
 go_simp
 refine hK.out _ _ (fun _ => ⟨q0,t0,t1,t2,t3,t4⟩) (tail_cons fun K hK => ?_)
 simp only [Act.put,List.setIfInBounds_toArray,List.set_cons_zero,List.set_cons_succ]
 go_simp
 refine hK.out _ _ (fun _ => ⟨q0,t0,t1,t2,t3,t4⟩) (tail_cons fun K hK => ?_)
 simp only [Act.put,List.setIfInBounds_toArray,List.set_cons_zero,List.set_cons_succ]
 go_simp
 refine hK.out _ _ (fun h => absurd rfl h) (tail_nil ?_)
 go_wp2_with fail
 go_end0
 have hy1:∀ b,(Value.slice y1 (n + 1) y3).ownBlock = some b → (Value.slice z1 n c).ownBlock = some b ∨ U.heap.size ≤ b:=fun b hb => (hf3.out.own b hb).imp id (fun h => by (try simp at h) <;> omega)
 have hmy:(Value.slice y1 (n + 1) y3).ownBlock ≠ some m:=fun e => by
  rcases hy1 m e with h | h
  ·exact hmz h
  ·omega
 refine ⟨rfl,y1,y3,?_,own_setCell ho3.out hmy,fun b hb => (hy1 b hb).imp id (fun h => by omega),⟨?_,?_,?_,?_,fun b hb hn' => ?_⟩⟩
 ·exact Joins.block_setCell (i:=0) (E1.out.trans HMU.out) _
 ·exact hf3.out.os.trans HBU.out.os
 ·exact hf3.out.tape.trans HBU.out.tape
 ·exact hf3.out.output.trans HBU.out.output
 ·simp [World.setCell];omega
 ·exact (Below.heap_setCell _ _ _ _ (fun e => hn' (.inl e))).trans ((hf3.out.block b (by (try simp) <;> omega) (fun h => hn' (.inr h))).trans ((heap_alloc_old _ _ (by (try simp) <;> omega)).trans (HBU.out.block b hb)))
def MK (w:World) (m base n:Nat) (xs:List Value):Prop:=∃ z1 c,BxM w m z1 n c ∧ w.ownsRow base 86 5 (.slice z1 n c) n xs
structure Fr (base:Nat) (w w':World):Prop where
 os:w'.os = w.os
 tape:w'.tape = w.tape
 output:w'.output = w.output
 size:w.heap.size ≤ w'.heap.size
 blk:∀ (b:Nat) (cs:Array Value) (t:TypeId) (fr:Nat × Nat),w.heap[b]? = some (.cells cs t fr) → t ≠ 86 → t ≠ 93 → w'.heap[b]? = some (.cells cs t fr)
 low:∀ b,b < base → w'.heap[b]? = w.heap[b]?
theorem Fr.trans {base:Nat} {w w1 w2:World} (h:Fr base w w1) (h':Fr base w1 w2):Fr base w w2:=
 ⟨h'.os.trans h.os,h'.tape.trans h.tape,h'.output.trans h.output,Nat.le_trans h.size h'.size,fun b cs t fr e h1 h2 => h'.blk b cs t fr (h.blk b cs t fr e h1 h2) h1 h2,fun b hb => (h'.low b hb).trans (h.low b hb)⟩
theorem Fr.of_below {base:Nat} {w w':World} (h:Below w.heap.size w w') (hb:base ≤ w.heap.size):Fr base w w':=
 ⟨h.os,h.tape,h.output,h.size,fun b cs t fr e _ _ => (h.block b (Array.getElem?_eq_some_iff.1 e).1).trans e,fun b hb' => h.block b (by omega)⟩
theorem MK.below {w w':World} {m base n:Nat} {xs:List Value} (h:MK w m base n xs) (hb:Below w.heap.size w w'):MK w' m base n xs:=by
 obtain ⟨z1,c,h1,h2⟩:=h
 exact ⟨z1,c,(hb.block m (Array.getElem?_eq_some_iff.1 h1).1).trans h1,row_kept h2 (fun b hb' => hb.block b (h2.lt b hb').2)⟩
theorem add42' {w:World} {m base n:Nat} {xs:List Value} (N:Iv) (h:MK w m base n xs) (hm:base ≤ m) (hn:n ≤ 20000) (hb:base ≤ w.heap.size) :
  Calls Tryz.prog 95 #[pt m,N.v] w fun e w' => e = .returned (.tuple #[]) ∧ MK w' m base (n + 1) (xs ++ Iv.cs N) ∧ Fr base w w':=by
 obtain ⟨z1,c,h1,h2⟩:=h
 refine (add42 N h1 h2 hn hb).mono ?_
 rintro e w' ⟨rfl,z1',c',g1,g2,g3,g4⟩
 refine ⟨rfl,⟨z1',c',g1,g2⟩,⟨g4.os,g4.tape,g4.output,g4.size,fun b cs t fr e h51 h64 => (g4.block b (Array.getElem?_eq_some_iff.1 e).1 ?_).trans e,fun b hb' => g4.block b (by omega) ?_⟩⟩
 ·rintro (rfl | h)
  ·rw [h1] at e;cases e;exact h64 rfl
  ·exact own_ne h2 e h51 h
 ·rintro (rfl | h)
  ·omega
  ·have:=(h2.lt b h).1;omega
set_option maxRecDepth 100000 in
set_option maxHeartbeats 4000000 in
theorem step48 {w:World} {m base n:Nat} {xs:List Value} (op yy aa:Int) (r1:Option Addr) (r2 r3:Nat) (h:MK w m base n xs) (hm:base ≤ m) (hn:n ≤ 20000) (hb:base ≤ w.heap.size) :
  Calls Tryz.prog 93 #[pt m,(⟨op,0,yy,aa,r1,r2,r3⟩:Iv).v] w fun e w' => e = .returned (.tuple #[]) ∧ MK w' m base (n + 1) (xs ++ Iv.cs ⟨op,(n:Int) + 1,yy,aa,r1,r2,r3⟩) ∧ Fr base w w':=by
 obtain ⟨U,hU⟩:∃ U,U = w.alloc (.cells #[.int .i64 op,.int .i64 0,.int .i64 yy,.int .i64 aa,.slice r1 r2 r3] 86):=⟨_,rfl⟩
 have hbU:Below w.heap.size w U:=by rw [hU];exact Joins.below_alloc1 w _
 have hQ:U.heap[w.heap.size]? = some (.cells #[.int .i64 op,.int .i64 0,.int .i64 yy,.int .i64 aa,.slice r1 r2 r3] 86 (0,0)):=by rw [hU];exact heap_alloc_new w _
 obtain ⟨z1,c,g1,g2⟩:=h.below hbU
 have HN:=next65c m 0 z1 n c U (Joins.cell_of_block g1 0)
 have hmw:m < w.heap.size:=by obtain ⟨_,_,k1,_⟩:=h;exact (Array.getElem?_eq_some_iff.1 k1).1
 have f1:=Joins.unfrozen_of_block hQ 1
 have ad1:IntKind.i64.wrap ((n:Int) + 1) = (n:Int) + 1:=by simp [IntKind.wrap,IntKind.bits,IntKind.signed];omega
 obtain ⟨V,hV⟩:∃ V,V = U.setCell ⟨w.heap.size,1,none⟩ (.int .i64 ((n:Int) + 1)):=⟨_,rfl⟩
 have hbV:Below w.heap.size w V:=by rw [hV];exact hbU.setCell (p:=⟨w.heap.size,1,none⟩) (Nat.le_refl _) _
 have hQV:V.heap[w.heap.size]? = some (.cells #[.int .i64 op,.int .i64 ((n:Int) + 1),.int .i64 yy,.int .i64 aa,.slice r1 r2 r3] 86 (0,0)):=by rw [hV];exact Joins.block_setCell (i:=1) hQ _
 obtain ⟨d0,d1,d2,d3,d4⟩:=five hQV
 have HA:=add42' ⟨op,(n:Int) + 1,yy,aa,r1,r2,r3⟩ (h.below hbV) hm hn (Nat.le_trans hb hbV.size)
 have HF:=hid (Fr.of_below hbV hb)
 obtain ⟨c0,c1,c2,c3,c4⟩:=five hQ
 clear h hbU hQ g1 g2 hbV hQV
 obtain ⟨p,hp⟩:∃ p,p = w.heap.size:=⟨_,rfl⟩
 go_enter Tryz.func93,Tryz.ntmps93
 go_upto_region 1 with fail
 rw [← hU,← hp]
 rw [← hp] at f1 d0 d1 d2 d3 d4 hV c0 c1 c2 c3 c4
 clear hU hp
 go_upto_region 2 with (go_at_call 137;(with_reducible refine HN.mono ?_);rintro e w2 ⟨rfl,hw⟩;have hw':=hw.symm;clear hw;subst hw';clear HN)
 rw [← hV]
 clear hV c0 c1 c2 c3 c4 f1
 go_wp2_with (first | (go_at_call 95;(with_reducible refine HA.mono ?_);rintro e w3 ⟨rfl,hM,hf⟩;have HM:=hid hM;have HF3:=hid hf;clear hM hf HA))
 go_end0
 exact ⟨rfl,HM.out,HF.out.trans HF3.out⟩
theorem make51 (c:Nat) (hc:c * 56 ≤ 140737488355328) (w:World):(Instr.makeSlice 44 (.int .i64 0) (.int .i64 (c:Int))).run Tryz.prog w = .ok (.slice (some ⟨w.heap.size,0,none⟩) 0 c) (w.alloc (.cells (madeCells Z5.cells (c * 5)) 86)):=by
 obtain ⟨i0,hi0,hz0,hz1,hz2⟩:=info_parts info51
 have h:=run_make (P:=Tryz.prog) w 44 86 i0 Z5 Tryz.underlying44 hi0 hz0 .i64 .i64 0 c (by omega) (by omega) (by rw [hz2];omega) (by omega)
 simp only [Int.toNat_natCast,hz1,Int.toNat_zero] at h
 exact h
theorem made_own51 (c:Nat) (hc:c ≤ maxLen) (base:Nat) (w:World) (hb:base ≤ w.heap.size):(w.alloc (.cells (madeCells Z5.cells (c * 5)) 86)).ownsRow base 86 5 (.slice (some ⟨w.heap.size,0,none⟩) 0 c) 0 []:=
 ⟨rfl,.inr ⟨w.heap.size,c,_,rfl,hb,heap_alloc_new w _,Nat.zero_le _,hc,size_madeCells _ _,by simp⟩⟩
theorem results_cell_tmp {P:Program} {fn:Func} {p u:Tmp} {ty:TypeId} (h:fn.results = #[.cell p ty,.tmp u]) (tmps:Array Value) (w:World) (g:Nat) (t:TypeId) (cs:Array Value) (fr:Nat × Nat) (d:TypeDesc)
  (hp:tmps.getD p undef = .pointer (some ⟨g,0,none⟩)) (hg:w.heap[g]? = some (.cells cs t fr))
  (hu:P.underlying ty = some d) (hd:(match d with | .struct _ | .array _ _ => true | _ => false) = true) (hi:(P.info? ty).map (·.size) = some cs.size) :
  (results fn tmps).run P w = .ok (.tuple #[.agg cs,tmps.getD u undef]) w:=by
 have hp':tmps[p]?.getD undef = .pointer (some ⟨g,0,none⟩):=by simpa using hp
 simp [results,h,hp',asAddr,run_loadVar_row w g t ty cs fr d hg hu hd hi]
end Go.Proofs.YtacaanhnlfpbhaaGreat
namespace Go.Proofs.YtacaanhnlfpbhaaGreat
open Go.RowKit Go.Lk
set_option linter.unusedVariables false
set_option linter.unusedSimpArgs false
theorem ri_row {nb c N:Nat} {W:World} (h:RI nb c c W) (hN:N ≤ nb) (hc:c ≤ 10000):W.ownsRow N 3 1 (.slice (some ⟨nb,0,none⟩) c c) c (I64 (List.replicate c (-1))):=by
 obtain ⟨arr,h1,h2,h3⟩:=h
 refine ⟨by simp,.inr ⟨nb,c,arr,rfl,hN,h1,Nat.le_refl _,by unfold maxLen;omega,by omega,?_⟩⟩
 apply List.ext_getElem?
 intro k
 by_cases hk:k < c
 ·rw [List.getElem?_take_of_lt (by omega)]
  have:=h3 k hk
  simp only [I64,List.map_replicate,List.getElem?_replicate,hk,if_true]
  simpa using this
 ·rw [List.getElem?_eq_none (by simp;omega),List.getElem?_eq_none (by simp;omega)]
def KW (U W:World):Prop:=Below U.heap.size U W
theorem kw0 (U:World):KW U U:=Below.refl _ _
theorem kw_drew {U W:World} (h:KW U W):KW U W.drew:=Below.trans h ((Eqw.drew W).below _)
theorem kw_alloc {U W:World} {o:Obj} (h:KW U W):KW U (W.alloc o):=Below.trans h (Joins.below_le (Joins.below_alloc1 W o) h.size)
theorem kw_next {U W W':World} (h:KW U W) (h2:Below W.heap.size W W'):KW U W':=Below.trans h (Joins.below_le h2 h.size)
def FR (K:Nat) (r:Fd × Nat) (w:World) (e:Ending) (w':World):Prop:=Below w.heap.size w w' ∧ match r.1 with
 | none => e = .returned (.tuple #[.agg #[.bool false,.slice none 0 0,.int .i64 0,.int .i64 (r.2:Int)],.int .i64 0])
 | some y => ∃ g,e = .returned (.tuple #[.agg #[.bool true,.slice (some ⟨g,0,none⟩) K K,.int .i64 y.1,.int .i64 (r.2:Int)],.int .i64 0]) ∧ w'.ownsRow w.heap.size 3 1 (.slice (some ⟨g,0,none⟩) K K) K (I64 y.2)
def FE (c:Int) (w:World) (e:Ending) (w':World):Prop:=Below w.heap.size w w' ∧ e = .returned (.tuple #[.agg #[.bool false,.slice none 0 0,.int .i64 0,.int .i64 0],.int .i64 c])
def errR (l:List In) (s k:Int) (n:Nat) (a:Int):Int:=if 4194304 < n then 2 else if mayB l s k = false then 90 else if a < 0 ∨ (n:Int) < a then 1 else 0
set_option maxHeartbeats 2000000 in
theorem tooBig20 (n q:Nat) (w:World) (hn:0 < n) (hn2:n ≤ 20000) (hq:q ≤ 5000000):Calls Tryz.prog 68 #[.int .i64 (n:Int),.int .i64 (q:Int)] w fun e w' => e = .returned (.bool (decide (16777216 < n * q))) ∧ w' = w:=by
 have e1:decide (16777216 < n * q) = decide (16777216 / n < q):=by
  rw [Bool.eq_iff_iff]
  simp only [decide_eq_true_eq]
  rw [Nat.div_lt_iff_lt_mul hn,Nat.mul_comm n q]
 rw [e1]
 obtain ⟨d,hd⟩:∃ d,d = 16777216 / n:=⟨_,rfl⟩
 rw [← hd]
 have a1:Int.tdiv 16777216 (n:Int) = (d:Int):=by rw [hd];rfl
 have a2:(16777216:Int) / (n:Int) = (d:Int):=by rw [hd];rfl
 have hd2:d ≤ 16777216:=by rw [hd];exact Nat.div_le_self _ _
 have n0:(n:Int) ≠ 0:=by omega
 have n0':((n:Int) == 0) = false:=by simp;omega
 clear hd e1
 go_enter Tryz.func68,Tryz.ntmps68
 go_wp2
 go_ret
 exact ⟨rfl,rfl⟩
def cst (ad:Option Addr) (n c S K:Nat) (tad:Option Addr) (tn tc ub a:Nat):Bk:=⟨ad,n,c,S,K,tad,tn,tc,ub,a⟩
def var0:Bv:=⟨none,0,0,none,0,0,0,false,none,0,0,0,0⟩
set_option maxRecDepth 100000 in
set_option maxHeartbeats 8000000 in
theorem newMachine21 {w:World} {ad tad:Option Addr} {n c S K tn tc a:Nat} {l:List In} {tx:List Int} (hP:PI w w.heap.size ad n l) (hmay:mayB l (S:Int) (K:Int) = true) (hT:TextAt w.heap.size w tad tn tx) :
  Calls Tryz.prog 69 #[pv ad n c (S:Int) (K:Int),.slice tad tn tc,.int .i64 (a:Int)] w fun e w' => ∃ b ub,e = .returned (.pointer (some ⟨b,0,none⟩)) ∧ BI w' w.heap.size b l tx (cst ad n c S K tad tn tc ub a) var0 [] [] (List.replicate K (-1)) [] ∧ Below w.heap.size w w':=by
 have hm:=may_ok hmay
 obtain ⟨B,hB⟩:∃ B,B = w.heap.size:=⟨_,rfl⟩
 obtain ⟨U,hU⟩:∃ U,U = w.alloc (.cells #[.slice ad n c,.int .i64 (S:Int),.int .i64 (K:Int)] 46):=⟨_,rfl⟩
 have hbU:Below w.heap.size w U:=by rw [hU];exact Joins.below_alloc1 w _
 have hX:U.heap[w.heap.size]? = some (.cells #[.slice ad n c,.int .i64 (S:Int),.int .i64 (K:Int)] 46 (0,0)):=by rw [hU];exact heap_alloc_new w _
 have hUs:w.heap.size < U.heap.size:=(Array.getElem?_eq_some_iff.1 hX).1
 rw [← hB] at hbU hX hUs ⊢
 obtain ⟨c0,c1,c2⟩:=three_cells hX
 have HBU:=hid hbU
 have HP:=hid hP
 have HT:=hid hT
 have HBE:=hid hB
 have hK1:1 ≤ K ∧ K ≤ 1002:=by omega
 have HREP:Hid (∀ (xb:Nat) (W:World),W.cell? ⟨xb,0,none⟩ = some (.int .i64 (-1)) → xb < W.heap.size → Calls Tryz.prog 75 #[.slice (some ⟨xb,0,none⟩) 1 1,.int .i64 (K:Int)] W fun e w' => e = .returned (.slice (some ⟨W.heap.size,0,none⟩) K K) ∧ Below W.heap.size W w' ∧ RI W.heap.size K K w'):=fun xb W h1 h2 => repeat51g xb 1 K hK1.1 (by omega) W h1 h2
 clear hbU hX hP hT hm hmay
 go_enter Tryz.func69,Tryz.ntmps69
 go_upto_region 1 with fail
 rw [← hU,← hB]
 clear hU hB
 have HKEEP:Hid (∀ W,KW U W → W.cell? ⟨B,0,none⟩ = some (.slice ad n c) ∧ W.cell? ⟨B,1,none⟩ = some (.int .i64 (S:Int)) ∧ W.cell? ⟨B,2,none⟩ = some (.int .i64 (K:Int))):=fun W h => ⟨(cell_eq (h.block B hUs) 0).trans c0,(cell_eq (h.block B hUs) 1).trans c1,(cell_eq (h.block B hUs) 2).trans c2⟩
 go_region_held2 (fun w' => w'.cell? ⟨B,0,none⟩ = some (.slice ad n c) ∧ w'.cell? ⟨B,1,none⟩ = some (.int .i64 (S:Int)) ∧ w'.cell? ⟨B,2,none⟩ = some (.int .i64 (K:Int)))
   (first | (refine HKEEP.out _ ?_;repeat (first | with_reducible exact kw0 U | with_reducible refine kw_drew ?_ | with_reducible refine kw_alloc ?_ | with_reducible refine kw_next ?_ HB3.out)))
   (first | (go_at_call 75;(with_reducible refine (HREP.out _ _ (by first | (simp;done)) (by first | (simp;done))).mono ?_);rintro e w3 ⟨rfl,hb3,hri⟩;have HB3:=hid hb3;have HRI:=hid hri;clear hb3 hri))
 go_wp2
 go_ret
 have hri:RI (U.heap.size + 1) K K w3:=by have:=HRI.out;simpa using this
 have hb3:Below (U.heap.size + 1) (U.alloc (.cells #[.int .i64 (-1)] 3)).drew w3:=by have:=HB3.out;simpa using this
 have hU3:Below U.heap.size U w3:=(Joins.below_alloc1 U _).trans (((Eqw.drew _).below _).trans (Joins.below_le hb3 (by omega)))
 have hs3:=hU3.size
 have h4:Below U.heap.size U (w3.alloc (.cells (bcs (cst ad n c S K tad tn tc (U.heap.size + 1) a) var0) 126)):=hU3.trans (Joins.below_le (Joins.below_alloc1 w3 _) hs3)
 have hbw:Below B w (w3.alloc (.cells (bcs (cst ad n c S K tad tn tc (U.heap.size + 1) a) var0) 126)):=HBU.out.trans (Joins.below_le h4 (by omega))
 have hPB:=HP.out
 have hTB:=HT.out
 rw [← HBE.out] at hPB hTB
 refine ⟨w3.heap.size,U.heap.size + 1,rfl,⟨heap_alloc_new w3 _,by omega,hPB.kept hbw (Nat.le_refl _),hTB.below hbw,?_,World.ownsRow_nil _ _ _ _,World.ownsRow_nil _ _ _ _,Bits.nil _ _ _,rfl,rfl,OkP.nil _ _ _,by simp,okCZ.rep _ _,by simp⟩,hbw⟩
 exact (ri_row (N:=B) hri (by omega) (by omega)).alloc _
end Go.Proofs.YtacaanhnlfpbhaaGreat
