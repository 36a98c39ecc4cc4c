/- HELPERS: texts of ours put together. -/
import Derived.Test.YtacaanhnlfpbhaaGreatK39
import Derived.Laws.Rows
import Derived.Test.YtacaanhnlfpbhaaGreatK04
import Derived.Test.YtacaanhnlfpbhaaGreatK16
import Derived.Deep.RegionHeld2
import Derived.Test.YtacaanhnlfpbhaaGreatK30
import Derived.Test.YtacaanhnlfpbhaaGreatK33
namespace Go.Proofs.YtacaanhnlfpbhaaGreat
open Go.RowKit
set_option linter.unusedVariables false
set_option linter.unusedSimpArgs false
def MK (w:World) (m base n:Nat) (xs:List Value):Prop:=∃ z1 c,BxM w m z1 n c ∧ w.ownsRow base 86 5 (.slice z1 n c) n xs
structure Fr (base:Nat) (w w':World):Prop where
 os:w'.os = w.os
 tape:w'.tape = w.tape
 output:w'.output = w.output
 size:w.heap.size ≤ w'.heap.size
 blk:∀ (b:Nat) (cs:Array Value) (t:TypeId) (fr:Nat × Nat),w.heap[b]? = some (.cells cs t fr) → t ≠ 86 → t ≠ 93 → w'.heap[b]? = some (.cells cs t fr)
 low:∀ b,b < base → w'.heap[b]? = w.heap[b]?
theorem Fr.trans {base:Nat} {w w1 w2:World} (h:Fr base w w1) (h':Fr base w1 w2):Fr base w w2:=
 ⟨h'.os.trans h.os,h'.tape.trans h.tape,h'.output.trans h.output,Nat.le_trans h.size h'.size,fun b cs t fr e h1 h2 => h'.blk b cs t fr (h.blk b cs t fr e h1 h2) h1 h2,fun b hb => (h'.low b hb).trans (h.low b hb)⟩
theorem Fr.of_below {base:Nat} {w w':World} (h:Below w.heap.size w w') (hb:base ≤ w.heap.size):Fr base w w':=
 ⟨h.os,h.tape,h.output,h.size,fun b cs t fr e _ _ => (h.block b (Array.getElem?_eq_some_iff.1 e).1).trans e,fun b hb' => h.block b (by omega)⟩
theorem MK.below {w w':World} {m base n:Nat} {xs:List Value} (h:MK w m base n xs) (hb:Below w.heap.size w w'):MK w' m base n xs:=by
 obtain ⟨z1,c,h1,h2⟩:=h
 exact ⟨z1,c,(hb.block m (Array.getElem?_eq_some_iff.1 h1).1).trans h1,row_kept h2 (fun b hb' => hb.block b (h2.lt b hb').2)⟩
theorem add42' {w:World} {m base n:Nat} {xs:List Value} (N:Iv) (h:MK w m base n xs) (hm:base ≤ m) (hn:n ≤ 20000) (hb:base ≤ w.heap.size) :
  Calls Tryz.prog 95 #[pt m,N.v] w fun e w' => e = .returned (.tuple #[]) ∧ MK w' m base (n + 1) (xs ++ Iv.cs N) ∧ Fr base w w':=by
 obtain ⟨z1,c,h1,h2⟩:=h
 refine (add42 N h1 h2 hn hb).mono ?_
 rintro e w' ⟨rfl,z1',c',g1,g2,g3,g4⟩
 refine ⟨rfl,⟨z1',c',g1,g2⟩,⟨g4.os,g4.tape,g4.output,g4.size,fun b cs t fr e h51 h64 => (g4.block b (Array.getElem?_eq_some_iff.1 e).1 ?_).trans e,fun b hb' => g4.block b (by omega) ?_⟩⟩
 ·rintro (rfl | h)
  ·rw [h1] at e;cases e;exact h64 rfl
  ·exact own_ne h2 e h51 h
 ·rintro (rfl | h)
  ·omega
  ·have:=(h2.lt b h).1;omega
set_option maxRecDepth 100000 in
set_option maxHeartbeats 4000000 in
theorem step48 {w:World} {m base n:Nat} {xs:List Value} (op yy aa:Int) (r1:Option Addr) (r2 r3:Nat) (h:MK w m base n xs) (hm:base ≤ m) (hn:n ≤ 20000) (hb:base ≤ w.heap.size) :
  Calls Tryz.prog 93 #[pt m,(⟨op,0,yy,aa,r1,r2,r3⟩:Iv).v] w fun e w' => e = .returned (.tuple #[]) ∧ MK w' m base (n + 1) (xs ++ Iv.cs ⟨op,(n:Int) + 1,yy,aa,r1,r2,r3⟩) ∧ Fr base w w':=by
 obtain ⟨U,hU⟩:∃ U,U = w.alloc (.cells #[.int .i64 op,.int .i64 0,.int .i64 yy,.int .i64 aa,.slice r1 r2 r3] 86):=⟨_,rfl⟩
 have hbU:Below w.heap.size w U:=by rw [hU];exact Joins.below_alloc1 w _
 have hQ:U.heap[w.heap.size]? = some (.cells #[.int .i64 op,.int .i64 0,.int .i64 yy,.int .i64 aa,.slice r1 r2 r3] 86 (0,0)):=by rw [hU];exact heap_alloc_new w _
 obtain ⟨z1,c,g1,g2⟩:=h.below hbU
 have HN:=next65c m 0 z1 n c U (Joins.cell_of_block g1 0)
 have hmw:m < w.heap.size:=by obtain ⟨_,_,k1,_⟩:=h;exact (Array.getElem?_eq_some_iff.1 k1).1
 have f1:=Joins.unfrozen_of_block hQ 1
 have ad1:IntKind.i64.wrap ((n:Int) + 1) = (n:Int) + 1:=by simp [IntKind.wrap,IntKind.bits,IntKind.signed];omega
 obtain ⟨V,hV⟩:∃ V,V = U.setCell ⟨w.heap.size,1,none⟩ (.int .i64 ((n:Int) + 1)):=⟨_,rfl⟩
 have hbV:Below w.heap.size w V:=by rw [hV];exact hbU.setCell (p:=⟨w.heap.size,1,none⟩) (Nat.le_refl _) _
 have hQV:V.heap[w.heap.size]? = some (.cells #[.int .i64 op,.int .i64 ((n:Int) + 1),.int .i64 yy,.int .i64 aa,.slice r1 r2 r3] 86 (0,0)):=by rw [hV];exact Joins.block_setCell (i:=1) hQ _
 obtain ⟨d0,d1,d2,d3,d4⟩:=five hQV
 have HA:=add42' ⟨op,(n:Int) + 1,yy,aa,r1,r2,r3⟩ (h.below hbV) hm hn (Nat.le_trans hb hbV.size)
 have HF:=hid (Fr.of_below hbV hb)
 obtain ⟨c0,c1,c2,c3,c4⟩:=five hQ
 clear h hbU hQ g1 g2 hbV hQV
 obtain ⟨p,hp⟩:∃ p,p = w.heap.size:=⟨_,rfl⟩
 go_enter Tryz.func93,Tryz.ntmps93
 go_upto_region 1 with fail
 rw [← hU,← hp]
 rw [← hp] at f1 d0 d1 d2 d3 d4 hV c0 c1 c2 c3 c4
 clear hU hp
 go_upto_region 2 with (go_at_call 137;(with_reducible refine HN.mono ?_);rintro e w2 ⟨rfl,hw⟩;have hw':=hw.symm;clear hw;subst hw';clear HN)
 rw [← hV]
 clear hV c0 c1 c2 c3 c4 f1
 go_wp2_with (first | (go_at_call 95;(with_reducible refine HA.mono ?_);rintro e w3 ⟨rfl,hM,hf⟩;have HM:=hid hM;have HF3:=hid hf;clear hM hf HA))
 go_end0
 exact ⟨rfl,HM.out,HF.out.trans HF3.out⟩
theorem make51 (c:Nat) (hc:c * 56 ≤ 140737488355328) (w:World):(Instr.makeSlice 44 (.int .i64 0) (.int .i64 (c:Int))).run Tryz.prog w = .ok (.slice (some ⟨w.heap.size,0,none⟩) 0 c) (w.alloc (.cells (madeCells Z5.cells (c * 5)) 86)):=by
 obtain ⟨i0,hi0,hz0,hz1,hz2⟩:=info_parts info51
 have h:=run_make (P:=Tryz.prog) w 44 86 i0 Z5 Tryz.underlying44 hi0 hz0 .i64 .i64 0 c (by omega) (by omega) (by rw [hz2];omega) (by omega)
 simp only [Int.toNat_natCast,hz1,Int.toNat_zero] at h
 exact h
theorem made_own51 (c:Nat) (hc:c ≤ maxLen) (base:Nat) (w:World) (hb:base ≤ w.heap.size):(w.alloc (.cells (madeCells Z5.cells (c * 5)) 86)).ownsRow base 86 5 (.slice (some ⟨w.heap.size,0,none⟩) 0 c) 0 []:=
 ⟨rfl,.inr ⟨w.heap.size,c,_,rfl,hb,heap_alloc_new w _,Nat.zero_le _,hc,size_madeCells _ _,by simp⟩⟩
theorem results_cell_tmp {P:Program} {fn:Func} {p u:Tmp} {ty:TypeId} (h:fn.results = #[.cell p ty,.tmp u]) (tmps:Array Value) (w:World) (g:Nat) (t:TypeId) (cs:Array Value) (fr:Nat × Nat) (d:TypeDesc)
  (hp:tmps.getD p undef = .pointer (some ⟨g,0,none⟩)) (hg:w.heap[g]? = some (.cells cs t fr))
  (hu:P.underlying ty = some d) (hd:(match d with | .struct _ | .array _ _ => true | _ => false) = true) (hi:(P.info? ty).map (·.size) = some cs.size) :
  (results fn tmps).run P w = .ok (.tuple #[.agg cs,tmps.getD u undef]) w:=by
 have hp':tmps[p]?.getD undef = .pointer (some ⟨g,0,none⟩):=by simpa using hp
 simp [results,h,hp',asAddr,run_loadVar_row w g t ty cs fr d hg hu hd hi]
end Go.Proofs.YtacaanhnlfpbhaaGreat
namespace Go.Proofs.YtacaanhnlfpbhaaGreat
open Go.RowKit Go.Lk
set_option linter.unusedVariables false
set_option linter.unusedSimpArgs false
abbrev L4:List In:=[⟨3,1,0,0,[]⟩,⟨1,2,0,0,[(97,97)]⟩,⟨3,3,0,1,[]⟩,⟨5,0,0,0,[]⟩]
abbrev N4 (q1:Option Addr) (q3:Nat):List Iv:=[⟨3,1,0,0,none,0,0⟩,⟨1,2,0,0,q1,1,q3⟩,⟨3,3,0,1,none,0,0⟩,⟨5,0,0,0,none,0,0⟩]
abbrev A4 (g:Nat):Array Value:=#[.int .i64 3,.int .i64 1,.int .i64 0,.int .i64 0,.slice none 0 0,.int .i64 1,.int .i64 2,.int .i64 0,.int .i64 0,.slice (some ⟨g,0,none⟩) 1 1,.int .i64 3,.int .i64 3,.int .i64 0,.int .i64 1,.slice none 0 0,.int .i64 5,.int .i64 0,.int .i64 0,.int .i64 0,.slice none 0 0]
abbrev T4:List Int:=[97,98,97]
def IR (w:World) (v:Value) (l:List Int):Prop:=∃ ad c,v = .slice ad l.length c ∧ (l.length = 0 ∨ ∃ b o,ad = some ⟨b,o,none⟩ ∧ b < w.heap.size ∧ ∀ k,k < l.length → w.cell? ⟨b,o + k,none⟩ = some (.int .i64 (l.getD k 0)))
theorem IR.below {w w':World} {v:Value} {l:List Int} (h:IR w v l) (hb:Below w.heap.size w w'):IR w' v l:=by
 obtain ⟨ad,c,e,h⟩:=h
 refine ⟨ad,c,e,?_⟩
 rcases h with h | ⟨b,o,e,hl,hc⟩
 ·exact .inl h
 ·exact .inr ⟨b,o,e,by have:=hb.size;omega,fun k hk => (hb.cell (p:=⟨b,o + k,none⟩) hl).trans (hc k hk)⟩
theorem IR.row {w:World} {base:Nat} {v:Value} {l:List Int} {n:Nat} (h:w.ownsRow base 3 1 v n (I64 l)):IR w v l:=by
 have hn:l.length = n:=by have:=h.1;simpa [I64] using this
 subst hn
 rcases h.2 with ⟨e,h0⟩ | ⟨g,cap,cur,e,_⟩
 ·exact ⟨none,0,by rw [e,h0],.inl h0⟩
 ·refine ⟨some ⟨g,0,none⟩,cap,e,.inr ⟨g,0,rfl,?_,fun k hk => ?_⟩⟩
  ·exact (h.lt g (by rw [e];rfl)).2
  ·rw [e] at h
   rw [Nat.zero_add,h.cellAt k (by omega)]
   simp [I64,hk,List.getD_eq_getElem?_getD]
theorem four_cells {w:World} {b:Nat} {v0 v1 v2 v3:Value} {t:TypeId} {fr:Nat × Nat} (h:w.heap[b]? = some (.cells #[v0,v1,v2,v3] t fr)):w.cell? ⟨b,0,none⟩ = some v0 ∧ w.cell? ⟨b,1,none⟩ = some v1 ∧ w.cell? ⟨b,2,none⟩ = some v2 ∧ w.cell? ⟨b,3,none⟩ = some v3:=
 ⟨Joins.cell_of_block h 0,Joins.cell_of_block h 1,Joins.cell_of_block h 2,Joins.cell_of_block h 3⟩
end Go.Proofs.YtacaanhnlfpbhaaGreat
namespace Go.Proofs.YtacaanhnlfpbhaaGreat
open Go.RowKit
set_option linter.unusedVariables false
set_option linter.unusedSimpArgs false
theorem nf_one_len {t:Tn} (h:Nf t) (h1:t.kind = 1):t.len = 0:=by
 cases h with
 | leaf hk hn => simp only [Tn.kind] at h1;subst h1;rfl
 | cat h2 h' hs => simp [Tn.kind] at h1
 | alt h2 h' hs => simp [Tn.kind] at h1
 | loop h' hy => simp [Tn.kind] at h1
 | grp hn hy => simp [Tn.kind] at h1
theorem within4_len {t:Tn} (h:Nf t):lenL (within 4 t) = t.len:=by
 unfold within
 split
 ·rename_i hk
  cases h with
  | leaf h1 hn => simp only [Tn.kind] at hk;omega
  | cat h2 h' hs => simp [Tn.subs,Tn.len]
  | alt h2 h' hs => simp [Tn.kind] at hk
  | loop h' hy => simp [Tn.kind] at hk
  | grp hn hy => simp [Tn.kind] at hk
 ·simp [lenL]
def sumR:List (Tn × Nat) → Nat
 | [] => 0
 | x :: l => x.2 * x.1.len + sumR l
theorem rowS4_len {l:List (Tn × Nat)} (hl:∀ x ∈ l,Nf x.1):lenL (rowS 4 (l.filter keep)) = sumR l:=by
 induction l with
 | nil => rfl
 | cons x l ih =>
  have ih':=ih fun y hy => hl y (by simp [hy])
  have hx:=hl x (by simp)
  rw [List.filter_cons,sumR]
  by_cases h1:x.1.kind = 1
  ·have hk:keep x = false:=by simp [keep,h1]
   simp [hk,ih',nf_one_len hx h1]
  ·by_cases h0:x.2 = 0
   ·have hk:keep x = false:=by simp [keep,h0]
    simp [hk,ih',h0]
   ·have hk:keep x = true:=by simp [keep,h1];omega
    rw [if_pos hk,rowS_cons,lenL_append,lenL_rep,within4_len hx,ih']
theorem join_len {l:List (Tn × Nat)} (hl:∀ x ∈ l,Nf x.1):(joinT l).len = sumR l:=by
 rw [joinT_us hl,← rowS4_len hl]
 generalize rowS 4 (l.filter keep) = us
 match us with
 | [] => rfl
 | [u] => simp [lenL]
 | a :: b :: s => simp [Tn.len]
theorem opt_len {y:Tn} (hy:Nf y) (lz:Bool):∀ n,(optT y lz n).len = n * (1 + y.len)
 | 0 => by simp [optT,Tn.len]
 | 1 => by simp [optT,Tn.len,lenL];omega
 | n + 2 => by
  have ih:=opt_len hy lz (n + 1)
  have hj:=join_len (l:=[(y,1),(optT y lz (n + 1),1)]) fun x hx => by
   simp at hx
   rcases hx with rfl | rfl
   ·exact hy
   ·exact nf_opt lz hy _
  rw [optT_step]
  have e:(loopT 0 1 lz (joinT [(y,1),(optT y lz (n + 1),1)])).len = (joinT [(y,1),(optT y lz (n + 1),1)]).len + 1:=by simp [Tn.len,lenL]
  rw [e,hj]
  simp only [sumR,ih,Nat.one_mul,Nat.add_zero]
  rw [show n + 2 = (n + 1) + 1 from rfl,Nat.succ_mul (n + 1)]
  omega
theorem rep_len {y:Tn} (hy:Nf y) (p q:Nat) (lz:Bool):(repT y (p:Int) ((p + q:Nat):Int) lz).len = p * y.len + q * (1 + y.len):=by
 unfold repT
 rw [if_pos (by omega),join_len fun x hx => by
  simp at hx
  rcases hx with rfl | rfl
  ·exact hy
  ·exact nf_opt lz hy _]
 simp only [sumR,show (p:Int).toNat = p by omega,show (((p + q:Nat):Int) - (p:Int)).toNat = q by omega,opt_len hy,Nat.one_mul,Nat.add_zero]
theorem rep_len_inf {y:Tn} (hy:Nf y) (p:Nat) (lz:Bool):(repT y (p:Int) (-1) lz).len = if p = 0 then y.len + 2 else p * y.len + 1:=by
 unfold repT
 rw [if_neg (by decide)]
 by_cases h0:p = 0
 ·subst h0;simp [Tn.len,lenL]
 ·rw [if_neg (by omega),if_neg h0,join_len fun x hx => by
   simp at hx
   rcases hx with rfl | rfl
   ·exact hy
   ·exact .loop (.inr (.inr ⟨rfl,rfl⟩)) hy]
  have e:(loopT 1 (-1) lz y).len = y.len + 1:=by simp [Tn.len,lenL]
  simp only [sumR,e,show ((p:Int) - 1).toNat = p - 1 by omega,Nat.one_mul,Nat.add_zero]
  obtain ⟨r,rfl⟩:∃ r,p = r + 1:=⟨p - 1,by omega⟩
  rw [Nat.add_sub_cancel,Nat.succ_mul]
  omega
theorem row5_len {l:List Tn} (hl:∀ x ∈ l,Nf x):lenL (rowS 5 (ones l)) + 2 * (rowS 5 (ones l)).length = lenL l + 2 * l.length:=by
 induction l with
 | nil => rfl
 | cons x l ih =>
  have ih':=ih fun y hy => hl y (by simp [hy])
  have hx:=hl x (by simp)
  have e:ones (x :: l) = (x,1) :: ones l:=rfl
  have e2:(List.replicate 1 (within 5 x)).flatten = within 5 x:=by simp
  rw [e,rowS_cons,e2,lenL_append,List.length_append,lenL,List.length_cons]
  have hw:lenL (within 5 x) + 2 * (within 5 x).length = x.len + 2:=by
   unfold within
   split
   ·rename_i hk
    have h2:=nf_subs hx (.inr hk)
    cases hx with
    | leaf h1 hn => simp only [Tn.kind] at hk;omega
    | cat h2 h' hs => simp [Tn.kind] at hk
    | @alt s h3 h' hs => simp only [Tn.subs,Tn.len] at h2 ⊢;simp;omega
    | loop h' hy => simp [Tn.kind] at hk
    | grp hn hy => simp [Tn.kind] at hk
   ·simp [lenL]
  omega
theorem alt_len {l:List Tn} (hl:∀ x ∈ l,Nf x) (h2:1 ≤ l.length):(rowT 5 (ones l)).len = lenL l + 2 * (l.length - 1):=by
 have h:=row5_len hl
 have hlen:=rowS_len (k:=5) (l:=ones l) fun x hx => (nf_within (.inr rfl) (by obtain ⟨u,hu,rfl⟩:=List.mem_map.1 hx;exact hl u hu)).1
 rw [timesOf_ones] at hlen
 have e:(rowT 5 (ones l)).len = lenL (rowS 5 (ones l)) + 2 * ((rowS 5 (ones l)).length - 1):=by simp [Tn.len]
 rw [e]
 omega
theorem ones_len (l:List Tn):sumR (ones l) = lenL l:=by
 induction l with
 | nil => rfl
 | cons x l ih =>
  have e:ones (x :: l) = (x,1) :: ones l:=rfl
  rw [e,sumR,ih,lenL];simp only [Nat.one_mul]
theorem mul_cap (m a b:Nat) (h:min a 20001 = min b 20001):min (m * a) 20001 = min (m * b) 20001:=by
 rcases Nat.eq_zero_or_pos m with h0 | h0
 ·subst h0;simp
 by_cases ha:a ≤ 20000
 ·have:a = b:=by omega
  rw [this]
 ·have h1:20001 ≤ m * a:=Nat.le_trans (by omega) (Nat.le_mul_of_pos_left _ h0)
  have h2:20001 ≤ m * b:=Nat.le_trans (by omega) (Nat.le_mul_of_pos_left _ h0)
  omega
mutual
theorem ln_len:∀ t:Tn,t.fine = true → min t.ln 20001 = min t.S.len 20001
 | .mk k R a s mn mx lz ix nm,h => by
  simp only [Tn.fine,Bool.and_eq_true] at h
  have ih:=lnL_len s h.2 0 (by omega)
  have hnf:=nf_SL s h.2
  have hfk:=fine_kind h.1
  rw [Nat.zero_add] at ih
  simp only [Tn.ln,Tn.S]
  by_cases k2:k = 2 ∨ k = 3
  ·rw [if_pos k2,if_neg (by omega),if_neg (by omega),if_neg (by omega),if_neg (by omega)]
   simp only [Tn.len]
   rw [if_pos k2]
  rw [if_neg k2]
  by_cases k4:k = 4
  ·rw [if_neg (by omega),if_neg (by omega),if_neg (by omega),if_pos k4,join_len (fun x hx => by obtain ⟨u,hu,rfl⟩:=List.mem_map.1 hx;exact hnf u hu),ones_len]
   omega
  by_cases k5:k = 5
  ·rw [if_neg (by omega),if_pos k5,if_neg k4,if_pos k5,alt_len hnf (by rw [SL_len];omega),SL_len]
   omega
  rw [if_neg k4,if_neg k5,if_neg k5]
  have hone:s.length = 1 → (SL s).headD emptyT ∈ SL s ∧ lenL (SL s) = ((SL s).headD emptyT).len:=fun h1 => by
   match s,h1 with
   | [u],_ => simp [SL,lenL]
  by_cases k6:k = 6
  ·obtain ⟨hy,hl⟩:=hone (by omega)
   have hny:=hnf _ hy
   rw [if_neg (by omega),if_pos k6,if_pos k6]
   generalize (SL s).headD emptyT = y at hy hl hny ⊢
   rw [hl] at ih
   obtain ⟨p,rfl⟩:∃ p:Nat,mn = (p:Int):=⟨mn.toNat,by omega⟩
   by_cases hm:mx = -1
   ·subst hm
    rw [if_neg (by decide),rep_len_inf hny]
    by_cases h0:p = 0
    ·rw [if_pos (by omega),if_pos h0];omega
    ·rw [if_neg (by omega),if_neg h0,show (p:Int).toNat = p by omega]
     have:=mul_cap p _ _ (show min (lnL s 0) 20001 = min y.len 20001 by omega)
     omega
   ·obtain ⟨q,rfl⟩:∃ q:Nat,mx = ((p + q:Nat):Int):=⟨(mx - p).toNat,by omega⟩
    rw [if_pos (by omega),rep_len hny,show (p:Int).toNat = p by omega,show (((p + q:Nat):Int) - (p:Int)).toNat = q by omega]
    have h1:=mul_cap p _ _ (show min (lnL s 0) 20001 = min y.len 20001 by omega)
    have h2:=mul_cap q (1 + lnL s 0) (1 + y.len) (by omega)
    omega
  by_cases k7:k = 7
  ·obtain ⟨hy,hl⟩:=hone (by omega)
   rw [if_pos k7,if_neg k6,if_pos k7]
   have e:(Tn.mk 7 [] 0 [(SL s).headD emptyT] 0 0 false ix nm).len = ((SL s).headD emptyT).len + 2:=by simp [Tn.len,lenL]
   rw [e,← hl]
   omega
  ·have hz:s = []:=List.length_eq_zero_iff.1 (by omega)
   subst hz
   rw [if_neg k7,if_neg k6,if_neg k6,if_neg k7]
   simp [Tn.len,lnL,k2,k7,k4,k5,k6]
theorem lnL_len:∀ ts:List Tn,fineL ts = true → ∀ a,a ≤ 20001 → lnL ts a = min (a + lenL (SL ts)) 20001
 | [],_ => fun a ha => by simp only [lnL,SL,lenL];omega
 | t :: ts,h => fun a ha => by
  simp only [fineL,Bool.and_eq_true] at h
  have h1:=ln_len t h.1
  have h2:=lnL_len ts h.2 (min (a + t.ln) 20001) (by omega)
  simp only [lnL,SL,lenL,h2]
  omega
end
abbrev Gk:=Int × List UInt8
mutual
def Tn.inG (q:Gk):Tn → Prop
 | .mk k _ _ s _ mx _ ix nm => ¬ (k = 6 ∧ mx = 0) ∧ ((k = 7 ∧ (ix,nm.toList) = q) ∨ inGL q s)
def inGL (q:Gk):List Tn → Prop
 | [] => False
 | t :: ts => t.inG q ∨ inGL q ts
end
theorem inGL_iff {q:Gk} {ts:List Tn}:inGL q ts ↔ ∃ u ∈ ts,u.inG q:=by
 induction ts with
 | nil => simp [inGL]
 | cons t ts ih => simp [inGL,ih]
theorem inG_zN {k:Int} (hk:k = 4 ∨ k = 5) {s:List Tn} {q:Gk}:(zN k s).inG q ↔ ∃ u ∈ s,u.inG q:=by
 simp only [Tn.inG,inGL_iff]
 constructor
 ·rintro ⟨_,⟨h,_⟩ | h⟩
  ·omega
  ·exact h
 ·exact fun h => ⟨by omega,.inr h⟩
theorem inG_within {k:Int} (hk:k = 4 ∨ k = 5) {t:Tn} {q:Gk}:(∃ u ∈ within k t,u.inG q) ↔ t.inG q:=by
 unfold within
 split
 ·rename_i h
  cases t with
  | mk k' R a s mn mx lz ix nm =>
   simp only [Tn.kind] at h
   subst h
   simp only [Tn.subs,Tn.inG,inGL_iff]
   constructor
   ·exact fun h => ⟨by omega,.inr h⟩
   ·rintro ⟨_,⟨h,_⟩ | h⟩
    ·omega
    ·exact h
 ·simp
theorem inG_row {k:Int} (hk:k = 4 ∨ k = 5) {l:List (Tn × Nat)} {q:Gk}:(rowT k l).inG q ↔ ∃ x ∈ l,0 < x.2 ∧ x.1.inG q:=by
 rw [inG_zN hk]
 constructor
 ·rintro ⟨u,hu,hq⟩
  simp only [rowS,List.mem_flatMap,List.mem_flatten,List.mem_replicate] at hu
  obtain ⟨x,hx,y,⟨h0,rfl⟩,hy⟩:=hu
  exact ⟨x,hx,by omega,(inG_within hk).1 ⟨u,hy,hq⟩⟩
 ·rintro ⟨x,hx,h0,hq⟩
  obtain ⟨u,hu,hq'⟩:=(inG_within hk).2 hq
  refine ⟨u,?_,hq'⟩
  simp only [rowS,List.mem_flatMap,List.mem_flatten,List.mem_replicate]
  exact ⟨x,hx,within k x.1,⟨by omega,rfl⟩,hu⟩
theorem nf_one {t:Tn} (h:Nf t) (h1:t.kind = 1) (q:Gk):¬ t.inG q:=by
 cases h with
 | leaf hk hn => simp only [Tn.kind] at h1;simp [Tn.inG,inGL,h1]
 | cat h2 h hs => simp [Tn.kind] at h1
 | alt h2 h hs => simp [Tn.kind] at h1
 | loop h hy => simp [Tn.kind] at h1
 | grp hn hy => simp [Tn.kind] at h1
theorem not_empty (q:Gk):¬ emptyT.inG q:=nf_one nf_empty rfl q
theorem inG_join {l:List (Tn × Nat)} (hl:∀ x ∈ l,Nf x.1) {q:Gk}:(joinT l).inG q ↔ ∃ x ∈ l,0 < x.2 ∧ x.1.inG q:=by
 have hf:(∃ x ∈ l.filter keep,0 < x.2 ∧ x.1.inG q) ↔ ∃ x ∈ l,0 < x.2 ∧ x.1.inG q:=by
  constructor
  ·rintro ⟨x,hx,h⟩
   exact ⟨x,(List.mem_filter.1 hx).1,h⟩
  ·rintro ⟨x,hx,h0,hq⟩
   refine ⟨x,List.mem_filter.2 ⟨hx,?_⟩,h0,hq⟩
   simp only [keep,Bool.and_eq_true,decide_eq_true_eq,Bool.not_eq_true',beq_eq_false_iff_ne]
   exact ⟨h0,fun h1 => nf_one (hl x hx) h1 q hq⟩
 rw [← hf]
 have hp:∀ x ∈ l.filter keep,0 < x.2:=fun x hx => by
  have:=(List.mem_filter.1 hx).2
  simp only [keep,Bool.and_eq_true,decide_eq_true_eq] at this
  exact this.1
 unfold joinT joinK
 split
 ·rename_i h0
  constructor
  ·exact fun h => absurd h (not_empty q)
  ·rintro ⟨x,hx,h1,_⟩
   exfalso
   have:∀ (l:List (Tn × Nat)),x ∈ l → x.2 ≤ timesOf l:=by
    intro l
    induction l with
    | nil => intro h;cases h
    | cons y l ih =>
     intro h
     simp only [timesOf]
     rcases List.mem_cons.1 h with rfl | h
     ·omega
     ·have:=ih h;omega
   have:=this _ hx
   omega
 ·split
  ·rename_i h0 h1
   cases hfl:l.filter keep with
   | nil => rw [hfl] at h1;simp [timesOf] at h1
   | cons x l' =>
    have hl':l' = []:=by
     cases l' with
     | nil => rfl
     | cons y l'' =>
      rw [hfl] at h1 hp
      simp only [timesOf] at h1
      have:=hp x (by simp)
      have:=hp y (by simp)
      omega
    subst hl'
    have:=hp x (by rw [hfl];simp)
    simp [this]
  ·exact inG_row (.inl rfl)
theorem inG_loop {mn mx:Int} {lz:Bool} {y:Tn} {q:Gk} (h:mx ≠ 0):(loopT mn mx lz y).inG q ↔ y.inG q:=by
 simp only [Tn.inG,inGL]
 constructor
 ·rintro ⟨_,⟨h,_⟩ | h | h⟩
  ·omega
  ·exact h
  ·exact h.elim
 ·exact fun h' => ⟨fun hh => h hh.2,.inr (.inl h')⟩
theorem inG_opt {y:Tn} {lz:Bool} {q:Gk} (hy:Nf y):∀ n,(optT y lz n).inG q ↔ 0 < n ∧ y.inG q
 | 0 => by
  have e:optT y lz 0 = emptyT:=rfl
  rw [e]
  exact ⟨fun h => absurd h (not_empty q),fun h => absurd h.1 (by omega)⟩
 | 1 => by
  have e:optT y lz 1 = loopT 0 1 lz y:=rfl
  rw [e,inG_loop (by decide)]
  simp
 | n + 2 => by
  rw [optT_step,inG_loop (by decide),inG_join]
  ·constructor
   ·rintro ⟨x,hx,h0,hq⟩
    simp at hx
    rcases hx with rfl | rfl
    ·exact ⟨by omega,hq⟩
    ·exact ⟨by omega,((inG_opt hy (n + 1)).1 hq).2⟩
   ·rintro ⟨_,hq⟩
    exact ⟨(y,1),by simp,by simp,hq⟩
  ·intro x hx
   simp at hx
   rcases hx with rfl | rfl
   ·exact hy
   ·exact nf_opt lz hy (n + 1)
theorem inG_rep {y:Tn} {mn mx:Int} {lz:Bool} {q:Gk} (hy:Nf y) (h1:0 ≤ mn) (h3:mx = -1 ∨ mn ≤ mx ∧ mx ≤ 1000):(repT y mn mx lz).inG q ↔ mx ≠ 0 ∧ y.inG q:=by
 unfold repT
 split
 ·rename_i hm
  rw [inG_join]
  ·constructor
   ·rintro ⟨x,hx,h0,hq⟩
    simp at hx
    rcases hx with rfl | rfl
    ·simp only at h0 hq;exact ⟨by omega,hq⟩
    ·simp only at h0 hq
     have:=(inG_opt hy _).1 hq
     exact ⟨by omega,this.2⟩
   ·rintro ⟨h0,hq⟩
    by_cases hmn:0 < mn
    ·exact ⟨(y,mn.toNat),by simp,by simp only;omega,hq⟩
    ·exact ⟨(optT y lz (mx - mn).toNat,1),by simp,by simp,(inG_opt hy _).2 ⟨by omega,hq⟩⟩
  ·intro x hx
   simp at hx
   rcases hx with rfl | rfl
   ·exact hy
   ·exact nf_opt lz hy _
 ·rename_i hm
  have hm':mx = -1:=by omega
  split
  ·rw [inG_loop (by decide)]
   simp [hm']
  ·rw [inG_join]
   ·constructor
    ·rintro ⟨x,hx,h0,hq⟩
     simp at hx
     rcases hx with rfl | rfl
     ·exact ⟨by omega,hq⟩
     ·exact ⟨by omega,(inG_loop (by decide)).1 hq⟩
    ·rintro ⟨_,hq⟩
     exact ⟨(loopT 1 (-1) lz y,1),by simp,by simp,(inG_loop (by decide)).2 hq⟩
   ·intro x hx
    simp at hx
    rcases hx with rfl | rfl
    ·exact hy
    ·exact .loop (.inr (.inr ⟨rfl,rfl⟩)) hy
mutual
theorem S_inG:∀ (t:Tn) (q:Gk),t.fine = true → (t.S.inG q ↔ t.inG q)
 | .mk k R a s mn mx lz ix nm,q,h => by
  simp only [Tn.fine,Bool.and_eq_true] at h
  have ih:=SL_inG s q h.2
  have hnf:=nf_SL s h.2
  have hfk:=fine_kind h.1
  have hones:∀ x ∈ ones (SL s),Nf x.1:=fun x hx => by obtain ⟨u,hu,rfl⟩:=List.mem_map.1 hx;exact hnf u hu
  have hon:(∃ x ∈ ones (SL s),0 < x.2 ∧ x.1.inG q) ↔ inGL q s:=by
   rw [← ih]
   constructor
   ·rintro ⟨x,hx,_,hq⟩
    obtain ⟨u,hu,rfl⟩:=List.mem_map.1 hx
    exact inGL_iff.2 ⟨u,hu,hq⟩
   ·intro hq
    obtain ⟨u,hu,hq⟩:=inGL_iff.1 hq
    exact ⟨(u,1),List.mem_map.2 ⟨u,hu,rfl⟩,by simp,hq⟩
  have hhead:s.length = 1 → (((SL s).headD emptyT).inG q ↔ inGL q s) ∧ Nf ((SL s).headD emptyT):=fun hl => by
   rw [← ih]
   match s,hl with
   | [u],_ => exact ⟨by simp [SL,inGL],hnf _ (by simp [SL])⟩
  simp only [Tn.S]
  split
  ·rename_i h4
   subst h4
   rw [inG_join hones,hon]
   simp [Tn.inG]
  ·split
   ·rename_i h4 h5
    subst h5
    rw [inG_row (.inr rfl),hon]
    simp [Tn.inG]
   ·split
    ·rename_i h6
     subst h6
     obtain ⟨hh,hN⟩:=hhead (by omega)
     rw [inG_rep hN (by omega) (by omega),hh]
     simp [Tn.inG]
    ·split
     ·rename_i h7
      subst h7
      obtain ⟨hh,hN⟩:=hhead (by omega)
      simp only [List.headD_eq_head?_getD] at hh
      simp [Tn.inG,inGL,hh]
     ·rename_i h4 h5 h6 h7
      have hz:s.length = 0:=by
       rcases hfk with hh | hh | hh | hh
       ·exact hh.2.1
       ·exact absurd hh.1 (by omega)
       ·exact absurd hh.1 h6
       ·exact absurd hh.1 h7
      have hz:=List.length_eq_zero_iff.1 hz
      subst hz
      simp [Tn.inG,inGL]
theorem SL_inG:∀ (ts:List Tn) (q:Gk),fineL ts = true → (inGL q (SL ts) ↔ inGL q ts)
 | [],q,_ => by simp [SL]
 | t :: ts,q,h => by
  simp only [fineL,Bool.and_eq_true] at h
  simp only [SL,inGL]
  rw [S_inG t q h.1,SL_inG ts q h.2]
end
mutual
theorem top_in:∀ (t:Tn) (q:Gk),t.inG q → q.1 ≤ t.top
 | .mk k R a s mn mx lz ix nm,q,h => by
  simp only [Tn.inG] at h
  simp only [Tn.top]
  rcases h.2 with ⟨_,h1⟩ | h1
  ·rw [← h1];exact topL_ge s ix
  ·exact topL_in s ix q h1
theorem topL_in:∀ (ts:List Tn) (a:Int) (q:Gk),inGL q ts → q.1 ≤ topL ts a
 | [],a,q,h => by simp [inGL] at h
 | t :: ts,a,q,h => by
  simp only [inGL] at h
  simp only [topL]
  rcases h with h | h
  ·have:=top_in t q h;have:=topL_ge ts (max a t.top);omega
  ·exact topL_in ts _ q h
end
theorem fork_ok {r p:Nat} {lz:Bool} {c caps:Int} (hr:(r:Int) < c) (hp:(p:Int) < c):(forkI r p lz).okB c caps = true:=by
 unfold forkI
 cases lz <;> simp [In.okB,isTargetB,hasXB,hasYB,belowB,isArgB,isRangesB] <;> omega
theorem layL_ok {c:Nat} {caps:Int}:∀ (s:List Tn),(∀ u ∈ s,∀ n,n + u.len < c → ∀ I ∈ u.lay n,I.okB c caps = true) → ∀ n,n + lenL s < c → ∀ I ∈ layL s n,I.okB c caps = true
 | [],_,_,_ => fun I hI => by simp [layL] at hI
 | t :: ts,h,n,hn => fun I hI => by
  simp only [lenL] at hn
  simp only [layL,List.mem_append] at hI
  rcases hI with hI | hI
  ·exact h t (by simp) n (by omega) I hI
  ·exact layL_ok ts (fun u hu => h u (by simp [hu])) (n + t.len) (by omega) I hI
theorem layA_ok {c:Nat} {caps:Int}:∀ (s:List Tn),(∀ u ∈ s,∀ n,n + u.len < c → ∀ I ∈ u.lay n,I.okB c caps = true) → ∀ (n f:Nat),f < c → n + (lenL s + 2 * (s.length - 1)) < c → ∀ I ∈ layA s n (f:Int),I.okB c caps = true
 | [],_,_,_,_,_ => fun I hI => by simp [layA] at hI
 | [t],h,n,f,hf,hn => fun I hI => by
  simp only [layA] at hI
  simp only [lenL] at hn
  exact h t (by simp) n (by omega) I hI
 | t :: u :: ts,h,n,f,hf,hn => fun I hI => by
  simp only [layA,List.mem_cons,List.mem_append] at hI
  simp only [lenL,List.length_cons] at hn
  rcases hI with rfl | hI | rfl | hI
  ·simp [In.okB,isTargetB,hasXB,hasYB,belowB,isArgB,isRangesB];omega
  ·exact h t (by simp) (n + 1) (by omega) I hI
  ·simp [In.okB,isTargetB,hasXB,hasYB,belowB,isArgB,isRangesB];omega
  ·exact layA_ok (u :: ts) (fun v hv => h v (by simp at hv ⊢;exact .inr hv)) (n + t.len + 2) f hf (by simp only [lenL,List.length_cons];omega) I hI
theorem lay_ok {t:Tn} (h:Nf t) {c:Nat} {caps:Int}:(∀ q,t.inG q → 1 ≤ q.1 ∧ 2 * q.1 + 2 ≤ caps) → ∀ n,n + t.len < c → ∀ I ∈ t.lay n,I.okB c caps = true:=by
 induction h with
 | @leaf k R a mn mx lz ix nm hk hn =>
  intro hg n hl I hI
  rcases hk with rfl | rfl | rfl
  ·simp [Tn.lay] at hI
  ·simp [Tn.len] at hl
   simp [nodeB,bareB] at hn
   simp only [Tn.lay,if_true] at hI
   split at hI
   ·simp at hI;subst hI;simp [In.okB,isTargetB,hasXB,hasYB,belowB,isArgB,isRangesB]
   ·rename_i hR
    simp at hI;subst hI
    simp [In.okB,isTargetB,hasXB,hasYB,belowB,isArgB,isRangesB,hn.1]
    exact ⟨by omega,by cases R with | nil => simp at hR | cons x R => simp⟩
  ·simp [Tn.len] at hl
   simp [nodeB,bareB] at hn
   simp [Tn.lay] at hI;subst hI
   simp [In.okB,isTargetB,hasXB,hasYB,belowB,isArgB,isRangesB,hn]
   omega
 | @cat s h2 h hs ih =>
  intro hg n hl I hI
  have e:(zN 4 s).len = lenL s:=by simp [Tn.len]
  rw [e] at hl
  have e2:(zN 4 s).lay n = layL s n:=by simp [Tn.lay]
  rw [e2] at hI
  exact layL_ok s (fun u hu => ih u hu fun q hq => hg q (by simp only [Tn.inG];exact ⟨by omega,.inr (inGL_iff.2 ⟨u,hu,hq⟩)⟩)) n hl I hI
 | @alt s h2 h hs ih =>
  intro hg n hl I hI
  have e:(zN 5 s).len = lenL s + 2 * (s.length - 1):=by simp [Tn.len]
  rw [e] at hl
  have e2:(zN 5 s).lay n = layA s n ((n + (lenL s + 2 * (s.length - 1)):Nat):Int):=by simp [Tn.lay]
  rw [e2] at hI
  exact layA_ok s (fun u hu => ih u hu fun q hq => hg q (by simp only [Tn.inG];exact ⟨by omega,.inr (inGL_iff.2 ⟨u,hu,hq⟩)⟩)) n _ hl hl I hI
 | @loop mn mx lz y h hy ih =>
  intro hg n hl I hI
  have ih':=ih fun q hq => hg q (by simp only [Tn.inG,inGL];exact ⟨by omega,.inr (.inl hq)⟩)
  have hL:∀ n,n + lenL [y] < c → ∀ I ∈ layL [y] n,I.okB c caps = true:=layL_ok [y] (fun u hu => by simp at hu;subst hu;exact ih')
  rcases h with ⟨rfl,rfl⟩ | ⟨rfl,rfl⟩ | ⟨rfl,rfl⟩
  ·have e:(loopT 0 1 lz y).len = lenL [y] + 1:=by simp [Tn.len]
   rw [e] at hl
   have e2:(loopT 0 1 lz y).lay n = forkI (n + 1) (n + 1 + lenL [y]) lz :: layL [y] (n + 1):=by simp [Tn.lay]
   rw [e2,List.mem_cons] at hI
   rcases hI with rfl | hI
   ·exact fork_ok (by omega) (by omega)
   ·exact hL (n + 1) (by omega) I hI
  ·have e:(loopT 0 (-1) lz y).len = lenL [y] + 2:=by simp [Tn.len]
   rw [e] at hl
   have e2:(loopT 0 (-1) lz y).lay n = forkI (n + 1) (n + 1 + lenL [y] + 1) lz :: (layL [y] (n + 1) ++ [⟨7,(n:Int),0,0,[]⟩]):=by simp [Tn.lay]
   rw [e2,List.mem_cons,List.mem_append,List.mem_singleton] at hI
   rcases hI with rfl | hI | rfl
   ·exact fork_ok (by omega) (by omega)
   ·exact hL (n + 1) (by omega) I hI
   ·simp [In.okB,isTargetB,hasXB,hasYB,belowB,isArgB,isRangesB];omega
  ·have e:(loopT 1 (-1) lz y).len = lenL [y] + 1:=by simp [Tn.len]
   rw [e] at hl
   have e2:(loopT 1 (-1) lz y).lay n = layL [y] n ++ [forkI n (n + lenL [y] + 1) lz]:=by simp [Tn.lay]
   rw [e2,List.mem_append,List.mem_singleton] at hI
   rcases hI with hI | rfl
   ·exact hL n (by omega) I hI
   ·exact fork_ok (by omega) (by omega)
 | @grp ix nm y hn hy ih =>
  intro hg n hl I hI
  have h0:=hg (ix,nm.toList) (by simp only [Tn.inG];exact ⟨by omega,.inl ⟨trivial,trivial⟩⟩)
  simp only at h0
  have ih':=ih fun q hq => hg q (by simp only [Tn.inG,inGL];exact ⟨by omega,.inr (.inl hq)⟩)
  have hL:∀ n,n + lenL [y] < c → ∀ I ∈ layL [y] n,I.okB c caps = true:=layL_ok [y] (fun u hu => by simp at hu;subst hu;exact ih')
  have e:(Tn.mk 7 [] 0 [y] 0 0 false ix nm).len = lenL [y] + 2:=by simp [Tn.len]
  rw [e] at hl
  have e2:(Tn.mk 7 [] 0 [y] 0 0 false ix nm).lay n = ⟨3,((n + 1:Nat):Int),0,2 * ix,[]⟩ :: (layL [y] (n + 1) ++ [⟨3,((n + 1 + lenL [y] + 1:Nat):Int),0,2 * ix + 1,[]⟩]):=by simp [Tn.lay]
  rw [e2,List.mem_cons,List.mem_append,List.mem_singleton] at hI
  rcases hI with rfl | hI | rfl
  ·simp [In.okB,isTargetB,hasXB,hasYB,belowB,isArgB,isRangesB];omega
  ·exact hL (n + 1) (by omega) I hI
  ·simp [In.okB,isTargetB,hasXB,hasYB,belowB,isArgB,isRangesB];omega
mutual
theorem inG_pos:∀ (t:Tn),t.fine = true → ∀ q:Gk,t.inG q → 1 ≤ q.1
 | .mk k R a s mn mx lz ix nm,h => fun q hq => by
  simp only [Tn.fine,Bool.and_eq_true] at h
  simp only [Tn.inG] at hq
  rcases hq.2 with ⟨h7,h1⟩ | h1
  ·have:=fine_kind h.1;rw [← h1];simp only;omega
  ·exact inGL_pos s h.2 q h1
theorem inGL_pos:∀ (ts:List Tn),fineL ts = true → ∀ q:Gk,inGL q ts → 1 ≤ q.1
 | [],_ => fun q h => by simp [inGL] at h
 | t :: ts,h => fun q hq => by
  simp only [fineL,Bool.and_eq_true] at h
  simp only [inGL] at hq
  rcases hq with hq | hq
  ·exact inG_pos t h.1 q hq
  ·exact inGL_pos ts h.2 q hq
end
def progT (t:Tn):List In:=⟨3,1,0,0,[]⟩ :: (t.S.lay 1 ++ [⟨3,((t.S.len + 2:Nat):Int),0,1,[]⟩,⟨5,0,0,0,[]⟩])
theorem prog_len (t:Tn):(progT t).length = t.S.len + 3:=by simp [progT,lay_len]
theorem prog_may {t:Tn} (hf:t.fine = true) (hn:t.S.len + 3 ≤ 20000):mayB (progT t) 0 (2 + 2 * t.top) = true:=by
 have ht:=top_fine t hf
 unfold mayB
 rw [prog_len]
 have hall:((progT t).all fun I => I.okB ((t.S.len + 3:Nat):Int) (2 + 2 * t.top)) = true:=by
  rw [List.all_eq_true]
  intro I hI
  simp only [progT,List.mem_cons,List.mem_append,List.not_mem_nil,or_false] at hI
  rcases hI with rfl | hI | rfl | rfl
  ·simp [In.okB,isTargetB,hasXB,hasYB,belowB,isArgB,isRangesB];omega
  ·refine lay_ok (nf_S t hf) (fun q hq => ?_) 1 (by omega) I hI
   have h1:=(S_inG t q hf).1 hq
   exact ⟨inG_pos t hf q h1,by have:=top_in t q h1;omega⟩
  ·simp [In.okB,isTargetB,hasXB,hasYB,belowB,isArgB,isRangesB];omega
  ·simp [In.okB,isTargetB,hasXB,hasYB,belowB,isArgB,isRangesB]
 rw [hall]
 simp [belowB,capsB]
 omega
end Go.Proofs.YtacaanhnlfpbhaaGreat
