/- HELPERS: texts of ours put together. -/
import Derived.Test.YtacaanhnlfpbhaaGreatK10
import Derived.Test.YtacaanhnlfpbhaaGreatK06
import Derived.Test.YtacaanhnlfpbhaaGreatK03
import Derived.WalkKit
import Derived.ProofKit
import Derived.BigQuiet
import Derived.WalkSmall
import Derived.Deep.QuietTactic
import Derived.Deep.RegionWith
import Derived.Lib.SmallJoins
import Derived.Lib.MinMax
import Derived.Maps.AppendAt
import Derived.Laws.AppendOwnNone
import Derived.Test.YtacaanhnlfpbhaaGreatK02
import Derived.Test.YtacaanhnlfpbhaaGreatK05
import Derived.Test.YtacaanhnlfpbhaaGreatK09
import Derived.Test.YtacaanhnlfpbhaaGreatK07
import Derived.Laws.EntriesVeiled
import Derived.LoopN
import Derived.Deep.OwnRows
import Derived.Laws.IdiomCopy
import Derived.Laws.BitsLemmas
namespace Go.Proofs.YtacaanhnlfpbhaaGreat
open Go.RowKit
set_option linter.unusedVariables false
set_option linter.unusedSimpArgs false
def Lt.lb:Lt→Nat | .mk lb ..=>lb
def Lt.sub:Lt→List Lt | .mk _ _ _ _ s ..=>s
structure Pl where
 t:Lt
 B:Way
 up:Int
 nth:Nat
def subB:Lt→Way→Nat→Way
 | .mk lb k R a s mn mx lz ix nm,B,i=>if k=4 then fwC (s.drop (i + 1)) B else if k=7 then .noted (2 * ix.toNat + 1) B else if k=6∧mx < 0 then Kd lz lb B else B
mutual
def Lt.ents:Lt→Way→Int→Nat→List Pl
 | .mk lb k R a s mn mx lz ix nm,B,up,nth=>⟨.mk lb k R a s mn mx lz ix nm,B,up,nth⟩ :: entsL (.mk lb k R a s mn mx lz ix nm) B s 0
def entsL (p:Lt) (B:Way):List Lt→Nat→List Pl
 | [],_=>[]
 | t :: ts,i=>t.ents (subB p B i) (p.lb:Int) i ++ entsL p B ts (i + 1)
end
def child (e:Pl) (i:Nat) (h:i < e.t.sub.length):Pl:=⟨e.t.sub[i],subB e.t e.B i,(e.t.lb:Int),i⟩
theorem ents_eq (T:Lt) (B:Way) (up:Int) (nth:Nat):T.ents B up nth=⟨T,B,up,nth⟩ :: entsL T B T.sub 0:=by cases T;simp [Lt.ents,Lt.sub]
theorem entsL_mem (p:Lt) (B:Way):∀ (ts:List Lt) (j:Nat) (x:Pl),x ∈ entsL p B ts j↔∃ i,∃ (h:i < ts.length),x ∈ (ts[i]).ents (subB p B (j + i)) (p.lb:Int) (j + i):=by
 intro ts
 induction ts with
 | nil=>intro j x;simp [entsL]
 | cons t ts ih =>
  intro j x
  rw [entsL,List.mem_append,ih]
  constructor
  ·rintro (h | ⟨i,h,hx⟩)
   ·exact ⟨0,by simp,h⟩
   ·exact ⟨i + 1,by simp;omega,by rw [show j + (i + 1)=j + 1 + i by omega];exact hx⟩
  ·rintro ⟨i,h,hx⟩
   cases i with
   | zero=>exact .inl hx
   | succ i=>exact .inr ⟨i,by simp at h;omega,by rw [show j + 1 + i=j + (i + 1) by omega];exact hx⟩
theorem ents_root (T:Lt) (B:Way) (up:Int) (nth:Nat):⟨T,B,up,nth⟩ ∈ T.ents B up nth:=by rw [ents_eq];exact List.mem_cons_self ..
theorem Lt.rec' {P:Lt→Prop} (h:∀ T,(∀ t ∈ T.sub,P t)→P T):∀ T,P T:=by
 intro T
 refine Lt.rec (motive_1:=P) (motive_2:=fun ts=>∀ t ∈ ts,P t) ?_ ?_ ?_ T
 ·intro lb k R a s mn mx lz ix nm ih
  exact h _ ih
 ·intro t ht;cases ht
 ·intro t ts h1 h2 u hu
  rcases List.mem_cons.1 hu with rfl | hu
  ·exact h1
  ·exact h2 u hu
theorem ents_child:∀ (T:Lt) (B:Way) (up:Int) (nth:Nat) (e:Pl),e ∈ T.ents B up nth→∀ i (hi:i < e.t.sub.length),child e i hi ∈ T.ents B up nth:=by
 refine Lt.rec' ?_
 intro T ih B up nth e he i hi
 rw [ents_eq] at he ⊢
 rcases List.mem_cons.1 he with rfl | he
 ·refine List.mem_cons_of_mem _ ((entsL_mem _ _ _ _ _).2 ⟨i,hi,?_⟩)
  rw [Nat.zero_add]
  exact ents_root _ _ _ _
 ·obtain ⟨j,hj,hx⟩:=(entsL_mem _ _ _ _ _).1 he
  exact List.mem_cons_of_mem _ ((entsL_mem _ _ _ _ _).2 ⟨j,hj,ih _ (List.getElem_mem hj) _ _ _ _ hx i hi⟩)
theorem ents_parent:∀ (T:Lt) (B:Way) (up:Int) (nth:Nat) (e:Pl),e ∈ T.ents B up nth→e=⟨T,B,up,nth⟩∨∃ p ∈ T.ents B up nth,∃ i,∃ (hi:i < p.t.sub.length),e=child p i hi:=by
 refine Lt.rec' ?_
 intro T ih B up nth e he
 rw [ents_eq] at he ⊢
 rcases List.mem_cons.1 he with rfl | he
 ·exact .inl rfl
 ·obtain ⟨j,hj,hx⟩:=(entsL_mem _ _ _ _ _).1 he
  right
  rcases ih _ (List.getElem_mem hj) _ _ _ _ hx with rfl | ⟨p,hp,i,hi,e'⟩
  ·exact ⟨⟨T,B,up,nth⟩,List.mem_cons_self ..,j,hj,by simp [child]⟩
  ·exact ⟨p,List.mem_cons_of_mem _ ((entsL_mem _ _ _ _ _).2 ⟨j,hj,hp⟩),i,hi,e'⟩
theorem fine_sub {T:Lt} (h:T.tn.fine=true):∀ t ∈ T.sub,t.tn.fine=true:=by
 cases T with
 | mk lb k R a s mn mx lz ix nm =>
  simp only [Lt.tn,Tn.fine,Bool.and_eq_true] at h
  have key:∀ ts:List Lt,fineL (tnL ts)=true→∀ t ∈ ts,t.tn.fine=true:=by
   intro ts
   induction ts with
   | nil=>intro _ t ht;cases ht
   | cons u ts ih =>
    intro h t ht
    simp only [tnL,fineL,Bool.and_eq_true] at h
    rcases List.mem_cons.1 ht with rfl | ht
    ·exact h.1
    ·exact ih h.2 t ht
  exact key s h.2
theorem ents_fine:∀ (T:Lt) (B:Way) (up:Int) (nth:Nat),T.tn.fine=true→∀ e ∈ T.ents B up nth,e.t.tn.fine=true:=by
 refine Lt.rec' ?_
 intro T ih B up nth hf e he
 rw [ents_eq] at he
 rcases List.mem_cons.1 he with rfl | he
 ·exact hf
 ·obtain ⟨j,hj,hx⟩:=(entsL_mem _ _ _ _ _).1 he
  exact ih _ (List.getElem_mem hj) _ _ _ (fine_sub hf _ (List.getElem_mem hj)) e hx
theorem node_fine {lb:Nat} {k:Int} {R:List (Int × Int)} {a:Int} {s:List Lt} {mn mx:Int} {lz:Bool} {ix:Int} {nm:ByteArray} (h:(Lt.mk lb k R a s mn mx lz ix nm).tn.fine=true):FineNZ k R a s.length mn mx lz ix nm:=by
 simp only [Lt.tn,Tn.fine,Bool.and_eq_true] at h
 have:=fine_nodeZ h.1
 rwa [tnL_map,List.length_map] at this
theorem eoC_get {E:Nat→Way} {B:Way}:∀ (s:List Lt) (i:Nat) (hi:i < s.length),eoC E s B→(s[i]).eo E (fwC (s.drop (i + 1)) B):=by
 intro s
 induction s with
 | nil=>intro i hi;simp at hi
 | cons t s ih =>
  intro i hi h
  cases i with
  | zero=>exact h.1
  | succ i=>exact ih i (by simpa using hi) h.2
theorem eoA_get {E:Nat→Way} {B:Way}:∀ (s:List Lt) (i:Nat) (hi:i < s.length),eoA E s B→(s[i]).eo E B:=by
 intro s
 induction s with
 | nil=>intro i hi;simp at hi
 | cons t s ih =>
  intro i hi h
  cases i with
  | zero=>exact h.1
  | succ i=>exact ih i (by simpa using hi) h.2
theorem eoH_get {E:Nat→Way} {B:Way} (s:List Lt) (i:Nat) (hi:i < s.length) (h1:s.length=1) (h:eoH E s B):(s[i]).eo E B:=by
 match s,h1,hi,h with
 | [t],_,hi,h =>
  have:i=0:=by simp at hi;exact hi
  subst this
  exact h
theorem ents_eo {E:Nat→Way}:∀ (T:Lt) (B:Way) (up:Int) (nth:Nat),T.tn.fine=true→T.eo E B→∀ e ∈ T.ents B up nth,e.t.eo E e.B:=by
 refine Lt.rec' ?_
 intro T ih B up nth hf ho e he
 rw [ents_eq] at he
 rcases List.mem_cons.1 he with rfl | he
 ·exact ho
 ·obtain ⟨j,hj,hx⟩:=(entsL_mem _ _ _ _ _).1 he
  refine ih _ (List.getElem_mem hj) _ _ _ (fine_sub hf _ (List.getElem_mem hj)) ?_ e hx
  rw [Nat.zero_add]
  cases T with
  | mk lb k R a s mn mx lz ix nm =>
   have hF:=node_fine hf
   simp only [Lt.eo] at ho
   obtain ⟨h4,h5,h7,h6⟩:=ho
   have hj':j < s.length:=hj
   show (s[j]'hj').eo E (if k=4 then fwC (s.drop (j + 1)) B else if k=7 then .noted (2 * ix.toNat + 1) B else if k=6∧mx < 0 then Kd lz lb B else B)
   rcases hF.kind with hk | hk | hk | hk | hk | hk | hk
   ·have:=hF.leaf (by omega);omega
   ·have:=hF.leaf (by omega);omega
   ·have:=hF.leaf (by omega);omega
   ·rw [if_pos hk];exact eoC_get s j hj' (h4 hk)
   ·rw [if_neg (by omega),if_neg (by omega),if_neg (by omega)];exact eoA_get s j hj' (h5 hk)
   ·rw [if_neg (by omega),if_neg (by omega)]
    have h1:=(hF.rep hk).1
    rcases h6 hk with ⟨hc,_,ho⟩ | ⟨hc,ho⟩
    ·rw [if_pos ⟨hk,by omega⟩];exact eoH_get s j hj' h1 ho
    ·rw [if_neg (by omega)];exact eoH_get s j hj' h1 ho
   ·rw [if_neg (by omega),if_pos hk];exact eoH_get s j hj' (hF.grp hk).1 (h7 hk)
theorem row_cap {w:World} {base e n b cap:Nat} {xs:List Value} (h:w.ownsRow base e 1 (.slice (some ⟨b,0,none⟩) n cap) n xs):n≤cap∧cap≤9223372036854775807:=by
 rcases h.2 with ⟨h,_⟩ | ⟨g,cap',cur,he,hb,hgg,h1,h2,h3,h4⟩
 ·cases h
 ·simp only [Value.slice.injEq,Option.some.injEq,Addr.mk.injEq] at he
  obtain ⟨⟨rfl,_⟩,_,rfl⟩:=he
  unfold maxLen at h2
  omega
theorem own_none (w:World):(w.alloc (.cells #[] 3)).ownsRow w.heap.size 3 1 (.slice (some ⟨w.heap.size,0,none⟩) 0 0) 0 []:=
 ⟨by simp,.inr ⟨w.heap.size,0,#[],rfl,Nat.le_refl _,heap_alloc_new w _,Nat.le_refl _,by simp [maxLen],by simp,by simp⟩⟩
theorem src_cells {w:World} {b off n:Nat} {L:List Int} (hl:n=L.length) (hc:∀ k,k < n→w.cell? ⟨b,off + k,none⟩=some (.int .i64 (L.getD k 0))) (o:Obj) (hb:b < w.heap.size):∀ j u,(I64 L)[j]?=some u→(w.alloc o).cell? ((⟨b,off,none⟩:Addr).add j)=some u:=fun j u hj=>by
 have hjl:j < L.length:=by have:=(List.getElem?_eq_some_iff.1 hj).1;simpa using this
 rw [show ((⟨b,off,none⟩:Addr).add j)=⟨b,off + j,none⟩ by by_cases e:j=0 <;> simp [Addr.add,e]]
 rw [World.cell?_alloc_lt _ _ _ hb,hc j (by omega)]
 simp [List.getD_eq_getElem?_getD,List.getElem?_eq_getElem hjl] at hj ⊢
 exact hj
theorem moved_size {w w':World} {v v':Value} (hm:Moved w w' v v'):w.heap.size≤w'.heap.size:=by rcases hm with ⟨_,h⟩ | ⟨_,h⟩ <;> exact h.size
theorem row_put {w:World} {base n b cap:Nat} {L:List Int} (h:w.ownsRow base 3 1 (.slice (some ⟨b,0,none⟩) n cap) n (I64 L)) (k:Nat) (hk:k < n) (x:Int):(w.setCell ⟨b,k,none⟩ (.int .i64 x)).ownsRow base 3 1 (.slice (some ⟨b,0,none⟩) n cap) n (I64 (L.set k x))∧w.frozen? ⟨b,k,none⟩=false:=by
 have hl:L.length=n:=by have:=h.1;simpa using this
 rcases h.2 with ⟨h,_⟩ | ⟨g,cap',cur,he,hb,hgg,h1,h2,h3,h4⟩
 ·cases h
 ·simp only [Value.slice.injEq,Option.some.injEq,Addr.mk.injEq] at he
  obtain ⟨⟨rfl,_⟩,_,rfl⟩:=he
  refine ⟨⟨by simp [hl],.inr ⟨b,cap,cur.setIfInBounds k (.int .i64 x),rfl,hb,Joins.block_setCell hgg _,h1,h2,by simpa using h3,?_⟩⟩,Joins.unfrozen_of_block hgg k⟩
  simp only [Array.toList_setIfInBounds]
  rw [List.take_set,h4]
  simp [I64,List.map_set]
def SrcOf (w:World) (v:Value) (L:List Int):Prop:=(v=.slice none 0 0∧L=[])∨∃ b off cap,v=.slice (some ⟨b,off,none⟩) L.length cap∧0 < L.length∧b < w.heap.size∧∀ k,k < L.length→w.cell? ⟨b,off + k,none⟩=some (.int .i64 (L.getD k 0))
set_option maxRecDepth 100000 in
set_option maxHeartbeats 4000000 in
theorem set39 (L:List Int) (v:Value) (k:Nat) (x:Int) (w:World) (hS:SrcOf w v L) (hk:k < L.length) (hn:L.length≤1000000) :
  Calls Tryz.prog 86 #[v,.int .i64 (k:Int),.int .i64 x] w fun e w'=>∃ v',e=.returned v'∧w'.ownsRow w.heap.size 3 1 v' L.length (I64 (L.set k x))∧Below w.heap.size w w':=by
 obtain ⟨i0,hi0,hz0,hz1,hz2⟩:=info_parts info3
 have hown:=own_none w
 have hb0:=Joins.below_alloc1 w (.cells #[] 3)
 rcases hS with ⟨rfl,rfl⟩ | ⟨b,off,cap,rfl,hp,hbl,hc⟩
 ·simp at hk
 ·have HOWN:=hid hown
  have HB0:=hid hb0
  have HSRC:=hid (src_cells (n:=L.length) rfl hc (.cells #[] 3) hbl)
  obtain ⟨n,hnl⟩:∃ n,n=L.length:=⟨_,rfl⟩
  rw [← hnl] at hp hn hk ⊢
  have HNL:=hid hnl
  have i1:(k:Int) < (n:Int):=by omega
  clear hown hb0 hc hnl
  go_enter Tryz.func86,Tryz.ntmps86
  go_wp2_with (at_builtin;refine wpList_append_move rfl (.tmp 8) (.tmp 9) 26 rfl w.heap.size 3 i0 (.int .i64 0) 8 Tryz.underlying26 hi0 hz0 hz1 hz2 rfl (.slice (some ⟨w.heap.size,0,none⟩) 0 0) 0 [] rfl HOWN.out ⟨b,off,none⟩ n cap (I64 L) rfl (by simp;exact HNL.out.symm) hp HSRC.out (one_cell_ints L) (by unfold maxLen;omega) (by omega) (by simp) ?_;intro v1 w2 ho2 hm2;have ho2':=ho2.out;simp only [Nat.zero_add,List.nil_append] at ho2';have HM2:=hid hm2.out;obtain ⟨vb,vc,rfl⟩:=Joins.ownsRow_form ho2' hp;have HO2:=hid ho2';have hset:=row_put ho2' k hk x;have hfz:=hset.2;have hcell:w2.cell? ⟨vb,k,none⟩=some (.int .i64 (L.getD k 0)):=(by rw [ho2'.cellAt k (by simp;have:=HNL.out;omega)];simp [List.getD_eq_getElem?_getD,List.getElem?_eq_getElem (show k < L.length by have:=HNL.out;omega)]);have HSET:=hid hset.1;clear ho2 hm2 ho2' hset)
  have hb3:Below w.heap.size w (w2.setCell ⟨vb,k,none⟩ (.int .i64 x)):=(moved_below HB0.out (by simp) (fun k hk=>(HOWN.out.lt k hk).1) HM2.out).1.setCell (by exact (HO2.out.lt vb rfl).1) _
  go_ret
  exact ⟨_,rfl,HSET.out,hb3⟩
def Rw (W:World) (v:Value) (L:List Int):Prop:=(v=.slice none 0 0∧L=[])∨(0 < L.length∧W.ownsRow 0 3 1 v L.length (I64 L))
theorem Rw.src {W:World} {v:Value} {L:List Int} (h:Rw W v L):SrcOf W v L:=by
 rcases h with h | ⟨h0,h⟩
 ·exact .inl h
 ·rcases Joins.ownsRow_forms h with ⟨e,h1⟩ | ⟨b,cap,e⟩
  ·omega
  ·subst e
   refine .inr ⟨b,0,cap,rfl,h0,(h.lt b rfl).2,fun k hk=>?_⟩
   rw [Nat.zero_add,h.cellAt k (by omega)]
   simp [List.getD_eq_getElem?_getD,List.getElem?_eq_getElem hk]
theorem own_low0 {w:World} {base e size n:Nat} {v:Value} {xs:List Value} (h:w.ownsRow base e size v n xs):w.ownsRow 0 e size v n xs:=by
 refine ⟨h.1,?_⟩
 rcases h.2 with h | ⟨g',cap,cur,b1,b2,b3⟩
 ·exact .inl h
 ·exact .inr ⟨g',cap,cur,b1,Nat.zero_le _,b3⟩
theorem row_form {w:World} {base e size n:Nat} {v:Value} {xs:List Value} (h:w.ownsRow base e size v n xs):∃ a c,v=.slice a n c∧n≤c∧c≤maxLen:=by
 rcases h.2 with ⟨e,h0⟩ | ⟨g,cap,cur,e,_,_,h1,h2,_⟩
 ·subst h0;exact ⟨none,0,e,Nat.le_refl _,by simp [maxLen]⟩
 ·exact ⟨_,cap,e,h1,h2⟩
theorem Rw.of {W:World} {base n:Nat} {v:Value} {L:List Int} (h:W.ownsRow base 3 1 v n (I64 L)) (h0:0 < n):Rw W v L:=by
 have hn:n=L.length:=by have:=h.1;simp at this;omega
 subst hn
 exact .inr ⟨h0,own_low0 h⟩
theorem Parsed.kept' {N:Nat} {w w':World} {v:Value} {l:List (Int × List Int)} (h:Parsed N w v l) (hk:∀ b,N≤b→b < w.heap.size→w'.heap[b]?=w.heap[b]?):Parsed N w' v l:=by
 obtain ⟨cs,F,h1,h2⟩:=h
 exact ⟨cs,F,row_kept h1 (fun b hb=>hk b (h1.lt b hb).1 (h1.lt b hb).2),h2.kept (fun k hk'=>hk k (h2.low k hk').1 (h2.low k hk').2)⟩
theorem PR.ends {N:Nat} {w:World} {cs:List Value} {l:List (Int × List Int)} {F:List Nat} (h:PR N w cs l F):∀ (i:Nat) (hi:i < l.length),cs[i * 2]?=some (.int .i64 l[i].1):=by
 induction h with
 | nil=>intro i hi;simp at hi
 | cons h hl ih =>
  intro i hi
  cases i with
  | zero=>simp
  | succ i =>
   have:=ih i (by simpa using hi)
   rw [show (i + 1) * 2=i * 2 + 1 + 1 by omega]
   simpa using this
theorem Parsed.ends {N:Nat} {w:World} {pv:Value} {l:List (Int × List Int)} (h:Parsed N w pv l):(pv=.slice none 0 0∧l=[])∨∃ b cap,pv=.slice (some ⟨b,0,none⟩) l.length cap∧b < w.heap.size∧N≤b∧∀ i (hi:i < l.length),w.cell? ⟨b,i * 2,none⟩=some (.int .i64 l[i].1):=by
 obtain ⟨cs,F,h1,h2⟩:=h
 rcases Joins.ownsRow_forms h1 with ⟨e,h0⟩ | ⟨b,cap,e⟩
 ·exact .inl ⟨e,List.length_eq_zero_iff.1 h0⟩
 ·have hlt:=h1.lt b (by rw [e];rfl)
  rw [e] at h1
  refine .inr ⟨b,cap,e,hlt.2,hlt.1,fun i hi=>?_⟩
  have hl:cs.length=l.length * 2:=h1.1
  rw [h1.cellAt (i * 2) (by omega),h2.ends i hi]
def BRw (w:World) (b n:Nat) (f:Nat→Bool):Prop:=∃ arr:Array Value,w.heap[b]?=some (.cells arr 4 (0,0))∧arr.size=n∧∀ i,i < n→arr[i]?=some (.bool (f i))
theorem BRw.cell {w:World} {b n:Nat} {f:Nat→Bool} (h:BRw w b n f) {i:Nat} (hi:i < n):w.cell? ⟨b,i,none⟩=some (.bool (f i)):=by
 obtain ⟨arr,h1,h2,h3⟩:=h
 rw [Joins.cell_of_block h1 i]
 exact h3 i hi
theorem BRw.free {w:World} {b n:Nat} {f:Nat→Bool} (h:BRw w b n f) (i:Nat):w.frozen? ⟨b,i,none⟩=false:=by
 obtain ⟨arr,h1,h2,h3⟩:=h
 exact Joins.unfrozen_of_block h1 i
theorem BRw.kept {w w':World} {b n:Nat} {f:Nat→Bool} (h:BRw w b n f) (hk:w'.heap[b]?=w.heap[b]?):BRw w' b n f:=by
 obtain ⟨arr,h1,h2,h3⟩:=h
 exact ⟨arr,hk.trans h1,h2,h3⟩
theorem BRw.as {w:World} {b n:Nat} {f g:Nat→Bool} (h:BRw w b n f) (he:∀ i,i < n→f i=g i):BRw w b n g:=by
 obtain ⟨arr,h1,h2,h3⟩:=h
 exact ⟨arr,h1,h2,fun i hi=>by rw [← he i hi];exact h3 i hi⟩
theorem BRw.lt {w:World} {b n:Nat} {f:Nat→Bool} (h:BRw w b n f):b < w.heap.size:=by
 obtain ⟨arr,h1,h2,h3⟩:=h
 exact (Array.getElem?_eq_some_iff.1 h1).1
theorem BRw.set {w:World} {b n:Nat} {f:Nat→Bool} (h:BRw w b n f) (i:Nat) (x:Bool):BRw (w.setCell ⟨b,i,none⟩ (.bool x)) b n (fun j=>if j=i then x else f j):=by
 obtain ⟨arr,h1,h2,h3⟩:=h
 refine ⟨arr.setIfInBounds i (.bool x),Joins.block_setCell (i:=i) h1 _,by simp [h2],fun j hj=>?_⟩
 by_cases e:j=i
 ·subst e;simp [h2,hj]
 ·rw [Array.getElem?_setIfInBounds_ne (by omega)];simp [e];exact h3 j hj
theorem info4:(Tryz.prog.info? 4).map (fun i=>(i.zero,i.size,i.bytes))=some (some (.bool false),1,1):=by kernel_rfl
theorem makeB (c:Nat) (hc:c≤10000) (w:World):(Instr.makeSlice 79 (.int .i64 (c:Int)) (.int .i64 (c:Int))).run Tryz.prog w=.ok (.slice (some ⟨w.heap.size,0,none⟩) c c) (w.alloc (.cells (madeCells #[.bool false] c) 4)):=
 run_make_row' (P:=Tryz.prog) 79 4 (.bool false) 1 Tryz.underlying79 info4 rfl .i64 .i64 c (by omega) (by omega) w
theorem BRw.made (w:World) (c:Nat):BRw (w.alloc (.cells (madeCells #[.bool false] c) 4)) w.heap.size c (fun _=>false):=
 ⟨_,heap_alloc_new w _,by simp [madeCells],fun i hi=>by simp [madeCells,hi,Nat.mod_one]⟩
structure WC where
 N0:Nat
 wb:Nat
 tb:Nat
 pb:Nat
 n:Nat
 pc:Nat
 NB:Nat
 bg:Nat
 bc:Nat
 dg:Nat
 dc:Nat
 rb:Nat→Nat
 rd:Nat→Nat
 eb:Nat
 tn:Nat
 tc:Nat
 tad:Option Addr
 frm:Int
 tx:List Int
 L:List Pl
 E:Nat→Way
 K:Nat
def Lt.kk:Lt→Int
 | .mk _ k _ _ _ mn mx _ _ _=>if k=6 then (if mx < 0 then (if mn=0 then 101 else 102) else 103) else k
structure WFr (C:WC) (W W':World):Prop where
 os:W'.os=W.os
 tape:W'.tape=W.tape
 output:W'.output=W.output
 size:W.heap.size≤W'.heap.size
 low:∀ (b:Nat),b < C.N0→W'.heap[b]?=W.heap[b]?
 typ:∀ (b:Nat) (cur:Array Value) (t:TypeId),t≠4→t≠82→t≠57→W.heap[b]?=some (.cells cur t (0,0))→W'.heap[b]?=some (.cells cur t (0,0))
theorem WFr.refl (C:WC) (W:World):WFr C W W:=⟨rfl,rfl,rfl,Nat.le_refl _,fun _ _=>rfl,fun _ _ _ _ _ _ h=>h⟩
theorem WFr.trans {C:WC} {a b c:World} (h:WFr C a b) (k:WFr C b c):WFr C a c:=⟨k.os.trans h.os,k.tape.trans h.tape,k.output.trans h.output,Nat.le_trans h.size k.size,fun i hi=>(k.low i hi).trans (h.low i hi),fun i cur t h1 h2 h3 x=>k.typ i cur t h1 h2 h3 (h.typ i cur t h1 h2 h3 x)⟩
theorem WFr.of_below {C:WC} {W W':World} (h:Below W.heap.size W W') (hN:C.N0≤W.heap.size):WFr C W W':=
 ⟨h.os,h.tape,h.output,h.size,fun b hb=>h.block b (by omega),fun b cur t _ _ _ hx=>(h.block b (Array.getElem?_eq_some_iff.1 hx).1).trans hx⟩
theorem WFr.row {C:WC} {W W':World} {v:Value} {L:List Int} (f:WFr C W W') (h:Rw W v L):Rw W' v L:=by
 rcases h with h | ⟨h0,h⟩
 ·exact .inl h
 ·refine .inr ⟨h0,h.1,?_⟩
  rcases h.2 with hn | ⟨g,cap,cur,hv,hb,hg,rest⟩
  ·exact .inl hn
  ·exact .inr ⟨g,cap,cur,hv,hb,f.typ g cur 3 (by decide) (by decide) (by decide) hg,rest⟩
abbrev N8 (W:World) (b o:Nat) (k a ix:Int) (rv sv:Value) (lz:Bool) (up nth:Int):Prop:=
 W.cell? ⟨b,o,none⟩=some (.int .i64 k)∧W.cell? ⟨b,o + 1,none⟩=some (.int .i64 a)∧W.cell? ⟨b,o + 2,none⟩=some (.int .i64 ix)∧W.cell? ⟨b,o + 3,none⟩=some rv∧W.cell? ⟨b,o + 4,none⟩=some sv∧W.cell? ⟨b,o + 5,none⟩=some (.bool lz)∧W.cell? ⟨b,o + 6,none⟩=some (.int .i64 up)∧W.cell? ⟨b,o + 7,none⟩=some (.int .i64 nth)
theorem N8.kept {W W':World} {b o:Nat} {k a ix:Int} {rv sv:Value} {lz:Bool} {up nth:Int} (h:N8 W b o k a ix rv sv lz up nth) (hk:W'.heap[b]?=W.heap[b]?):N8 W' b o k a ix rv sv lz up nth:=by
 have e:∀ x,W'.cell? ⟨b,x,none⟩=W.cell? ⟨b,x,none⟩:=fun x=>by simp only [World.cell?,hk]
 obtain ⟨h0,h1,h2,h3,h4,h5,h6,h7⟩:=h
 exact ⟨(e _).trans h0,(e _).trans h1,(e _).trans h2,(e _).trans h3,(e _).trans h4,(e _).trans h5,(e _).trans h6,(e _).trans h7⟩
structure Nds (N0:Nat) (W:World) (k:Int) (R:List (Int × Int)) (a:Int) (s:List Lt) (lz:Bool) (ix:Int) (a' ix':Int) (r1:Option Addr) (r2 r3:Nat) (sa:Option Addr) (sc:Nat) (lz':Bool):Prop where
 asr:k=3→a'=a
 gr:k=7→ix'=ix
 lp:k=6→lz'=lz
 cl:k=2→RowAt N0 W (.slice r1 r2 r3) R
 su:Rw W (.slice sa s.length sc) (s.map fun t=>(t.lb:Int))
def PLw (C:WC) (W:World):Pl→Prop
 | ⟨.mk lb k R a s mn mx lz ix nm,B,up,nth⟩=>∃ a' ix' r1 r2 r3 sa sc lz',N8 W C.pb (lb * 8) (Lt.kk (.mk lb k R a s mn mx lz ix nm)) a' ix' (.slice r1 r2 r3) (.slice sa s.length sc) lz' up (nth:Int)∧Nds C.N0 W k R a s lz ix a' ix' r1 r2 r3 sa sc lz'
theorem RowAt.keptW {N:Nat} {w w':World} {v:Value} {L:List (Int × Int)} (h:RowAt N w v L) (hk:∀ b,b < N→w'.heap[b]?=w.heap[b]?):RowAt N w' v L:=by
 obtain ⟨ad,cap,e,h⟩:=h
 refine ⟨ad,cap,e,?_⟩
 rcases h with h | ⟨b,off,e1,h1,h2,h3⟩
 ·exact .inl h
 ·have e:∀ x,w'.cell? ⟨b,x,none⟩=w.cell? ⟨b,x,none⟩:=fun x=>by simp only [World.cell?,hk b h1]
  exact .inr ⟨b,off,e1,h1,fun k hk=>(e _).trans (h2 k hk),fun k hk=>(e _).trans (h3 k hk)⟩
theorem Nds.kept {C:WC} {W W':World} {k:Int} {R:List (Int × Int)} {a:Int} {s:List Lt} {lz:Bool} {ix:Int} {a' ix':Int} {r1:Option Addr} {r2 r3:Nat} {sa:Option Addr} {sc:Nat} {lz':Bool} (h:Nds C.N0 W k R a s lz ix a' ix' r1 r2 r3 sa sc lz') (f:WFr C W W'):Nds C.N0 W' k R a s lz ix a' ix' r1 r2 r3 sa sc lz':=
 ⟨h.asr,h.gr,h.lp,fun e=>(h.cl e).keptW f.low,f.row h.su⟩
structure FL (C:WC) (W:World) (done:List (Int × Int)):Prop where
 b:∀ i,i < C.n→BRw W (C.rb i) (C.tn + 1) (fun p=>decide ((kb i,(p:Int)) ∈ done))
 d:∀ i,i < C.n→BRw W (C.rd i) (C.tn + 1) (fun p=>decide ((kd i,(p:Int)) ∈ done))
 e:BRw W C.eb (C.tn + 1) (fun p=>decide ((1,(p:Int)) ∈ done))
abbrev WBx (C:WC) (W:World) (v:Value):Prop:=W.heap[C.wb]?=some (.cells #[.pointer (some ⟨C.tb,0,none⟩),.slice C.tad C.tn C.tc,.int .i64 C.frm,.slice (some ⟨C.bg,0,none⟩) C.n C.bc,.slice (some ⟨C.dg,0,none⟩) C.n C.dc,.slice (some ⟨C.eb,0,none⟩) (C.tn + 1) (C.tn + 1),v] 82 (0,0))
def RRb (W:World) (g n m:Nat) (r:Nat→Nat):Prop:=∃ arr:Array Value,W.heap[g]?=some (.cells arr 79 (0,0))∧∀ i,i < n→arr[i]?=some (.slice (some ⟨r i,0,none⟩) m m)
theorem RRb.cell {W:World} {g n m:Nat} {r:Nat→Nat} (h:RRb W g n m r) {i:Nat} (hi:i < n):W.cell? ⟨g,i,none⟩=some (.slice (some ⟨r i,0,none⟩) m m):=by
 obtain ⟨arr,h1,h2⟩:=h
 have:=h2 i hi
 simp [World.cell?,h1,this]
structure FM (C:WC) (W:World) (done:List (Int × Int)) (out:List (Int × List Int)):Prop where
 box:∃ v,WBx C W v∧Parsed C.NB W v out
 nb:C.NB≤W.heap.size
 tree:W.heap[C.tb]?=some (.cells #[.slice (some ⟨C.pb,0,none⟩) C.n C.pc] 77 (0,0))
 beg:RRb W C.bg C.n (C.tn + 1) C.rb
 dec:RRb W C.dg C.n (C.tn + 1) C.rd
 fl:FL C W done
 nod:∃ arr,W.heap[C.pb]?=some (.cells arr 141 (0,0))
 pl:∀ e ∈ C.L,PLw C W e
 tx:Look.TextAt C.N0 W C.tad C.tn C.tx
structure WCk (C:WC):Prop where
 child:∀ e ∈ C.L,∀ i (hi:i < e.t.sub.length),child e i hi ∈ C.L
 par:∀ e ∈ C.L,(e.up=-1∧e.B=.once 1 .through)∨∃ p ∈ C.L,∃ i,∃ (hi:i < p.t.sub.length),e=Go.Proofs.YtacaanhnlfpbhaaGreat.child p i hi∧e.t.lb < p.t.lb
 fine:∀ e ∈ C.L,e.t.tn.fine=true
 eo:∀ e ∈ C.L,e.t.eo C.E e.B
 num:∀ e ∈ C.L,e.t.lb < C.n
 nn:C.n≤300000
 subs:∀ e ∈ C.L,e.t.sub.length≤300000
 tn64:C.tn≤64
 tnl:C.tn=C.tx.length
 k2:2≤C.K∧C.K≤1002
 grp:∀ lb k R a s mn mx lz ix nm B up nth,(⟨.mk lb k R a s mn mx lz ix nm,B,up,nth⟩:Pl) ∈ C.L→k=7→1≤ix∧2 * ix + 1 < C.K
 wbN:C.N0≤C.wb∧C.wb < C.NB
 rbN:∀ i,i < C.n→C.N0≤C.rb i∧C.rb i < C.NB
 rdN:∀ i,i < C.n→C.N0≤C.rd i∧C.rd i < C.NB
 ebN:C.N0≤C.eb∧C.eb < C.NB
 rbi:∀ i j,i < C.n→j < C.n→C.rb i=C.rb j→i=j
 rdi:∀ i j,i < C.n→j < C.n→C.rd i=C.rd j→i=j
 rbd:∀ i j,i < C.n→j < C.n→C.rb i≠C.rd j
 rbe:∀ i,i < C.n→C.rb i≠C.eb
 rde:∀ i,i < C.n→C.rd i≠C.eb
theorem WBx.lt {C:WC} {W:World} {v:Value} (h:WBx C W v):C.wb < W.heap.size:=(Array.getElem?_eq_some_iff.1 h).1
theorem FM.next {C:WC} {W W':World} {done done':List (Int × Int)} {out out':List (Int × List Int)} (h:FM C W done out) (f:WFr C W W') (hb:∃ v,WBx C W' v∧Parsed C.NB W' v out') (hf:FL C W' done'):FM C W' done' out':=by
 obtain ⟨arr,ha⟩:=h.nod
 obtain ⟨a1,b1,b2⟩:=h.beg
 obtain ⟨a2,d1,d2⟩:=h.dec
 refine ⟨hb,Nat.le_trans h.nb f.size,f.typ _ _ _ (by decide) (by decide) (by decide) h.tree,⟨a1,f.typ _ _ _ (by decide) (by decide) (by decide) b1,b2⟩,⟨a2,f.typ _ _ _ (by decide) (by decide) (by decide) d1,d2⟩,hf,⟨arr,f.typ _ _ _ (by decide) (by decide) (by decide) ha⟩,fun e he=>?_,?_⟩
 ·have:=h.pl e he
  obtain ⟨⟨lb,k,R,a,s,mn,mx,lz,ix,nm⟩,B,up,nth⟩:=e
  obtain ⟨a',ix',r1,r2,r3,sa,sc,lz',h1,h2⟩:=this
  exact ⟨a',ix',r1,r2,r3,sa,sc,lz',h1.kept ((f.typ _ _ _ (by decide) (by decide) (by decide) ha).trans ha.symm),h2.kept f⟩
 ·obtain ⟨h1,h2,h3 | ⟨b,off,h4,h5,h6⟩⟩:=h.tx
  ·exact ⟨h1,h2,.inl h3⟩
  ·have e:∀ x,W'.cell? ⟨b,x,none⟩=W.cell? ⟨b,x,none⟩:=fun x=>by simp only [World.cell?,f.low b h5]
   exact ⟨h1,h2,.inr ⟨b,off,h4,h5,fun k hk=>(e _).trans (h6 k hk)⟩⟩
theorem FL.kept {C:WC} {W W':World} {done:List (Int × Int)} (h:FL C W done) (hk:∀ b,b < W.heap.size→W'.heap[b]?=W.heap[b]?):FL C W' done:=
 ⟨fun i hi=>(h.b i hi).kept (hk _ (h.b i hi).lt),fun i hi=>(h.d i hi).kept (hk _ (h.d i hi).lt),h.e.kept (hk _ h.e.lt)⟩
theorem FM.below {C:WC} {W W':World} {done:List (Int × Int)} {out:List (Int × List Int)} (hk:WCk C) (h:FM C W done out) (hb:Below W.heap.size W W'):FM C W' done out∧WFr C W W':=by
 have f:=WFr.of_below (C:=C) hb (by have:=hk.wbN;have:=h.nb;omega)
 obtain ⟨v,h1,h2⟩:=h.box
 exact ⟨h.next f ⟨v,(hb.block _ h1.lt).trans h1,h2.kept' (fun b _ hl=>hb.block b hl)⟩ (h.fl.kept fun b hl=>hb.block b hl),f⟩
theorem WFr.set {C:WC} {W:World} {b n:Nat} {f:Nat→Bool} (h:BRw W b n f) (hb:C.N0≤b) (p:Nat) (x:Bool):WFr C W (W.setCell ⟨b,p,none⟩ (.bool x)):=by
 obtain ⟨arr,h1,_⟩:=h
 have hk:∀ c,c≠b→(W.setCell ⟨b,p,none⟩ (.bool x)).heap[c]?=W.heap[c]?:=fun c hc=>Below.heap_setCell _ _ _ _ hc
 refine ⟨rfl,rfl,rfl,by simp [World.setCell],fun c hc=>hk c (by omega),fun c cur t h4 _ _ hx=>?_⟩
 by_cases e:c=b
 ·subst e
  rw [h1] at hx
  simp at hx
  exact absurd hx.2.symm h4
 ·exact (hk c e).trans hx
theorem FM.setBox {C:WC} {W:World} {done:List (Int × Int)} {out:List (Int × List Int)} (hk:WCk C) (h:FM C W done out) {b n:Nat} {f:Nat→Bool} (hb:BRw W b n f) (hN:b < C.NB) (p:Nat) (x:Bool):∃ v,WBx C (W.setCell ⟨b,p,none⟩ (.bool x)) v∧Parsed C.NB (W.setCell ⟨b,p,none⟩ (.bool x)) v out:=by
 obtain ⟨v,h1,h2⟩:=h.box
 have hne:C.wb≠b:=fun e=>by
  obtain ⟨arr,h3,_⟩:=hb
  rw [← e,h1] at h3
  simp at h3
 have hkk:∀ c,c≠b→(W.setCell ⟨b,p,none⟩ (.bool x)).heap[c]?=W.heap[c]?:=fun c hc=>Below.heap_setCell _ _ _ _ hc
 exact ⟨v,(hkk _ hne).trans h1,h2.kept' (fun c hc _=>hkk c (by omega))⟩
theorem dec_snoc {m q n p:Int} {done:List (Int × Int)} (h:m≠n):decide ((m,q) ∈ done ++ [(n,p)])=decide ((m,q) ∈ done):=by
 simp [h]
theorem FM.begun {C:WC} {W:World} {done:List (Int × Int)} {out:List (Int × List Int)} (hk:WCk C) (h:FM C W done out) {i p:Nat} (hi:i < C.n) (hp:p≤C.tn):FM C (W.setCell ⟨C.rb i,p,none⟩ (.bool true)) (done ++ [(kb i,(p:Int))]) out∧WFr C W (W.setCell ⟨C.rb i,p,none⟩ (.bool true)):=by
 have hB:=h.fl.b i hi
 have f:=WFr.set (C:=C) hB (hk.rbN i hi).1 p true
 have hkk:∀ c,c≠C.rb i→(W.setCell ⟨C.rb i,p,none⟩ (.bool true)).heap[c]?=W.heap[c]?:=fun c hc=>Below.heap_setCell _ _ _ _ hc
 refine ⟨h.next f (h.setBox hk hB (hk.rbN i hi).2 p true) ⟨fun j hj=>?_,fun j hj=>?_,?_⟩,f⟩
 ·by_cases e:j=i
  ·subst e
   refine (hB.set p true).as fun q hq=>?_
   by_cases e:q=p
   ·subst e;simp
   ·rw [if_neg e]
    refine decide_eq_decide.2 ?_
    simp
    omega
  ·refine ((h.fl.b j hj).kept (hkk _ fun e2=>e (hk.rbi j i hj hi e2))).as fun q hq=>(dec_snoc ?_).symm
   simp only [kb];omega
 ·refine ((h.fl.d j hj).kept (hkk _ fun e2=>hk.rbd i j hi hj e2.symm)).as fun q hq=>(dec_snoc ?_).symm
  simp only [kb,kd];omega
 ·refine (h.fl.e.kept (hkk _ fun e2=>hk.rbe i hi e2.symm)).as fun q hq=>(dec_snoc ?_).symm
  simp only [kb];omega
theorem FM.decided {C:WC} {W:World} {done:List (Int × Int)} {out:List (Int × List Int)} (hk:WCk C) (h:FM C W done out) {i p:Nat} (hi:i < C.n) (hp:p≤C.tn):FM C (W.setCell ⟨C.rd i,p,none⟩ (.bool true)) (done ++ [(kd i,(p:Int))]) out∧WFr C W (W.setCell ⟨C.rd i,p,none⟩ (.bool true)):=by
 have hB:=h.fl.d i hi
 have f:=WFr.set (C:=C) hB (hk.rdN i hi).1 p true
 have hkk:∀ c,c≠C.rd i→(W.setCell ⟨C.rd i,p,none⟩ (.bool true)).heap[c]?=W.heap[c]?:=fun c hc=>Below.heap_setCell _ _ _ _ hc
 refine ⟨h.next f (h.setBox hk hB (hk.rdN i hi).2 p true) ⟨fun j hj=>?_,fun j hj=>?_,?_⟩,f⟩
 ·refine ((h.fl.b j hj).kept (hkk _ fun e2=>hk.rbd j i hj hi e2)).as fun q hq=>(dec_snoc ?_).symm
  simp only [kb,kd];omega
 ·by_cases e:j=i
  ·subst e
   refine (hB.set p true).as fun q hq=>?_
   by_cases e:q=p
   ·subst e;simp
   ·rw [if_neg e]
    refine decide_eq_decide.2 ?_
    simp
    omega
  ·refine ((h.fl.d j hj).kept (hkk _ fun e2=>e (hk.rdi j i hj hi e2))).as fun q hq=>(dec_snoc ?_).symm
   simp only [kd];omega
 ·refine (h.fl.e.kept (hkk _ fun e2=>hk.rde i hi e2.symm)).as fun q hq=>(dec_snoc ?_).symm
  simp only [kd];omega
theorem FM.ended {C:WC} {W:World} {done:List (Int × Int)} {out:List (Int × List Int)} (hk:WCk C) (h:FM C W done out) {p:Nat} (hp:p≤C.tn):FM C (W.setCell ⟨C.eb,p,none⟩ (.bool true)) (done ++ [(1,(p:Int))]) out∧WFr C W (W.setCell ⟨C.eb,p,none⟩ (.bool true)):=by
 have hB:=h.fl.e
 have f:=WFr.set (C:=C) hB hk.ebN.1 p true
 have hkk:∀ c,c≠C.eb→(W.setCell ⟨C.eb,p,none⟩ (.bool true)).heap[c]?=W.heap[c]?:=fun c hc=>Below.heap_setCell _ _ _ _ hc
 refine ⟨h.next f (h.setBox hk hB hk.ebN.2 p true) ⟨fun j hj=>?_,fun j hj=>?_,?_⟩,f⟩
 ·refine ((h.fl.b j hj).kept (hkk _ (hk.rbe j hj))).as fun q hq=>(dec_snoc ?_).symm
  simp only [kb];omega
 ·refine ((h.fl.d j hj).kept (hkk _ (hk.rde j hj))).as fun q hq=>(dec_snoc ?_).symm
  simp only [kd];omega
 ·refine (hB.set p true).as fun q hq=>?_
  by_cases e:q=p
  ·subst e;simp
  ·rw [if_neg e]
   refine decide_eq_decide.2 ?_
   simp
   omega
structure WIn (C:WC) (W:World) (s:Sg) (p:Nat) (caps:List Int) (cv:Value):Prop where
 fm:FM C W s.done s.parses
 p64:p≤C.tn
 cap:Rw W cv caps
 capl:caps.length=C.K
 nt:s.notes=caps.set 0 C.frm
 ol:s.parses.length≤70
def WPost (C:WC) (s1:Sg) (W:World) (e:Ending) (w':World):Prop:=e=.returned (.tuple #[])∧FM C w' s1.done s1.parses∧WFr C W w'
theorem WPost.pre {C:WC} {s1:Sg} {W V w':World} {e:Ending} (h:WPost C s1 V e w') (f:WFr C W V):WPost C s1 W e w':=⟨h.1,h.2.1,f.trans h.2.2⟩
def WCall (C:WC) (f:FuncId) (lb p:Nat) (s s1:Sg):Prop:=∀ W caps cv,WIn C W s p caps cv→Calls Tryz.prog f #[.pointer (some ⟨C.wb,0,none⟩),.int .i64 (lb:Int),.int .i64 (p:Int),cv] W (WPost C s1 W)
theorem FM.cells {C:WC} {W:World} {done:List (Int × Int)} {out:List (Int × List Int)} (h:FM C W done out):W.cell? ⟨C.wb,0,none⟩=some (.pointer (some ⟨C.tb,0,none⟩))∧W.cell? ⟨C.wb,1,none⟩=some (.slice C.tad C.tn C.tc)∧W.cell? ⟨C.wb,2,none⟩=some (.int .i64 C.frm)∧W.cell? ⟨C.wb,3,none⟩=some (.slice (some ⟨C.bg,0,none⟩) C.n C.bc)∧W.cell? ⟨C.wb,4,none⟩=some (.slice (some ⟨C.dg,0,none⟩) C.n C.dc)∧W.cell? ⟨C.wb,5,none⟩=some (.slice (some ⟨C.eb,0,none⟩) (C.tn + 1) (C.tn + 1))∧W.cell? ⟨C.tb,0,none⟩=some (.slice (some ⟨C.pb,0,none⟩) C.n C.pc):=by
 obtain ⟨v,h1,_⟩:=h.box
 exact ⟨Joins.cell_of_block h1 0,Joins.cell_of_block h1 1,Joins.cell_of_block h1 2,Joins.cell_of_block h1 3,Joins.cell_of_block h1 4,Joins.cell_of_block h1 5,Joins.cell_of_block h.tree 0⟩
def loopN (x:Tn) (mn mx:Int) (lz:Bool):Tn:=.mk 6 [] 0 [x] mn mx lz 0 ⟨#[]⟩
def rowN:List Tn→Tn
 | []=>.mk 1 [] 0 [] 0 0 false 0 ⟨#[]⟩
 | [x]=>x
 | x :: y :: l=>.mk 4 [] 0 (x :: y :: l) 0 0 false 0 ⟨#[]⟩
def optN (x:Tn) (lz:Bool):Nat→Tn
 | 0=>loopN x 0 1 lz
 | k + 1=>loopN (rowN [x,optN x lz k]) 0 1 lz
def sprN (x:Tn) (mn mx:Int) (lz:Bool):Tn:=
 if mx < 0 then (if mn < 2 then loopN x mn (-1) lz else rowN (List.replicate (mn - 1).toNat x ++ [loopN x 1 (-1) lz]))
 else rowN (List.replicate mn.toNat x ++ if mn < mx then [optN x lz (mx - mn - 1).toNat] else [])
mutual
def Tn.spread:Tn→Tn
 | .mk k R a s mn mx lz ix nm=>if k=6 then (match spreadL s with | x :: _=>sprN x mn mx lz | []=>.mk k R a [] mn mx lz ix nm) else .mk k R a (spreadL s) mn mx lz ix nm
def spreadL:List Tn→List Tn
 | []=>[]
 | t :: ts=>t.spread :: spreadL ts
end
theorem spreadL_map (ts:List Tn):spreadL ts=ts.map Tn.spread:=by
 induction ts with
 | nil=>rfl
 | cons t ts ih=>simp [spreadL,ih]
section
variable {E:Nat→Way}
end
end Go.Proofs.YtacaanhnlfpbhaaGreat
