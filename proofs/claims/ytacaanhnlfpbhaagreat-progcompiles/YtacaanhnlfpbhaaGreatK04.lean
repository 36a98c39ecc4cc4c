/- HELPERS: texts of ours put together. -/
import Derived.Test.YtacaanhnlfpbhaaGreatK03
import Derived.Deep.Cut
import Derived.Deep.MidRow
import Derived.Deep.OwnRows
import Derived.Laws.Rows
import Derived.WalkLawsBesides
import Derived.Maps.AppendAt
import Derived.Deep.RegionLaw
import Derived.Laws.CopyOwn
import Derived.Lib.LazyBuf
import Derived.WalkKit
import Derived.Laws.BitsLemmas
import Derived.Test.YtacaanhnlfpbhaaGreatK02
import Derived.Test.YtacaanhnlfpbhaaGreatK01
import Derived.Deep.RegionHeld2
import Derived.Lib.MinMax
namespace Go.Proofs.YtacaanhnlfpbhaaGreat
open Go.RowKit
set_option linter.unusedVariables false
set_option linter.unusedSimpArgs false
theorem run_append_moveN {P:Program} (w:World) (base:Nat) (t ty e:TypeId) (i:TypeInfo) (z:Value) (size bytes:Nat) (ht:P.underlying t=some (.slice e)) (hi:P.info? e=some i) (hz:i.zero=some z)
  (hsize:i.size=size) (hby:i.bytes=bytes) (hzs:z.cells.size=size) (hpos:0 < size)
  (v:Value) (n:Nat) (xs:List Value) (hown:w.ownsRow base e size v n xs)
  (a:Addr) (m c:Nat) (news:List Value) (hl:news.length=m * size) (hm:0 < m) (hnews:∀ j u,news[j]?=some u→w.cell? (a.add j)=some u) (h1:∀ u ∈ news,u.oneCell'=true)
  (h63:n + m≤maxLen) (hbytes:(n + m) * bytes≤140737488355328) (hbase:base≤w.heap.size) :
  ∃ v' w',(Builtin.append_ #[t,t] ty #[v,.slice (some a) m c]).run P w=.ok v' w'∧w'.ownsRow base e size v' (n + m) (xs ++ news)∧Moved w w' v v':=by
 obtain ⟨v',w',hrun,h2,h3,h4,h5⟩:=run_append_own_at (P:=P) w base t ty e i z size bytes ht hi hz hsize hby hzs hpos v n xs hown a m c news hl hnews h1 h63 hbytes hbase
 refine ⟨v',w',hrun,h2,?_⟩
 rcases hown.2 with ⟨rfl,rfl⟩ | ⟨g,cap,cur,rfl,hbg,hg,hnc,hcm,hcs,htake⟩
 ·rcases h5 with h5 | h5
  ·exact .inl ⟨h5,h3⟩
  ·exact .inr ⟨h5,h3⟩
 ·by_cases hroom:n + m≤cap
  ·have hr:=run_append_room (P:=P) w t ty e i ht hi g n cap cur hg a m c news (by rw [hsize];omega) hnews h1 hroom (by rw [hsize,hcs,hl,← Nat.add_mul];exact Nat.mul_le_mul_right _ hroom)
   have he:=hrun.symm.trans hr
   injection he with e1 e2
   left
   exact ⟨by rw [e1];rfl,h3⟩
  ·have holds:∀ j u,xs[j]?=some u→w.cell? ((⟨g,0,none⟩:Addr).add j)=some u:=hown.cells (g:=g) rfl
   have hr:=run_append_grow (P:=P) w t ty e i z ht hi hz ⟨g,0,none⟩ n cap xs (by rw [hsize];exact hown.1) holds a m c news (by rw [hsize];omega) hnews (by omega) (by unfold maxLen at h63;omega) (growslice_fits (by omega) (by rw [hby];exact hbytes))
   have he:=hrun.symm.trans hr
   injection he with e1 e2
   right
   refine ⟨by rw [e1];rfl,?_⟩
   rw [e2]
   exact ⟨rfl,rfl,rfl,by simp,fun k hk _=>heap_alloc_old w.drew _ hk⟩
theorem wpList_append_moveN {P:Program} {w:World} {ops:Array Oper} {rest:List Oper} {o:Oper} {a:Act} {Q:Exit→Act→World→Prop} (hgd:o.guard=none) (s x:Operand) (t:TypeId)
  (ho:o.op=.call { callee:=.builtin .append,args:=#[s,x],argTypes:=#[t,t] })
  (base:Nat) (e:TypeId) (i:TypeInfo) (z:Value) (size bytes:Nat) (ht:P.underlying t=some (.slice e)) (hi:P.info? e=some i) (hz:i.zero=some z)
  (hsize:i.size=size) (hby:i.bytes=bytes) (hzs:z.cells.size=size) (hpos:0 < size)
  (v:Value) (n:Nat) (xs:List Value) (hs:a.eval s=v) (hown:w.ownsRow base e size v n xs)
  (ad:Addr) (m c:Nat) (news:List Value) (hx:a.eval x=.slice (some ad) m c) (hl:news.length=m * size) (hm:0 < m) (hnews:∀ j u,news[j]?=some u→w.cell? (ad.add j)=some u) (h1:∀ u ∈ news,u.oneCell'=true)
  (h63:n + m≤maxLen) (hbytes:(n + m) * bytes≤140737488355328) (hbase:base≤w.heap.size)
  (h:∀ v' w',Hid (w'.ownsRow base e size v' (n + m) (xs ++ news))→Hid (Moved w w' v v')→wpList P ops Q rest (a.put o.dst v') w'):wpList P ops Q (o :: rest) a w:=by
 refine wpList_plain hgd fun K hK=>?_
 obtain ⟨v',w',hr,h2,h3⟩:=run_append_moveN (P:=P) w base t o.type e i z size bytes ht hi hz hsize hby hzs hpos v n xs hown ad m c news hl hm hnews h1 h63 hbytes hbase
 unfold Oper.wp execOp
 simp only [ho,resolve,invoke,builtin,Sem.run_bind,Sem.run_pure,Result.andThen_ok,List.map_toArray,List.map_cons,List.map_nil,hs,hx,hr]
 exact hK _ _ (h v' w' h2 h3)
theorem moved_old' {w w':World} {v v':Value} {k:Nat} (h:Moved w w' v v') (hk:k < w.heap.size) (hn:v.ownBlock≠some k):w'.heap[k]?=w.heap[k]?:=by
 rcases h with ⟨_,h⟩ | ⟨_,h⟩
 ·exact h.block k hk (fun e=>hn e.symm)
 ·exact h.block k hk (by simp)
theorem run_append_nil0 {P:Program} (t ty e:TypeId) (i:TypeInfo) (ht:P.underlying t=some (.slice e)) (hi:P.info? e=some i) (ad:Option Addr) (c:Nat) (w:World) :
  (Builtin.append_ #[t,t] ty #[.slice none 0 0,.slice ad 0 c]).run P w=.ok (.slice none 0 0) w:=by
 cases ad with
 | none=>simp [Builtin.append_,run_underlying ht,sizeOf,typeInfo,hi,Builtin.lenOf,Builtin.firstCells]
 | some a=>simp [Builtin.append_,run_underlying ht,sizeOf,typeInfo,hi,Builtin.lenOf,Builtin.firstCells,loadCells,loadCellsFrom]
theorem wpList_append_nil {P:Program} {w:World} {ops:Array Oper} {rest:List Oper} {o:Oper} {a:Act} {Q:Exit→Act→World→Prop} (hgd:o.guard=none) (s x:Operand) (t:TypeId)
  (ho:o.op=.call { callee:=.builtin .append,args:=#[s,x],argTypes:=#[t,t] })
  (e:TypeId) (i:TypeInfo) (z:Value) (size bytes:Nat) (ht:P.underlying t=some (.slice e)) (hi:P.info? e=some i) (hz:i.zero=some z)
  (hsize:i.size=size) (hby:i.bytes=bytes) (hzs:z.cells.size=size) (hpos:0 < size) (hs:a.eval s=.slice none 0 0)
  (ad:Option Addr) (m c:Nat) (news:List Value) (hx:a.eval x=.slice ad m c) (hl:news.length=m * size) (hnews:0 < m→∃ b f,ad=some ⟨b,f,none⟩∧∀ j u,news[j]?=some u→w.cell? ⟨b,f + j,none⟩=some u) (h1:∀ u ∈ news,u.oneCell'=true)
  (h63:m≤maxLen) (hbytes:m * bytes≤140737488355328)
  (h:∀ v' w',Hid (w'.ownsRow w.heap.size e size v' m news)→Hid (Below w.heap.size w w')→Hid (∀ b,v'.ownBlock=some b→b < w'.heap.size)→wpList P ops Q rest (a.put o.dst v') w'):wpList P ops Q (o :: rest) a w:=by
 refine wpList_plain hgd fun K hK=>?_
 rcases Nat.eq_zero_or_pos m with h0 | h0
 ·subst h0
  have hn:news=[]:=List.length_eq_zero_iff.1 (by omega)
  subst hn
  have hr:=run_append_nil0 (P:=P) t o.type e i ht hi ad c w
  unfold Oper.wp execOp
  simp only [ho,resolve,invoke,builtin,Sem.run_bind,Sem.run_pure,Result.andThen_ok,List.map_toArray,List.map_cons,List.map_nil,hs,hx,hr]
  exact hK _ _ (h _ _ (World.ownsRow_nil _ _ _ _) (Below.refl _ _) (fun b hb=>by cases hb))
 ·obtain ⟨b,f,rfl,hc⟩:=hnews h0
  obtain ⟨v',w',hr,h2,h3⟩:=run_append_moveN (P:=P) w w.heap.size t o.type e i z size bytes ht hi hz hsize hby hzs hpos (.slice none 0 0) 0 [] (World.ownsRow_nil _ _ _ _) ⟨b,f,none⟩ m c news hl h0 (fun j u hj=>by rw [Addr.add_mid];exact hc j u hj) h1 (by omega) (by rw [Nat.zero_add];exact hbytes) (Nat.le_refl _)
  unfold Oper.wp execOp
  simp only [ho,resolve,invoke,builtin,Sem.run_bind,Sem.run_pure,Result.andThen_ok,List.map_toArray,List.map_cons,List.map_nil,hs,hx,hr]
  have hb:Below w.heap.size w w':=by
   rcases h3 with ⟨_,h⟩ | ⟨_,h⟩ <;> exact ⟨h.os,h.tape,h.output,h.size,fun k hk=>h.block k hk (by simp [Value.ownBlock])⟩
  have h2':w'.ownsRow w.heap.size e size v' m news:=by simpa using h2
  exact hK _ _ (h v' w' h2' hb (fun b hb=>(h2.lt b hb).2))
theorem block_setCells {b:Nat} {t:TypeId}:∀ (vs:List Value) (o:Nat) (w:World) (arr:Array Value),w.heap[b]?=some (.cells arr t (0,0))→∃ arr',(w.setCells b o vs).heap[b]?=some (.cells arr' t (0,0))∧arr'.size=arr.size
 | [],_,_,arr,h=>⟨arr,h,rfl⟩
 | v :: vs,o,w,arr,h=>by
  obtain ⟨arr',h1,h2⟩:=block_setCells vs (o + 1) (w.setCell ⟨b,o,none⟩ v) _ (Joins.block_setCell (i:=o) h v)
  exact ⟨arr',h1,by simpa using h2⟩
theorem setCells_old (b:Nat):∀ (vs:List Value) (o:Nat) (w:World) (k:Nat),k≠b→(w.setCells b o vs).heap[k]?=w.heap[k]?
 | [],_,_,_,_=>rfl
 | v :: vs,o,w,k,h=>(setCells_old b vs (o + 1) _ k h).trans (Below.heap_setCell _ _ _ _ h)
theorem Below.setCells {B b:Nat} (hb:B≤b):∀ (vs:List Value) (o:Nat) (a w:World),Below B a w→Below B a (w.setCells b o vs)
 | [],_,_,_,h=>h
 | v :: vs,o,a,w,h=>Below.setCells hb vs (o + 1) a _ (h.setCell (by exact hb) v)
abbrev O2 (R:List (Int × Int)):List Value:=R.flatMap fun x=>[.int .i64 x.1,.int .i64 x.2]
theorem O2_len (R:List (Int × Int)):(O2 R).length=R.length * 2:=by
 induction R with
 | nil=>rfl
 | cons x R ih=>simp only [O2,List.flatMap_cons,List.length_append,List.length_cons,List.length_nil] at ih ⊢;omega
theorem O2_at:∀ (R:List (Int × Int)) (i:Nat) (hi:i < R.length),(O2 R)[i * 2]?=some (.int .i64 R[i].1)∧(O2 R)[i * 2 + 1]?=some (.int .i64 R[i].2):=by
 intro R
 induction R with
 | nil=>intro i hi;simp at hi
 | cons x R ih =>
  intro i hi
  cases i with
  | zero=>simp [O2]
  | succ i =>
   have:=ih i (by simpa using hi)
   have hf:O2 (x :: R)=[.int .i64 x.1,.int .i64 x.2] ++ O2 R:=by simp [O2]
   rw [hf,show (i + 1) * 2=i * 2 + 2 by omega,List.getElem?_append_right (by simp),show i * 2 + 2 + 1=i * 2 + 1 + 2 by omega,List.getElem?_append_right (by simp)]
   simpa using this
theorem O2_one (R:List (Int × Int)):∀ u ∈ O2 R,u.oneCell'=true:=by
 intro u hu
 simp only [O2,List.mem_flatMap] at hu
 obtain ⟨x,_,hx⟩:=hu
 simp at hx
 rcases hx with rfl | rfl <;> rfl
theorem row_len {w:World} {base e size n:Nat} {a:Option Addr} {l c:Nat} {xs:List Value} (h:w.ownsRow base e size (.slice a l c) n xs):l=n:=by
 rcases h.2 with ⟨e,h0⟩ | ⟨g,cap,cur,e,_⟩
 ·simp only [Value.slice.injEq] at e;omega
 ·simp only [Value.slice.injEq] at e;omega
structure Frm (w w':World) (v v':Value):Prop where
 os:w'.os=w.os
 tape:w'.tape=w.tape
 output:w'.output=w.output
 size:w.heap.size≤w'.heap.size
 block:∀ k,k < w.heap.size→v.ownBlock≠some k→w'.heap[k]?=w.heap[k]?
 own:∀ k,v'.ownBlock=some k→v.ownBlock=some k∨k=w.heap.size
theorem Moved.frm {w w':World} {v v':Value} (h:Moved w w' v v'):Frm w w' v v':=by
 rcases h with ⟨e,h⟩ | ⟨e,h⟩
 ·exact ⟨h.os,h.tape,h.output,h.size,fun k hk hn=>h.block k hk (fun e=>hn e.symm),fun k hk=>.inl (by rw [← e];exact hk)⟩
 ·exact ⟨h.os,h.tape,h.output,h.size,fun k hk hn=>h.block k hk (by simp),fun k hk=>.inr (by rw [e] at hk;simp at hk;exact hk.symm)⟩
theorem Frm.refl (w:World) (v:Value):Frm w w v v:=⟨rfl,rfl,rfl,Nat.le_refl _,fun _ _ _=>rfl,fun k hk=>.inl hk⟩
theorem step_append_moveN {P:Program} {ops:Array Oper} {o:Oper} {a:Act} {w:World} {K:Act→World→Prop} {Q:Exit→Act→World→Prop} {E:Prop}
  (hg:o.guard=none) (s x:Operand) (t:TypeId) (hop:o.op=Op.call { callee:=Callee.builtin Builtin.append,args:=#[s,x],argTypes:=#[t,t] })
  (base:Nat) (e:TypeId) (i:TypeInfo) (z:Value) (size bytes:Nat) (h1:P.underlying t=some (.slice e)) (h2:P.info? e=some i) (h3:i.zero=some z) (h4:i.size=size) (h5:i.bytes=bytes) (h6:z.cells.size=size) (h7:0 < size)
  (v:Value) (n:Nat) (xs:List Value) (hs:a.eval s=v) (hown:w.ownsRow base e size v n xs)
  (ad:Addr) (m c:Nat) (news:List Value) (hx:a.eval x=.slice (some ad) m c) (hn:news.length=m * size) (hm:0 < m) (hc:∀ j u,news[j]?=some u→w.cell? (ad.add j)=some u) (h1c:∀ u ∈ news,u.oneCell'=true)
  (b1:n + m≤maxLen) (b2:(n + m) * bytes≤140737488355328) (hb:base≤w.heap.size)
  (hK:∀ v' w',w'.ownsRow base e size v' (n + m) (xs ++ news)→Moved w w' v v'→K (a.put o.dst v') w') :
  if Region.wanted o (yielded ops a.tmps)=true then Oper.wp P o a w K Q else E:=by
 have hw:Region.wanted o (yielded ops a.tmps)=true:=by simp [Region.wanted,hg]
 rw [if_pos hw]
 obtain ⟨v',w',hrun,r1,r2⟩:=run_append_moveN (P:=P) w base t o.type e i z size bytes h1 h2 h3 h4 h5 h6 h7 v n xs hown ad m c news hn hm hc h1c b1 b2 hb
 unfold Oper.wp
 simp [execOp,hop,resolve,invoke,builtin,hs,hx,hrun,Result.andThen]
 exact hK v' w' r1 r2
theorem step_append_row {P:Program} {ops:Array Oper} {o:Oper} {a:Act} {w:World} {K:Act→World→Prop} {Q:Exit→Act→World→Prop} {E:Prop}
  (hg:o.guard=none) (s x:Operand) (t:TypeId) (hop:o.op=Op.call { callee:=Callee.builtin Builtin.append,args:=#[s,x],argTypes:=#[t,t] })
  (base:Nat) (e:TypeId) (i:TypeInfo) (z:Value) (size bytes:Nat) (h1:P.underlying t=some (.slice e)) (h2:P.info? e=some i) (h3:i.zero=some z) (h4:i.size=size) (h5:i.bytes=bytes) (h6:z.cells.size=size) (h7:0 < size)
  (v:Value) (n:Nat) (xs:List Value) (hs:a.eval s=v) (hown:w.ownsRow base e size v n xs)
  (b m c:Nat) (arr:Array Value) (te:TypeId) (hx:a.eval x=.slice (some ⟨b,0,none⟩) m c) (hb':w.heap[b]?=some (.cells arr te (0,0))) (hn:arr.size=m * size) (hm:0 < m) (h1c:∀ u ∈ arr.toList,u.oneCell'=true)
  (b1:n + m≤maxLen) (b2:(n + m) * bytes≤140737488355328) (hb:base≤w.heap.size)
  (hK:∀ v' w',Hid (w'.ownsRow base e size v' (n + m) (xs ++ arr.toList))→Hid (Frm w w' v v')→K (a.put o.dst v') w') :
  if Region.wanted o (yielded ops a.tmps)=true then Oper.wp P o a w K Q else E:=
 step_append_moveN hg s x t hop base e i z size bytes h1 h2 h3 h4 h5 h6 h7 v n xs hs hown ⟨b,0,none⟩ m c arr.toList hx (by simpa using hn) hm (fun j u hj=>by rw [Addr.add_mid,Nat.zero_add,Joins.cell_of_block hb'];simpa using hj) h1c b1 b2 hb (fun v' w' r1 r2=>hK v' w' r1 r2.frm)
structure Chs (A:Nat→Prop) (w w':World):Prop where
 os:w'.os=w.os
 tape:w'.tape=w.tape
 output:w'.output=w.output
 size:w.heap.size≤w'.heap.size
 block:∀ b,b < w.heap.size→¬ A b→w'.heap[b]?=w.heap[b]?
theorem Chs.refl (A:Nat→Prop) (w:World):Chs A w w:=⟨rfl,rfl,rfl,Nat.le_refl _,fun _ _ _=>rfl⟩
theorem Chs.trans {A A' A2:Nat→Prop} {w w' w2:World} (h:Chs A w w') (h':Chs A' w' w2) (h1:∀ b,A b→A2 b) (h2:∀ b,A' b→A2 b):Chs A2 w w2:=
 ⟨h'.os.trans h.os,h'.tape.trans h.tape,h'.output.trans h.output,Nat.le_trans h.size h'.size,fun b hb hn=>(h'.block b (by have:=h.size;omega) (fun h=>hn (h2 b h))).trans (h.block b hb (fun h=>hn (h1 b h)))⟩
theorem Chs.of_below {A:Nat→Prop} {w w':World} (h:Below w.heap.size w w'):Chs A w w':=⟨h.os,h.tape,h.output,h.size,fun b hb _=>h.block b hb⟩
theorem Chs.set {A:Nat→Prop} {w w':World} (h:Chs A w w') {a:Addr} (ha:A a.block) (v:Value):Chs A w (w'.setCell a v):=
 ⟨h.os,h.tape,h.output,by have:=h.size;simpa [World.setCell] using this,fun b hb hn=>(Below.heap_setCell _ _ _ _ (by intro e;apply hn;rw [e];exact ha)).trans (h.block b hb hn)⟩
theorem row_shape {w:World} {base e size n:Nat} {v:Value} {xs:List Value} (h:w.ownsRow base e size v n xs):∃ a c,v=.slice a n c∧n≤c∧c≤maxLen:=by
 rcases h.2 with ⟨rfl,rfl⟩ | ⟨g,cap,cur,h1,h2,h3,h4,h5,_⟩
 ·exact ⟨none,0,rfl,Nat.le_refl _,by simp [maxLen]⟩
 ·exact ⟨_,cap,h1,h4,h5⟩
theorem row_there {w:World} {base e size n b c:Nat} {xs:List Value} (h:w.ownsRow base e size (.slice (some ⟨b,0,none⟩) n c) n xs) {j m:Nat} (hj:j + m≤n * size):w.there b j m:=fun k hk=>by
 rcases h.2 with ⟨he,_⟩ | ⟨g,cap,cur,he,hb,hgg,h1,h2,h3,h4⟩
 ·cases he
 ·simp only [Value.slice.injEq,Option.some.injEq,Addr.mk.injEq] at he
  obtain ⟨⟨rfl,_⟩,_,rfl⟩:=he
  refine ⟨?_,Joins.unfrozen_of_block hgg _⟩
  rw [Joins.cell_of_block hgg,Array.getElem?_eq_getElem (by have:=Nat.mul_le_mul_right size h1;omega)]
  rfl
theorem frz_eq {w w':World} {b:Nat} (h:w'.heap[b]?=w.heap[b]?) (o:Nat):w'.frozen? ⟨b,o,none⟩=w.frozen? ⟨b,o,none⟩:=by simp only [World.frozen?,h]
theorem info51:(Tryz.prog.info? 86).map (fun i=>(i.zero,i.size,i.bytes))=some (some (.agg #[.int .i64 0,.int .i64 0,.int .i64 0,.int .i64 0,.slice none 0 0]),5,56):=by kernel_rfl
theorem flat5 (MS:List Iv):∀ (j k:Nat) (hj:j < MS.length),k < 5→(MS.flatMap Iv.cs)[j * 5 + k]?=(Iv.cs MS[j])[k]?:=by
 induction MS with
 | nil=>intro j k hj;simp at hj
 | cons M MS ih =>
  intro j k hj hk
  rw [List.flatMap_cons]
  cases j with
  | zero=>rw [List.getElem?_append_left (by simp;omega)];simp
  | succ j =>
   rw [List.getElem?_append_right (by simp;omega)]
   have:=ih j k (by simpa using hj) hk
   simp only [List.length_cons,List.length_nil,List.getElem_cons_succ]
   rw [← this]
   congr 1
   omega
theorem flat5_len (MS:List Iv):(MS.flatMap Iv.cs).length=MS.length * 5:=by
 induction MS with
 | nil=>rfl
 | cons M MS ih=>rw [List.flatMap_cons,List.length_append,ih];simp;omega
abbrev Z9:Value:=.agg #[.int .i64 0,.slice none 0 0,.int .i64 0,.slice none 0 0,.int .i64 0,.int .i64 0,.bool false,.int .i64 0,.string ⟨#[]⟩]
theorem info25:(Tryz.prog.info? 25).map (fun i=>(i.zero,i.size,i.bytes))=some (some Z9,9,112):=by kernel_rfl
theorem info53:(Tryz.prog.info? 70).map (fun i=>(i.zero,i.size,i.bytes))=some (some (.agg #[.int .i64 0,.int .i64 0]),2,16):=by kernel_rfl
theorem one9 (M:Nv):∀ u ∈ Nv.cs M,u.oneCell'=true:=by
 intro u hu
 simp only [Nv.cs,List.mem_cons,List.not_mem_nil,or_false] at hu
 rcases hu with rfl | rfl | rfl | rfl | rfl | rfl | rfl | rfl | rfl <;> rfl
end Go.Proofs.YtacaanhnlfpbhaaGreat
namespace Go.Lk
open Go.RowKit
set_option linter.unusedVariables false
set_option linter.unusedSimpArgs false

end Go.Lk
namespace Go.Proofs.YtacaanhnlfpbhaaGreat
open Go.RowKit Go.Lk
set_option linter.unusedVariables false
set_option linter.unusedSimpArgs false
theorem fineL_get {ts:List Tn} (h:fineL ts=true):∀ (i:Nat) (hi:i < ts.length),ts[i].fine=true:=by
 induction ts with
 | nil=>intro i hi;simp at hi
 | cons t ts ih =>
  simp only [fineL,Bool.and_eq_true] at h
  intro i hi
  cases i with
  | zero=>exact h.1
  | succ i=>exact ih h.2 i (by simpa using hi)
theorem nodes_ge (ts:List Tn):ts.length≤nodesL ts:=by
 induction ts with
 | nil=>simp
 | cons t ts ih=>simp only [nodesL,List.length_cons];have:=t.pos;omega
theorem nodes_get (ts:List Tn):∀ (i:Nat) (hi:i < ts.length),ts[i].nodes≤nodesL ts:=by
 induction ts with
 | nil=>intro i hi;simp at hi
 | cons t ts ih =>
  intro i hi
  cases i with
  | zero=>simp only [nodesL,List.getElem_cons_zero];omega
  | succ i=>have:=ih i (by simpa using hi);simp only [nodesL,List.getElem_cons_succ];omega
structure FineN (k:Int) (R:List (Int × Int)) (a:Int) (n:Nat) (mn mx:Int) (lz:Bool) (ix:Int) (nm:ByteArray):Prop where
 kind:k=1∨k=2∨k=3∨k=4∨k=5∨k=6∨k=7
 grp:k=7→n=1
 rng:k≠2→R.length=0
 cls:k=2→rightB R=true
 ast:k=3→assertB a=true
 nas:k≠3→a=0
theorem fine_node {k:Int} {R:List (Int × Int)} {a:Int} {n:Nat} {mn mx:Int} {lz:Bool} {ix:Int} {nm:ByteArray} (h:nodeB k R a n mn mx lz ix nm=true):FineN k R a n mn mx lz ix nm:=by
 have hk:k=1∨k=2∨k=3∨k=4∨k=5∨k=6∨k=7:=by
  by_cases h':k≠1∧k≠2∧k≠3∧k≠4∧k≠5∧k≠6∧k≠7
  ·rw [nodeB_ne h'] at h;cases h
  ·omega
 rcases hk with rfl | rfl | rfl | rfl | rfl | rfl | rfl <;> simp [nodeB,bareB] at h <;> refine ⟨by omega,by omega,?_,?_,?_,?_⟩ <;> first | (intro h';omega) | (intro _;exact h.1) | (intro _;simp [h])
end Go.Proofs.YtacaanhnlfpbhaaGreat
namespace Go.Proofs.YtacaanhnlfpbhaaGreat
open Go.RowKit
set_option linter.unusedVariables false
set_option linter.unusedSimpArgs false
abbrev Nv.rb (N:Nv):Option Nat:=(Value.slice N.r1 N.r2 N.r3).ownBlock
abbrev Nv.sb (N:Nv):Option Nat:=(Value.slice N.s1 N.s2 N.s3).ownBlock
inductive TO (w:World):Nv→Tn→(Nat→Prop)→Prop
 | mk {N:Nv} {R:List (Int × Int)} {ts:List Tn} {ND:Nat→Nv} {AS:Nat→Nat→Prop} (ok:N.ok) (hRk:∀ x ∈ R,I64ok x.1∧I64ok x.2)
   (rr:w.ownsRow 0 70 2 (.slice N.r1 N.r2 N.r3) R.length (O2 R)) (sr:w.ownsRow 0 25 9 (.slice N.s1 N.s2 N.s3) ts.length (((List.range ts.length).map ND).flatMap Nv.cs))
   (hk:∀ i (hi:i < ts.length),TO w (ND i) ts[i] (AS i))
   (d1:∀ i j b,i < ts.length→j < ts.length→i≠j→AS i b→¬ AS j b)
   (d2:∀ b,N.rb=some b→N.sb≠some b)
   (d3:∀ i b,i < ts.length→AS i b→N.rb≠some b∧N.sb≠some b) :
   TO w N (.mk N.k R N.a2 ts N.a4 N.a5 N.a6 N.a7 N.a8) (fun b=>N.rb=some b∨N.sb=some b∨∃ i,i < ts.length∧AS i b)
theorem TO.kept {w w':World} {N:Nv} {t:Tn} {A:Nat→Prop} (h:TO w N t A) (hk:∀ b,A b→w'.heap[b]?=w.heap[b]?):TO w' N t A:=by
 induction h with
 | mk ok hRk rr sr hkk d1 d2 d3 ih =>
  exact .mk ok hRk (row_kept rr fun b hb=>hk b (.inl hb)) (row_kept sr fun b hb=>hk b (.inr (.inl hb))) (fun i hi=>ih i hi fun b hb=>hk b (.inr (.inr ⟨i,hi,hb⟩))) d1 d2 d3
theorem TO.low {w:World} {N:Nv} {t:Tn} {A:Nat→Prop} (h:TO w N t A):∀ b,A b→b < w.heap.size:=by
 induction h with
 | mk ok hRk rr sr hkk d1 d2 d3 ih =>
  rintro b (h | h | ⟨i,hi,h⟩)
  ·exact (rr.lt b h).2
  ·exact (sr.lt b h).2
  ·exact ih i hi b h
theorem row_nine {w:World} {base n:Nat} {a:Option Addr} {l c:Nat} {MS:List Nv} (h:w.ownsRow base 25 9 (.slice a l c) n (MS.flatMap Nv.cs)) (hn:n=MS.length) (hp:0 < n):∃ b,a=some ⟨b,0,none⟩∧(Value.slice a l c).ownBlock=some b∧∀ i (hi:i < MS.length),N9 w b 0 i MS[i]:=by
 rcases h.2 with ⟨e,h0⟩ | ⟨b,cap,cur,e,_⟩
 ·omega
 ·rw [e] at h
  simp only [Value.slice.injEq] at e
  refine ⟨b,e.1,by rw [e.1];rfl,fun i hi=>?_⟩
  have c:∀ k,k < 9→w.cell? ⟨b,0 + i * 9 + k,none⟩=(Nv.cs MS[i])[k]?:=fun k hk=>by
   rw [Nat.zero_add,h.cellAt (i * 9 + k) (by omega),flat9 MS i k hi hk]
  exact ⟨c 0 (by omega),c 1 (by omega),c 2 (by omega),c 3 (by omega),c 4 (by omega),c 5 (by omega),c 6 (by omega),c 7 (by omega),c 8 (by omega)⟩
abbrev FV (N:Nv) (ev:Value) (n d:Int):Array Value:=#[.int .i64 N.k,.slice N.r1 N.r2 N.r3,.int .i64 N.a2,.slice N.s1 N.s2 N.s3,.int .i64 N.a4,.int .i64 N.a5,.bool N.a6,.int .i64 N.a7,.string N.a8,ev,.int .i64 n,.int .i64 d]
def FC (w:World) (f:Nat) (N:Nv) (ev:Value) (t:Tn):Prop:=w.heap[f]?=some (.cells (FV N ev ((capN t.nodes:Nat):Int) ((t.depth:Nat):Int)) 151 (0,0))
abbrev NK (k:Int):Nv:=⟨k,none,0,0,0,none,0,0,0,0,false,0,⟨#[]⟩⟩
abbrev NO (k mn mx:Int) (lz:Bool) (ix:Int) (nm:ByteArray):Nv:=⟨k,none,0,0,0,none,0,0,mn,mx,lz,ix,nm⟩
def New (A:Nat→Prop) (w w':World):Nat→Prop:=fun b=>A b∨w.heap.size≤b∧b < w'.heap.size
theorem New.more {A:Nat→Prop} {w w' v v':World} {b:Nat} (h:New A v v' b) (h1:w.heap.size≤v.heap.size) (h2:v'.heap.size≤w'.heap.size):New A w w' b:=by
 rcases h with h | h
 ·exact .inl h
 ·exact .inr ⟨by omega,by omega⟩
theorem New.trans {A:Nat→Prop} {w v v' w':World} {b:Nat} (h:New (New A w v) v' w' b) (h1:v.heap.size≤w'.heap.size) (h2:w.heap.size≤v'.heap.size):New A w w' b:=by
 rcases h with (h | h) | h
 ·exact .inl h
 ·exact .inr ⟨by omega,by omega⟩
 ·exact .inr ⟨by omega,by omega⟩
theorem New.low {A:Nat→Prop} {w w':World} (hA:∀ b,A b→b < w.heap.size) (h1:w.heap.size≤w'.heap.size):∀ b,New A w w' b→b < w'.heap.size:=fun b h=>by
 rcases h with h | h
 ·have:=hA b h;omega
 ·omega
def RV (w:World) (A:Nat→Prop) (ad:Option Addr) (fs:Nat→Nat) (l:List (Tn × Nat)):Prop:=
 0 < l.length→∃ b o,ad=some ⟨b,o,none⟩∧A b∧∀ i (hi:i < l.length),w.cell? ⟨b,o + i * 2,none⟩=some (pt (fs i))∧w.cell? ⟨b,o + i * 2 + 1,none⟩=some (.int .i64 (l[i].2:Int))
inductive FA (w:World) (A:Nat→Prop):Nat→Tn→Prop
 | leaf {f:Nat} {N:Nv} {R:List (Int × Int)} (hf:A f) (hc:FC w f N (.func (.func 203) #[] #[]) (.mk N.k R N.a2 [] N.a4 N.a5 N.a6 N.a7 N.a8)) (ok:N.ok) (hr:N.r2=R.length) (hR:RP w A N.r1 R) (hRk:∀ x ∈ R,I64ok x.1∧I64ok x.2) (h5:R.length≤5000) :
   FA w A f (.mk N.k R N.a2 [] N.a4 N.a5 N.a6 N.a7 N.a8)
 | over {f b g:Nat} {k mn mx ix:Int} {lz:Bool} {nm:ByteArray} {s:Tn} (hf:A f) (hc:FC w f (NO k mn mx lz ix nm) (.func (.func 202) #[] #[pt b]) (.mk k [] 0 [s] mn mx lz ix nm)) (ok:(NO k mn mx lz ix nm).ok) (hb:Bx w b 146 (pt g)) (hbB:A b) (hs:FA w A g s) :
   FA w A f (.mk k [] 0 [s] mn mx lz ix nm)
 | row {f b1 b2:Nat} {k:Int} {ad:Option Addr} {c:Nat} {fs:Nat→Nat} {l:List (Tn × Nat)} (hf:A f) (hc:FC w f (NK k) (.func (.func 198) #[] #[pt b1,pt b2]) (rowT k l)) (hk:k=4∨k=5) (h1:Bx w b1 194 (.slice ad l.length c)) (h2:Bx w b2 3 (.int .i64 k)) (hb1:A b1) (hb2:A b2)
   (hv:RV w A ad fs l) (ht:∀ x ∈ l,0 < x.2∧x.2≤1000) (hl:l.length≤200000) (hs:∀ i (hi:i < l.length),FA w A (fs i) l[i].1):FA w A f (rowT k l)
 | opt {f b1 b2 b3 g n:Nat} {lz:Bool} {y:Tn} (hf:A f) (hc:FC w f (NO 6 0 1 lz 0 ⟨#[]⟩) (.func (.func 232) #[] #[pt b1,pt b2,pt b3]) (optT y lz (n + 2))) (h1:Bx w b1 146 (pt g)) (h2:Bx w b2 3 (.int .i64 ((n + 2:Nat):Int))) (h3:Bx w b3 4 (.bool lz)) (hb1:A b1) (hb2:A b2) (hb3:A b3) (hn:n + 2≤1000) (hd:y.depth≤1000000000) (hs:FA w A g y):FA w A f (optT y lz (n + 2))
theorem FC.kept {w w':World} {f:Nat} {N:Nv} {ev:Value} {t:Tn} (h:FC w f N ev t) (hk:w'.heap[f]?=w.heap[f]?):FC w' f N ev t:=hk.trans h
theorem RV.kept {w w':World} {A A':Nat→Prop} {ad:Option Addr} {fs:Nat→Nat} {l:List (Tn × Nat)} (h:RV w A ad fs l) (hk:∀ b,A b→w'.heap[b]?=w.heap[b]?) (hA:∀ b,A b→A' b):RV w' A' ad fs l:=fun hp=>by
 obtain ⟨b,o,h1,h2,h3⟩:=h hp
 exact ⟨b,o,h1,hA b h2,fun i hi=>⟨(cell_eq (hk b h2) _).trans (h3 i hi).1,(cell_eq (hk b h2) _).trans (h3 i hi).2⟩⟩
theorem FA.kept {w w':World} {A A':Nat→Prop} {f:Nat} {t:Tn} (h:FA w A f t) (hk:∀ b,A b→w'.heap[b]?=w.heap[b]?) (hA:∀ b,A b→A' b):FA w' A' f t:=by
 induction h with
 | leaf hf hc ok hr hR hRk h5=>exact .leaf (hA _ hf) (hc.kept (hk _ hf)) ok hr (hR.kept hk hA) hRk h5
 | over hf hc ok hb hbB hs ih=>exact .over (hA _ hf) (hc.kept (hk _ hf)) ok ((hk _ hbB).trans hb) (hA _ hbB) ih
 | row hf hc hkk h1 h2 hb1 hb2 hv ht hl hs ih=>exact .row (hA _ hf) (hc.kept (hk _ hf)) hkk ((hk _ hb1).trans h1) ((hk _ hb2).trans h2) (hA _ hb1) (hA _ hb2) (hv.kept hk hA) ht hl ih
 | opt hf hc h1 h2 h3 hb1 hb2 hb3 hn hd hs ih=>exact .opt (hA _ hf) (hc.kept (hk _ hf)) ((hk _ hb1).trans h1) ((hk _ hb2).trans h2) ((hk _ hb3).trans h3) (hA _ hb1) (hA _ hb2) (hA _ hb3) hn hd ih
theorem FA.up {w w':World} {A A':Nat→Prop} {f:Nat} {t:Tn} (h:FA w A f t) (hL:∀ b,A b→b < w.heap.size) (hb:Below w.heap.size w w') (hA:∀ b,A b→A' b):FA w' A' f t:=h.kept (fun b hA=>hb.block b (hL b hA)) hA
theorem FA.cells {w:World} {A:Nat→Prop} {f:Nat} {t:Tn} (h:FA w A f t):A f∧∃ N ev,FC w f N ev t∧N.k=t.kind:=by
 cases h with
 | leaf hf hc ok hr hR hRk h5=>exact ⟨hf,_,_,hc,rfl⟩
 | over hf hc ok hb hbB hs=>exact ⟨hf,_,_,hc,rfl⟩
 | row hf hc hkk h1 h2 hb1 hb2 hv ht hl hs=>exact ⟨hf,_,_,hc,rfl⟩
 | opt hf hc h1 h2 h3 hb1 hb2 hb3 hn hd hs=>exact ⟨hf,_,_,hc,(optT_kind _ _ _).symm⟩
theorem FC.num {w:World} {f:Nat} {N:Nv} {ev:Value} {t:Tn} (h:FC w f N ev t):w.cell? ⟨f,0,none⟩=some (.int .i64 N.k)∧w.cell? ⟨f,9,none⟩=some ev∧w.cell? ⟨f,10,none⟩=some (.int .i64 ((capN t.nodes:Nat):Int))∧w.cell? ⟨f,11,none⟩=some (.int .i64 ((t.depth:Nat):Int)):=
 ⟨Joins.cell_of_block h 0,Joins.cell_of_block h 9,Joins.cell_of_block h 10,Joins.cell_of_block h 11⟩
theorem atMost62 (n:Nat) (w:World) (hn:n≤4611686018427387904):Calls Tryz.prog 197 #[.int .i64 (n:Int)] w fun e w'=>e=.returned (.int .i64 ((capN n:Nat):Int))∧w'=w:=by
 have e:((capN n:Nat):Int)=min (n:Int) 200001:=by unfold capN;omega
 rw [e]
 go_enter Tryz.func197,Tryz.ntmps197
 go_wp2
 all_goals go_ret
 all_goals exact ⟨rfl,rfl⟩
set_option maxRecDepth 100000 in
set_option maxHeartbeats 4000000 in
theorem leaf48 (A:Nat→Prop) (N:Nv) (R:List (Int × Int)) (w:World) (ok:N.ok) (hr:N.r2=R.length) (hA:∀ b,A b→b < w.heap.size) (hR:RP w A N.r1 R) (hRk:∀ x ∈ R,I64ok x.1∧I64ok x.2) (h5:R.length≤5000):Calls Tryz.prog 135 #[N.v] w fun e w'=>∃ f,e=.returned (pt f)∧FA w' (New A w w') f (.mk N.k R N.a2 [] N.a4 N.a5 N.a6 N.a7 N.a8)∧Below w.heap.size w w':=by
 have hb:=below_two' w (.cells #[.int .i64 N.k,.slice N.r1 N.r2 N.r3,.int .i64 N.a2,.slice N.s1 N.s2 N.s3,.int .i64 N.a4,.int .i64 N.a5,.bool N.a6,.int .i64 N.a7,.string N.a8] 25) (.cells (FV N (.func (.func 203) #[] #[]) 1 1) 151)
 have hn:=two_new w (.cells #[.int .i64 N.k,.slice N.r1 N.r2 N.r3,.int .i64 N.a2,.slice N.s1 N.s2 N.s3,.int .i64 N.a4,.int .i64 N.a5,.bool N.a6,.int .i64 N.a7,.string N.a8] 25) (FV N (.func (.func 203) #[] #[]) 1 1) 151
 have HB:=hid hb
 have HN:=hid hn
 have HOK:=hid ok
 have HR:=hid hR
 have HRL:=hid hr
 have HAA:=hid hA
 clear hb hn ok hR hr hA
 go_enter Tryz.func135,Tryz.ntmps135
 go_wp2
 all_goals go_ret
 all_goals refine ⟨w.heap.size + 1,rfl,?_,HB.out⟩
 all_goals exact .leaf (.inr ⟨by omega,by simp⟩) HN.out HOK.out HRL.out (HR.out.kept (fun b hb=>HB.out.block b (HAA.out b hb)) (fun b hb=>.inl hb)) hRk h5
theorem ok_NO (k mn mx:Int) (lz:Bool) (ix:Int) (nm:ByteArray) (hk:I64ok k) (h1:I64ok mn) (h2:I64ok mx) (h3:I64ok ix) (h4:nm.size≤maxLen):(NO k mn mx lz ix nm).ok:=
 ⟨hk,by constructor <;> simp,h1,h2,h3,h4,⟨Nat.le_refl _,Nat.zero_le _⟩,⟨Nat.le_refl _,Nat.zero_le _⟩⟩
theorem empty61 (A:Nat→Prop) (w:World):Calls Tryz.prog 196 #[] w fun e w'=>∃ f,e=.returned (pt f)∧FA w' (New A w w') f emptyT∧Below w.heap.size w w':=by
 have HC:=leaf48 (fun _=>False) (NK 1) [] w (ok_NO 1 0 0 false 0 ⟨#[]⟩ (by decide) (by decide) (by decide) (by decide) (Nat.zero_le _)) rfl (fun b h=>h.elim) (fun h=>absurd rfl h) (fun x hx=>by cases hx) (by simp)
 go_enter Tryz.func196,Tryz.ntmps196
 go_wp2_with (first | (go_at_call 135;(with_reducible refine HC.mono ?_);rintro e w1 ⟨f,rfl,hf,hb⟩;have HF:=hid hf;have HB:=hid hb;clear hf hb HC))
 all_goals go_ret
 all_goals exact ⟨f,rfl,HF.out.kept (fun _ _=>rfl) (fun b hb=>.inr (by rcases hb with h | h;exact h.elim;exact h)),HB.out⟩
set_option maxRecDepth 100000 in
set_option maxHeartbeats 4000000 in
theorem loop66 (mn mx:Int) (lz:Bool) (w:World):Calls Tryz.prog 201 #[.int .i64 mn,.int .i64 mx,.bool lz] w fun e w'=>e=.returned (NO 6 mn mx lz 0 ⟨#[]⟩).v∧Below w.heap.size w w':=by
 go_enter Tryz.func201,Tryz.ntmps201
 go_wp2
 all_goals refine bodyPost_ret (results_cell_row rfl _ _ w.heap.size 25 _ (0,0) _ rfl (heap_alloc_new w _) Tryz.underlying25 rfl (by kernel_rfl)) rfl ⟨rfl,Joins.below_alloc1 w _⟩
theorem below_drew (w:World):Below w.heap.size w w.drew:=⟨rfl,rfl,rfl,Nat.le_refl _,fun _ _=>rfl⟩
set_option maxRecDepth 100000 in
set_option maxHeartbeats 4000000 in
theorem over47 (A:Nat→Prop) (k mn mx:Int) (lz:Bool) (ix:Int) (nm:ByteArray) (g:Nat) (s:Tn) (w:World) (ok:(NO k mn mx lz ix nm).ok) (hA:∀ b,A b→b < w.heap.size) (hg:FA w A g s) (hd:s.depth≤4000000000) :
  Calls Tryz.prog 134 #[(NO k mn mx lz ix nm).v,pt g] w fun e w'=>∃ f,e=.returned (pt f)∧FA w' (New A w w') f (.mk k [] 0 [s] mn mx lz ix nm)∧Below w.heap.size w w':=by
 obtain ⟨hga,N0,ev,hc,hk0⟩:=hg.cells
 have hgl:=hA g hga
 obtain ⟨c0,c9,c10,c11⟩:=hc.num
 have eN:capN (Tn.mk k [] 0 [s] mn mx lz ix nm).nodes=capN (1 + capN s.nodes):=by simp only [Tn.nodes,nodesL,capN];omega
 have eD:(((Tn.mk k [] 0 [s] mn mx lz ix nm).depth:Nat):Int)=1 + (s.depth:Int):=by simp only [Tn.depth,depthL];omega
 obtain ⟨m,hm⟩:∃ m,m=capN s.nodes:=⟨_,rfl⟩
 obtain ⟨d,hdd⟩:∃ d,d=s.depth:=⟨_,rfl⟩
 rw [← hm] at c10 eN
 rw [← hdd] at c11 eD hd
 have hm1:m≤200001:=by rw [hm];unfold capN;omega
 have HC:∀ W':World,Calls Tryz.prog 197 #[.int .i64 (1 + (m:Int))] W' fun e w'=>e=.returned (.int .i64 ((capN (1 + m):Nat):Int))∧w'=W':=fun W'=>by
  have:=atMost62 (1 + m) W' (by omega)
  rwa [show ((1 + m:Nat):Int)=1 + (m:Int) by omega] at this
 have e1:IntKind.i64.wrap (1 + (m:Int))=1 + (m:Int):=by simp [IntKind.wrap,IntKind.bits,IntKind.signed];omega
 have e2:IntKind.i64.wrap (1 + (d:Int))=1 + (d:Int):=by simp [IntKind.wrap,IntKind.bits,IntKind.signed];omega
 obtain ⟨q,hq⟩:∃ q,q=capN (1 + m):=⟨_,rfl⟩
 rw [← hq] at HC eN
 clear hq
 obtain ⟨W,hW⟩:∃ W,W=(w.alloc (.cells #[.int .i64 k,.slice none 0 0,.int .i64 0,.slice none 0 0,.int .i64 mn,.int .i64 mx,.bool lz,.int .i64 ix,.string nm] 25)).alloc (.cells #[pt g] 146):=⟨_,rfl⟩
 have hbW:Below w.heap.size w W:=by rw [hW];exact below_two' w _ _
 have hB:Bx W (w.heap.size + 1) 146 (pt g):=by rw [hW];exact two_new w _ _ _
 have hN:W.heap[w.heap.size]?=some (.cells #[.int .i64 k,.slice none 0 0,.int .i64 0,.slice none 0 0,.int .i64 mn,.int .i64 mx,.bool lz,.int .i64 ix,.string nm] 25 (0,0)):=by rw [hW];exact (heap_alloc_old _ _ (by simp)).trans (heap_alloc_new w _)
 have hsW:W.heap.size=w.heap.size + 2:=by rw [hW];simp
 obtain ⟨z,hz⟩:∃ z,z=w.heap.size:=⟨_,rfl⟩
 have hS:∀ w1,Below W.heap.size W w1→w1.cell? ⟨w.heap.size,0,none⟩=some (.int .i64 k)∧w1.cell? ⟨w.heap.size,1,none⟩=some (.slice none 0 0)∧w1.cell? ⟨w.heap.size,2,none⟩=some (.int .i64 0)∧w1.cell? ⟨w.heap.size,3,none⟩=some (.slice none 0 0)∧w1.cell? ⟨w.heap.size,4,none⟩=some (.int .i64 mn)∧w1.cell? ⟨w.heap.size,5,none⟩=some (.int .i64 mx)∧w1.cell? ⟨w.heap.size,6,none⟩=some (.bool lz)∧w1.cell? ⟨w.heap.size,7,none⟩=some (.int .i64 ix)∧w1.cell? ⟨w.heap.size,8,none⟩=some (.string nm) ∧
   w1.cell? ⟨w.heap.size + 1,0,none⟩=some (pt g)∧w1.cell? ⟨g,10,none⟩=some (.int .i64 (m:Int))∧w1.cell? ⟨g,11,none⟩=some (.int .i64 (d:Int)):=fun w1 h1=>by
  have hN1:=(h1.block w.heap.size (by omega)).trans hN
  have hB1:=(h1.block (w.heap.size + 1) (by omega)).trans hB
  have hg1:w1.heap[g]?=w.heap[g]?:=(h1.block g (by omega)).trans (hbW.block g hgl)
  obtain ⟨q0,q1,q2,q3,q4,q5,q6,q7,q8⟩:=nine' hN1
  exact ⟨q0,q1,q2,q3,q4,q5,q6,q7,q8,bx0 hB1,(cell_eq hg1 _).trans c10,(cell_eq hg1 _).trans c11⟩
 have HD:=hid (below_drew W)
 have HSS:=hid hS
 have HG:=hid hg
 have HBW:=hid hbW
 have HBB:=hid hB
 have HOK:=hid ok
 have HAA:=hid hA
 have hzs:W.heap.size=w.heap.size + 2:=hsW
 have HZS:=hid hzs
 have HEN:=hid eN
 have HED:=hid eD
 have HHD:=hid hd
 clear hg hbW hB ok hsW hzs hA hS hN c0 c9 c10 c11 hc hk0 hm hdd eN eD hd
 go_enter Tryz.func134,Tryz.ntmps134
 go_wp2_with fail
 rw [← hW,← hz]
 rw [← hz] at HSS
 have HW:=hid hW
 have HZ:=hid hz
 clear hW hz
 go_region_held2 (fun w1=>w1.cell? ⟨z,0,none⟩=some (.int .i64 k)∧w1.cell? ⟨z,1,none⟩=some (.slice none 0 0)∧w1.cell? ⟨z,2,none⟩=some (.int .i64 0)∧w1.cell? ⟨z,3,none⟩=some (.slice none 0 0)∧w1.cell? ⟨z,4,none⟩=some (.int .i64 mn)∧w1.cell? ⟨z,5,none⟩=some (.int .i64 mx)∧w1.cell? ⟨z,6,none⟩=some (.bool lz)∧w1.cell? ⟨z,7,none⟩=some (.int .i64 ix)∧w1.cell? ⟨z,8,none⟩=some (.string nm)∧w1.cell? ⟨z + 1,0,none⟩=some (pt g)∧w1.cell? ⟨g,10,none⟩=some (.int .i64 (m:Int))∧w1.cell? ⟨g,11,none⟩=some (.int .i64 (d:Int)))
  (first | exact HSS.out _ HD.out | exact HSS.out _ (HD.out.alloc (Nat.le_refl _) _))
  (first | (go_at_call 197;(with_reducible refine (HC _).mono ?_);rintro e w1 ⟨rfl,hw1⟩;have hw2:=hw1.symm;clear hw1;subst hw2))
 all_goals
  go_wp2
  go_ret
  have hz:=HZ.out
  have hs:=HZS.out
  have hnew:Below w.heap.size w (W.alloc (.cells (FV (NO k mn mx lz ix nm) (.func (.func 202) #[] #[pt (z + 1)]) q (1 + d)) 151)).drew:=(HBW.out.alloc (by omega) _).trans (Joins.below_le (below_drew _) (by simp;omega))
  have hsz:(W.alloc (.cells (FV (NO k mn mx lz ix nm) (.func (.func 202) #[] #[pt (z + 1)]) q (1 + d)) 151)).drew.heap.size=W.heap.size + 1:=by show (W.alloc _).heap.size=_;simp
  have hnn:(W.alloc (.cells (FV (NO k mn mx lz ix nm) (.func (.func 202) #[] #[pt (z + 1)]) q (1 + d)) 151)).drew.heap[W.heap.size]?=some (.cells (FV (NO k mn mx lz ix nm) (.func (.func 202) #[] #[pt (z + 1)]) q (1 + d)) 151 (0,0)):=heap_alloc_new W _
  have hold:∀ b,b < W.heap.size→(W.alloc (.cells (FV (NO k mn mx lz ix nm) (.func (.func 202) #[] #[pt (z + 1)]) q (1 + d)) 151)).drew.heap[b]?=W.heap[b]?:=fun b hb=>heap_alloc_old W _ hb
  generalize (W.alloc (.cells (FV (NO k mn mx lz ix nm) (.func (.func 202) #[] #[pt (z + 1)]) q (1 + d)) 151)).drew=U at hnew hsz hnn hold ⊢
  refine ⟨W.heap.size,rfl,?_,hnew⟩
  refine .over (b:=z + 1) (g:=g) (.inr ⟨by omega,by omega⟩) ?_ HOK.out ((hold _ (by omega)).trans (by rw [hz];exact HBB.out)) (.inr ⟨by omega,by omega⟩) ?_
  ·unfold FC
   rw [HEN.out,HED.out]
   exact hnn
  ·exact HG.out.kept (fun b hb=>(hold b (by have:=HAA.out b hb;omega)).trans (HBW.out.block b (HAA.out b hb))) (fun b hb=>.inl hb)
end Go.Proofs.YtacaanhnlfpbhaaGreat
