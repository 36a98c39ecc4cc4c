/- HELPERS: texts of ours put together. -/
import Derived.Test.YtacaanhnlfpbhaaGreatK04
import Derived.Test.YtacaanhnlfpbhaaGreatK03
import Derived.Deep.Cut
import Derived.Deep.MidRow
import Derived.Deep.OwnRows
import Derived.Laws.Rows
import Derived.WalkLawsBesides
import Derived.Maps.AppendAt
import Derived.Deep.RegionLaw
import Derived.Laws.CopyOwn
import Derived.Lib.LazyBuf
import Derived.WalkKit
import Derived.Laws.BitsLemmas
namespace Go.Proofs.YtacaanhnlfpbhaaGreat
open Go.RowKit
set_option linter.unusedVariables false
set_option linter.unusedSimpArgs false
theorem run_append_moveN {P:Program} (w:World) (base:Nat) (t ty e:TypeId) (i:TypeInfo) (z:Value) (size bytes:Nat) (ht:P.underlying t = some (.slice e)) (hi:P.info? e = some i) (hz:i.zero = some z)
  (hsize:i.size = size) (hby:i.bytes = bytes) (hzs:z.cells.size = size) (hpos:0 < size)
  (v:Value) (n:Nat) (xs:List Value) (hown:w.ownsRow base e size v n xs)
  (a:Addr) (m c:Nat) (news:List Value) (hl:news.length = m * size) (hm:0 < m) (hnews:∀ j u,news[j]? = some u → w.cell? (a.add j) = some u) (h1:∀ u ∈ news,u.oneCell' = true)
  (h63:n + m ≤ maxLen) (hbytes:(n + m) * bytes ≤ 140737488355328) (hbase:base ≤ w.heap.size) :
  ∃ v' w',(Builtin.append_ #[t,t] ty #[v,.slice (some a) m c]).run P w = .ok v' w' ∧ w'.ownsRow base e size v' (n + m) (xs ++ news) ∧ Moved w w' v v':=by
 obtain ⟨v',w',hrun,h2,h3,h4,h5⟩:=run_append_own_at (P:=P) w base t ty e i z size bytes ht hi hz hsize hby hzs hpos v n xs hown a m c news hl hnews h1 h63 hbytes hbase
 refine ⟨v',w',hrun,h2,?_⟩
 rcases hown.2 with ⟨rfl,rfl⟩ | ⟨g,cap,cur,rfl,hbg,hg,hnc,hcm,hcs,htake⟩
 ·rcases h5 with h5 | h5
  ·exact .inl ⟨h5,h3⟩
  ·exact .inr ⟨h5,h3⟩
 ·by_cases hroom:n + m ≤ cap
  ·have hr:=run_append_room (P:=P) w t ty e i ht hi g n cap cur hg a m c news (by rw [hsize];omega) hnews h1 hroom (by rw [hsize,hcs,hl,← Nat.add_mul];exact Nat.mul_le_mul_right _ hroom)
   have he:=hrun.symm.trans hr
   injection he with e1 e2
   left
   exact ⟨by rw [e1];rfl,h3⟩
  ·have holds:∀ j u,xs[j]? = some u → w.cell? ((⟨g,0,none⟩:Addr).add j) = some u:=hown.cells (g:=g) rfl
   have hr:=run_append_grow (P:=P) w t ty e i z ht hi hz ⟨g,0,none⟩ n cap xs (by rw [hsize];exact hown.1) holds a m c news (by rw [hsize];omega) hnews (by omega) (by unfold maxLen at h63;omega) (growslice_fits (by omega) (by rw [hby];exact hbytes))
   have he:=hrun.symm.trans hr
   injection he with e1 e2
   right
   refine ⟨by rw [e1];rfl,?_⟩
   rw [e2]
   exact ⟨rfl,rfl,rfl,by simp,fun k hk _ => heap_alloc_old w.drew _ hk⟩
theorem wpList_append_moveN {P:Program} {w:World} {ops:Array Oper} {rest:List Oper} {o:Oper} {a:Act} {Q:Exit → Act → World → Prop} (hgd:o.guard = none) (s x:Operand) (t:TypeId)
  (ho:o.op = .call { callee:=.builtin .append,args:=#[s,x],argTypes:=#[t,t] })
  (base:Nat) (e:TypeId) (i:TypeInfo) (z:Value) (size bytes:Nat) (ht:P.underlying t = some (.slice e)) (hi:P.info? e = some i) (hz:i.zero = some z)
  (hsize:i.size = size) (hby:i.bytes = bytes) (hzs:z.cells.size = size) (hpos:0 < size)
  (v:Value) (n:Nat) (xs:List Value) (hs:a.eval s = v) (hown:w.ownsRow base e size v n xs)
  (ad:Addr) (m c:Nat) (news:List Value) (hx:a.eval x = .slice (some ad) m c) (hl:news.length = m * size) (hm:0 < m) (hnews:∀ j u,news[j]? = some u → w.cell? (ad.add j) = some u) (h1:∀ u ∈ news,u.oneCell' = true)
  (h63:n + m ≤ maxLen) (hbytes:(n + m) * bytes ≤ 140737488355328) (hbase:base ≤ w.heap.size)
  (h:∀ v' w',Hid (w'.ownsRow base e size v' (n + m) (xs ++ news)) → Hid (Moved w w' v v') → wpList P ops Q rest (a.put o.dst v') w'):wpList P ops Q (o :: rest) a w:=by
 refine wpList_plain hgd fun K hK => ?_
 obtain ⟨v',w',hr,h2,h3⟩:=run_append_moveN (P:=P) w base t o.type e i z size bytes ht hi hz hsize hby hzs hpos v n xs hown ad m c news hl hm hnews h1 h63 hbytes hbase
 unfold Oper.wp execOp
 simp only [ho,resolve,invoke,builtin,Sem.run_bind,Sem.run_pure,Result.andThen_ok,List.map_toArray,List.map_cons,List.map_nil,hs,hx,hr]
 exact hK _ _ (h v' w' h2 h3)
theorem moved_old' {w w':World} {v v':Value} {k:Nat} (h:Moved w w' v v') (hk:k < w.heap.size) (hn:v.ownBlock ≠ some k):w'.heap[k]? = w.heap[k]?:=by
 rcases h with ⟨_,h⟩ | ⟨_,h⟩
 ·exact h.block k hk (fun e => hn e.symm)
 ·exact h.block k hk (by simp)
theorem run_append_nil0 {P:Program} (t ty e:TypeId) (i:TypeInfo) (ht:P.underlying t = some (.slice e)) (hi:P.info? e = some i) (ad:Option Addr) (c:Nat) (w:World) :
  (Builtin.append_ #[t,t] ty #[.slice none 0 0,.slice ad 0 c]).run P w = .ok (.slice none 0 0) w:=by
 cases ad with
 | none => simp [Builtin.append_,run_underlying ht,sizeOf,typeInfo,hi,Builtin.lenOf,Builtin.firstCells]
 | some a => simp [Builtin.append_,run_underlying ht,sizeOf,typeInfo,hi,Builtin.lenOf,Builtin.firstCells,loadCells,loadCellsFrom]
theorem wpList_append_nil {P:Program} {w:World} {ops:Array Oper} {rest:List Oper} {o:Oper} {a:Act} {Q:Exit → Act → World → Prop} (hgd:o.guard = none) (s x:Operand) (t:TypeId)
  (ho:o.op = .call { callee:=.builtin .append,args:=#[s,x],argTypes:=#[t,t] })
  (e:TypeId) (i:TypeInfo) (z:Value) (size bytes:Nat) (ht:P.underlying t = some (.slice e)) (hi:P.info? e = some i) (hz:i.zero = some z)
  (hsize:i.size = size) (hby:i.bytes = bytes) (hzs:z.cells.size = size) (hpos:0 < size) (hs:a.eval s = .slice none 0 0)
  (ad:Option Addr) (m c:Nat) (news:List Value) (hx:a.eval x = .slice ad m c) (hl:news.length = m * size) (hnews:0 < m → ∃ b f,ad = some ⟨b,f,none⟩ ∧ ∀ j u,news[j]? = some u → w.cell? ⟨b,f + j,none⟩ = some u) (h1:∀ u ∈ news,u.oneCell' = true)
  (h63:m ≤ maxLen) (hbytes:m * bytes ≤ 140737488355328)
  (h:∀ v' w',Hid (w'.ownsRow w.heap.size e size v' m news) → Hid (Below w.heap.size w w') → Hid (∀ b,v'.ownBlock = some b → b < w'.heap.size) → wpList P ops Q rest (a.put o.dst v') w'):wpList P ops Q (o :: rest) a w:=by
 refine wpList_plain hgd fun K hK => ?_
 rcases Nat.eq_zero_or_pos m with h0 | h0
 ·subst h0
  have hn:news = []:=List.length_eq_zero_iff.1 (by omega)
  subst hn
  have hr:=run_append_nil0 (P:=P) t o.type e i ht hi ad c w
  unfold Oper.wp execOp
  simp only [ho,resolve,invoke,builtin,Sem.run_bind,Sem.run_pure,Result.andThen_ok,List.map_toArray,List.map_cons,List.map_nil,hs,hx,hr]
  exact hK _ _ (h _ _ (World.ownsRow_nil _ _ _ _) (Below.refl _ _) (fun b hb => by cases hb))
 ·obtain ⟨b,f,rfl,hc⟩:=hnews h0
  obtain ⟨v',w',hr,h2,h3⟩:=run_append_moveN (P:=P) w w.heap.size t o.type e i z size bytes ht hi hz hsize hby hzs hpos (.slice none 0 0) 0 [] (World.ownsRow_nil _ _ _ _) ⟨b,f,none⟩ m c news hl h0 (fun j u hj => by rw [Addr.add_mid];exact hc j u hj) h1 (by omega) (by rw [Nat.zero_add];exact hbytes) (Nat.le_refl _)
  unfold Oper.wp execOp
  simp only [ho,resolve,invoke,builtin,Sem.run_bind,Sem.run_pure,Result.andThen_ok,List.map_toArray,List.map_cons,List.map_nil,hs,hx,hr]
  have hb:Below w.heap.size w w':=by
   rcases h3 with ⟨_,h⟩ | ⟨_,h⟩ <;> exact ⟨h.os,h.tape,h.output,h.size,fun k hk => h.block k hk (by simp [Value.ownBlock])⟩
  have h2':w'.ownsRow w.heap.size e size v' m news:=by simpa using h2
  exact hK _ _ (h v' w' h2' hb (fun b hb => (h2.lt b hb).2))
theorem block_setCells {b:Nat} {t:TypeId}:∀ (vs:List Value) (o:Nat) (w:World) (arr:Array Value),w.heap[b]? = some (.cells arr t (0,0)) → ∃ arr',(w.setCells b o vs).heap[b]? = some (.cells arr' t (0,0)) ∧ arr'.size = arr.size
 | [],_,_,arr,h => ⟨arr,h,rfl⟩
 | v :: vs,o,w,arr,h => by
  obtain ⟨arr',h1,h2⟩:=block_setCells vs (o + 1) (w.setCell ⟨b,o,none⟩ v) _ (Joins.block_setCell (i:=o) h v)
  exact ⟨arr',h1,by simpa using h2⟩
theorem setCells_old (b:Nat):∀ (vs:List Value) (o:Nat) (w:World) (k:Nat),k ≠ b → (w.setCells b o vs).heap[k]? = w.heap[k]?
 | [],_,_,_,_ => rfl
 | v :: vs,o,w,k,h => (setCells_old b vs (o + 1) _ k h).trans (Below.heap_setCell _ _ _ _ h)
theorem Below.setCells {B b:Nat} (hb:B ≤ b):∀ (vs:List Value) (o:Nat) (a w:World),Below B a w → Below B a (w.setCells b o vs)
 | [],_,_,_,h => h
 | v :: vs,o,a,w,h => Below.setCells hb vs (o + 1) a _ (h.setCell (by exact hb) v)
abbrev O2 (R:List (Int × Int)):List Value:=R.flatMap fun x => [.int .i64 x.1,.int .i64 x.2]
theorem O2_len (R:List (Int × Int)):(O2 R).length = R.length * 2:=by
 induction R with
 | nil => rfl
 | cons x R ih => simp only [O2,List.flatMap_cons,List.length_append,List.length_cons,List.length_nil] at ih ⊢;omega
theorem O2_at:∀ (R:List (Int × Int)) (i:Nat) (hi:i < R.length),(O2 R)[i * 2]? = some (.int .i64 R[i].1) ∧ (O2 R)[i * 2 + 1]? = some (.int .i64 R[i].2):=by
 intro R
 induction R with
 | nil => intro i hi;simp at hi
 | cons x R ih =>
  intro i hi
  cases i with
  | zero => simp [O2]
  | succ i =>
   have:=ih i (by simpa using hi)
   have hf:O2 (x :: R) = [.int .i64 x.1,.int .i64 x.2] ++ O2 R:=by simp [O2]
   rw [hf,show (i + 1) * 2 = i * 2 + 2 by omega,List.getElem?_append_right (by simp),show i * 2 + 2 + 1 = i * 2 + 1 + 2 by omega,List.getElem?_append_right (by simp)]
   simpa using this
theorem O2_one (R:List (Int × Int)):∀ u ∈ O2 R,u.oneCell' = true:=by
 intro u hu
 simp only [O2,List.mem_flatMap] at hu
 obtain ⟨x,_,hx⟩:=hu
 simp at hx
 rcases hx with rfl | rfl <;> rfl
theorem row_len {w:World} {base e size n:Nat} {a:Option Addr} {l c:Nat} {xs:List Value} (h:w.ownsRow base e size (.slice a l c) n xs):l = n:=by
 rcases h.2 with ⟨e,h0⟩ | ⟨g,cap,cur,e,_⟩
 ·simp only [Value.slice.injEq] at e;omega
 ·simp only [Value.slice.injEq] at e;omega
structure Frm (w w':World) (v v':Value):Prop where
 os:w'.os = w.os
 tape:w'.tape = w.tape
 output:w'.output = w.output
 size:w.heap.size ≤ w'.heap.size
 block:∀ k,k < w.heap.size → v.ownBlock ≠ some k → w'.heap[k]? = w.heap[k]?
 own:∀ k,v'.ownBlock = some k → v.ownBlock = some k ∨ k = w.heap.size
theorem Moved.frm {w w':World} {v v':Value} (h:Moved w w' v v'):Frm w w' v v':=by
 rcases h with ⟨e,h⟩ | ⟨e,h⟩
 ·exact ⟨h.os,h.tape,h.output,h.size,fun k hk hn => h.block k hk (fun e => hn e.symm),fun k hk => .inl (by rw [← e];exact hk)⟩
 ·exact ⟨h.os,h.tape,h.output,h.size,fun k hk hn => h.block k hk (by simp),fun k hk => .inr (by rw [e] at hk;simp at hk;exact hk.symm)⟩
theorem Frm.refl (w:World) (v:Value):Frm w w v v:=⟨rfl,rfl,rfl,Nat.le_refl _,fun _ _ _ => rfl,fun k hk => .inl hk⟩
theorem step_append_moveN {P:Program} {ops:Array Oper} {o:Oper} {a:Act} {w:World} {K:Act → World → Prop} {Q:Exit → Act → World → Prop} {E:Prop}
  (hg:o.guard = none) (s x:Operand) (t:TypeId) (hop:o.op = Op.call { callee:=Callee.builtin Builtin.append,args:=#[s,x],argTypes:=#[t,t] })
  (base:Nat) (e:TypeId) (i:TypeInfo) (z:Value) (size bytes:Nat) (h1:P.underlying t = some (.slice e)) (h2:P.info? e = some i) (h3:i.zero = some z) (h4:i.size = size) (h5:i.bytes = bytes) (h6:z.cells.size = size) (h7:0 < size)
  (v:Value) (n:Nat) (xs:List Value) (hs:a.eval s = v) (hown:w.ownsRow base e size v n xs)
  (ad:Addr) (m c:Nat) (news:List Value) (hx:a.eval x = .slice (some ad) m c) (hn:news.length = m * size) (hm:0 < m) (hc:∀ j u,news[j]? = some u → w.cell? (ad.add j) = some u) (h1c:∀ u ∈ news,u.oneCell' = true)
  (b1:n + m ≤ maxLen) (b2:(n + m) * bytes ≤ 140737488355328) (hb:base ≤ w.heap.size)
  (hK:∀ v' w',w'.ownsRow base e size v' (n + m) (xs ++ news) → Moved w w' v v' → K (a.put o.dst v') w') :
  if Region.wanted o (yielded ops a.tmps) = true then Oper.wp P o a w K Q else E:=by
 have hw:Region.wanted o (yielded ops a.tmps) = true:=by simp [Region.wanted,hg]
 rw [if_pos hw]
 obtain ⟨v',w',hrun,r1,r2⟩:=run_append_moveN (P:=P) w base t o.type e i z size bytes h1 h2 h3 h4 h5 h6 h7 v n xs hown ad m c news hn hm hc h1c b1 b2 hb
 unfold Oper.wp
 simp [execOp,hop,resolve,invoke,builtin,hs,hx,hrun,Result.andThen]
 exact hK v' w' r1 r2
theorem step_append_row {P:Program} {ops:Array Oper} {o:Oper} {a:Act} {w:World} {K:Act → World → Prop} {Q:Exit → Act → World → Prop} {E:Prop}
  (hg:o.guard = none) (s x:Operand) (t:TypeId) (hop:o.op = Op.call { callee:=Callee.builtin Builtin.append,args:=#[s,x],argTypes:=#[t,t] })
  (base:Nat) (e:TypeId) (i:TypeInfo) (z:Value) (size bytes:Nat) (h1:P.underlying t = some (.slice e)) (h2:P.info? e = some i) (h3:i.zero = some z) (h4:i.size = size) (h5:i.bytes = bytes) (h6:z.cells.size = size) (h7:0 < size)
  (v:Value) (n:Nat) (xs:List Value) (hs:a.eval s = v) (hown:w.ownsRow base e size v n xs)
  (b m c:Nat) (arr:Array Value) (te:TypeId) (hx:a.eval x = .slice (some ⟨b,0,none⟩) m c) (hb':w.heap[b]? = some (.cells arr te (0,0))) (hn:arr.size = m * size) (hm:0 < m) (h1c:∀ u ∈ arr.toList,u.oneCell' = true)
  (b1:n + m ≤ maxLen) (b2:(n + m) * bytes ≤ 140737488355328) (hb:base ≤ w.heap.size)
  (hK:∀ v' w',Hid (w'.ownsRow base e size v' (n + m) (xs ++ arr.toList)) → Hid (Frm w w' v v') → K (a.put o.dst v') w') :
  if Region.wanted o (yielded ops a.tmps) = true then Oper.wp P o a w K Q else E:=
 step_append_moveN hg s x t hop base e i z size bytes h1 h2 h3 h4 h5 h6 h7 v n xs hs hown ⟨b,0,none⟩ m c arr.toList hx (by simpa using hn) hm (fun j u hj => by rw [Addr.add_mid,Nat.zero_add,Joins.cell_of_block hb'];simpa using hj) h1c b1 b2 hb (fun v' w' r1 r2 => hK v' w' r1 r2.frm)
structure Chs (A:Nat → Prop) (w w':World):Prop where
 os:w'.os = w.os
 tape:w'.tape = w.tape
 output:w'.output = w.output
 size:w.heap.size ≤ w'.heap.size
 block:∀ b,b < w.heap.size → ¬ A b → w'.heap[b]? = w.heap[b]?
theorem row_shape {w:World} {base e size n:Nat} {v:Value} {xs:List Value} (h:w.ownsRow base e size v n xs):∃ a c,v = .slice a n c ∧ n ≤ c ∧ c ≤ maxLen:=by
 rcases h.2 with ⟨rfl,rfl⟩ | ⟨g,cap,cur,h1,h2,h3,h4,h5,_⟩
 ·exact ⟨none,0,rfl,Nat.le_refl _,by simp [maxLen]⟩
 ·exact ⟨_,cap,h1,h4,h5⟩
theorem row_there {w:World} {base e size n b c:Nat} {xs:List Value} (h:w.ownsRow base e size (.slice (some ⟨b,0,none⟩) n c) n xs) {j m:Nat} (hj:j + m ≤ n * size):w.there b j m:=fun k hk => by
 rcases h.2 with ⟨he,_⟩ | ⟨g,cap,cur,he,hb,hgg,h1,h2,h3,h4⟩
 ·cases he
 ·simp only [Value.slice.injEq,Option.some.injEq,Addr.mk.injEq] at he
  obtain ⟨⟨rfl,_⟩,_,rfl⟩:=he
  refine ⟨?_,Joins.unfrozen_of_block hgg _⟩
  rw [Joins.cell_of_block hgg,Array.getElem?_eq_getElem (by have:=Nat.mul_le_mul_right size h1;omega)]
  rfl
theorem frz_eq {w w':World} {b:Nat} (h:w'.heap[b]? = w.heap[b]?) (o:Nat):w'.frozen? ⟨b,o,none⟩ = w.frozen? ⟨b,o,none⟩:=by simp only [World.frozen?,h]
theorem info51:(Tryz.prog.info? 86).map (fun i => (i.zero,i.size,i.bytes)) = some (some (.agg #[.int .i64 0,.int .i64 0,.int .i64 0,.int .i64 0,.slice none 0 0]),5,56):=by kernel_rfl
theorem flat5 (MS:List Iv):∀ (j k:Nat) (hj:j < MS.length),k < 5 → (MS.flatMap Iv.cs)[j * 5 + k]? = (Iv.cs MS[j])[k]?:=by
 induction MS with
 | nil => intro j k hj;simp at hj
 | cons M MS ih =>
  intro j k hj hk
  rw [List.flatMap_cons]
  cases j with
  | zero => rw [List.getElem?_append_left (by simp;omega)];simp
  | succ j =>
   rw [List.getElem?_append_right (by simp;omega)]
   have:=ih j k (by simpa using hj) hk
   simp only [List.length_cons,List.length_nil,List.getElem_cons_succ]
   rw [← this]
   congr 1
   omega
theorem flat5_len (MS:List Iv):(MS.flatMap Iv.cs).length = MS.length * 5:=by
 induction MS with
 | nil => rfl
 | cons M MS ih => rw [List.flatMap_cons,List.length_append,ih];simp;omega
abbrev Z9:Value:=.agg #[.int .i64 0,.slice none 0 0,.int .i64 0,.slice none 0 0,.int .i64 0,.int .i64 0,.bool false,.int .i64 0,.string ⟨#[]⟩]
theorem info25:(Tryz.prog.info? 25).map (fun i => (i.zero,i.size,i.bytes)) = some (some Z9,9,112):=by kernel_rfl
theorem info53:(Tryz.prog.info? 70).map (fun i => (i.zero,i.size,i.bytes)) = some (some (.agg #[.int .i64 0,.int .i64 0]),2,16):=by kernel_rfl
theorem one9 (M:Nv):∀ u ∈ Nv.cs M,u.oneCell' = true:=by
 intro u hu
 simp only [Nv.cs,List.mem_cons,List.not_mem_nil,or_false] at hu
 rcases hu with rfl | rfl | rfl | rfl | rfl | rfl | rfl | rfl | rfl <;> rfl
end Go.Proofs.YtacaanhnlfpbhaaGreat
namespace Go.Lk
open Go.RowKit
set_option linter.unusedVariables false
set_option linter.unusedSimpArgs false
def back:Nat → Nat
 | 0 => 2
 | 1 => 1
 | 2 => 8
 | 3 => 4
 | 4 => 16
 | _ => 32
def bk:Nat → Nat → Nat
 | 0,_ => 0
 | k + 1,m => if m.testBit k then bk k m ||| back k else bk k m
def put (k:Nat) (x:Int):Int:=x - x % 64 + (bk k (x % 64).toNat:Nat)
end Go.Lk
namespace Go.Proofs.YtacaanhnlfpbhaaGreat
open Go.RowKit Go.Lk
set_option linter.unusedVariables false
set_option linter.unusedSimpArgs false
theorem fineL_get {ts:List Tn} (h:fineL ts = true):∀ (i:Nat) (hi:i < ts.length),ts[i].fine = true:=by
 induction ts with
 | nil => intro i hi;simp at hi
 | cons t ts ih =>
  simp only [fineL,Bool.and_eq_true] at h
  intro i hi
  cases i with
  | zero => exact h.1
  | succ i => exact ih h.2 i (by simpa using hi)
theorem nodes_ge (ts:List Tn):ts.length ≤ nodesL ts:=by
 induction ts with
 | nil => simp
 | cons t ts ih => simp only [nodesL,List.length_cons];have:=t.pos;omega
theorem nodes_get (ts:List Tn):∀ (i:Nat) (hi:i < ts.length),ts[i].nodes ≤ nodesL ts:=by
 induction ts with
 | nil => intro i hi;simp at hi
 | cons t ts ih =>
  intro i hi
  cases i with
  | zero => simp only [nodesL,List.getElem_cons_zero];omega
  | succ i => have:=ih i (by simpa using hi);simp only [nodesL,List.getElem_cons_succ];omega
structure FineN (k:Int) (R:List (Int × Int)) (a:Int) (n:Nat) (mn mx:Int) (lz:Bool) (ix:Int) (nm:ByteArray):Prop where
 kind:k = 1 ∨ k = 2 ∨ k = 3 ∨ k = 4 ∨ k = 5 ∨ k = 6 ∨ k = 7
 grp:k = 7 → n = 1
 rng:k ≠ 2 → R.length = 0
 cls:k = 2 → rightB R = true
 ast:k = 3 → assertB a = true
 nas:k ≠ 3 → a = 0
theorem fine_node {k:Int} {R:List (Int × Int)} {a:Int} {n:Nat} {mn mx:Int} {lz:Bool} {ix:Int} {nm:ByteArray} (h:nodeB k R a n mn mx lz ix nm = true):FineN k R a n mn mx lz ix nm:=by
 have hk:k = 1 ∨ k = 2 ∨ k = 3 ∨ k = 4 ∨ k = 5 ∨ k = 6 ∨ k = 7:=by
  by_cases h':k ≠ 1 ∧ k ≠ 2 ∧ k ≠ 3 ∧ k ≠ 4 ∧ k ≠ 5 ∧ k ≠ 6 ∧ k ≠ 7
  ·rw [nodeB_ne h'] at h;cases h
  ·omega
 rcases hk with rfl | rfl | rfl | rfl | rfl | rfl | rfl <;> simp [nodeB,bareB] at h <;> refine ⟨by omega,by omega,?_,?_,?_,?_⟩ <;> first | (intro h';omega) | (intro _;exact h.1) | (intro _;simp [h])
end Go.Proofs.YtacaanhnlfpbhaaGreat
namespace Go.Proofs.YtacaanhnlfpbhaaGreat
open Go.RowKit
set_option linter.unusedVariables false
set_option linter.unusedSimpArgs false
abbrev Nv.rb (N:Nv):Option Nat:=(Value.slice N.r1 N.r2 N.r3).ownBlock
abbrev Nv.sb (N:Nv):Option Nat:=(Value.slice N.s1 N.s2 N.s3).ownBlock
inductive TO (w:World):Nv → Tn → (Nat → Prop) → Prop
 | mk {N:Nv} {R:List (Int × Int)} {ts:List Tn} {ND:Nat → Nv} {AS:Nat → Nat → Prop} (ok:N.ok) (hRk:∀ x ∈ R,I64ok x.1 ∧ I64ok x.2)
   (rr:w.ownsRow 0 70 2 (.slice N.r1 N.r2 N.r3) R.length (O2 R)) (sr:w.ownsRow 0 25 9 (.slice N.s1 N.s2 N.s3) ts.length (((List.range ts.length).map ND).flatMap Nv.cs))
   (hk:∀ i (hi:i < ts.length),TO w (ND i) ts[i] (AS i))
   (d1:∀ i j b,i < ts.length → j < ts.length → i ≠ j → AS i b → ¬ AS j b)
   (d2:∀ b,N.rb = some b → N.sb ≠ some b)
   (d3:∀ i b,i < ts.length → AS i b → N.rb ≠ some b ∧ N.sb ≠ some b) :
   TO w N (.mk N.k R N.a2 ts N.a4 N.a5 N.a6 N.a7 N.a8) (fun b => N.rb = some b ∨ N.sb = some b ∨ ∃ i,i < ts.length ∧ AS i b)
theorem TO.kept {w w':World} {N:Nv} {t:Tn} {A:Nat → Prop} (h:TO w N t A) (hk:∀ b,A b → w'.heap[b]? = w.heap[b]?):TO w' N t A:=by
 induction h with
 | mk ok hRk rr sr hkk d1 d2 d3 ih =>
  exact .mk ok hRk (row_kept rr fun b hb => hk b (.inl hb)) (row_kept sr fun b hb => hk b (.inr (.inl hb))) (fun i hi => ih i hi fun b hb => hk b (.inr (.inr ⟨i,hi,hb⟩))) d1 d2 d3
theorem TO.low {w:World} {N:Nv} {t:Tn} {A:Nat → Prop} (h:TO w N t A):∀ b,A b → b < w.heap.size:=by
 induction h with
 | mk ok hRk rr sr hkk d1 d2 d3 ih =>
  rintro b (h | h | ⟨i,hi,h⟩)
  ·exact (rr.lt b h).2
  ·exact (sr.lt b h).2
  ·exact ih i hi b h
theorem row_nine {w:World} {base n:Nat} {a:Option Addr} {l c:Nat} {MS:List Nv} (h:w.ownsRow base 25 9 (.slice a l c) n (MS.flatMap Nv.cs)) (hn:n = MS.length) (hp:0 < n):∃ b,a = some ⟨b,0,none⟩ ∧ (Value.slice a l c).ownBlock = some b ∧ ∀ i (hi:i < MS.length),N9 w b 0 i MS[i]:=by
 rcases h.2 with ⟨e,h0⟩ | ⟨b,cap,cur,e,_⟩
 ·omega
 ·rw [e] at h
  simp only [Value.slice.injEq] at e
  refine ⟨b,e.1,by rw [e.1];rfl,fun i hi => ?_⟩
  have c:∀ k,k < 9 → w.cell? ⟨b,0 + i * 9 + k,none⟩ = (Nv.cs MS[i])[k]?:=fun k hk => by
   rw [Nat.zero_add,h.cellAt (i * 9 + k) (by omega),flat9 MS i k hi hk]
  exact ⟨c 0 (by omega),c 1 (by omega),c 2 (by omega),c 3 (by omega),c 4 (by omega),c 5 (by omega),c 6 (by omega),c 7 (by omega),c 8 (by omega)⟩
theorem TO.tp {w:World} {N:Nv} {t:Tn} {A:Nat → Prop} (h:TO w N t A):TP w A N t:=by
 induction h with
 | @mk N R ts ND AS ok hRk rr sr hkk d1 d2 d3 ih =>
  refine .mk (ND:=ND) ok (row_len rr) (fun hn => ?_) hRk (row_len sr) (fun hp => ?_) (fun i hi => (ih i hi).kept (fun _ _ => rfl) fun b hb => .inr (.inr ⟨i,hi,hb⟩))
  ·rcases rr.2 with ⟨e,h0⟩ | ⟨b,cap,cur,e,_⟩
   ·exact absurd (List.length_eq_zero_iff.1 h0) hn
   ·have hrow:=rr
    rw [e] at hrow
    have e':=e
    simp only [Value.slice.injEq] at e
    refine ⟨b,0,e.1,.inl (by show (Value.slice N.r1 N.r2 N.r3).ownBlock = some b;rw [e'];rfl),fun i hi => ?_⟩
    have:=O2_at R i hi
    rw [Nat.zero_add,hrow.cellAt (i * 2) (by omega),hrow.cellAt (i * 2 + 1) (by omega)]
    exact this
  ·obtain ⟨b,e1,e2,h9⟩:=row_nine sr (by simp) hp
   refine ⟨b,0,e1,.inr (.inl e2),fun i hi => ?_⟩
   have:=h9 i (by simpa using hi)
   simpa using this
end Go.Proofs.YtacaanhnlfpbhaaGreat
