/- HELPERS: texts of ours put together. -/
import Derived.Test.YtjdbnoccdefnaaaGreatK12
import Derived.Test.YtjdbnoccdefnaaaGreatK06
import Derived.Test.YtjdbnoccdefnaaaGreatK05
import Derived.Deep.Cut
import Derived.Deep.MidRow
import Derived.Deep.OwnRows
import Derived.Laws.Rows
import Derived.WalkLawsBesides
import Derived.Maps.AppendAt
import Derived.Deep.RegionLaw
import Derived.Laws.CopyOwn
import Derived.Lib.LazyBuf
namespace Go.Proofs.YtjdbnoccdefnaaaGreat
open Go.RowKit
set_option linter.unusedVariables false
set_option linter.unusedSimpArgs false
theorem run_append_moveN {P:Program} (w:World) (base:Nat) (t ty e:TypeId) (i:TypeInfo) (z:Value) (size bytes:Nat) (ht:P.underlying t = some (.slice e)) (hi:P.info? e = some i) (hz:i.zero = some z)
    (hsize:i.size = size) (hby:i.bytes = bytes) (hzs:z.cells.size = size) (hpos:0 < size)
    (v:Value) (n:Nat) (xs:List Value) (hown:w.ownsRow base e size v n xs)
    (a:Addr) (m c:Nat) (news:List Value) (hl:news.length = m * size) (hm:0 < m) (hnews:∀ j u,news[j]? = some u → w.cell? (a.add j) = some u) (h1:∀ u ∈ news,u.oneCell' = true)
    (h63:n + m ≤ maxLen) (hbytes:(n + m) * bytes ≤ 140737488355328) (hbase:base ≤ w.heap.size) :
    ∃ v' w',(Builtin.append_ #[t,t] ty #[v,.slice (some a) m c]).run P w = .ok v' w' ∧ w'.ownsRow base e size v' (n + m) (xs ++ news) ∧ Moved w w' v v':=by
  obtain ⟨v',w',hrun,h2,h3,h4,h5⟩:=run_append_own_at (P:=P) w base t ty e i z size bytes ht hi hz hsize hby hzs hpos v n xs hown a m c news hl hnews h1 h63 hbytes hbase
  refine ⟨v',w',hrun,h2,?_⟩
  rcases hown.2 with ⟨rfl,rfl⟩ | ⟨g,cap,cur,rfl,hbg,hg,hnc,hcm,hcs,htake⟩
  · rcases h5 with h5 | h5
    · exact .inl ⟨h5,h3⟩
    · exact .inr ⟨h5,h3⟩
  · by_cases hroom:n + m ≤ cap
    · have hr:=run_append_room (P:=P) w t ty e i ht hi g n cap cur hg a m c news (by rw [hsize];omega) hnews h1 hroom (by rw [hsize,hcs,hl,← Nat.add_mul];exact Nat.mul_le_mul_right _ hroom)
      have he:=hrun.symm.trans hr
      injection he with e1 e2
      left
      exact ⟨by rw [e1];rfl,h3⟩
    · have holds:∀ j u,xs[j]? = some u → w.cell? ((⟨g,0,none⟩:Addr).add j) = some u:=hown.cells (g:=g) rfl
      have hr:=run_append_grow (P:=P) w t ty e i z ht hi hz ⟨g,0,none⟩ n cap xs (by rw [hsize];exact hown.1) holds a m c news (by rw [hsize];omega) hnews (by omega) (by unfold maxLen at h63;omega) (growslice_fits (by omega) (by rw [hby];exact hbytes))
      have he:=hrun.symm.trans hr
      injection he with e1 e2
      right
      refine ⟨by rw [e1];rfl,?_⟩
      rw [e2]
      exact ⟨rfl,rfl,rfl,by simp,fun k hk _ => heap_alloc_old w.drew _ hk⟩
theorem wpList_append_moveN {P:Program} {w:World} {ops:Array Oper} {rest:List Oper} {o:Oper} {a:Act} {Q:Exit → Act → World → Prop} (hgd:o.guard = none) (s x:Operand) (t:TypeId)
    (ho:o.op = .call { callee:=.builtin .append,args:=#[s,x],argTypes:=#[t,t] })
    (base:Nat) (e:TypeId) (i:TypeInfo) (z:Value) (size bytes:Nat) (ht:P.underlying t = some (.slice e)) (hi:P.info? e = some i) (hz:i.zero = some z)
    (hsize:i.size = size) (hby:i.bytes = bytes) (hzs:z.cells.size = size) (hpos:0 < size)
    (v:Value) (n:Nat) (xs:List Value) (hs:a.eval s = v) (hown:w.ownsRow base e size v n xs)
    (ad:Addr) (m c:Nat) (news:List Value) (hx:a.eval x = .slice (some ad) m c) (hl:news.length = m * size) (hm:0 < m) (hnews:∀ j u,news[j]? = some u → w.cell? (ad.add j) = some u) (h1:∀ u ∈ news,u.oneCell' = true)
    (h63:n + m ≤ maxLen) (hbytes:(n + m) * bytes ≤ 140737488355328) (hbase:base ≤ w.heap.size)
    (h:∀ v' w',Hid (w'.ownsRow base e size v' (n + m) (xs ++ news)) → Hid (Moved w w' v v') → wpList P ops Q rest (a.put o.dst v') w'):wpList P ops Q (o :: rest) a w:=by
  refine wpList_plain hgd fun K hK => ?_
  obtain ⟨v',w',hr,h2,h3⟩:=run_append_moveN (P:=P) w base t o.type e i z size bytes ht hi hz hsize hby hzs hpos v n xs hown ad m c news hl hm hnews h1 h63 hbytes hbase
  unfold Oper.wp execOp
  simp only [ho,resolve,invoke,builtin,Sem.run_bind,Sem.run_pure,Result.andThen_ok,List.map_toArray,List.map_cons,List.map_nil,hs,hx,hr]
  exact hK _ _ (h v' w' h2 h3)
theorem run_append_nil0 {P:Program} (t ty e:TypeId) (i:TypeInfo) (ht:P.underlying t = some (.slice e)) (hi:P.info? e = some i) (ad:Option Addr) (c:Nat) (w:World) :
    (Builtin.append_ #[t,t] ty #[.slice none 0 0,.slice ad 0 c]).run P w = .ok (.slice none 0 0) w:=by
  cases ad with
  | none => simp [Builtin.append_,run_underlying ht,sizeOf,typeInfo,hi,Builtin.lenOf,Builtin.firstCells]
  | some a => simp [Builtin.append_,run_underlying ht,sizeOf,typeInfo,hi,Builtin.lenOf,Builtin.firstCells,loadCells,loadCellsFrom]
theorem wpList_append_nil {P:Program} {w:World} {ops:Array Oper} {rest:List Oper} {o:Oper} {a:Act} {Q:Exit → Act → World → Prop} (hgd:o.guard = none) (s x:Operand) (t:TypeId)
    (ho:o.op = .call { callee:=.builtin .append,args:=#[s,x],argTypes:=#[t,t] })
    (e:TypeId) (i:TypeInfo) (z:Value) (size bytes:Nat) (ht:P.underlying t = some (.slice e)) (hi:P.info? e = some i) (hz:i.zero = some z)
    (hsize:i.size = size) (hby:i.bytes = bytes) (hzs:z.cells.size = size) (hpos:0 < size) (hs:a.eval s = .slice none 0 0)
    (ad:Option Addr) (m c:Nat) (news:List Value) (hx:a.eval x = .slice ad m c) (hl:news.length = m * size) (hnews:0 < m → ∃ b f,ad = some ⟨b,f,none⟩ ∧ ∀ j u,news[j]? = some u → w.cell? ⟨b,f + j,none⟩ = some u) (h1:∀ u ∈ news,u.oneCell' = true)
    (h63:m ≤ maxLen) (hbytes:m * bytes ≤ 140737488355328)
    (h:∀ v' w',Hid (w'.ownsRow w.heap.size e size v' m news) → Hid (Below w.heap.size w w') → Hid (∀ b,v'.ownBlock = some b → b < w'.heap.size) → wpList P ops Q rest (a.put o.dst v') w'):wpList P ops Q (o :: rest) a w:=by
  refine wpList_plain hgd fun K hK => ?_
  rcases Nat.eq_zero_or_pos m with h0 | h0
  · subst h0
    have hn:news = []:=List.length_eq_zero_iff.1 (by omega)
    subst hn
    have hr:=run_append_nil0 (P:=P) t o.type e i ht hi ad c w
    unfold Oper.wp execOp
    simp only [ho,resolve,invoke,builtin,Sem.run_bind,Sem.run_pure,Result.andThen_ok,List.map_toArray,List.map_cons,List.map_nil,hs,hx,hr]
    exact hK _ _ (h _ _ (World.ownsRow_nil _ _ _ _) (Below.refl _ _) (fun b hb => by cases hb))
  · obtain ⟨b,f,rfl,hc⟩:=hnews h0
    obtain ⟨v',w',hr,h2,h3⟩:=run_append_moveN (P:=P) w w.heap.size t o.type e i z size bytes ht hi hz hsize hby hzs hpos (.slice none 0 0) 0 [] (World.ownsRow_nil _ _ _ _) ⟨b,f,none⟩ m c news hl h0 (fun j u hj => by rw [Addr.add_mid];exact hc j u hj) h1 (by omega) (by rw [Nat.zero_add];exact hbytes) (Nat.le_refl _)
    unfold Oper.wp execOp
    simp only [ho,resolve,invoke,builtin,Sem.run_bind,Sem.run_pure,Result.andThen_ok,List.map_toArray,List.map_cons,List.map_nil,hs,hx,hr]
    have hb:Below w.heap.size w w':=by
      rcases h3 with ⟨_,h⟩ | ⟨_,h⟩ <;> exact ⟨h.os,h.tape,h.output,h.size,fun k hk => h.block k hk (by simp [Value.ownBlock])⟩
    have h2':w'.ownsRow w.heap.size e size v' m news:=by simpa using h2
    exact hK _ _ (h v' w' h2' hb (fun b hb => (h2.lt b hb).2))
theorem setCells_old (b:Nat):∀ (vs:List Value) (o:Nat) (w:World) (k:Nat),k ≠ b → (w.setCells b o vs).heap[k]? = w.heap[k]?
  | [],_,_,_,_ => rfl
  | v :: vs,o,w,k,h => (setCells_old b vs (o + 1) _ k h).trans (Below.heap_setCell _ _ _ _ h)
theorem setCells_size (b:Nat):∀ (vs:List Value) (o:Nat) (w:World),(w.setCells b o vs).heap.size = w.heap.size
  | [],_,_ => rfl
  | v :: vs,o,w => (setCells_size b vs (o + 1) _).trans (by simp [World.setCell])
theorem Below.setCells {B b:Nat} (hb:B ≤ b):∀ (vs:List Value) (o:Nat) (a w:World),Below B a w → Below B a (w.setCells b o vs)
  | [],_,_,_,h => h
  | v :: vs,o,a,w,h => Below.setCells hb vs (o + 1) a _ (h.setCell (by exact hb) v)
abbrev O2 (R:List (Int × Int)):List Value:=R.flatMap fun x => [.int .i64 x.1,.int .i64 x.2]
theorem O2_len (R:List (Int × Int)):(O2 R).length = R.length * 2:=by
  induction R with
  | nil => rfl
  | cons x R ih => simp only [O2,List.flatMap_cons,List.length_append,List.length_cons,List.length_nil] at ih ⊢;omega
theorem O2_at:∀ (R:List (Int × Int)) (i:Nat) (hi:i < R.length),(O2 R)[i * 2]? = some (.int .i64 R[i].1) ∧ (O2 R)[i * 2 + 1]? = some (.int .i64 R[i].2):=by
  intro R
  induction R with
  | nil => intro i hi;simp at hi
  | cons x R ih =>
    intro i hi
    cases i with
    | zero => simp [O2]
    | succ i =>
      have:=ih i (by simpa using hi)
      have hf:O2 (x :: R) = [.int .i64 x.1,.int .i64 x.2] ++ O2 R:=by simp [O2]
      rw [hf,show (i + 1) * 2 = i * 2 + 2 by omega,List.getElem?_append_right (by simp),show i * 2 + 2 + 1 = i * 2 + 1 + 2 by omega,List.getElem?_append_right (by simp)]
      simpa using this
theorem O2_one (R:List (Int × Int)):∀ u ∈ O2 R,u.oneCell' = true:=by
  intro u hu
  simp only [O2,List.mem_flatMap] at hu
  obtain ⟨x,_,hx⟩:=hu
  simp at hx
  rcases hx with rfl | rfl <;> rfl
structure Frm (w w':World) (v v':Value):Prop where
  os:w'.os = w.os
  tape:w'.tape = w.tape
  output:w'.output = w.output
  size:w.heap.size ≤ w'.heap.size
  block:∀ k,k < w.heap.size → v.ownBlock ≠ some k → w'.heap[k]? = w.heap[k]?
  own:∀ k,v'.ownBlock = some k → v.ownBlock = some k ∨ k = w.heap.size
theorem Moved.frm {w w':World} {v v':Value} (h:Moved w w' v v'):Frm w w' v v':=by
  rcases h with ⟨e,h⟩ | ⟨e,h⟩
  · exact ⟨h.os,h.tape,h.output,h.size,fun k hk hn => h.block k hk (fun e => hn e.symm),fun k hk => .inl (by rw [← e];exact hk)⟩
  · exact ⟨h.os,h.tape,h.output,h.size,fun k hk hn => h.block k hk (by simp),fun k hk => .inr (by rw [e] at hk;simp at hk;exact hk.symm)⟩
theorem Frm.refl (w:World) (v:Value):Frm w w v v:=⟨rfl,rfl,rfl,Nat.le_refl _,fun _ _ _ => rfl,fun k hk => .inl hk⟩
theorem wpList_append_row {P:Program} {w:World} {ops:Array Oper} {rest:List Oper} {o:Oper} {a:Act} {Q:Exit → Act → World → Prop} (hgd:o.guard = none) (s x:Operand) (t:TypeId)
    (ho:o.op = .call { callee:=.builtin .append,args:=#[s,x],argTypes:=#[t,t] })
    (base:Nat) (e:TypeId) (i:TypeInfo) (z:Value) (size bytes:Nat) (ht:P.underlying t = some (.slice e)) (hi:P.info? e = some i) (hz:i.zero = some z)
    (hsize:i.size = size) (hby:i.bytes = bytes) (hzs:z.cells.size = size) (hpos:0 < size)
    (v:Value) (n:Nat) (xs:List Value) (hs:a.eval s = v) (hown:w.ownsRow base e size v n xs)
    (sv:Value) (m sb:Nat) (ys:List Value) (hx:a.eval x = sv) (hsrc:w.ownsRow sb e size sv m ys) (h0:m = 0 → sv = .slice none 0 0) (h1:∀ u ∈ ys,u.oneCell' = true)
    (h63:n + m ≤ maxLen) (hbytes:(n + m) * bytes ≤ 140737488355328) (hbase:base ≤ w.heap.size)
    (h:∀ v' w',Hid (w'.ownsRow base e size v' (n + m) (xs ++ ys)) → Hid (Frm w w' v v') → Hid (n + m = 0 → v' = v) → wpList P ops Q rest (a.put o.dst v') w'):wpList P ops Q (o :: rest) a w:=by
  rcases Nat.eq_zero_or_pos m with hm | hm
  · have:=h0 hm
    subst this hm
    have hy:ys = []:=List.length_eq_zero_iff.1 (by have:=hsrc.1;omega)
    subst hy
    refine wpList_append_own_none hgd s x t ho base e i size ht hi v n xs hs hown hx (h v w ?_ (Frm.refl _ _) (fun _ => rfl))
    have:w.ownsRow base e size v (n + 0) (xs ++ []):=by simpa using hown
    exact this
  · rcases hsrc.2 with ⟨_,e0⟩ | ⟨g,cap,cur,rfl,_⟩
    · omega
    · refine wpList_append_moveN hgd s x t ho base e i z size bytes ht hi hz hsize hby hzs hpos v n xs hs hown ⟨g,0,none⟩ m cap ys hx hsrc.1 hm (fun j u hj => hsrc.cells (g:=g) rfl j u hj) h1 h63 hbytes hbase ?_
      intro v' w' ho' hm'
      exact h v' w' ho' hm'.out.frm (fun h => by omega)
theorem step_append_moveN {P:Program} {ops:Array Oper} {o:Oper} {a:Act} {w:World} {K:Act → World → Prop} {Q:Exit → Act → World → Prop} {E:Prop}
    (hg:o.guard = none) (s x:Operand) (t:TypeId) (hop:o.op = Op.call { callee:=Callee.builtin Builtin.append,args:=#[s,x],argTypes:=#[t,t] })
    (base:Nat) (e:TypeId) (i:TypeInfo) (z:Value) (size bytes:Nat) (h1:P.underlying t = some (.slice e)) (h2:P.info? e = some i) (h3:i.zero = some z) (h4:i.size = size) (h5:i.bytes = bytes) (h6:z.cells.size = size) (h7:0 < size)
    (v:Value) (n:Nat) (xs:List Value) (hs:a.eval s = v) (hown:w.ownsRow base e size v n xs)
    (ad:Addr) (m c:Nat) (news:List Value) (hx:a.eval x = .slice (some ad) m c) (hn:news.length = m * size) (hm:0 < m) (hc:∀ j u,news[j]? = some u → w.cell? (ad.add j) = some u) (h1c:∀ u ∈ news,u.oneCell' = true)
    (b1:n + m ≤ maxLen) (b2:(n + m) * bytes ≤ 140737488355328) (hb:base ≤ w.heap.size)
    (hK:∀ v' w',w'.ownsRow base e size v' (n + m) (xs ++ news) → Moved w w' v v' → K (a.put o.dst v') w') :
    if Region.wanted o (yielded ops a.tmps) = true then Oper.wp P o a w K Q else E:=by
  have hw:Region.wanted o (yielded ops a.tmps) = true:=by simp [Region.wanted,hg]
  rw [if_pos hw]
  obtain ⟨v',w',hrun,r1,r2⟩:=run_append_moveN (P:=P) w base t o.type e i z size bytes h1 h2 h3 h4 h5 h6 h7 v n xs hown ad m c news hn hm hc h1c b1 b2 hb
  unfold Oper.wp
  simp [execOp,hop,resolve,invoke,builtin,hs,hx,hrun,Result.andThen]
  exact hK v' w' r1 r2
theorem run_append_zero {P:Program} (t ty e:TypeId) (i:TypeInfo) (ht:P.underlying t = some (.slice e)) (hi:P.info? e = some i) (a0:Addr) (l c0:Nat) (h:l ≤ c0) (ad:Option Addr) (c:Nat) (w:World) :
    (Builtin.append_ #[t,t] ty #[.slice (some a0) l c0,.slice ad 0 c]).run P w = .ok (.slice (some a0) l c0) w:=by
  cases ad with
  | none => simp [Builtin.append_,run_underlying ht,sizeOf,typeInfo,hi,Builtin.lenOf,Builtin.firstCells,h,storeCells]
  | some a => simp [Builtin.append_,run_underlying ht,sizeOf,typeInfo,hi,Builtin.lenOf,Builtin.firstCells,loadCells,loadCellsFrom,h,storeCells]
theorem step_append_any {P:Program} {ops:Array Oper} {o:Oper} {a:Act} {w:World} {K:Act → World → Prop} {Q:Exit → Act → World → Prop} {E:Prop}
    (hg:o.guard = none) (s x:Operand) (t:TypeId) (hop:o.op = Op.call { callee:=Callee.builtin Builtin.append,args:=#[s,x],argTypes:=#[t,t] })
    (base:Nat) (e:TypeId) (i:TypeInfo) (z:Value) (size bytes:Nat) (h1:P.underlying t = some (.slice e)) (h2:P.info? e = some i) (h3:i.zero = some z) (h4:i.size = size) (h5:i.bytes = bytes) (h6:z.cells.size = size) (h7:0 < size)
    (a0:Addr) (n c0:Nat) (xs:List Value) (hs:a.eval s = .slice (some a0) n c0) (hown:w.ownsRow base e size (.slice (some a0) n c0) n xs)
    (ad:Option Addr) (m c:Nat) (news:List Value) (hx:a.eval x = .slice ad m c) (hn:news.length = m * size) (hc:0 < m → ∃ b f,ad = some ⟨b,f,none⟩ ∧ ∀ j u,news[j]? = some u → w.cell? ⟨b,f + j,none⟩ = some u) (h1c:∀ u ∈ news,u.oneCell' = true)
    (b1:n + m ≤ maxLen) (b2:(n + m) * bytes ≤ 140737488355328) (hb:base ≤ w.heap.size)
    (hK:∀ v' w',w'.ownsRow base e size v' (n + m) (xs ++ news) → Frm w w' (.slice (some a0) n c0) v' → K (a.put o.dst v') w') :
    if Region.wanted o (yielded ops a.tmps) = true then Oper.wp P o a w K Q else E:=by
  rcases Nat.eq_zero_or_pos m with h0 | h0
  · have hw:Region.wanted o (yielded ops a.tmps) = true:=by simp [Region.wanted,hg]
    rw [if_pos hw]
    subst h0
    obtain rfl:news = []:=List.length_eq_zero_iff.1 (by omega)
    have hcap:n ≤ c0:=by
      rcases hown.2 with ⟨e,_⟩ | ⟨g,cap,cur,e,_,_,h,_⟩
      · cases e
      · simp only [Value.slice.injEq] at e;omega
    have hrun:=run_append_zero (P:=P) t o.type e i h1 h2 a0 n c0 hcap ad c w
    unfold Oper.wp
    simp [execOp,hop,resolve,invoke,builtin,hs,hx,hrun,Result.andThen]
    exact hK _ w (by simpa using hown) (Frm.refl _ _)
  · obtain ⟨b,f,rfl,hc'⟩:=hc h0
    exact step_append_moveN hg s x t hop base e i z size bytes h1 h2 h3 h4 h5 h6 h7 _ n xs hs hown ⟨b,f,none⟩ m c news hx hn h0 (fun j u hj => by rw [Addr.add_mid];exact hc' j u hj) h1c b1 b2 hb (fun v' w' r1 r2 => hK v' w' r1 r2.frm)
abbrev M2:List (Int × Int):=[(-77,0),(-78,0)]
theorem lit_cells {w:World} {b:Nat} {c0 c1 c2 c3:Value} {t:TypeId} (h:w.heap[b]? = some (.cells #[c0,c1,c2,c3] t (0,0))):∀ j u,([c0,c1,c2,c3]:List Value)[j]? = some u → w.cell? ((⟨b,0,none⟩:Addr).add j) = some u:=by
  intro j u hj
  rw [Addr.add_mid,Nat.zero_add,Joins.cell_of_block h]
  simpa using hj
theorem ob_len (a:Option Addr) (l c l' c':Nat):(Value.slice a l c).ownBlock = (Value.slice a l' c').ownBlock:=by cases a <;> rfl
structure Chs (A:Nat → Prop) (w w':World):Prop where
  os:w'.os = w.os
  tape:w'.tape = w.tape
  output:w'.output = w.output
  size:w.heap.size ≤ w'.heap.size
  block:∀ b,b < w.heap.size → ¬ A b → w'.heap[b]? = w.heap[b]?
theorem Chs.refl (A:Nat → Prop) (w:World):Chs A w w:=⟨rfl,rfl,rfl,Nat.le_refl _,fun _ _ _ => rfl⟩
theorem Chs.trans {A A' A2:Nat → Prop} {w w' w2:World} (h:Chs A w w') (h':Chs A' w' w2) (h1:∀ b,A b → A2 b) (h2:∀ b,A' b → A2 b):Chs A2 w w2:=
  ⟨h'.os.trans h.os,h'.tape.trans h.tape,h'.output.trans h.output,Nat.le_trans h.size h'.size,fun b hb hn => (h'.block b (by have:=h.size;omega) (fun h => hn (h2 b h))).trans (h.block b hb (fun h => hn (h1 b h)))⟩
theorem Chs.set {A:Nat → Prop} {w w':World} (h:Chs A w w') {a:Addr} (ha:A a.block) (v:Value):Chs A w (w'.setCell a v):=
  ⟨h.os,h.tape,h.output,by have:=h.size;simpa [World.setCell] using this,fun b hb hn => (Below.heap_setCell _ _ _ _ (by intro e;apply hn;rw [e];exact ha)).trans (h.block b hb hn)⟩
theorem row_shape {w:World} {base e size n:Nat} {v:Value} {xs:List Value} (h:w.ownsRow base e size v n xs):∃ a c,v = .slice a n c ∧ n ≤ c ∧ c ≤ maxLen:=by
  rcases h.2 with ⟨rfl,rfl⟩ | ⟨g,cap,cur,h1,h2,h3,h4,h5,_⟩
  · exact ⟨none,0,rfl,Nat.le_refl _,by simp [maxLen]⟩
  · exact ⟨_,cap,h1,h4,h5⟩
theorem row_setC {w:World} {base e size n b c:Nat} {xs:List Value} (h:w.ownsRow base e size (.slice (some ⟨b,0,none⟩) n c) n xs) (j:Nat) (v:Value):(w.setCell ⟨b,j,none⟩ v).ownsRow base e size (.slice (some ⟨b,0,none⟩) n c) n (xs.set j v):=by
  obtain ⟨hl,hr⟩:=h
  rcases hr with ⟨he,_⟩ | ⟨g,cap,cur,he,hb,hgg,h1,h2,h3,h4⟩
  · cases he
  · simp only [Value.slice.injEq,Option.some.injEq,Addr.mk.injEq] at he
    obtain ⟨⟨rfl,_⟩,_,rfl⟩:=he
    refine ⟨by simp [hl],.inr ⟨b,c,cur.setIfInBounds j v,rfl,hb,Joins.block_setCell hgg _,h1,h2,by simpa using h3,?_⟩⟩
    simp only [Array.toList_setIfInBounds]
    rw [List.take_set,h4]
theorem row_there {w:World} {base e size n b c:Nat} {xs:List Value} (h:w.ownsRow base e size (.slice (some ⟨b,0,none⟩) n c) n xs) {j m:Nat} (hj:j + m ≤ n * size):w.there b j m:=fun k hk => by
  rcases h.2 with ⟨he,_⟩ | ⟨g,cap,cur,he,hb,hgg,h1,h2,h3,h4⟩
  · cases he
  · simp only [Value.slice.injEq,Option.some.injEq,Addr.mk.injEq] at he
    obtain ⟨⟨rfl,_⟩,_,rfl⟩:=he
    refine ⟨?_,Joins.unfrozen_of_block hgg _⟩
    rw [Joins.cell_of_block hgg,Array.getElem?_eq_getElem (by have:=Nat.mul_le_mul_right size h1;omega)]
    rfl
theorem row_setCells {base e size n b c:Nat}:∀ (vs:List Value) (o:Nat) (w:World) (xs:List Value),w.ownsRow base e size (.slice (some ⟨b,0,none⟩) n c) n xs → o + vs.length ≤ xs.length → (w.setCells b o vs).ownsRow base e size (.slice (some ⟨b,0,none⟩) n c) n (xs.take o ++ vs ++ xs.drop (o + vs.length))
  | [],o,w,xs,h,_ => by simpa [World.setCells] using h
  | v :: vs,o,w,xs,h,hl => by
    have h1:=row_setC h o v
    have h2:=row_setCells vs (o + 1) (w.setCell ⟨b,o,none⟩ v) (xs.set o v) h1 (by simp at hl ⊢;omega)
    have e1:(xs.set o v).take (o + 1) = xs.take o ++ [v]:=by
      rw [List.take_succ_eq_append_getElem (by simp at hl ⊢;omega),List.take_set_of_le (Nat.le_refl _)]
      simp
    have e2:(xs.set o v).drop (o + 1 + vs.length) = xs.drop (o + (v :: vs).length):=by
      rw [List.drop_set_of_lt (by omega)]
      simp only [List.length_cons]
      congr 1
      omega
    rw [e1,e2] at h2
    simpa [World.setCells] using h2
theorem info51:(Tryz.prog.info? 43).map (fun i => (i.zero,i.size,i.bytes)) = some (some (.agg #[.int .i64 0,.int .i64 0,.int .i64 0,.int .i64 0,.slice none 0 0]),5,56):=by kernel_rfl
theorem info49:(Tryz.prog.info? 50).map (fun i => (i.zero,i.size,i.bytes)) = some (some (.agg #[.int .i64 0,.int .i64 0]),2,16):=by kernel_rfl
theorem one5 (M:Iv):∀ u ∈ Iv.cs M,u.oneCell' = true:=by
  intro u hu
  simp [Iv.cs] at hu
  rcases hu with rfl | rfl | rfl | rfl | rfl <;> rfl
theorem flat5 (MS:List Iv):∀ (j k:Nat) (hj:j < MS.length),k < 5 → (MS.flatMap Iv.cs)[j * 5 + k]? = (Iv.cs MS[j])[k]?:=by
  induction MS with
  | nil => intro j k hj;simp at hj
  | cons M MS ih =>
    intro j k hj hk
    rw [List.flatMap_cons]
    cases j with
    | zero => rw [List.getElem?_append_left (by simp;omega)];simp
    | succ j =>
      rw [List.getElem?_append_right (by simp;omega)]
      have:=ih j k (by simpa using hj) hk
      simp only [List.length_cons,List.length_nil,List.getElem_cons_succ]
      rw [← this]
      congr 1
      omega
theorem flat5_len (MS:List Iv):(MS.flatMap Iv.cs).length = MS.length * 5:=by
  induction MS with
  | nil => rfl
  | cons M MS ih => rw [List.flatMap_cons,List.length_append,ih];simp;omega
end Go.Proofs.YtjdbnoccdefnaaaGreat
