/- HELPERS: texts of ours put together. -/
import Derived.Test.YtacaanhnlfpbhaaGreatK09
namespace Go.Proofs.YtacaanhnlfpbhaaGreat
open Go.RowKit
set_option linter.unusedVariables false
set_option linter.unusedSimpArgs false
theorem step_call1 {P:Program} {ops:Array Oper} {o:Oper} {a:Act} {w:World} {K:Act → World → Prop} {Q:Exit → Act → World → Prop} {E:Prop} (hg:o.guard = none) (f:FuncId) (x:Operand) (t:TypeId)
  (hop:o.op = Op.call { callee:=Callee.value (.func f),args:=#[x],argTypes:=#[t] }) (hen:∀ args w,(callFunc f args).run P w = .ok (.enter f args) w)
  (hc:Calls P f #[a.eval x] w fun e w' => ∃ v,e = .returned v ∧ K (a.put o.dst v) w') :
  if Region.wanted o (yielded ops a.tmps) = true then Oper.wp P o a w K Q else E:=by
 have hw:Region.wanted o (yielded ops a.tmps) = true:=by simp [Region.wanted,hg]
 rw [if_pos hw]
 have h2:=hen #[a.eval x] w
 unfold Oper.wp
 have ev:a.eval (.func f) = .func (.func f) #[] #[]:=rfl
 simp [execOp,hop,resolve,invoke,ev,Deferred.ofValue,h2,Result.andThen]
 show Calls P f #[a.eval x] w _
 refine hc.mono fun e w' h => ?_
 obtain ⟨v,rfl,hk⟩:=h
 exact hk
theorem enter_of {P : Program} {f : FuncId} {fn : Func} {c : Code} (hf : P.funcs[f]? = some fn) (hname : (fn.name == "runtime.NumGoroutine") = false) (hb : fn.body = some c) : ∀ (args : Array Value) (w : World), (callFunc f args).run P w = .ok (.enter f args) w := by
 intro args w
 have h1 : fn.name ≠ "runtime.NumGoroutine" := by simpa using hname
 simp [callFunc,hf,h1,hb]
theorem en32:∀ (args:Array Value) (w:World),(callFunc 92 args).run Tryz.prog w = .ok (.enter 92 args) w:=enter_of Tryz.func92 (by kernel_rfl) rfl
theorem en63:∀ (args:Array Value) (w:World),(callFunc 198 args).run Tryz.prog w = .ok (.enter 198 args) w:=enter_of Tryz.func198 (by kernel_rfl) rfl
theorem en67:∀ (args:Array Value) (w:World),(callFunc 202 args).run Tryz.prog w = .ok (.enter 202 args) w:=enter_of Tryz.func202 (by kernel_rfl) rfl
theorem en68:∀ (args:Array Value) (w:World),(callFunc 203 args).run Tryz.prog w = .ok (.enter 203 args) w:=enter_of Tryz.func203 (by kernel_rfl) rfl
theorem en95:∀ (args:Array Value) (w:World),(callFunc 232 args).run Tryz.prog w = .ok (.enter 232 args) w:=enter_of Tryz.func232 (by kernel_rfl) rfl
theorem row_last {w:World} {base e s g n cap:Nat} {xs ys zs:List Value} (h:w.ownsRow base e s (.slice (some ⟨g,0,none⟩) n cap) n (xs ++ ys)) (hl:zs.length = ys.length):(w.setCells g xs.length zs).ownsRow base e s (.slice (some ⟨g,0,none⟩) n cap) n (xs ++ zs):=by
 have hlen:=h.1
 have hrow:=h
 rcases h.2 with ⟨h,_⟩ | ⟨g',cap',cur,he,hb,hgg,h1,h2,h3,h4⟩
 ·cases h
 ·simp only [Value.slice.injEq,Option.some.injEq,Addr.mk.injEq] at he
  obtain ⟨⟨rfl,_⟩,_,rfl⟩:=he
  have hsz:n * s ≤ cur.size:=by rw [h3];exact Nat.mul_le_mul_right _ h1
  simp only [List.length_append] at hlen
  obtain ⟨cur',g1,g2⟩:=block_setCells zs xs.length w cur hgg
  have hex:∀ i,i < zs.length → (w.cell? ⟨g,xs.length + i,none⟩).isSome = true:=fun i hi => by
   rw [Joins.cell_of_block hgg,Array.getElem?_eq_getElem (by omega)];rfl
  refine ⟨by simp only [List.length_append];omega,.inr ⟨g,cap,cur',rfl,hb,g1,h1,h2,by omega,?_⟩⟩
  apply List.ext_getElem?
  intro j
  by_cases hj:j < n * s
  ·rw [List.getElem?_take_of_lt hj,Array.getElem?_toList,← Joins.cell_of_block g1 j]
   by_cases hjx:j < xs.length
   ·rw [World.cell?_setCells_out g zs xs.length w ⟨g,j,none⟩ (fun _ _ => by simp only;omega),List.getElem?_append_left hjx,hrow.cellAt j (by omega),List.getElem?_append_left hjx]
   ·obtain ⟨i,rfl⟩:∃ i,j = xs.length + i:=⟨j - xs.length,by omega⟩
    rw [World.cell?_setCells_in g zs xs.length w hex i (by omega),List.getElem?_append_right (by omega),show xs.length + i - xs.length = i by omega,List.getElem?_eq_getElem (by omega)]
  ·rw [List.getElem?_eq_none (by simp;omega),List.getElem?_eq_none (by simp;omega)]
structure RO (x:Nat) (w:World) (b:Nat) (uv:Value) (MS:List Nv) (us:List Tn) (AS:Nat → Nat → Prop):Prop where
 box:Bx w b 23 uv
 xb:x ≤ b
 row:w.ownsRow x 25 9 uv MS.length (MS.flatMap Nv.cs)
 out:uv.ownBlock ≠ some b
 len:MS.length = us.length
 tos:∀ j (h:j < us.length) (h':j < MS.length),TO w MS[j] us[j] (AS j)
 low:∀ j c,j < us.length → AS j c → x ≤ c ∧ c ≠ b ∧ uv.ownBlock ≠ some c
 apart:∀ i j c,i < us.length → j < us.length → i ≠ j → AS i c → ¬ AS j c
def ROv (x:Nat) (w:World) (b:Nat) (uv:Value) (us:List Tn):Prop:=∃ MS AS,RO x w b uv MS us AS
abbrev FB (b:Nat) (uv:Value):List Nat:=b :: uv.ownBlock.toList
abbrev EPost (x b:Nat) (W:World) (uv:Value) (us:List Tn):Ending → World → Prop:=fun e w' => e = .returned (.tuple #[]) ∧ ∃ uv',ROv x w' b uv' us ∧ Chg W w' (FB b uv) (FB b uv')
theorem ROv.below {x:Nat} {w w':World} {b:Nat} {uv uv':Value} {us:List Tn} (h:ROv x w b uv us) (hc:Chg w w' (FB b uv) (FB b uv')) (hx:x ≤ w.heap.size):Below x w w':=by
 obtain ⟨MS,AS,h⟩:=h
 refine ⟨hc.os,hc.tape,hc.output,hc.size,fun c hk => hc.block c (by omega) fun hm => ?_⟩
 simp only [FB,List.mem_cons,Option.mem_toList] at hm
 rcases hm with rfl | hm
 ·have:=h.xb;omega
 ·have:=(h.row.lt c hm).1;omega
theorem ROv.kept {x:Nat} {w w':World} {b:Nat} {uv:Value} {us:List Tn} (h:ROv x w b uv us) (hb:Below w.heap.size w w'):ROv x w' b uv us:=by
 obtain ⟨MS,AS,h⟩:=h
 have hl:=h.len
 exact ⟨MS,AS,(hb.block b (Array.getElem?_eq_some_iff.1 h.box).1).trans h.box,h.xb,row_kept h.row fun c hc => hb.block c (h.row.lt c hc).2,h.out,h.len,fun j hj hj' => (h.tos j hj hj').kept fun c hc => hb.block c ((h.tos j hj hj').low c hc),h.low,h.apart⟩
theorem RO.next {x:Nat} {w:World} {b:Nat} {uv:Value} {MS:List Nv} {us:List Tn} {AS:Nat → Nat → Prop} (h:RO x w b uv MS us AS) {W2 w5 U:World} {v5:Value} {M:Nv} {s:Tn} {AA:Nat → Prop} (hW:Below w.heap.size w W2) (hM:TO W2 M s AA) (hAA:∀ c,AA c → w.heap.size ≤ c) (hm:Moved W2 w5 uv v5)
  (u1:Bx U b 23 v5) (u2:U.ownsRow x 25 9 v5 (MS.length + 1) (MS.flatMap Nv.cs ++ Nv.cs M)) (u3:∀ c,c ≠ b → v5.ownBlock ≠ some c → U.heap[c]? = w5.heap[c]?) (hxw:x ≤ w.heap.size):RO x U b v5 (MS ++ [M]) (us ++ [s]) (fun j c => if j = us.length then AA c else AS j c):=by
 have hbl:b < w.heap.size:=(Array.getElem?_eq_some_iff.1 h.box).1
 have hl:=h.len
 have hub:∀ c,uv.ownBlock = some c → c < w.heap.size:=fun c hc => (h.row.lt c hc).2
 have hs:=hW.size
 have hlow:∀ j c,j < us.length → AS j c → c < w.heap.size:=fun j c hj hc => (h.tos j hj (by omega)).low c hc
 have hv:∀ c,c < W2.heap.size → uv.ownBlock ≠ some c → v5.ownBlock ≠ some c:=fun c hc hn e => by
  rcases hm with ⟨h0,_⟩ | ⟨h0,_⟩
  ·rw [h0] at e;exact hn e
  ·rw [h0] at e;simp at e;omega
 have hnA:∀ c,AA c → uv.ownBlock ≠ some c:=fun c hc e => by have:=hub c e;have:=hAA c hc;omega
 have hnb:∀ c,AA c → c ≠ b:=fun c hc e => by have:=hAA c hc;omega
 have keep:∀ c,c < W2.heap.size → c ≠ b → uv.ownBlock ≠ some c → U.heap[c]? = W2.heap[c]?:=fun c h1 h2 h3 => (u3 c h2 (hv c h1 h3)).trans (moved_old' hm h1 h3)
 refine ⟨u1,h.xb,?_,hv b (by omega) h.out,by simp [hl],fun j hj hj' => ?_,fun j c hj hc => ?_,fun i j c hi hj hne h1 h2 => ?_⟩
 ·rw [List.length_append,List.flatMap_append]
  simpa using u2
 ·by_cases hjl:j < us.length
  ·rw [List.getElem_append_left (by omega),List.getElem_append_left hjl]
   have hne:j ≠ us.length:=by omega
   simp only [if_neg hne]
   exact (h.tos j hjl (by omega)).kept fun c hc => (keep c (by have:=hlow j c hjl hc;omega) (h.low j c hjl hc).2.1 (h.low j c hjl hc).2.2).trans (hW.block c (hlow j c hjl hc))
  ·simp only [List.length_append,List.length_cons,List.length_nil] at hj hj'
   have e:j = us.length:=by omega
   subst e
   rw [List.getElem_append_right (by omega),List.getElem_append_right (Nat.le_refl _)]
   simp only [Nat.sub_self,hl,List.getElem_cons_zero,if_pos]
   exact hM.kept fun c hc => keep c (hM.low c hc) (hnb c hc) (hnA c hc)
 ·by_cases e:j = us.length
  ·simp only [if_pos e] at hc
   exact ⟨by have:=hAA c hc;omega,hnb c hc,hv c (hM.low c hc) (hnA c hc)⟩
  ·simp only [if_neg e] at hc
   have hjl:j < us.length:=by simp at hj;omega
   have:=h.low j c hjl hc
   exact ⟨this.1,this.2.1,hv c (by have:=hlow j c hjl hc;omega) this.2.2⟩
 ·simp only [List.length_append,List.length_cons,List.length_nil] at hi hj
  by_cases ei:i = us.length
  ·simp only [if_pos ei] at h1
   have ej:j ≠ us.length:=by omega
   simp only [if_neg ej] at h2
   have:=hAA c h1
   have:=hlow j c (by omega) h2
   omega
  ·simp only [if_neg ei] at h1
   by_cases ej:j = us.length
   ·simp only [if_pos ej] at h2
    have:=hAA c h2
    have:=hlow i c (by omega) h1
    omega
   ·simp only [if_neg ej] at h2
    exact h.apart i j c (by omega) (by omega) hne h1 h2
abbrev Zn:Nv:=⟨0,none,0,0,0,none,0,0,0,0,false,0,⟨#[]⟩⟩
abbrev litO:Obj:=.cells #[.int .i64 0,.slice none 0 0,.int .i64 0,.slice none 0 0,.int .i64 0,.int .i64 0,.bool false,.int .i64 0,.string ⟨#[]⟩] 25
theorem lit_cellsZ {W:World} {p:Nat} (h:W.heap[p]? = some litO):∀ j u,(Nv.cs Zn)[j]? = some u → W.cell? ((⟨p,0,none⟩:Addr).add j) = some u:=fun j u hj => by
 rw [Addr.add_mid,Nat.zero_add,Joins.cell_of_block h j]
 simpa using hj
def BP (s:Tn) (g:Nat) (W:World):Prop:=Calls Tryz.prog 92 #[pt g] W fun e w' => ∃ M AA,e = .returned (Nv.v M) ∧ TO w' M s AA ∧ (∀ c,AA c → W.heap.size ≤ c) ∧ Below W.heap.size W w'
theorem row_some {w:World} {base e s n:Nat} {v:Value} {xs:List Value} (h:w.ownsRow base e s v (n + 1) xs):∃ g c,v = .slice (some ⟨g,0,none⟩) (n + 1) c:=by
 rcases h.2 with ⟨_,h0⟩ | ⟨g,cap,cur,h1,_⟩
 ·omega
 ·exact ⟨g,cap,h1⟩
theorem moved_ne {w w':World} {v:Value} {g n c b:Nat} (h:Moved w w' v (.slice (some ⟨g,0,none⟩) n c)) (hb:b < w.heap.size) (hn:v.ownBlock ≠ some b):g ≠ b:=fun e => by
 subst e
 rcases h with ⟨h0,_⟩ | ⟨h0,_⟩
 ·exact hn (h0.symm.trans rfl)
 ·have:some g = some w.heap.size:=h0
  simp at this
  omega
theorem last9 {x g5 n c5:Nat} {w5:World} {xs:List Value} (ho:w5.ownsRow x 25 9 (.slice (some ⟨g5,0,none⟩) (n + 1) c5) (n + 1) (xs ++ Nv.cs Zn)) (hxs:xs.length = n * 9) :
  (w5.cell? ⟨g5,n * 9,none⟩ = some (.int .i64 0) ∧ w5.cell? ⟨g5,n * 9 + 1,none⟩ = some (.slice none 0 0) ∧ w5.cell? ⟨g5,n * 9 + 2,none⟩ = some (.int .i64 0) ∧ w5.cell? ⟨g5,n * 9 + 3,none⟩ = some (.slice none 0 0) ∧ w5.cell? ⟨g5,n * 9 + 4,none⟩ = some (.int .i64 0) ∧ w5.cell? ⟨g5,n * 9 + 5,none⟩ = some (.int .i64 0) ∧ w5.cell? ⟨g5,n * 9 + 6,none⟩ = some (.bool false) ∧ w5.cell? ⟨g5,n * 9 + 7,none⟩ = some (.int .i64 0) ∧ w5.cell? ⟨g5,n * 9 + 8,none⟩ = some (.string ⟨#[]⟩)) ∧ (w5.frozen? ⟨g5,n * 9,none⟩ = false ∧ w5.frozen? ⟨g5,n * 9 + 1,none⟩ = false ∧ w5.frozen? ⟨g5,n * 9 + 2,none⟩ = false ∧ w5.frozen? ⟨g5,n * 9 + 3,none⟩ = false ∧ w5.frozen? ⟨g5,n * 9 + 4,none⟩ = false ∧ w5.frozen? ⟨g5,n * 9 + 5,none⟩ = false ∧ w5.frozen? ⟨g5,n * 9 + 6,none⟩ = false ∧ w5.frozen? ⟨g5,n * 9 + 7,none⟩ = false ∧ w5.frozen? ⟨g5,n * 9 + 8,none⟩ = false):=by
 have hc:∀ j,j < 9 → w5.cell? ⟨g5,n * 9 + j,none⟩ = (Nv.cs Zn)[j]?:=fun j hj => by
  rw [ho.cellAt (n * 9 + j) (by omega),List.getElem?_append_right (by omega),hxs,show n * 9 + j - n * 9 = j by omega]
 have hf:∀ j,w5.frozen? ⟨g5,j,none⟩ = false:=fun j => by
  rcases ho.2 with ⟨h,_⟩ | ⟨g',cap',cur,he,hb,hgg,h1,h2,h3,h4⟩
  ·cases h
  ·simp only [Value.slice.injEq,Option.some.injEq,Addr.mk.injEq] at he
   obtain ⟨⟨rfl,_⟩,_,rfl⟩:=he
   exact Joins.unfrozen_of_block hgg _
 exact ⟨⟨hc 0 (by omega),hc 1 (by omega),hc 2 (by omega),hc 3 (by omega),hc 4 (by omega),hc 5 (by omega),hc 6 (by omega),hc 7 (by omega),hc 8 (by omega)⟩,⟨hf _,hf _,hf _,hf _,hf _,hf _,hf _,hf _,hf _⟩⟩
abbrev set9 (W:World) (g q:Nat) (M:Nv):World:=(((((((((W.setCell ⟨g,q,none⟩ (.int .i64 M.k)).setCell ⟨g,q + 1,none⟩ (.slice M.r1 M.r2 M.r3)).setCell ⟨g,q + 2,none⟩ (.int .i64 M.a2)).setCell ⟨g,q + 3,none⟩ (.slice M.s1 M.s2 M.s3)).setCell ⟨g,q + 4,none⟩ (.int .i64 M.a4)).setCell ⟨g,q + 5,none⟩ (.int .i64 M.a5)).setCell ⟨g,q + 6,none⟩ (.bool M.a6)).setCell ⟨g,q + 7,none⟩ (.int .i64 M.a7)).setCell ⟨g,q + 8,none⟩ (.string M.a8))
theorem set9_eq (W:World) (g q:Nat) (M:Nv):set9 W g q M = W.setCells g q (Nv.cs M):=rfl
def FinU (x b g5 n c5:Nat) (w5 U:World) (xs:List Value) (M:Nv):Prop:=Bx U b 23 (.slice (some ⟨g5,0,none⟩) (n + 1) c5) ∧ U.ownsRow x 25 9 (.slice (some ⟨g5,0,none⟩) (n + 1) c5) (n + 1) (xs ++ Nv.cs M) ∧ (∀ c,c ≠ b → c ≠ g5 → U.heap[c]? = w5.heap[c]?) ∧ ∀ B0 W0,Below B0 W0 w5 → B0 ≤ b → B0 ≤ g5 → Below B0 W0 U
theorem ro_tail {x b g5 n c5:Nat} {w5:World} {xs:List Value} {uv:Value} (ho:w5.ownsRow x 25 9 (.slice (some ⟨g5,0,none⟩) (n + 1) c5) (n + 1) (xs ++ Nv.cs Zn)) (hb:Bx w5 b 23 uv) (hne:g5 ≠ b) (hxs:xs.length = n * 9) (M:Nv) :
  (w5.setCell ⟨b,0,none⟩ (.slice (some ⟨g5,0,none⟩) (n + 1) c5)).ownsRow x 25 9 (.slice (some ⟨g5,0,none⟩) (n + 1) c5) (n + 1) (xs ++ Nv.cs Zn) ∧ (set9 w5 g5 (n * 9) M).cell? ⟨b,0,none⟩ = some uv ∧ (set9 w5 g5 (n * 9) M).frozen? ⟨b,0,none⟩ = false ∧
   FinU x b g5 n c5 w5 (set9 (w5.setCell ⟨b,0,none⟩ (.slice (some ⟨g5,0,none⟩) (n + 1) c5)) g5 (n * 9) M) xs M ∧ FinU x b g5 n c5 w5 ((set9 w5 g5 (n * 9) M).setCell ⟨b,0,none⟩ (.slice (some ⟨g5,0,none⟩) (n + 1) c5)) xs M:=by
 rw [set9_eq,set9_eq]
 have hob:(Value.slice (some ⟨g5,0,none⟩) (n + 1) c5).ownBlock ≠ some b:=fun e => by simp [Value.ownBlock] at e;exact hne e
 have ho1:(w5.setCell ⟨b,0,none⟩ (.slice (some ⟨g5,0,none⟩) (n + 1) c5)).ownsRow x 25 9 (.slice (some ⟨g5,0,none⟩) (n + 1) c5) (n + 1) (xs ++ Nv.cs Zn):=row_kept ho fun c hc => Below.heap_setCell _ _ _ _ (fun e => hob (by simp only at e;rw [e] at hc;exact hc))
 have hb2:Bx (w5.setCells g5 (n * 9) (Nv.cs M)) b 23 uv:=(setCells_old g5 _ _ _ b (fun e => hne e.symm)).trans hb
 have e9:(Nv.cs M).length = (Nv.cs Zn).length:=rfl
 refine ⟨ho1,bx0 hb2,Joins.unfrozen_of_block hb2 0,⟨?_,?_,fun c h1 h2 => ?_,fun B0 W0 h h1 h2 => ?_⟩,⟨?_,?_,fun c h1 h2 => ?_,fun B0 W0 h h1 h2 => ?_⟩⟩
 ·exact (setCells_old g5 _ _ _ b (fun e => hne e.symm)).trans (Joins.block_setCell (i:=0) hb _)
 ·rw [← hxs];exact row_last ho1 e9
 ·exact (setCells_old g5 _ _ _ c h2).trans (Below.heap_setCell _ _ _ _ h1)
 ·exact Below.setCells h2 _ _ _ _ (h.setCell (by exact h1) _)
 ·exact Joins.block_setCell (i:=0) hb2 _
 ·refine row_kept ?_ fun c hc => Below.heap_setCell _ _ _ _ (fun e => hob (by simp only at e;rw [e] at hc;exact hc))
  rw [← hxs];exact row_last ho e9
 ·exact (Below.heap_setCell _ _ _ _ h1).trans (setCells_old g5 _ _ _ c h2)
 ·exact (Below.setCells h2 _ _ _ _ h).setCell (by exact h1) _
theorem do_fin {x b n g5 c5 uc:Nat} {w Wa w5 U:World} {ua:Option Addr} {us:List Tn} {MS:List Nv} {AS:Nat → Nat → Prop} {M:Nv} {s:Tn} {AA:Nat → Prop} (hn:n = MS.length) (h:RO x w b (.slice ua MS.length uc) MS us AS) (hx:x ≤ w.heap.size) (hW:Below w.heap.size w Wa) (hM:TO Wa M s AA) (hAA:∀ c,AA c → w.heap.size ≤ c)
  (hm:Moved Wa w5 (.slice ua n uc) (.slice (some ⟨g5,0,none⟩) (n + 1) c5)) (hU:FinU x b g5 n c5 w5 U (MS.flatMap Nv.cs) M):∃ uv',ROv x U b uv' (us ++ [s]) ∧ Chg w U (FB b (.slice ua MS.length uc)) (FB b uv'):=by
 subst hn
 obtain ⟨u1,u2,u3,u4⟩:=hU
 have hv:∀ k,(Value.slice ua MS.length uc).ownBlock = some k → x ≤ k:=fun k hk => (h.row.lt k hk).1
 have hb5:=moved_below (hW.mono hx) (Nat.le_trans hx hW.size) hv hm
 have hg5:x ≤ g5:=(u2.lt g5 rfl).1
 have hB:=u4 _ _ hb5.1 h.xb hg5
 have hg:(Value.slice ua MS.length uc).ownBlock = some g5 ∨ Wa.heap.size ≤ g5:=by
  rcases hm with ⟨h0,_⟩ | ⟨h0,_⟩
  ·left;rw [← h0];rfl
  ·right
   have:some g5 = some Wa.heap.size:=h0
   simp at this
   omega
 refine ⟨_,⟨MS ++ [M],_,h.next hW hM hAA hm u1 u2 (fun c h1 h2 => u3 c h1 (fun e => h2 (by rw [e];rfl))) hx⟩,hB.os,hB.tape,hB.output,hB.size,fun k hk hn => ?_,fun k hk => ?_⟩
 ·simp only [FB,List.mem_cons,Option.mem_toList,not_or] at hn
  have hs:=hW.size
  refine (u3 k hn.1 (fun e => ?_)).trans ((moved_old' hm (by omega) hn.2).trans (hW.block k hk))
  rcases hg with hg | hg
  ·exact hn.2 (by rw [e];exact hg)
  ·omega
 ·simp only [FB,List.mem_cons,Option.mem_toList] at hk ⊢
  rcases hk with hk | hk
  ·exact .inl (.inl hk)
  ·have e:g5 = k:=by have:some g5 = some k:=hk;simpa using this
   rcases hg with hg | hg
   ·exact .inl (.inr (by rw [← e];exact hg))
   ·right;have:=hW.size;omega
set_option maxRecDepth 100000 in
set_option maxHeartbeats 8000000 in
theorem do49 {x b:Nat} {w:World} {uv:Value} {us:List Tn} (hR:ROv x w b uv us) (hx:x ≤ w.heap.size) (g:Nat) (s:Tn) (HP:∀ W',Below w.heap.size w W' → BP s g W') (hn:us.length < 200000) :
  Calls Tryz.prog 136 #[pt g,pt b] w (EPost x b w uv (us ++ [s])):=by
 obtain ⟨MS,AS,h⟩:=hR
 obtain ⟨i0,hi0,hz0,hz1,hz2⟩:=info_parts info25
 obtain ⟨ua,uc,rfl,hnc,hcm⟩:=row_shape h.row
 have hbl:b < w.heap.size:=(Array.getElem?_eq_some_iff.1 h.box).1
 have HROW:Hid (∀ W',Below w.heap.size w W' → W'.ownsRow x 25 9 (.slice ua MS.length uc) MS.length (MS.flatMap Nv.cs)):=fun W' hb => row_kept h.row fun c hc => hb.block c (h.row.lt c hc).2
 have hl:=h.len
 obtain ⟨n,hnn⟩:∃ n,n = MS.length:=⟨_,rfl⟩
 rw [← hnn] at HROW hl
 have c0:=bx0 h.box
 rw [← hnn] at c0
 have HH:=hid h
 have HPP:=hid HP
 have HNN:=hid hnn
 have HD:=hid (below_drew w)
 have HLB:Hid (Below w.heap.size w (w.alloc litO).drew):=(Joins.below_alloc1 w _).trans (Joins.below_le (below_drew _) (by simp))
 have HLN:Hid ((w.alloc litO).drew.heap[w.heap.size]? = some litO):=heap_alloc_new w _
 have HBX:Hid (Bx w b 23 (.slice ua n uc)):=by rw [hnn];exact h.box
 have HOB:Hid ((Value.slice ua n uc).ownBlock ≠ some b):=by rw [hnn];exact h.out
 have HLS:Hid ((w.alloc litO).drew.heap.size = w.heap.size + 1):=by show (w.alloc litO).heap.size = _;simp
 have hn2:n < 200000:=by omega
 have HL:=hid hl
 have c0a:(w.alloc litO).cell? ⟨b,0,none⟩ = some (.slice ua n uc):=bx0 ((heap_alloc_old w litO hbl).trans HBX.out)
 clear h HP hnn hnc hcm hl hn
 go_enter Tryz.func136,Tryz.ntmps136
 go_region_law (first | (refine step_call1 rfl 92 (.tmp 4) 146 rfl en32 ?_;refine (HPP.out _ (by first | exact HD.out | exact HLB.out)).mono ?_;rintro e w2 ⟨M,AA,rfl,hM,hAA,hb2⟩;refine ⟨_,rfl,?_⟩;have hbb2:Bx w2 b 23 (.slice ua n uc):=((hb2.block b (by first | exact hbl | exact Nat.lt_of_lt_of_le hbl HLB.out.size)).trans (by first | exact HBX.out | exact (HLB.out.block b hbl).trans HBX.out));have c2:=bx0 hbb2;have c2a:=bx0 ((heap_alloc_old w2 litO (Array.getElem?_eq_some_iff.1 hbb2).1).trans hbb2);clear hbb2;have HM:=hid hM;have HAW:Hid (∀ c,AA c → w.heap.size ≤ c):=(fun c hc => Nat.le_trans (by first | exact Nat.le_refl _ | exact HLB.out.size) (hAA c hc));have HB2:=hid hb2;clear hM hAA hb2) | (refine step_append_moveN rfl (.tmp 3) (.tmp 7) 23 rfl x 25 i0 Z9 9 112 Tryz.underlying23 hi0 hz0 hz1 hz2 rfl (by decide) (.slice ua n uc) n (MS.flatMap Nv.cs) rfl (HROW.out _ (HD.out.trans (Joins.below_le (HB2.out.trans (Joins.below_le (Joins.below_alloc1 w2 _) HB2.out.size)) HD.out.size))) ⟨w2.heap.size,0,none⟩ 1 1 (Nv.cs Zn) rfl rfl (by decide) (lit_cellsZ (heap_alloc_new w2 _)) (one9 _) (by unfold maxLen;omega) (by omega) (Nat.le_trans hx (Nat.le_trans HB2.out.size (by simp))) ?_;intro v5 w5 ho5 hm5;obtain ⟨g5,c5,rfl⟩:=row_some ho5;have hb5:Bx w5 b 23 (.slice ua n uc):=(moved_old' hm5 (Nat.lt_of_lt_of_le hbl (HD.out.trans (Joins.below_le (HB2.out.trans (Joins.below_le (Joins.below_alloc1 w2 litO) HB2.out.size)) HD.out.size)).size) HOB.out).trans (((HD.out.trans (Joins.below_le (HB2.out.trans (Joins.below_le (Joins.below_alloc1 w2 litO) HB2.out.size)) HD.out.size)).block b hbl).trans HBX.out);have hne5:g5 ≠ b:=moved_ne hm5 (Nat.lt_of_lt_of_le hbl (HD.out.trans (Joins.below_le (HB2.out.trans (Joins.below_le (Joins.below_alloc1 w2 litO) HB2.out.size)) HD.out.size)).size) HOB.out;have HWB:=hid (HD.out.trans (Joins.below_le (HB2.out.trans (Joins.below_le (Joins.below_alloc1 w2 litO) HB2.out.size)) HD.out.size));have HTM:Hid (TO (w2.alloc litO) M s AA):=HM.out.kept (fun c hc => heap_alloc_old w2 litO (HM.out.low c hc));have hnl:(n:Int) < (n:Int) + 1:=(by omega);obtain ⟨y1,y3,y4,y5,y6⟩:=ro_tail ho5 hb5 hne5 (by rw [flat9_len,HNN.out]) M;obtain ⟨⟨p0,p1,p2,p3,p4,p5,p6,p7,p8⟩,⟨r0,r1,r2,r3,r4,r5,r6,r7,r8⟩⟩:=last9 ho5 (by rw [flat9_len,HNN.out]);obtain ⟨⟨s0,s1,s2,s3,s4,s5,s6,s7,s8⟩,⟨t0,t1,t2,t3,t4,t5,t6,t7,t8⟩⟩:=last9 y1 (by rw [flat9_len,HNN.out]);have cb5:=bx0 hb5;have f5:=Joins.unfrozen_of_block hb5 0;have Y5:=hid y5;have Y6:=hid y6;have HM5:=hid hm5;have HO5:=hid ho5;clear y1 y5 y6 hm5 ho5 hb5) | (refine step_append_moveN rfl (.tmp 3) (.tmp 7) 23 rfl x 25 i0 Z9 9 112 Tryz.underlying23 hi0 hz0 hz1 hz2 rfl (by decide) (.slice ua n uc) n (MS.flatMap Nv.cs) rfl (HROW.out _ (HLB.out.trans (Joins.below_le HB2.out HLB.out.size))) ⟨w.heap.size,0,none⟩ 1 1 (Nv.cs Zn) rfl rfl (by decide) (lit_cellsZ ((HB2.out.block w.heap.size (by rw [HLS.out];omega)).trans HLN.out)) (one9 _) (by unfold maxLen;omega) (by omega) (Nat.le_trans hx (Nat.le_trans HLB.out.size HB2.out.size)) ?_;intro v5 w5 ho5 hm5;obtain ⟨g5,c5,rfl⟩:=row_some ho5;have hb5:Bx w5 b 23 (.slice ua n uc):=(moved_old' hm5 (Nat.lt_of_lt_of_le hbl (HLB.out.trans (Joins.below_le HB2.out HLB.out.size)).size) HOB.out).trans (((HLB.out.trans (Joins.below_le HB2.out HLB.out.size)).block b hbl).trans HBX.out);have hne5:g5 ≠ b:=moved_ne hm5 (Nat.lt_of_lt_of_le hbl (HLB.out.trans (Joins.below_le HB2.out HLB.out.size)).size) HOB.out;have HWB:=hid (HLB.out.trans (Joins.below_le HB2.out HLB.out.size));have HTM:=hid HM.out;have hnl:(n:Int) < (n:Int) + 1:=(by omega);obtain ⟨y1,y3,y4,y5,y6⟩:=ro_tail ho5 hb5 hne5 (by rw [flat9_len,HNN.out]) M;obtain ⟨⟨p0,p1,p2,p3,p4,p5,p6,p7,p8⟩,⟨r0,r1,r2,r3,r4,r5,r6,r7,r8⟩⟩:=last9 ho5 (by rw [flat9_len,HNN.out]);obtain ⟨⟨s0,s1,s2,s3,s4,s5,s6,s7,s8⟩,⟨t0,t1,t2,t3,t4,t5,t6,t7,t8⟩⟩:=last9 y1 (by rw [flat9_len,HNN.out]);have cb5:=bx0 hb5;have f5:=Joins.unfrozen_of_block hb5 0;have Y5:=hid y5;have Y6:=hid y6;have HM5:=hid hm5;have HO5:=hid ho5;clear y1 y5 y6 hm5 ho5 hb5))
 all_goals go_end0
 all_goals refine ⟨rfl,do_fin HNN.out HH.out hx HWB.out HTM.out HAW.out HM5.out ?_⟩
 all_goals first | with_reducible exact Y5.out | with_reducible exact Y6.out
abbrev dv (b:Nat):Value:=.func (.func 136) #[] #[pt b]
def EQ (x:Nat) (l:List Tn) (ev:Value) (w0:World):Prop:=∀ W b uv us,x ≤ W.heap.size → (∀ c,c < x → W.heap[c]? = w0.heap[c]?) → ROv x W b uv us → us.length + l.length < 200000 →
 ∃ n ca,ev = .func (.func n) #[] ca ∧ (∀ args w,(callFunc n args).run Tryz.prog w = .ok (.enter n args) w) ∧ Calls Tryz.prog n (#[dv b] ++ ca) W (EPost x b W uv (us ++ l))
theorem leaf68 (v:Value) (w:World):Calls Tryz.prog 203 #[v] w fun e w' => e = .returned (.tuple #[]) ∧ w' = w:=by
 go_enter Tryz.func203,Tryz.ntmps203
 go_wp2
 all_goals go_end0
 all_goals exact ⟨rfl,rfl⟩
def BPs (N:Nat):Prop:=∀ (s:Tn) (W:World) (g:Nat) (A:Nat → Prop),s.nodes < N → FA W A g s → (∀ c,A c → c < W.heap.size) → BP s g W
theorem bp_below {N:Nat} (HP:BPs N) {s:Tn} {w:World} {g:Nat} {A:Nat → Prop} (hs:s.nodes < N) (hg:FA w A g s) (hA:∀ c,A c → c < w.heap.size):∀ W',Below w.heap.size w W' → BP s g W':=fun W' hb =>
 HP s W' g A hs (hg.up hA hb (fun _ h => h)) (fun c hc => by have:=hA c hc;have:=hb.size;omega)
set_option maxRecDepth 100000 in
set_option maxHeartbeats 4000000 in
theorem over67 {x b bx g:Nat} {w:World} {uv:Value} {us:List Tn} {s:Tn} (hR:ROv x w b uv us) (hx:x ≤ w.heap.size) (hb:Bx w bx 146 (pt g)) (HP:∀ W',Below w.heap.size w W' → BP s g W') (hn:us.length < 200000) :
  Calls Tryz.prog 202 #[dv b,pt bx] w (EPost x b w uv (us ++ [s])):=by
 have HC:=do49 hR hx g s HP hn
 have c0:=bx0 hb
 clear hR HP hn hb
 go_enter Tryz.func202,Tryz.ntmps202
 go_wp2_with (first | (go_at_call 136;(with_reducible refine HC.mono ?_);rintro e w2 ⟨rfl,hr2⟩;have HR2:=hid hr2;clear hr2 HC))
 all_goals go_end0
 all_goals exact ⟨rfl,HR2.out⟩
set_option maxRecDepth 100000 in
set_option maxHeartbeats 4000000 in
theorem within64 {x b f:Nat} {k:Int} {w:World} {uv:Value} {us:List Tn} {t:Tn} {N0:Nv} {ev:Value} (hR:ROv x w b uv us) (hx:x ≤ w.heap.size) (hc:FC w f N0 ev t) (hk:N0.k = t.kind) (HE:t.kind = k → EQ x t.subs ev w) (HP:t.kind ≠ k → ∀ W',Below w.heap.size w W' → BP t f W') (hn:us.length + (within k t).length < 200000) :
  Calls Tryz.prog 199 #[pt f,.int .i64 k,dv b] w (EPost x b w uv (us ++ within k t)):=by
 obtain ⟨c0,c9,c10,c11⟩:=hc.num
 rw [hk] at c0
 by_cases h:t.kind = k
 ·have hw:within k t = t.subs:=by unfold within;rw [if_pos h]
  rw [hw] at hn ⊢
  obtain ⟨n,ca,rfl,hen,HC⟩:=HE h w b uv us hx (fun _ _ => rfl) hR hn
  have bk:(t.kind == k) = true:=by simpa using h
  obtain ⟨kd,hkd⟩:∃ kd,kd = t.kind:=⟨_,rfl⟩
  rw [← hkd] at c0 bk
  clear HE HP hR hn hc hk h hw hkd c10 c11
  go_enter Tryz.func199,Tryz.ntmps199
  go_wp2_with (first | (with_reducible refine HC.mono ?_;rintro e w2 ⟨rfl,hr2⟩;have HR2:=hid hr2;clear hr2 HC))
  all_goals first | go_end0 | (refine bodyPost_ret (v:=.tuple #[]) rfl rfl ?_)
  all_goals exact ⟨rfl,HR2.out⟩
 ·have hw:within k t = [t]:=by unfold within;rw [if_neg h]
  rw [hw] at hn ⊢
  have HC:=do49 hR hx f t (HP h) (by simp at hn;omega)
  have bk:(t.kind == k) = false:=by simpa using h
  obtain ⟨kd,hkd⟩:∃ kd,kd = t.kind:=⟨_,rfl⟩
  rw [← hkd] at c0 bk
  clear HE HP hR hn hc hk h hw hkd c10 c11 c9
  go_enter Tryz.func199,Tryz.ntmps199
  go_wp2_with (first | (go_at_call 136;(with_reducible refine HC.mono ?_);rintro e w2 ⟨rfl,hr2⟩;have HR2:=hid hr2;clear hr2 HC))
  all_goals first | go_end0 | (refine bodyPost_ret (v:=.tuple #[]) rfl rfl ?_)
  all_goals exact ⟨rfl,HR2.out⟩
end Go.Proofs.YtacaanhnlfpbhaaGreat
