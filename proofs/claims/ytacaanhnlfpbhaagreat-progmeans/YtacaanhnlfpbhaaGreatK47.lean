/- HELPERS: texts of ours put together. -/
import Derived.Test.YtacaanhnlfpbhaaGreatK46
import Derived.Test.YtacaanhnlfpbhaaGreatK16
import Derived.Test.YtacaanhnlfpbhaaGreatK26
import Derived.Test.YtacaanhnlfpbhaaGreatK05
import Derived.Test.YtacaanhnlfpbhaaGreatK14
import Derived.Deep.Onto
import Derived.Test.YtacaanhnlfpbhaaGreatK39
import Derived.Test.YtacaanhnlfpbhaaGreatK40
import Derived.Test.YtacaanhnlfpbhaaGreatK19
import Derived.Test.YtacaanhnlfpbhaaGreatK04
import Derived.Test.YtacaanhnlfpbhaaGreatK03
import Derived.Test.YtacaanhnlfpbhaaGreatK02
import Derived.Test.YtacaanhnlfpbhaaGreatK01
import Derived.Deep.SlicePairs
import Derived.RowKit
import Derived.Test.YtacaanhnlfpbhaaGreatProg
import Derived.WalkKit
import Derived.ProofKit
import Derived.BigQuiet
import Derived.WalkSmall
import Derived.Deep.QuietTactic
import Derived.Deep.RegionWith
import Derived.Lib.SmallJoins
import Derived.Lib.MinMax
import Derived.Maps.AppendAt
import Derived.Laws.AppendOwnNone
import Derived.Test.YtacaanhnlfpbhaaGreatK13
import Derived.Lib.Small
import Derived.Deep.Cut
import Derived.Deep.CutRange
import Derived.Laws.EntriesVeiled
import Derived.Laws.Rows
namespace Go.Proofs.YtacaanhnlfpbhaaGreat
open Go.RowKit Go.Lk
set_option linter.unusedVariables false
set_option linter.unusedSimpArgs false
def TkT.cs:TkT → List Value
 | .go i p => [.int .i64 (i:Int),.int .i64 (p:Int),.int .i64 0,.int .i64 0]
 | .un a o => [.int .i64 0,.int .i64 0,.int .i64 ((a:Int) + 1),.int .i64 o]
theorem TkT.cs_len (t:TkT):t.cs.length = 4:=by cases t <;> rfl
theorem TkT.one (t:TkT):∀ u ∈ t.cs,u.oneCell' = true:=by
 cases t <;> (intro u hu;simp [TkT.cs] at hu;rcases hu with rfl | rfl | rfl | rfl <;> rfl)
def stkT:List TkT → List Value
 | [] => []
 | t :: st => stkT st ++ t.cs
theorem stk_lenT (st:List TkT):(stkT st).length = st.length * 4:=by
 induction st with
 | nil => rfl
 | cons t st ih => rw [stkT,List.length_append,ih,TkT.cs_len,List.length_cons];omega
theorem stk_topT (t:TkT) (st:List TkT) (k:Nat) (hk:k < 4):(stkT (t :: st))[st.length * 4 + k]? = t.cs[k]?:=by
 rw [stkT,List.getElem?_append_right (by rw [stk_lenT];omega),stk_lenT]
 congr 1
 omega
def isF:Option Value → Bool
 | some (.bool false) => true
 | _ => false
def cA (arr:Array Value) (M:Nat):Nat:=(List.range M).countP fun k => isF arr[k]?
def cW (w:World) (gm M:Nat):Nat:=match w.heap[gm]? with
 | some (.cells arr _ _) => cA arr M
 | _ => 0
theorem cW_of {w:World} {gm M:Nat} {arr:Array Value} {t:TypeId} {fr:Nat × Nat} (h:w.heap[gm]? = some (.cells arr t fr)):cW w gm M = cA arr M:=by unfold cW;rw [h]
theorem cW_same {w w':World} {gm M:Nat} (h:w'.heap[gm]? = w.heap[gm]?):cW w' gm M = cW w gm M:=by unfold cW;rw [h]
theorem cA_set {arr:Array Value} {M i:Nat} (hi:i < M) (hs:i < arr.size) (h:arr[i]? = some (.bool false)):cA (arr.setIfInBounds i (.bool true)) M < cA arr M:=by
 unfold cA
 refine countP_ltT _ _ i _ (List.mem_range.2 hi) (by rw [h];rfl) (by simp [hs,isF]) (fun k hk => ?_)
 by_cases e:i = k
 ·subst e;simp [hs,isF] at hk
 ·rwa [Array.getElem?_setIfInBounds_ne e] at hk
structure WI (w0 w:World) (B0 gm gc x n q1 K c:Nat) (ad:Option Addr) (s k:Int) (tx:List Int) (z:Option Addr) (cz:Nat) (st:List TkT) (m:Met) (caps:List Int):Prop where
 row:w.ownsRow B0 160 4 (.slice z st.length cz) st.length (stkT st)
 met:∃ arr:Array Value,w.heap[gm]? = some (.cells arr 4 (0,0)) ∧ arr.size = n * q1 ∧ ∀ i p,i < n → p < q1 → arr[i * q1 + p]? = some (.bool (m i p))
 cap:w.ownsRow B0 3 1 (.slice (some ⟨gc,0,none⟩) K K) K (caps.map (Value.int .i64))
 bx:w.heap[x]? = some (.cells #[.slice ad n c,.int .i64 s,.int .i64 k] 46 (0,0))
 bl:Below B0 w0 w
 ok:∀ t ∈ st,t.ok n tx K
 len:caps.length = K
 lo:B0 ≤ gm ∧ B0 ≤ w.heap.size
section
variable {w0 w w':World} {B0 gm gc x n q1 K c cz:Nat} {ad z:Option Addr} {s k:Int} {tx:List Int} {st:List TkT} {t:TkT} {m:Met} {caps:List Int}
theorem WI.kept (h:WI w0 w B0 gm gc x n q1 K c ad s k tx z cz st m caps) (hb:Below w.heap.size w w'):WI w0 w' B0 gm gc x n q1 K c ad s k tx z cz st m caps:=by
 obtain ⟨arr,h1,h2⟩:=h.met
 exact ⟨row_kept h.row (fun b hb' => hb.block b (h.row.lt b hb').2),⟨arr,(hb.block gm (Array.getElem?_eq_some_iff.1 h1).1).trans h1,h2⟩,row_kept h.cap (fun b hb' => hb.block b (h.cap.lt b hb').2),(hb.block x (Array.getElem?_eq_some_iff.1 h.bx).1).trans h.bx,h.bl.trans (Joins.below_le hb h.lo.2),h.ok,h.len,by have:=hb.size;have:=h.lo;omega⟩
theorem WI.pop (h:WI w0 w B0 gm gc x n q1 K c ad s k tx z cz (t :: st) m caps):WI w0 w B0 gm gc x n q1 K c ad s k tx z cz st m caps:=
 ⟨own_pop h.row (stk_lenT st),h.met,h.cap,h.bx,h.bl,fun u hu => h.ok u (List.mem_cons_of_mem _ hu),h.len,h.lo⟩
theorem WI.setc (h:WI w0 w B0 gm gc x n q1 K c ad s k tx z cz st m caps) (a:Nat) (v:Int):WI w0 (w.setCell ⟨gc,a,none⟩ (.int .i64 v)) B0 gm gc x n q1 K c ad s k tx z cz st m (caps.set a v):=by
 obtain ⟨arr,h1,h2⟩:=h.met
 have hgc:=h.cap.lt gc rfl
 have hk:∀ b,b ≠ gc → (w.setCell ⟨gc,a,none⟩ (.int .i64 v)).heap[b]? = w.heap[b]?:=fun b hb => Below.heap_setCell _ _ _ _ hb
 have hc:=row_setC h.cap a (.int .i64 v)
 rw [← List.map_set] at hc
 refine ⟨row_kept h.row (fun b hb => hk b (fun e => ?_)),⟨arr,(hk gm (fun e => own_ne h.cap h1 (by decide) (by rw [e];rfl))).trans h1,h2⟩,hc,(hk x (fun e => own_ne h.cap h.bx (by decide) (by rw [e];rfl))).trans h.bx,h.bl.setCell (p:=⟨gc,a,none⟩) hgc.1 _,h.ok,by simpa using h.len,by simpa [World.setCell] using h.lo⟩
 subst e
 rcases h.cap.2 with ⟨e,_⟩ | ⟨g,cap,cur,e,_,hg,_⟩
 ·cases e
 ·simp only [Value.slice.injEq,Option.some.injEq,Addr.mk.injEq] at e
  obtain ⟨⟨rfl,_⟩,_⟩:=e
  exact own_ne h.row hg (by decide) hb
theorem idx_inj {i j p q q1:Nat} (hp:p < q1) (hq:q < q1) (h:i * q1 + p = j * q1 + q):i = j ∧ p = q:=by
 have h1:(i * q1 + p) / q1 = i:=by rw [Nat.mul_comm,Nat.mul_add_div (by omega),Nat.div_eq_of_lt hp];omega
 have h2:(j * q1 + q) / q1 = j:=by rw [Nat.mul_comm,Nat.mul_add_div (by omega),Nat.div_eq_of_lt hq];omega
 have:i = j:=by rw [← h1,← h2,h]
 subst this
 exact ⟨rfl,by omega⟩
theorem idx_lt {i p n q1:Nat} (hi:i < n) (hp:p < q1):i * q1 + p < n * q1:=by
 have:(i + 1) * q1 ≤ n * q1:=Nat.mul_le_mul_right _ hi
 rw [Nat.succ_mul] at this
 omega
theorem WI.metAt (h:WI w0 w B0 gm gc x n q1 K c ad s k tx z cz st m caps) {i p:Nat} (hi:i < n) (hp:p < q1):w.cell? ⟨gm,i * q1 + p,none⟩ = some (.bool (m i p)) ∧ w.frozen? ⟨gm,i * q1 + p,none⟩ = false:=by
 obtain ⟨arr,h1,h2,h3⟩:=h.met
 exact ⟨by rw [Joins.cell_of_block h1];exact h3 i p hi hp,Joins.unfrozen_of_block h1 _⟩
theorem WI.mark (h:WI w0 w B0 gm gc x n q1 K c ad s k tx z cz st m caps) {i p:Nat} (hi:i < n) (hp:p < q1) (hm:m i p = false):WI w0 (w.setCell ⟨gm,i * q1 + p,none⟩ (.bool true)) B0 gm gc x n q1 K c ad s k tx z cz st (mark m i p) caps ∧ cW (w.setCell ⟨gm,i * q1 + p,none⟩ (.bool true)) gm (n * q1) < cW w gm (n * q1):=by
 obtain ⟨arr,h1,h2,h3⟩:=h.met
 have hk:∀ b,b ≠ gm → (w.setCell ⟨gm,i * q1 + p,none⟩ (.bool true)).heap[b]? = w.heap[b]?:=fun b hb => Below.heap_setCell _ _ _ _ hb
 have hnew:=Joins.block_setCell (i:=i * q1 + p) h1 (.bool true)
 have hlt:=idx_lt (n:=n) hi hp
 refine ⟨⟨row_kept h.row (fun b hb => hk b (fun e => by subst e;exact own_ne h.row h1 (by decide) hb)),⟨_,hnew,by simpa using h2,fun j q hj hq => ?_⟩,row_kept h.cap (fun b hb => hk b (fun e => by subst e;exact own_ne h.cap h1 (by decide) hb)),(hk x (fun e => by have:=h.bx;rw [e,h1] at this;simp at this)).trans h.bx,h.bl.setCell (p:=⟨gm,i * q1 + p,none⟩) h.lo.1 _,h.ok,h.len,by simpa [World.setCell] using h.lo⟩,?_⟩
 ·unfold Go.Proofs.YtacaanhnlfpbhaaGreat.mark
  by_cases e:j = i ∧ q = p
  ·obtain ⟨rfl,rfl⟩:=e
   simp [h2,hlt]
  ·rw [if_neg e,Array.getElem?_setIfInBounds_ne (fun e' => e (by have:=idx_inj hp hq e';exact ⟨this.1.symm,this.2.symm⟩))]
   exact h3 j q hj hq
 ·rw [cW_of h1,cW_of hnew]
  exact cA_set hlt (by omega) (by rw [h3 i p hi hp,hm])
theorem WI.push {V w7:World} {y1:Option Addr} {y3:Nat} {ts:List TkT} (h:WI w0 w B0 gm gc x n q1 K c ad s k tx z cz st m caps) (hs:w.heap.size ≤ V.heap.size) (hk:∀ b,b < w.heap.size → V.heap[b]? = w.heap[b]?) (ho:V.os = w.os) (htp:V.tape = w.tape) (hou:V.output = w.output) (hf:Frm V w7 (.slice z st.length cz) (.slice y1 (st.length + ts.length) y3)) (hr:w7.ownsRow B0 160 4 (.slice y1 (st.length + ts.length) y3) (st.length + ts.length) (stkT st ++ stkT ts)) (hok:∀ t ∈ ts,t.ok n tx K) :
  WI w0 w7 B0 gm gc x n q1 K c ad s k tx y1 y3 (ts ++ st) m caps ∧ cW w7 gm (n * q1) = cW w gm (n * q1):=by
 obtain ⟨arr,h1,h2⟩:=h.met
 have hz:=h.row.lt
 have hkk:∀ (b:Nat) (cs:Array Value) (t:TypeId) (fr:Nat × Nat),w.heap[b]? = some (.cells cs t fr) → t ≠ 160 → w7.heap[b]? = some (.cells cs t fr):=fun b cs t fr hb ht => by
  have hbl:=(Array.getElem?_eq_some_iff.1 hb).1
  exact (hf.block b (by omega) (own_ne h.row hb ht)).trans ((hk b hbl).trans hb)
 have hst:stkT (ts ++ st) = stkT st ++ stkT ts:=by
  clear hf hr hok
  induction ts with
  | nil => simp [stkT]
  | cons t ts ih => rw [List.cons_append,stkT,ih,stkT,List.append_assoc]
 refine ⟨⟨by rw [hst,List.length_append,Nat.add_comm];exact hr,⟨arr,hkk _ _ _ _ h1 (by decide),h2⟩,row_kept h.cap (fun b hb => ?_),hkk _ _ _ _ h.bx (by decide),⟨hf.os.trans (ho.trans h.bl.os),hf.tape.trans (htp.trans h.bl.tape),hf.output.trans (hou.trans h.bl.output),?_,fun b hb => ?_⟩,fun t ht => (List.mem_append.1 ht).elim (hok t) (h.ok t),h.len,⟨h.lo.1,?_⟩⟩,?_⟩
 ·rcases h.cap.2 with ⟨e,_⟩ | ⟨g,cap,cur,e,_,hg,_⟩
  ·rw [e] at hb;cases hb
  ·rw [e] at hb
   cases hb
   rw [hkk _ _ _ _ hg (by decide),hg]
 ·have:=hf.size;have:=h.bl.size;omega
 ·exact (hf.block b (by have:=h.lo;omega) (fun h' => by have:=(hz b h').1;omega)).trans ((hk b (by have:=h.lo;omega)).trans (h.bl.block b hb))
 ·have:=hf.size;have:=h.lo;omega
 ·rw [cW_of h1,cW_of (hkk _ _ _ _ h1 (by decide))]
end
theorem info100:(Tryz.prog.info? 160).map (fun i => (i.zero,i.size,i.bytes)) = some (some (.agg #[.int .i64 0,.int .i64 0,.int .i64 0,.int .i64 0]),4,32):=by kernel_rfl
theorem make4 (c:Nat) (hc:c ≤ 1000000) (w:World):(Instr.makeSlice 79 (.int .i64 (c:Int)) (.int .i64 (c:Int))).run Tryz.prog w = .ok (.slice (some ⟨w.heap.size,0,none⟩) c c) (w.alloc (.cells (madeCells #[.bool false] c) 4)):=by
 obtain ⟨i0,hi0,hz0,hz1,hz2⟩:=info_parts info4
 have h:=run_make (P:=Tryz.prog) w 79 4 i0 (.bool false) Tryz.underlying79 hi0 hz0 .i64 .i64 c c (by omega) (by omega) (by rw [hz2];omega) (by omega)
 simp only [Int.toNat_natCast,hz1,Nat.mul_one] at h
 exact h
end Go.Proofs.YtacaanhnlfpbhaaGreat
namespace Go.Proofs.YtacaanhnlfpbhaaGreat
open Go.RowKit
set_option linter.unusedVariables false
set_option linter.unusedSimpArgs false
abbrev CN (r1:Option Addr) (r2 r3:Nat):Nv:=⟨2,r1,r2,r3,0,none,0,0,0,0,false,0,⟨#[]⟩⟩
set_option maxRecDepth 100000 in
set_option maxHeartbeats 4000000 in
theorem length45c (r1:Option Addr) (r2 r3:Nat) (w:World):Calls Tryz.prog 90 #[(CN r1 r2 r3).v] w fun e w' => e = .returned (.int .i64 1) ∧ Below w.heap.size w w':=by
 have hb0:=Joins.below_alloc1 w (.cells (Array.mk (CN r1 r2 r3).cs) 25)
 have HB:=hid hb0
 clear hb0
 go_enter Tryz.func90,Tryz.ntmps90
 go_wp2_with fail
 go_loopw [9] (fun y wq => y = .int .i64 0 ∧ wq = w.alloc (.cells (Array.mk (CN r1 r2 r3).cs) 25)) (fun _ _ => 0)
 case atStart => exact ⟨rfl,rfl⟩
 case round =>
  obtain ⟨rfl,rfl⟩:=hrel
  go_wp2
  all_goals go_ret
  all_goals exact ⟨rfl,HB.out⟩
set_option maxRecDepth 100000 in
set_option maxHeartbeats 4000000 in
theorem whole29c (r1:Option Addr) (r2 r3:Nat) (w:World):Calls Tryz.prog 51 #[(CN r1 r2 r3).v] w fun e w' => e = .returned (.int .i64 4) ∧ Below w.heap.size w w':=by
 have hb0:=Joins.below_alloc1 w (.cells (Array.mk (CN r1 r2 r3).cs) 25)
 have HC:=length45c r1 r2 r3 (w.alloc (.cells (Array.mk (CN r1 r2 r3).cs) 25))
 have HB:=hid hb0
 clear hb0
 go_enter Tryz.func51,Tryz.ntmps51
 go_wp2_with (first | (go_at_call 90;(with_reducible refine HC.mono ?_);rintro e w2 ⟨rfl,hb2⟩;have HB2:=hid hb2;clear hb2 HC))
 all_goals go_ret
 all_goals exact ⟨rfl,HB.out.trans (Joins.below_le HB2.out HB.out.size)⟩
set_option maxRecDepth 100000 in
set_option maxHeartbeats 4000000 in
theorem great33c (r1:Option Addr) (r2 r3:Nat) (w:World):Calls Tryz.prog 55 #[(CN r1 r2 r3).v] w fun e w' => e = .returned (.int .i64 0) ∧ Below w.heap.size w w':=by
 have hb0:=Joins.below_alloc1 w (.cells (Array.mk (CN r1 r2 r3).cs) 25)
 have HB:=hid hb0
 clear hb0
 go_enter Tryz.func55,Tryz.ntmps55
 go_wp2_with fail
 go_loopw [3,11] (fun u y wq => u = .int .i64 0 ∧ y = .int .i64 0 ∧ wq = w.alloc (.cells (Array.mk (CN r1 r2 r3).cs) 25)) (fun _ _ _ => 0)
 case atStart => exact ⟨rfl,rfl,rfl⟩
 case round =>
  obtain ⟨rfl,rfl,rfl⟩:=hrel
  go_wp2
  all_goals go_ret
  all_goals exact ⟨rfl,HB.out⟩
abbrev Fc (r1:Option Addr) (r2 r3:Nat):Array Value:=#[.int .i64 2,.slice r1 r2 r3,.int .i64 0,.slice none 0 0,.int .i64 0,.int .i64 0,.bool false,.int .i64 0,.string ⟨#[]⟩,.func (.func 203) #[] #[],.int .i64 1,.int .i64 1]
set_option maxRecDepth 100000 in
set_option maxHeartbeats 4000000 in
theorem leaf73c (r1:Option Addr) (r2 r3:Nat) (w:World):Calls Tryz.prog 135 #[(CN r1 r2 r3).v] w fun e w' => ∃ f,e = .returned (pt f) ∧ w'.heap[f]? = some (.cells (Fc r1 r2 r3) 151 (0,0)) ∧ w.heap.size ≤ f ∧ Below w.heap.size w w':=by
 go_enter Tryz.func135,Tryz.ntmps135
 go_wp2
 all_goals go_ret
 all_goals exact ⟨w.heap.size + 1,rfl,two_new w _ _ _,by omega,below_two' w _ _⟩
set_option maxRecDepth 100000 in
set_option maxHeartbeats 4000000 in
theorem form46c (r1:Option Addr) (r2 r3:Nat) (w:World):Calls Tryz.prog 91 #[(CN r1 r2 r3).v] w fun e w' => ∃ f,e = .returned (pt f) ∧ w'.heap[f]? = some (.cells (Fc r1 r2 r3) 151 (0,0)) ∧ w.heap.size ≤ f ∧ Below w.heap.size w w':=by
 have hb0:=Joins.below_alloc1 w (.cells (Array.mk (CN r1 r2 r3).cs) 25)
 have HC:=leaf73c r1 r2 r3 (w.alloc (.cells (Array.mk (CN r1 r2 r3).cs) 25))
 have HB:=hid hb0
 clear hb0
 go_enter Tryz.func91,Tryz.ntmps91
 go_wp2_with (first | (go_at_call 135;(with_reducible refine HC.mono ?_);rintro e w2 ⟨f,rfl,hf,hl,hb2⟩;have HB2:=hid hb2;have HF:=hid hf;have HLF:=hid hl;clear hb2 HC hf hl))
 all_goals go_ret
 all_goals exact ⟨f,rfl,HF.out,by have:=HLF.out;have:=HB.out.size;omega,HB.out.trans (Joins.below_le HB2.out HB.out.size)⟩
abbrev BxC (w:World) (b:Nat) (r1:Option Addr) (r2 r3:Nat):Prop:=w.heap[b]? = some (.cells #[.int .i64 2,.slice r1 r2 r3,.int .i64 0,.slice none 0 0,.int .i64 0,.int .i64 0,.bool false,.int .i64 0,.string ⟨#[]⟩] 25 (0,0))
theorem ninec {w:World} {b:Nat} {r1:Option Addr} {r2 r3:Nat} (h:BxC w b r1 r2 r3):w.cell? ⟨b,0,none⟩ = some (.int .i64 2) ∧ w.cell? ⟨b,1,none⟩ = some (.slice r1 r2 r3) ∧ w.cell? ⟨b,2,none⟩ = some (.int .i64 0) ∧ w.cell? ⟨b,3,none⟩ = some (.slice none 0 0) ∧ w.cell? ⟨b,4,none⟩ = some (.int .i64 0) ∧ w.cell? ⟨b,5,none⟩ = some (.int .i64 0) ∧ w.cell? ⟨b,6,none⟩ = some (.bool false) ∧ w.cell? ⟨b,7,none⟩ = some (.int .i64 0) ∧ w.cell? ⟨b,8,none⟩ = some (.string ⟨#[]⟩):=
 ⟨Joins.cell_of_block h 0,Joins.cell_of_block h 1,Joins.cell_of_block h 2,Joins.cell_of_block h 3,Joins.cell_of_block h 4,Joins.cell_of_block h 5,Joins.cell_of_block h 6,Joins.cell_of_block h 7,Joins.cell_of_block h 8⟩
set_option maxRecDepth 100000 in
set_option maxHeartbeats 4000000 in
theorem class94 {w:World} {m base n:Nat} {xs:List Value} (r1:Option Addr) (r3:Nat) (h:MK w m base n xs) (hm:base ≤ m) (hn:n ≤ 20000) (hb:base ≤ w.heap.size) :
  Calls Tryz.prog 204 #[pt m,(CN r1 1 r3).v] w fun e w' => e = .returned (.tuple #[]) ∧ MK w' m base (n + 1) (xs ++ Iv.cs ⟨1,(n:Int) + 1,0,0,r1,1,r3⟩) ∧ Fr base w w':=by
 obtain ⟨U,hU⟩:∃ U,U = w.alloc (.cells (Array.mk (CN r1 1 r3).cs) 25):=⟨_,rfl⟩
 have hbU:Below w.heap.size w U:=by rw [hU];exact Joins.below_alloc1 w _
 have hQ:BxC U w.heap.size r1 1 r3:=by rw [hU];exact heap_alloc_new w _
 have HS:∀ W,Below U.heap.size U W → Calls Tryz.prog 93 #[pt m,(⟨1,0,0,0,r1,1,r3⟩:Iv).v] W fun e w' => e = .returned (.tuple #[]) ∧ MK w' m base (n + 1) (xs ++ Iv.cs ⟨1,(n:Int) + 1,0,0,r1,1,r3⟩) ∧ Fr base W w':=fun W hW =>
  step48 1 0 0 r1 1 r3 ((h.below hbU).below hW) hm hn (Nat.le_trans hb (Nat.le_trans hbU.size hW.size))
 have HF:=hid (Fr.of_below hbU hb)
 have HSS:=hid HS
 have hbU2:base ≤ U.heap.size:=Nat.le_trans hb hbU.size
 obtain ⟨c0,c1,c2,c3,c4,c5,c6,c7,c8⟩:=ninec hQ
 obtain ⟨p,hp⟩:∃ p,p = w.heap.size:=⟨_,rfl⟩
 clear h hbU hQ HS
 go_enter Tryz.func204,Tryz.ntmps204
 go_upto_region 1 with fail
 rw [← hU,← hp]
 rw [← hp] at c0 c1 c2 c3 c4 c5 c6 c7 c8
 clear hU hp
 go_upto_region 3 with fail
 go_region_with (first | (go_at_call 93;(with_reducible refine (HSS.out _ ?_).mono ?_);(exact ⟨rfl,rfl,rfl,Nat.le_refl _,fun _ _ => rfl⟩);rintro e w3 ⟨rfl,hM,hf⟩;have HM:=hid hM;have HF3:=hid hf;clear hM hf))
 all_goals go_wp2_with fail
 all_goals go_end0
 all_goals exact ⟨rfl,HM.out,HF.out.trans ((Fr.of_below (w:=U) (w':=U.drew) ⟨rfl,rfl,rfl,Nat.le_refl _,fun _ _ => rfl⟩ hbU2).trans HF3.out)⟩
set_option maxRecDepth 100000 in
set_option maxHeartbeats 4000000 in
theorem way75 (m:Nat) (r1:Option Addr) (r3:Nat) (w:World):Calls Tryz.prog 138 #[pt m,(CN r1 1 r3).v] w fun e w' => e = .returned (.func (.func 204) #[pt m] #[]) ∧ Below w.heap.size w w':=by
 go_enter Tryz.func138,Tryz.ntmps138
 go_wp2
 all_goals go_ret
 all_goals exact ⟨rfl,Joins.below_alloc1 w _⟩
set_option maxRecDepth 100000 in
set_option maxHeartbeats 4000000 in
theorem lay49 {w:World} {m base n:Nat} {xs:List Value} (r1:Option Addr) (r3:Nat) (h:MK w m base n xs) (hm:base ≤ m) (hn:n ≤ 20000) (hb:base ≤ w.heap.size) :
  Calls Tryz.prog 94 #[pt m,(CN r1 1 r3).v] w fun e w' => e = .returned (.tuple #[]) ∧ MK w' m base (n + 1) (xs ++ Iv.cs ⟨1,(n:Int) + 1,0,0,r1,1,r3⟩) ∧ Fr base w w':=by
 obtain ⟨U,hU⟩:∃ U,U = w.alloc (.cells (Array.mk (CN r1 1 r3).cs) 25):=⟨_,rfl⟩
 have hbU:Below w.heap.size w U:=by rw [hU];exact Joins.below_alloc1 w _
 have hQ:BxC U w.heap.size r1 1 r3:=by rw [hU];exact heap_alloc_new w _
 have hpU:w.heap.size < U.heap.size:=(Array.getElem?_eq_some_iff.1 hQ).1
 have HS:∀ W,Below U.heap.size U W → Calls Tryz.prog 204 #[pt m,(CN r1 1 r3).v] W fun e w' => e = .returned (.tuple #[]) ∧ MK w' m base (n + 1) (xs ++ Iv.cs ⟨1,(n:Int) + 1,0,0,r1,1,r3⟩) ∧ Fr base W w':=fun W hW =>
  class94 r1 r3 ((h.below hbU).below hW) hm hn (Nat.le_trans hb (Nat.le_trans hbU.size hW.size))
 have HF:=hid (Fr.of_below hbU hb)
 have HSS:=hid HS
 have HW:=fun W => way75 m r1 r3 W
 have hbU2:base ≤ U.heap.size:=Nat.le_trans hb hbU.size
 have HQ:=hid hQ
 obtain ⟨c0,c1,c2,c3,c4,c5,c6,c7,c8⟩:=ninec hQ
 obtain ⟨p,hp⟩:∃ p,p = w.heap.size:=⟨_,rfl⟩
 clear h hbU hQ HS
 go_enter Tryz.func94,Tryz.ntmps94
 go_upto_region 1 with fail
 rw [← hU,← hp]
 rw [← hp] at c0 c1 c2 c3 c4 c5 c6 c7 c8 hpU HQ
 clear hU hp
 go_region_held3 (fun W => W.cell? ⟨p,0,none⟩ = some (.int .i64 2) ∧ W.cell? ⟨p,1,none⟩ = some (.slice r1 1 r3) ∧ W.cell? ⟨p,2,none⟩ = some (.int .i64 0) ∧ W.cell? ⟨p,3,none⟩ = some (.slice none 0 0) ∧ W.cell? ⟨p,4,none⟩ = some (.int .i64 0) ∧ W.cell? ⟨p,5,none⟩ = some (.int .i64 0) ∧ W.cell? ⟨p,6,none⟩ = some (.bool false) ∧ W.cell? ⟨p,7,none⟩ = some (.int .i64 0) ∧ W.cell? ⟨p,8,none⟩ = some (.string ⟨#[]⟩)) (first | (exact ⟨j0,j1,j2,j3,j4,j5,j6,j7,j8⟩) | (exact ⟨k0,k1,k2,k3,k4,k5,k6,k7,k8⟩) | (simp [*];done)) (first | (go_at_call 138;(with_reducible refine (HW _).mono ?_);rintro e w2 ⟨rfl,hb2⟩;have hbb:Below U.heap.size U w2:=⟨hb2.os,hb2.tape,hb2.output,hb2.size,hb2.block⟩;obtain ⟨k0,k1,k2,k3,k4,k5,k6,k7,k8⟩:=ninec ((hbb.block p hpU).trans HQ.out);have HC:=HSS.out w2 hbb;have HBB:=hid hbb;clear hbb hb2) | (go_at_call 204;(with_reducible refine HC.mono ?_);rintro e w3 ⟨rfl,hM,hf⟩;obtain ⟨j0,j1,j2,j3,j4,j5,j6,j7,j8⟩:=ninec (hf.blk p _ _ _ ((HBB.out.block p hpU).trans HQ.out) (by decide) (by decide));have HM:=hid hM;have HF3:=hid hf;clear hM hf))
 all_goals go_wp2_with fail
 all_goals go_end0
 all_goals exact ⟨rfl,HM.out,HF.out.trans ((Fr.of_below HBB.out hbU2).trans HF3.out)⟩
set_option maxRecDepth 100000 in
set_option maxHeartbeats 4000000 in
theorem whole32 {w:World} {m base:Nat} (r1:Option Addr) (r3:Nat) (h:MK w m base 0 []) (hm:base ≤ m) (hb:base ≤ w.heap.size) :
  Calls Tryz.prog 54 #[pt m,(CN r1 1 r3).v] w fun e w' => e = .returned (.tuple #[]) ∧ MK w' m base 4 (Iv.cs ⟨3,1,0,0,none,0,0⟩ ++ Iv.cs ⟨1,2,0,0,r1,1,r3⟩ ++ Iv.cs ⟨3,3,0,1,none,0,0⟩ ++ Iv.cs ⟨5,0,0,0,none,0,0⟩) ∧ Fr base w w':=by
 obtain ⟨U,hU⟩:∃ U,U = w.alloc (.cells (Array.mk (CN r1 1 r3).cs) 25):=⟨_,rfl⟩
 have hbU:Below w.heap.size w U:=by rw [hU];exact Joins.below_alloc1 w _
 have hQ:BxC U w.heap.size r1 1 r3:=by rw [hU];exact heap_alloc_new w _
 have HF:=hid (Fr.of_below hbU hb)
 have hbU2:base ≤ U.heap.size:=Nat.le_trans hb hbU.size
 have H1:=step48 3 0 0 none 0 0 (h.below hbU) hm (by omega) hbU2
 have HQ:=hid hQ
 obtain ⟨p,hp⟩:∃ p,p = w.heap.size:=⟨_,rfl⟩
 clear h hbU hQ
 go_enter Tryz.func54,Tryz.ntmps54
 go_upto_region 1 with fail
 rw [← hU,← hp]
 rw [← hp] at HQ
 clear hU hp
 go_upto_region 2 with (go_at_call 93;(with_reducible refine H1.mono ?_);rintro e U1 ⟨rfl,hM,hf⟩;have HM1:=hid hM;have HF1:=hid hf;clear hM hf H1)
 have HQ1:Hid (BxC U1 p r1 1 r3):=HF1.out.blk p _ _ _ HQ.out (by decide) (by decide)
 have hb1:base ≤ U1.heap.size:=Nat.le_trans hbU2 HF1.out.size
 have H2:=lay49 r1 r3 HM1.out hm (by omega) hb1
 obtain ⟨c0,c1,c2,c3,c4,c5,c6,c7,c8⟩:=ninec HQ1.out
 go_upto_region 3 with (go_at_call 94;(with_reducible refine H2.mono ?_);rintro e U2 ⟨rfl,hM,hf⟩;have HM2:=hid hM;have HF2:=hid hf;clear hM hf H2)
 clear c0 c1 c2 c3 c4 c5 c6 c7 c8
 have hb2:base ≤ U2.heap.size:=Nat.le_trans hb1 HF2.out.size
 have H3:=step48 3 0 1 none 0 0 HM2.out hm (by omega) hb2
 go_upto_region 4 with (go_at_call 93;(with_reducible refine H3.mono ?_);rintro e U3 ⟨rfl,hM,hf⟩;have HM3:=hid hM;have HF3:=hid hf;clear hM hf H3)
 have hb3:base ≤ U3.heap.size:=Nat.le_trans hb2 HF3.out.size
 have H4:=add42' ⟨5,0,0,0,none,0,0⟩ HM3.out hm (by omega) hb3
 go_wp2_with (first | (go_at_call 95;(with_reducible refine H4.mono ?_);rintro e U4 ⟨rfl,hM,hf⟩;have HM4:=hid hM;have HF4:=hid hf;clear hM hf H4))
 go_end0
 exact ⟨rfl,by simpa using HM4.out,HF.out.trans (HF1.out.trans (HF2.out.trans (HF3.out.trans HF4.out)))⟩
set_option maxRecDepth 100000 in
set_option maxHeartbeats 4000000 in
theorem newRow31 (w:World):Calls Tryz.prog 53 #[.int .i64 4] w fun e w' => ∃ z1 c,e = .returned (.agg #[.slice z1 0 c]) ∧ w'.ownsRow w.heap.size 86 5 (.slice z1 0 c) 0 [] ∧ Below w.heap.size w w':=by
 have hmk:=make51 4 (by omega) (w.alloc (.cells #[.slice none 0 0] 90))
 have e4:((4:Nat):Int) = 4:=rfl
 rw [e4] at hmk
 have hs0:(w.alloc (.cells #[.slice none 0 0] 90)).heap.size = w.heap.size + 1:=by simp
 have hown0:=made_own51 4 (by unfold maxLen;omega) w.heap.size (w.alloc (.cells #[.slice none 0 0] 90)) (by simp)
 rw [hs0] at hmk hown0
 clear hs0 e4
 have hQ:((w.alloc (.cells #[.slice none 0 0] 90)).alloc (.cells (madeCells Z5.cells (4 * 5)) 86)).heap[w.heap.size]? = some (.cells #[.slice none 0 0] 90 (0,0)):=(heap_alloc_old _ _ (by simp)).trans (heap_alloc_new w _)
 have hbV:Below w.heap.size w ((w.alloc (.cells #[.slice none 0 0] 90)).alloc (.cells (madeCells Z5.cells (4 * 5)) 86)):=below_two' w _ _
 obtain ⟨V,hV⟩:∃ V,V = (w.alloc (.cells #[.slice none 0 0] 90)).alloc (.cells (madeCells Z5.cells (4 * 5)) 86):=⟨_,rfl⟩
 rw [← hV] at hmk hown0 hQ hbV
 have f0:=Joins.unfrozen_of_block hQ 0
 have k0:=Joins.cell_of_block hQ 0
 have HQ:=hid hQ
 have HB:=hid hbV
 have HO:=hid hown0
 clear hV hown0 hQ hbV
 go_enter Tryz.func53,Tryz.ntmps53
 go_wp2_with fail
 refine bodyPost_ret (results_cell_row rfl _ _ w.heap.size 90 _ (0,0) _ rfl (Joins.block_setCell (i:=0) HQ.out _) Tryz.underlying90 rfl (by kernel_rfl)) rfl ?_
 exact ⟨some ⟨w.heap.size + 1,0,none⟩,4,rfl,own_setCell HO.out (fun e => by simp [Value.ownBlock] at e),HB.out.setCell (p:=⟨w.heap.size,0,none⟩) (Nat.le_refl _) _⟩
end Go.Proofs.YtacaanhnlfpbhaaGreat
