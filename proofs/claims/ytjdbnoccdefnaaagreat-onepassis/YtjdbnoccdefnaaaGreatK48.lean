/- HELPERS: texts of ours put together. -/
import Derived.Test.YtjdbnoccdefnaaaGreatK42
import Derived.LoopN
import Derived.Deep.OwnRows
import Derived.Laws.IdiomCopy
import Derived.Laws.BitsLemmas
namespace Go.Proofs.YtjdbnoccdefnaaaGreat
open Go.RowKit
set_option linter.unusedVariables false
set_option linter.unusedSimpArgs false
theorem size3:(Tryz.prog.info? 3).map (·.size) = some 1:=by kernel_rfl
abbrev M1:Value:=.int .i64 (-1)
theorem copy_one (W:World) (b o dl dc sc:Nat) (a:Addr) (hs:W.cell? (a.add 0) = some M1) (hd:(W.cell? ⟨b,o,none⟩).isSome = true) (hf:W.frozen? ⟨b,o,none⟩ = false) (hdl:1 ≤ dl) :
    (Builtin.copy_ #[30,30] 3 #[.slice (some ⟨b,o,none⟩) dl dc,.slice (some a) 1 sc]).run Tryz.prog W = .ok (.int .i64 1) (W.setCell ⟨b,o,none⟩ M1):=by
  have h:=run_copy_cells (P:=Tryz.prog) W 30 30 3 3 b o dl dc a 1 sc [M1] Tryz.underlying30 size3 (by simp [Nat.min_def];omega) (by intro j v hj;match j,hj with | 0,hj => simp at hj;subst hj;exact hs) (by intro j hj;simp at hj;subst hj;exact hd) (by intro j hj;simp at hj;subst hj;exact hf) (by intro v hv;simp at hv;subst hv;rfl)
  exact h
theorem u64_small (n:Int) (h0:0 ≤ n) (h1:n < 2 ^ 40):IntKind.u64.wrap n = n:=by
  simp [IntKind.wrap,IntKind.bits,IntKind.signed]
  omega
theorem and32 (c:Nat) (hc:c ≤ 10000):bits .and .u64 (c:Int) 4294967295 = (c:Int):=by
  have h:=bits_mask .u64 40 (by decide) u64_small 32 (by decide) (c:Int) (by omega) (by omega)
  have e:((2:Int) ^ 32 - 1) = 4294967295:=by decide
  rw [e] at h
  rw [h]
  omega
set_option maxRecDepth 100000 in
set_option maxHeartbeats 2000000 in
theorem mul88g (c:Nat) (hc:c ≤ 10000) (w:World):Calls Tryz.prog 78 #[.int .u64 1,.int .u64 (c:Int)] w fun e w' => e = .returned (.tuple #[.int .u64 0,.int .u64 (c:Int)]) ∧ w' = w:=by
  have a1:bits .and .u64 1 4294967295 = 1:=and32 1 (by omega)
  have a2:=and32 c hc
  have a0:bits .and .u64 0 4294967295 = 0:=and32 0 (by omega)
  have wc:IntKind.u64.wrap (c:Int) = (c:Int):=u64_small _ (by omega) (by omega)
  have w0:IntKind.u64.wrap 0 = 0:=u64_small _ (by omega) (by omega)
  have d1:(c:Int) / 4294967296 = 0:=by omega
  go_enter Tryz.func78,Tryz.ntmps78
  go_wp2
  go_ret2
  refine ⟨?_,rfl⟩
  simp [a1,a2,a0,wc,w0,d1]
set_option maxRecDepth 100000 in
set_option maxHeartbeats 2000000 in
theorem mul63g (c:Nat) (hc:c ≤ 10000) (w:World):Calls Tryz.prog 56 #[.int .u64 1,.int .u64 (c:Int)] w fun e w' => e = .returned (.tuple #[.int .u64 0,.int .u64 (c:Int)]) ∧ w' = w:=by
  have HC:=mul88g c hc
  have wc:IntKind.u64.wrap (c:Int) = (c:Int):=u64_small _ (by omega) (by omega)
  go_enter Tryz.func56,Tryz.ntmps56
  go_wp2_with (go_at_call 78;(with_reducible refine (HC _).mono ?_);rintro e w' ⟨rfl,rfl⟩)
  go_ret2
  exact ⟨rfl,rfl⟩
theorem makeN (c:Nat) (hc:c ≤ 10000) (w:World):(Instr.makeSlice 30 (.int .i64 (c:Int)) (.int .i64 (c:Int))).run Tryz.prog w = .ok (.slice (some ⟨w.heap.size,0,none⟩) c c) (w.alloc (.cells (madeCells #[.int .i64 0] c) 3)):=
  run_make_row' (P:=Tryz.prog) 30 3 (.int .i64 0) 8 Tryz.underlying30 info3 rfl .i64 .i64 c (by omega) (by omega) w
theorem below_setC {B b:Nat} {a:World} (hb:B ≤ b):∀ (vs:List Value) (o:Nat) (w:World),Below B a w → Below B a (w.setCells b o vs)
  | [],_,_,h => h
  | v :: vs,o,w,h => below_setC hb vs (o + 1) _ (h.setCell (by exact hb) v)
def RI (nb c n:Nat) (W:World):Prop:=∃ arr:Array Value,W.heap[nb]? = some (.cells arr 3 (0,0)) ∧ arr.size = c ∧ ∀ i,i < n → arr[i]? = some M1
theorem RI.next {nb c n:Nat} {W:World} (h:RI nb c n W) (hn:n < c):RI nb c (n + 1) (W.setCell ⟨nb,n,none⟩ M1):=by
  obtain ⟨arr,h1,h2,h3⟩:=h
  refine ⟨arr.setIfInBounds n M1,Joins.block_setCell (i:=n) h1 _,by simp [h2],fun i hi => ?_⟩
  by_cases e:i = n
  · subst e;simp [h2,hn]
  · rw [Array.getElem?_setIfInBounds_ne (by omega)];exact h3 i (by omega)
theorem RI.more {nb c:Nat}:∀ (k n:Nat) {W:World},RI nb c n W → n + k ≤ c → RI nb c (n + k) (W.setCells nb n (List.replicate k M1)):=by
  intro k
  induction k with
  | zero => intro n W h _;exact h
  | succ k ih =>
    intro n W h hk
    rw [List.replicate_succ,World.setCells]
    have:=ih (n + 1) (h.next (by omega)) (by omega)
    rwa [show n + 1 + k = n + (k + 1) by omega] at this
theorem RI.cell {nb c n:Nat} {W:World} (h:RI nb c n W) {i:Nat} (hi:i < n):W.cell? ⟨nb,i,none⟩ = some M1:=by
  obtain ⟨arr,h1,h2,h3⟩:=h
  rw [Joins.cell_of_block h1 i]
  exact h3 i hi
theorem RI.some {nb c n:Nat} {W:World} (h:RI nb c n W) {i:Nat} (hi:i < c):(W.cell? ⟨nb,i,none⟩).isSome = true:=by
  obtain ⟨arr,h1,h2,h3⟩:=h
  rw [Joins.cell_of_block h1 i]
  simp [h2,hi]
theorem RI.free {nb c n:Nat} {W:World} (h:RI nb c n W) (i:Nat):W.frozen? ⟨nb,i,none⟩ = false:=by
  obtain ⟨arr,h1,h2,h3⟩:=h
  exact Joins.unfrozen_of_block h1 i
theorem copy_self (nb c n:Nat) (W:World) (h:RI nb c n W) (hn:1 ≤ n) (hnc:n ≤ c) :
    (Builtin.copy_ #[30,30] 3 #[.slice (some ⟨nb,n,none⟩) (c - n) (c - n),.slice (some ⟨nb,0,none⟩) n c]).run Tryz.prog W = .ok (.int .i64 ((min n (c - n):Nat):Int)) (W.setCells nb n (List.replicate (min n (c - n)) M1)):=by
  have h:=run_copy_cells (P:=Tryz.prog) W 30 30 3 3 nb n (c - n) (c - n) ⟨nb,0,none⟩ n c (List.replicate (min n (c - n)) M1) Tryz.underlying30 size3 (by simp) (by
      intro j v hj
      have hj':j < min n (c - n):=by
        have:=(List.getElem?_eq_some_iff.1 hj).1
        simpa using this
      simp [hj'] at hj
      subst hj
      have:=h.cell (i:=j) (by omega)
      rw [show ((⟨nb,0,none⟩:Addr).add j) = ⟨nb,j,none⟩ by by_cases e:j = 0 <;> simp [Addr.add,e]]
      exact this) (by intro j hj;simp at hj;exact h.some (by omega)) (by intro j hj;exact h.free _) (by intro v hv;simp at hv;obtain ⟨_,rfl⟩:=hv;rfl)
  simpa [goInt] using h
set_option maxRecDepth 100000 in
set_option maxHeartbeats 2000000 in
theorem repeat51g (xb cap c:Nat) (hc1:1 ≤ c) (hc2:c ≤ 10000) (w:World) (hx:w.cell? ⟨xb,0,none⟩ = some (.int .i64 (-1))) (hxl:xb < w.heap.size) :
    Calls Tryz.prog 43 #[.slice (some ⟨xb,0,none⟩) 1 cap,.int .i64 (c:Int)] w fun e w' => e = .returned (.slice (some ⟨w.heap.size,0,none⟩) c c) ∧ Below w.heap.size w w' ∧ RI w.heap.size c c w':=by
  have HC:=mul63g c hc2 w
  have hmk:=makeN c hc2 w
  have wc:IntKind.u64.wrap (c:Int) = (c:Int):=u64_small _ (by omega) (by omega)
  have wi:IntKind.i64.wrap (c:Int) = (c:Int):=by simp [IntKind.wrap,IntKind.bits,IntKind.signed];omega
  obtain ⟨nb,hnb⟩:∃ nb,nb = w.heap.size:=⟨_,rfl⟩
  obtain ⟨V0,hV0⟩:∃ V,V = w.alloc (.cells (madeCells #[.int .i64 0] c) 3):=⟨_,rfl⟩
  obtain ⟨V1,hV1⟩:∃ V,V = V0.setCell ⟨nb,0,none⟩ M1:=⟨_,rfl⟩
  have h0:RI nb c 0 V0:=by rw [hV0,hnb];exact ⟨_,heap_alloc_new w _,by simp [madeCells],fun i hi => by omega⟩
  have h1:RI nb c 1 V1:=by rw [hV1];exact h0.next (by omega)
  have hB1:Below w.heap.size w V1:=by
    rw [hV1,hV0]
    exact (Joins.below_alloc1 w _).setCell (by show w.heap.size ≤ nb;omega) _
  have k1:(Builtin.copy_ #[30,30] 3 #[.slice (some ⟨nb,0,none⟩) c c,.slice (some ⟨xb,0,none⟩) 1 cap]).run Tryz.prog V0 = .ok (.int .i64 1) V1:=by
    rw [hV1]
    exact copy_one V0 nb 0 c c cap ⟨xb,0,none⟩ (by rw [hV0];exact (World.cell?_alloc_lt _ _ _ hxl).trans hx) (h0.some (by omega)) (h0.free 0) (by omega)
  rw [← hV0,← hnb] at hmk
  rw [← hnb]
  have HB1:=hid hB1
  have H1:=hid h1
  have HNB:=hid hnb
  clear h0 h1 hB1 hV0 hV1 hnb hx
  go_enter Tryz.func43,Tryz.ntmps43
  go_wp2_with (go_at_call 56;(with_reducible refine HC.mono ?_);rintro e w' ⟨rfl,hw'⟩;rw [hw'];clear hw' HC)
  go_loopw [8] (fun x wq => ∃ n:Nat,x = .int .i64 (n:Int) ∧ 1 ≤ n ∧ n ≤ c ∧ Hid (RI nb c n wq ∧ Below w.heap.size w wq)) (fun x _ => c - (intOf x).toNat)
  case atStart => exact ⟨1,rfl,by omega,by omega,by exact ⟨H1.out,HB1.out⟩⟩
  case round =>
    obtain ⟨n,rfl,hn1,hnc,HI⟩:=hrel
    by_cases hlt:n < c
    · have b1:decide ((n:Int) < (c:Int)) = true:=by simp;omega
      have b2:(n:Int) < (c:Int):=by omega
      have kc:=copy_self nb c n wr.drew (by exact HI.out.1) hn1 hnc
      have ad:IntKind.i64.wrap ((n:Int) + ((min n (c - n):Nat):Int)) = ((n + min n (c - n):Nat):Int):=by simp [IntKind.wrap,IntKind.bits,IntKind.signed];omega
      have i1:(n:Int) ≤ (c:Int):=by omega
      have i0:(0:Int) ≤ (n:Int):=by omega
      go_wp2_with fail
      go_region
      all_goals
        go_wp2
        refine ⟨⟨n + min n (c - n),by push_cast;rfl,by omega,by omega,by exact ⟨RI.more _ _ (show RI nb c n wr.drew from HI.out.1) (by omega),below_setC (by have:=HNB.out;omega) _ _ _ HI.out.2.drew⟩⟩,by simp [intOf];omega⟩
    · have b1:decide ((n:Int) < (c:Int)) = false:=by simp;omega
      obtain rfl:n = c:=by omega
      go_wp2
      go_ret
      refine ⟨rfl,?_,HI.out.1⟩
      rw [HNB.out]
      exact HI.out.2
end Go.Proofs.YtjdbnoccdefnaaaGreat
