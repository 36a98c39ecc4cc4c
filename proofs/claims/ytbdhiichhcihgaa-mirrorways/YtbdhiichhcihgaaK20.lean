/- HELPERS: texts of ours put together. -/
import Derived.Test.YtbdhiichhcihgaaK19
import Derived.Test.YtbdhiichhcihgaaK01
import Derived.Test.YtbdhiichhcihgaaK17
import Derived.Test.YtbdhiichhcihgaaProg
import Derived.Test.YtbdhiichhcihgaaK13
import Derived.Test.YtbdhiichhcihgaaK04
import Derived.ProofKit
import Derived.BigQuiet
import Derived.WalkSmall
import Derived.Deep.QuietTactic
import Derived.Deep.RegionWith
import Derived.Laws.EntriesVeiled
import Derived.Deep.WholeRow
namespace Go.Proofs.Ytbdhiichhcihgaa
open Go.RowKit
set_option linter.unusedVariables false
set_option linter.unusedSimpArgs false
abbrev O2 (R:List (Int × Int)):List Value:=R.flatMap fun x => [.int .i64 x.1,.int .i64 x.2]
theorem O2_len (R:List (Int × Int)):(O2 R).length = R.length * 2:=by
 induction R with
 | nil => rfl
 | cons x R ih => simp only [O2,List.flatMap_cons,List.length_append,List.length_cons,List.length_nil] at ih ⊢;omega
theorem O2_at:∀ (R:List (Int × Int)) (i:Nat) (hi:i < R.length),(O2 R)[i * 2]? = some (.int .i64 R[i].1) ∧ (O2 R)[i * 2 + 1]? = some (.int .i64 R[i].2):=by
 intro R
 induction R with
 | nil => intro i hi;simp at hi
 | cons x R ih =>
  intro i hi
  cases i with
  | zero => simp [O2]
  | succ i =>
   have:=ih i (by simpa using hi)
   have hf:O2 (x :: R) = [.int .i64 x.1,.int .i64 x.2] ++ O2 R:=by simp [O2]
   rw [hf,show (i + 1) * 2 = i * 2 + 2 by omega,List.getElem?_append_right (by simp),show i * 2 + 2 + 1 = i * 2 + 1 + 2 by omega,List.getElem?_append_right (by simp)]
   simpa using this
theorem O2_one (R:List (Int × Int)):∀ u ∈ O2 R,u.oneCell' = true:=by
 intro u hu
 simp only [O2,List.mem_flatMap] at hu
 obtain ⟨x,_,hx⟩:=hu
 simp at hx
 rcases hx with rfl | rfl <;> rfl
abbrev Nv.rb (N:Nv):Option Nat:=(Value.slice N.r1 N.r2 N.r3).ownBlock
abbrev Nv.sb (N:Nv):Option Nat:=(Value.slice N.s1 N.s2 N.s3).ownBlock
inductive TO (w:World):Nv → Tn → (Nat → Prop) → Prop
 | mk {N:Nv} {R:List (Int × Int)} {ts:List Tn} {ND:Nat → Nv} {AS:Nat → Nat → Prop} (ok:N.ok) (hRk:∀ x ∈ R,I64ok x.1 ∧ I64ok x.2)
   (rr:w.ownsRow 0 39 2 (.slice N.r1 N.r2 N.r3) R.length (O2 R)) (sr:w.ownsRow 0 25 9 (.slice N.s1 N.s2 N.s3) ts.length (((List.range ts.length).map ND).flatMap Nv.cs))
   (hk:∀ i (hi:i < ts.length),TO w (ND i) ts[i] (AS i))
   (d1:∀ i j b,i < ts.length → j < ts.length → i ≠ j → AS i b → ¬ AS j b)
   (d2:∀ b,N.rb = some b → N.sb ≠ some b)
   (d3:∀ i b,i < ts.length → AS i b → N.rb ≠ some b ∧ N.sb ≠ some b) :
   TO w N (.mk N.k R N.a2 ts N.a4 N.a5 N.a6 N.a7 N.a8) (fun b => N.rb = some b ∨ N.sb = some b ∨ ∃ i,i < ts.length ∧ AS i b)
theorem TO.kept {w w':World} {N:Nv} {t:Tn} {A:Nat → Prop} (h:TO w N t A) (hk:∀ b,A b → w'.heap[b]? = w.heap[b]?):TO w' N t A:=by
 induction h with
 | mk ok hRk rr sr hkk d1 d2 d3 ih =>
  exact .mk ok hRk (row_kept rr fun b hb => hk b (.inl hb)) (row_kept sr fun b hb => hk b (.inr (.inl hb))) (fun i hi => ih i hi fun b hb => hk b (.inr (.inr ⟨i,hi,hb⟩))) d1 d2 d3
theorem TO.low {w:World} {N:Nv} {t:Tn} {A:Nat → Prop} (h:TO w N t A):∀ b,A b → b < w.heap.size:=by
 induction h with
 | mk ok hRk rr sr hkk d1 d2 d3 ih =>
  rintro b (h | h | ⟨i,hi,h⟩)
  ·exact (rr.lt b h).2
  ·exact (sr.lt b h).2
  ·exact ih i hi b h
theorem TO.ok {w:World} {N:Nv} {t:Tn} {A:Nat → Prop} (h:TO w N t A):N.ok:=by cases h;assumption
theorem row_len {w:World} {base e size n:Nat} {a:Option Addr} {l c:Nat} {xs:List Value} (h:w.ownsRow base e size (.slice a l c) n xs):l = n:=by
 rcases h.2 with ⟨e,h0⟩ | ⟨g,cap,cur,e,_⟩
 ·simp only [Value.slice.injEq] at e;omega
 ·simp only [Value.slice.injEq] at e;omega
theorem row_nine {w:World} {base n:Nat} {a:Option Addr} {l c:Nat} {MS:List Nv} (h:w.ownsRow base 25 9 (.slice a l c) n (MS.flatMap Nv.cs)) (hn:n = MS.length) (hp:0 < n):∃ b,a = some ⟨b,0,none⟩ ∧ (Value.slice a l c).ownBlock = some b ∧ ∀ i (hi:i < MS.length),N9 w b 0 i MS[i]:=by
 rcases h.2 with ⟨e,h0⟩ | ⟨b,cap,cur,e,_⟩
 ·omega
 ·rw [e] at h
  simp only [Value.slice.injEq] at e
  refine ⟨b,e.1,by rw [e.1];rfl,fun i hi => ?_⟩
  have c:∀ k,k < 9 → w.cell? ⟨b,0 + i * 9 + k,none⟩ = (Nv.cs MS[i])[k]?:=fun k hk => by
   rw [Nat.zero_add,h.cellAt (i * 9 + k) (by omega),flat9 MS i k hi hk]
  exact ⟨c 0 (by omega),c 1 (by omega),c 2 (by omega),c 3 (by omega),c 4 (by omega),c 5 (by omega),c 6 (by omega),c 7 (by omega),c 8 (by omega)⟩
theorem TO.tp {w:World} {N:Nv} {t:Tn} {A:Nat → Prop} (h:TO w N t A):TP w A N t:=by
 induction h with
 | @mk N R ts ND AS ok hRk rr sr hkk d1 d2 d3 ih =>
  refine .mk (ND:=ND) ok (row_len rr) (fun hn => ?_) hRk (row_len sr) (fun hp => ?_) (fun i hi => (ih i hi).kept (fun _ _ => rfl) fun b hb => .inr (.inr ⟨i,hi,hb⟩))
  ·rcases rr.2 with ⟨e,h0⟩ | ⟨b,cap,cur,e,_⟩
   ·exact absurd (List.length_eq_zero_iff.1 h0) hn
   ·have hrow:=rr
    rw [e] at hrow
    have e':=e
    simp only [Value.slice.injEq] at e
    refine ⟨b,0,e.1,.inl (by show (Value.slice N.r1 N.r2 N.r3).ownBlock = some b;rw [e'];rfl),fun i hi => ?_⟩
    have:=O2_at R i hi
    rw [Nat.zero_add,hrow.cellAt (i * 2) (by omega),hrow.cellAt (i * 2 + 1) (by omega)]
    exact this
  ·obtain ⟨b,e1,e2,h9⟩:=row_nine sr (by simp) hp
   refine ⟨b,0,e1,.inr (.inl e2),fun i hi => ?_⟩
   have:=h9 i (by simpa using hi)
   simpa using this
theorem TO.ti {w:World} {N:Nv} {t:Tn} {A:Nat → Prop} (h:TO w N t A):TI w w.heap.size N t:=h.tp.ti h.low
theorem store25 {ops:Array Oper} {rest:List Oper} {op:Oper} {a:Act} {w:World} {Q:Exit → Act → World → Prop} (hgd:op.guard = none) (x y:Operand) (ho:op.op = .store 25 x y)
  (b i:Nat) (M:Nv) (hx:a.eval x = .pointer (some ⟨b,i * 9,none⟩)) (hy:a.eval y = M.v) (ht:w.there b (i * 9) 9)
  (h:wpList Try.prog ops Q rest (a.put op.dst undef) (w.setCells b (i * 9) (Nv.cs M))):wpList Try.prog ops Q (op :: rest) a w:=
 wpList_store_mid hgd 25 x y ho b (i * 9) #[.int .i64 M.k,.slice M.r1 M.r2 M.r3,.int .i64 M.a2,.slice M.s1 M.s2 M.s3,.int .i64 M.a4,.int .i64 M.a5,.bool M.a6,.int .i64 M.a7,.string M.a8] hx hy ht size25 (one9a M) h
set_option maxRecDepth 100000 in
set_option maxHeartbeats 4000000 in
theorem turned35 (n:Nat) (NS:Nat → Nv) (ad:Option Addr) (cap:Nat) (w:World) (hn:n ≤ 200000) (hs:0 < n → ∃ b o,ad = some ⟨b,o,none⟩ ∧ b < w.heap.size ∧ ∀ i,i < n → N9 w b o i (NS i)) :
  Calls Try.prog 24 #[.slice ad n cap] w fun e w' => e = .returned (.slice (some ⟨w.heap.size,0,none⟩) n n) ∧ FR w' w.heap.size n (fun i => NS (n - 1 - i)) ∧ Below w.heap.size w w':=by
 have hmk:=make9 n (by omega) w
 have h0:=FR.made w n
 have hB0:=Joins.below_alloc1 w (.cells (madeCells Z9.cells (n * 9)) 25)
 obtain ⟨V0,hV0⟩:∃ V,V = w.alloc (.cells (madeCells Z9.cells (n * 9)) 25):=⟨_,rfl⟩
 rw [← hV0] at h0 hB0 hmk
 obtain ⟨x,hx⟩:∃ x,x = w.heap.size:=⟨_,rfl⟩
 rw [← hx] at h0 hB0 hmk hs ⊢
 have H0:=hid h0
 have HB0:=hid hB0
 have HS:=hid hs
 have HX:=hid hx
 clear h0 hB0 hV0 hs hx
 go_enter Try.func24,Try.ntmps24
 go_wp2_with fail
 go_loopw [10] (fun y wq => ∃ i:Nat,y = .int .i64 (i:Int) ∧ i ≤ n ∧ Hid (∃ f,FR wq x n f ∧ ∀ j,j < i → f (n - 1 - j) = NS j) ∧ Hid (Below x w wq)) (fun y _ => n - (intOf y).toNat)
 case atStart => exact ⟨0,rfl,by omega,⟨_,H0.out,fun j hj => by omega⟩,HB0.out⟩
 case round =>
  obtain ⟨i,rfl,hi,HF,BK⟩:=hrel
  by_cases hil:i < n
  ·have b1:decide ((i:Int) < (n:Int)) = true:=by simp;omega
   have b2:(i:Int) < (n:Int):=by omega
   have s1:IntKind.i64.wrap ((n:Int) - 1) = ((n - 1:Nat):Int):=by simp [IntKind.wrap,IntKind.bits,IntKind.signed];omega
   have s2:IntKind.i64.wrap (((n - 1:Nat):Int) - (i:Int)) = ((n - 1 - i:Nat):Int):=by simp [IntKind.wrap,IntKind.bits,IntKind.signed];omega
   have b3:((n - 1 - i:Nat):Int) < (n:Int):=by omega
   have ad1:IntKind.i64.wrap ((i:Int) + 1) = (i:Int) + 1:=by simp [IntKind.wrap,IntKind.bits,IntKind.signed];omega
   obtain ⟨b,o,rfl,hb,hc⟩:=HS.out (by omega)
   obtain ⟨f,hF,hf⟩:=HF.out
   obtain ⟨n0,n1,n2,n3,n4,n5,n6,n7,n8⟩:=(hc i hil).kept (BK.out.block b hb)
   have ht:=hF.there (i:=n - 1 - i) (by omega)
   have hst:=hF.set (i:=n - 1 - i) (by omega) (NS i)
   obtain ⟨M,hM⟩:∃ M,M = NS i:=⟨_,rfl⟩
   rw [← hM] at n0 n1 n2 n3 n4 n5 n6 n7 n8 hst
   obtain ⟨q,hq⟩:∃ q,q = n - 1 - i:=⟨_,rfl⟩
   rw [← hq] at s2 b3 ht hst
   have HQ:=hid hq
   have HM:=hid hM
   have HST:=hid hst
   have HFF:=hid hf
   clear hc hF hf hM hq hst HF
   go_wp2_with ((with_reducible refine store25 rfl (.tmp 23) (.tmp 22) rfl x q M ?_ ?_ ht ?_);(rfl);(rfl))
   refine ⟨⟨i + 1,by push_cast;rfl,by omega,⟨_,HST.out,fun j hj => ?_⟩,Below.setCells (Nat.le_refl _) _ _ _ _ BK.out⟩,by simp [intOf];omega⟩
   by_cases e:j = i
   ·subst e;simp [HQ.out,HM.out]
   ·rw [if_neg (by rw [HQ.out];omega)];exact HFF.out j (by omega)
  ·have b1:decide ((i:Int) < (n:Int)) = false:=by simp;omega
   go_wp2
   go_ret
   obtain ⟨f,hF,hf⟩:=HF.out
   refine ⟨rfl,hF.as fun j hj => ?_,BK.out⟩
   have:=hf (n - 1 - j) (by omega)
   rwa [show n - 1 - (n - 1 - j) = j by omega] at this
set_option maxRecDepth 100000 in
set_option maxHeartbeats 4000000 in
theorem mirrors34 (n:Nat) (NS:Nat → Nv) (us:Nat → Tn) (ad:Option Addr) (cap:Nat) (w:World) (hn:n ≤ 200000) (hs:0 < n → ∃ b o,ad = some ⟨b,o,none⟩ ∧ b < w.heap.size ∧ ∀ i,i < n → N9 w b o i (NS i))
  (IH:Hid (∀ i,i < n → ∀ w1:World,w.heap.size ≤ w1.heap.size → (∀ b,b < w.heap.size → w1.heap[b]? = w.heap[b]?) → Calls Try.prog 14 #[(NS i).v] w1 fun e w' => ∃ M A,e = .returned (Nv.v M) ∧ TO w' M (us i) A ∧ (∀ b,A b → w1.heap.size ≤ b) ∧ Below w1.heap.size w1 w')) :
  Calls Try.prog 23 #[.slice ad n cap] w fun e w' => ∃ (MS:Nat → Nv) (AS:Nat → Nat → Prop),e = .returned (.slice (some ⟨w.heap.size,0,none⟩) n n) ∧ FR w' w.heap.size n MS ∧ (∀ i,i < n → TO w' (MS i) (us i) (AS i)) ∧ (∀ i b,i < n → AS i b → w.heap.size < b) ∧
   (∀ i j b,i < n → j < n → i ≠ j → AS i b → ¬ AS j b) ∧ Below w.heap.size w w':=by
 have hmk:=make9 n (by omega) w
 have h0:=FR.made w n
 have hB0:=Joins.below_alloc1 w (.cells (madeCells Z9.cells (n * 9)) 25)
 obtain ⟨V0,hV0⟩:∃ V,V = w.alloc (.cells (madeCells Z9.cells (n * 9)) 25):=⟨_,rfl⟩
 rw [← hV0] at h0 hB0 hmk
 obtain ⟨x,hx⟩:∃ x,x = w.heap.size:=⟨_,rfl⟩
 rw [← hx] at h0 hB0 hmk hs IH ⊢
 have H0:=hid h0
 have HB0:=hid hB0
 have HS:=hid hs
 have HX:=hid hx
 clear h0 hB0 hV0 hs hx
 go_enter Try.func23,Try.ntmps23
 go_wp2_with fail
 go_loopw [11] (fun y wq => ∃ i:Nat,y = .int .i64 (i:Int) ∧ i ≤ n ∧ Hid (∃ (MS:Nat → Nv) (AS:Nat → Nat → Prop),FR wq x n MS ∧ (∀ j,j < i → TO wq (MS j) (us j) (AS j)) ∧ (∀ j b,j < i → AS j b → x < b) ∧ (∀ j k b,j < i → k < i → j ≠ k → AS j b → ¬ AS k b)) ∧ Hid (Below x w wq)) (fun y _ => n - (intOf y).toNat)
 case atStart => exact ⟨0,rfl,by omega,⟨_,fun _ _ => False,H0.out,fun j hj => by omega,fun j b hj => by omega,fun j k b hj => by omega⟩,HB0.out⟩
 case round =>
  obtain ⟨i,rfl,hi,HF,BK⟩:=hrel
  by_cases hil:i < n
  ·have b1:decide ((i:Int) < (n:Int)) = true:=by simp;omega
   have b2:(i:Int) < (n:Int):=by omega
   have ad1:IntKind.i64.wrap ((i:Int) + 1) = (i:Int) + 1:=by simp [IntKind.wrap,IntKind.bits,IntKind.signed];omega
   obtain ⟨b,o,rfl,hb,hc⟩:=HS.out (by omega)
   obtain ⟨MS,AS,hF,hT,hA,hD⟩:=HF.out
   obtain ⟨n0,n1,n2,n3,n4,n5,n6,n7,n8⟩:=(hc i hil).kept (BK.out.block b hb)
   have hxl:=hF.lt
   have HC:=IH.out i hil (wr.alloc (.cells #[.int .i64 (NS i).k,.slice (NS i).r1 (NS i).r2 (NS i).r3,.int .i64 (NS i).a2,.slice (NS i).s1 (NS i).s2 (NS i).s3,.int .i64 (NS i).a4,.int .i64 (NS i).a5,.bool (NS i).a6,.int .i64 (NS i).a7,.string (NS i).a8] 25)) (by simp;omega) (fun b hb => (heap_alloc_old _ _ (by omega)).trans (BK.out.block b hb))
   obtain ⟨P,hP⟩:∃ P,P = NS i:=⟨_,rfl⟩
   rw [← hP] at HC n0 n1 n2 n3 n4 n5 n6 n7 n8
   have HFF:=hid hF
   have HTT:=hid hT
   have HAA:=hid hA
   have HDD:=hid hD
   clear hc hF hT hA hD hP HF
   go_wp2_with (first | (go_at_call 14;(with_reducible refine HC.mono ?_);rintro e w2 ⟨M,A,rfl,hM,hA2,hb2⟩;have ht:=(HFF.out.kept (w':=w2) ((hb2.block x (by simp;omega)).trans (heap_alloc_old _ _ hxl))).there (i:=i) hil;have HM:=hid hM;have HA2:=hid hA2;have HB2:=hid hb2;clear hM hA2 hb2 HC) | ((with_reducible refine store25 rfl (.tmp 20) (.tmp 19) rfl x i M ?_ ?_ ht ?_);(rfl);(rfl)))
   have hold:∀ k,k < wr.heap.size → w2.heap[k]? = wr.heap[k]?:=fun k hk => (HB2.out.block k (by simp;omega)).trans (heap_alloc_old _ _ hk)
   have hs2:wr.heap.size + 1 ≤ w2.heap.size:=by have:=HB2.out.size;simpa using this
   have hA2:∀ b,A b → wr.heap.size + 1 ≤ b:=fun b hb => by have:=HA2.out b hb;simpa using this
   have hb3:Below x w w2:=⟨HB2.out.os.trans BK.out.os,HB2.out.tape.trans BK.out.tape,HB2.out.output.trans BK.out.output,by have:=BK.out.size;omega,fun k hk => (hold k (by omega)).trans (BK.out.block k hk)⟩
   have hFR:=(HFF.out.kept (hold x hxl)).set (i:=i) hil M
   refine ⟨⟨i + 1,by push_cast;rfl,by omega,⟨_,fun j b => if j = i then A b else AS j b,hFR,fun j hj => ?_,fun j b hj h => ?_,fun j k b hj hk hne h h' => ?_⟩,Below.setCells (Nat.le_refl _) _ _ _ _ hb3⟩,by simp [intOf];omega⟩
   ·by_cases e:j = i
    ·subst e
     simp only [if_pos]
     exact HM.out.kept fun b hb => setCells_old x _ _ _ b (by have:=hA2 b hb;omega)
    ·simp only [if_neg e]
     exact (HTT.out j (by omega)).kept fun b hb => (setCells_old x _ _ _ b (by have:=HAA.out j b (by omega) hb;omega)).trans (hold b ((HTT.out j (by omega)).low b hb))
   ·by_cases e:j = i
    ·simp only [if_pos e] at h;have:=hA2 b h;omega
    ·simp only [if_neg e] at h;exact HAA.out j b (by omega) h
   ·by_cases e:j = i
    ·simp only [if_pos e] at h
     have e':k ≠ i:=by omega
     simp only [if_neg e'] at h'
     have:=hA2 b h
     have:=(HTT.out k (by omega)).low b h'
     omega
    ·simp only [if_neg e] at h
     by_cases e':k = i
     ·simp only [if_pos e'] at h'
      have:=hA2 b h'
      have:=(HTT.out j (by omega)).low b h
      omega
     ·simp only [if_neg e'] at h'
      exact HDD.out j k b (by omega) (by omega) hne h h'
  ·have b1:decide ((i:Int) < (n:Int)) = false:=by simp;omega
   obtain rfl:i = n:=by omega
   go_wp2
   go_ret
   obtain ⟨MS,AS,hF,hT,hA,hD⟩:=HF.out
   exact ⟨MS,AS,rfl,hF,hT,hA,hD,BK.out⟩
end Go.Proofs.Ytbdhiichhcihgaa
namespace Go.Proofs.Ytbdhiichhcihgaa
open Go.RowKit Go.Lk
set_option linter.unusedVariables false
set_option linter.unusedSimpArgs false
theorem wpList_store_new {P:Program} {ops:Array Oper} {rest:List Oper} {op:Oper} {a:Act} {w:World} {Q:Exit → Act → World → Prop} (hgd:op.guard = none) (ty:TypeId) (x y:Operand) (ho:op.op = .store ty x y)
  (c c':Array Value) (hx:a.eval x = .pointer (some ⟨w.heap.size,0,none⟩)) (hy:a.eval y = .agg c') (hi:(P.info? ty).map (·.size) = some c'.size) (hc:c.size = c'.size) (h1:c'.all (·.oneCell') = true)
  (h:wpList P ops Q rest (a.put op.dst undef) (w.alloc (.cells c' ty))):wpList P ops Q (op :: rest) a (w.alloc (.cells c ty)):=
 wpList_plain hgd fun K hK => by
  unfold Oper.wp execOp
  simp only [ho,hx,hy,Sem.run_bind,Sem.run_pure,Result.andThen_ok,run_storeAt_new w ty c c' hi hc h1]
  exact hK _ _ h
theorem results_cell1 {fn:Func} {p:Tmp} {ty:TypeId} (h:fn.results = #[.cell p ty]) (tmps:Array Value) (P:Program) (w:World) :
  (results fn tmps).run P w = ((asAddr (tmps.getD p undef)).run P w).andThen fun a w₁ => ((loadVar ty a).run P w₁).andThen fun v w₂ => .ok v w₂:=by
 simp only [results,h]
 simp [Sem.run_bind,Result.andThen]
 cases (asAddr (tmps[p]?.getD undef)).run P w with
 | halt h w => rfl
 | ok a w => show (loadVar ty a).run P w = _;cases h:(loadVar ty a).run P w <;> simp [h]
def fv (f:Nat):Value:=.func (.func f) #[] #[]
def rowsV:Array Value:=#[.int .i64 1,.int .i64 2,fv 49,.int .i64 2,.int .i64 1,fv 50,.int .i64 4,.int .i64 8,fv 51,.int .i64 8,.int .i64 4,fv 52,.int .i64 16,.int .i64 16,fv 53,.int .i64 32,.int .i64 32,fv 54]
theorem info37:(Try.prog.info? 75).map (·.size) = some 18:=by kernel_rfl
theorem one37:(rowsV.all (·.oneCell')) = true:=by simp [rowsV,fv,Value.oneCell']
set_option maxRecDepth 100000 in
theorem rows17 (w:World):Calls Try.prog 36 #[] w fun e w' => e = .returned (.agg rowsV) ∧ w' = w.alloc (.cells rowsV 75):=by
 go_enter Try.func36,Try.ntmps36
 go_wp2_with (refine wpList_store_new rfl 75 (.tmp 0) (.tmp 7) rfl _ rowsV rfl rfl info37 rfl one37 ?_)
 refine bodyPost_ret (v:=.agg rowsV) ?_ rfl ⟨rfl,rfl⟩
 rw [results_cell1 Try.results36]
 have h:=run_loadVar_new (P:=Try.prog) w 75 rowsV 6 74 Try.underlying75 info37
 simp [asAddr,Result.andThen,h,Act.put]
theorem holds13 (x y:Int) (w:World):Calls Try.prog 37 #[.int .i64 x,.int .i64 y] w fun e w' => e = .returned (.bool (bits .andNot .i64 x y == 0)) ∧ w' = w:=by
 go_enter Try.func37,Try.ntmps37
 go_wp2
 go_ret
 exact ⟨rfl,rfl⟩
theorem ix0 (w:World):(Instr.index 75 (.agg rowsV) (.int .i64 0)).run Try.prog w = .ok (.agg #[.int .i64 1,.int .i64 2,.func (.func 49) #[] #[]]) w:=rfl
theorem ix1 (w:World):(Instr.index 75 (.agg rowsV) (.int .i64 1)).run Try.prog w = .ok (.agg #[.int .i64 2,.int .i64 1,.func (.func 50) #[] #[]]) w:=rfl
theorem ix2 (w:World):(Instr.index 75 (.agg rowsV) (.int .i64 2)).run Try.prog w = .ok (.agg #[.int .i64 4,.int .i64 8,.func (.func 51) #[] #[]]) w:=rfl
theorem ix3 (w:World):(Instr.index 75 (.agg rowsV) (.int .i64 3)).run Try.prog w = .ok (.agg #[.int .i64 8,.int .i64 4,.func (.func 52) #[] #[]]) w:=rfl
theorem ix4 (w:World):(Instr.index 75 (.agg rowsV) (.int .i64 4)).run Try.prog w = .ok (.agg #[.int .i64 16,.int .i64 16,.func (.func 53) #[] #[]]) w:=rfl
theorem ix5 (w:World):(Instr.index 75 (.agg rowsV) (.int .i64 5)).run Try.prog w = .ok (.agg #[.int .i64 32,.int .i64 32,.func (.func 54) #[] #[]]) w:=rfl
theorem hold_row (k:Nat) (hk:k < 6) (x:Int) (w:World) (c:Int) (hc:c = ((2 ^ k:Nat):Int)):Calls Try.prog 37 #[.int .i64 c,.int .i64 x] w fun e w' => e = .returned (.bool (has6 k x)) ∧ w' = w:=by
 subst hc
 have h:=holds13 ((2 ^ k:Nat):Int) x w
 rw [has_step k hk x] at h
 exact h
set_option maxRecDepth 100000 in
set_option maxHeartbeats 2000000 in
theorem flip14 (x:Int) (w:World) (hx:inR x):Calls Try.prog 22 #[.int .i64 x] w fun e w' => e = .returned (.int .i64 (flipI x)) ∧ Below w.heap.size w w':=by
 have hrows:=rows17
 have hc0:bits .andNot .i64 (clr 0 x) 1 = clr 1 x:=clr_step 0 (by omega) x hx
 have hc1:bits .andNot .i64 (clr 1 x) 2 = clr 2 x:=clr_step 1 (by omega) x hx
 have hc2:bits .andNot .i64 (clr 2 x) 4 = clr 3 x:=clr_step 2 (by omega) x hx
 have hc3:bits .andNot .i64 (clr 3 x) 8 = clr 4 x:=clr_step 3 (by omega) x hx
 have hc4:bits .andNot .i64 (clr 4 x) 16 = clr 5 x:=clr_step 4 (by omega) x hx
 have hc5:bits .andNot .i64 (clr 5 x) 32 = clr 6 x:=clr_step 5 (by omega) x hx
 have hp0:has6 0 x = true → bits .or .i64 (put 0 x) 2 = put 1 x:=put_step 0 (by omega) x hx
 have hp1:has6 1 x = true → bits .or .i64 (put 1 x) 1 = put 2 x:=put_step 1 (by omega) x hx
 have hp2:has6 2 x = true → bits .or .i64 (put 2 x) 8 = put 3 x:=put_step 2 (by omega) x hx
 have hp3:has6 3 x = true → bits .or .i64 (put 3 x) 4 = put 4 x:=put_step 3 (by omega) x hx
 have hp4:has6 4 x = true → bits .or .i64 (put 4 x) 16 = put 5 x:=put_step 4 (by omega) x hx
 have hp5:has6 5 x = true → bits .or .i64 (put 5 x) 32 = put 6 x:=put_step 5 (by omega) x hx
 have HP0:Hid (has6 0 x = true → bits .or .i64 (put 0 x) 2 = put 1 x):=hp0
 have HP1:Hid (has6 1 x = true → bits .or .i64 (put 1 x) 1 = put 2 x):=hp1
 have HP2:Hid (has6 2 x = true → bits .or .i64 (put 2 x) 8 = put 3 x):=hp2
 have HP3:Hid (has6 3 x = true → bits .or .i64 (put 3 x) 4 = put 4 x):=hp3
 have HP4:Hid (has6 4 x = true → bits .or .i64 (put 4 x) 16 = put 5 x):=hp4
 have HP5:Hid (has6 5 x = true → bits .or .i64 (put 5 x) 32 = put 6 x):=hp5
 have HX:Hid (inR x):=hx
 have hz0:=clr_zero x
 have hz1:=put_zero x
 have HZ0:Hid (clr 0 x = x):=hz0
 have HZ1:Hid (put 0 x = clr 6 x):=hz1
 clear hp0 hp1 hp2 hp3 hp4 hp5 hx hz0 hz1
 have hf:flipI x = put 6 x:=rfl
 rw [hf]
 clear hf
 go_enter Try.func22,Try.ntmps22
 go_wp2_with (go_at_call 36;refine (hrows _).mono ?_;rintro e w' ⟨rfl,rfl⟩)
 go_loopw [3,10] (fun f i wr => ∃ (k:Nat),k ≤ 6 ∧ i = .int .i64 k ∧ f = .int .i64 (clr k x) ∧ Below w.heap.size w wr) (fun _ i _ => 6 - (intOf i).toNat)
 case atStart => exact ⟨0,by omega,rfl,by rw [HZ0.out],(Below.refl _ _).alloc (Nat.le_refl _) _⟩
 case round =>
  obtain ⟨k,hk,rfl,rfl,hB⟩:=hrel
  have hsz:=hB.size
  by_cases hlt:k < 6
  ·have hk6:k = 0 ∨ k = 1 ∨ k = 2 ∨ k = 3 ∨ k = 4 ∨ k = 5:=by omega
   rcases hk6 with rfl | rfl | rfl | rfl | rfl | rfl
   ·have hix:=ix0
    go_wp2
    go_roundw
    case rel => exact ⟨1,by omega,by go_num,by first | rfl | exact congrArg _ hc0,hB.alloc hsz _⟩
    case measure => simp [intOf]
   ·have hix:=ix1
    go_wp2
    go_roundw
    case rel => exact ⟨2,by omega,by go_num,by first | rfl | exact congrArg _ hc1,hB.alloc hsz _⟩
    case measure => simp [intOf]
   ·have hix:=ix2
    go_wp2
    go_roundw
    case rel => exact ⟨3,by omega,by go_num,by first | rfl | exact congrArg _ hc2,hB.alloc hsz _⟩
    case measure => simp [intOf]
   ·have hix:=ix3
    go_wp2
    go_roundw
    case rel => exact ⟨4,by omega,by go_num,by first | rfl | exact congrArg _ hc3,hB.alloc hsz _⟩
    case measure => simp [intOf]
   ·have hix:=ix4
    go_wp2
    go_roundw
    case rel => exact ⟨5,by omega,by go_num,by first | rfl | exact congrArg _ hc4,hB.alloc hsz _⟩
    case measure => simp [intOf]
   ·have hix:=ix5
    go_wp2
    go_roundw
    case rel => exact ⟨6,by omega,by go_num,by first | rfl | exact congrArg _ hc5,hB.alloc hsz _⟩
    case measure => simp [intOf]
  ·obtain rfl:k = 6:=by omega
   clear hc0 hc1 hc2 hc3 hc4 hc5
   go_wp2_with (go_at_call 36;refine (hrows _).mono ?_;rintro e w' ⟨rfl,rfl⟩)
   go_loopw [3,19] (fun f i wr => ∃ (k:Nat),k ≤ 6 ∧ i = .int .i64 k ∧ f = .int .i64 (put k x) ∧ Below w.heap.size w wr) (fun _ i _ => 6 - (intOf i).toNat)
   case atStart => exact ⟨0,by omega,rfl,by rw [HZ1.out],hB.alloc hsz _⟩
   case round =>
    obtain ⟨k,hk,rfl,rfl,hB⟩:=hrel
    have hsz:=hB.size
    by_cases hlt:k < 6
    ·have hk6:k = 0 ∨ k = 1 ∨ k = 2 ∨ k = 3 ∨ k = 4 ∨ k = 5:=by omega
     rcases hk6 with rfl | rfl | rfl | rfl | rfl | rfl
     ·have hix:=ix0
      have hh:=fun w => hold_row 0 (by omega) x w 1 rfl
      cases hb:has6 0 x
      ·have hs:=put_skip 0 x hb
       rw [hb] at hh
       clear hb
       have HS:Hid (put (0 + 1) x = put 0 x):=hs
       clear hs
       go_wp2_with (go_at_call 37;refine (hh _).mono ?_;rintro e w' ⟨rfl,rfl⟩)
       go_roundw
       case rel => exact ⟨1,by omega,by go_num,congrArg _ HS.out.symm,hB.alloc hsz _⟩
       case measure => simp [intOf]
      ·have ho:=HP0.out hb
       rw [hb] at hh
       clear hb
       go_wp2_with (go_at_call 37;refine (hh _).mono ?_;rintro e w' ⟨rfl,rfl⟩)
       go_roundw
       case rel => exact ⟨1,by omega,by go_num,by first | rfl | exact congrArg _ ho,hB.alloc hsz _⟩
       case measure => simp [intOf]
     ·have hix:=ix1
      have hh:=fun w => hold_row 1 (by omega) x w 2 rfl
      cases hb:has6 1 x
      ·have hs:=put_skip 1 x hb
       rw [hb] at hh
       clear hb
       have HS:Hid (put (1 + 1) x = put 1 x):=hs
       clear hs
       go_wp2_with (go_at_call 37;refine (hh _).mono ?_;rintro e w' ⟨rfl,rfl⟩)
       go_roundw
       case rel => exact ⟨2,by omega,by go_num,congrArg _ HS.out.symm,hB.alloc hsz _⟩
       case measure => simp [intOf]
      ·have ho:=HP1.out hb
       rw [hb] at hh
       clear hb
       go_wp2_with (go_at_call 37;refine (hh _).mono ?_;rintro e w' ⟨rfl,rfl⟩)
       go_roundw
       case rel => exact ⟨2,by omega,by go_num,by first | rfl | exact congrArg _ ho,hB.alloc hsz _⟩
       case measure => simp [intOf]
     ·have hix:=ix2
      have hh:=fun w => hold_row 2 (by omega) x w 4 rfl
      cases hb:has6 2 x
      ·have hs:=put_skip 2 x hb
       rw [hb] at hh
       clear hb
       have HS:Hid (put (2 + 1) x = put 2 x):=hs
       clear hs
       go_wp2_with (go_at_call 37;refine (hh _).mono ?_;rintro e w' ⟨rfl,rfl⟩)
       go_roundw
       case rel => exact ⟨3,by omega,by go_num,congrArg _ HS.out.symm,hB.alloc hsz _⟩
       case measure => simp [intOf]
      ·have ho:=HP2.out hb
       rw [hb] at hh
       clear hb
       go_wp2_with (go_at_call 37;refine (hh _).mono ?_;rintro e w' ⟨rfl,rfl⟩)
       go_roundw
       case rel => exact ⟨3,by omega,by go_num,by first | rfl | exact congrArg _ ho,hB.alloc hsz _⟩
       case measure => simp [intOf]
     ·have hix:=ix3
      have hh:=fun w => hold_row 3 (by omega) x w 8 rfl
      cases hb:has6 3 x
      ·have hs:=put_skip 3 x hb
       rw [hb] at hh
       clear hb
       have HS:Hid (put (3 + 1) x = put 3 x):=hs
       clear hs
       go_wp2_with (go_at_call 37;refine (hh _).mono ?_;rintro e w' ⟨rfl,rfl⟩)
       go_roundw
       case rel => exact ⟨4,by omega,by go_num,congrArg _ HS.out.symm,hB.alloc hsz _⟩
       case measure => simp [intOf]
      ·have ho:=HP3.out hb
       rw [hb] at hh
       clear hb
       go_wp2_with (go_at_call 37;refine (hh _).mono ?_;rintro e w' ⟨rfl,rfl⟩)
       go_roundw
       case rel => exact ⟨4,by omega,by go_num,by first | rfl | exact congrArg _ ho,hB.alloc hsz _⟩
       case measure => simp [intOf]
     ·have hix:=ix4
      have hh:=fun w => hold_row 4 (by omega) x w 16 rfl
      cases hb:has6 4 x
      ·have hs:=put_skip 4 x hb
       rw [hb] at hh
       clear hb
       have HS:Hid (put (4 + 1) x = put 4 x):=hs
       clear hs
       go_wp2_with (go_at_call 37;refine (hh _).mono ?_;rintro e w' ⟨rfl,rfl⟩)
       go_roundw
       case rel => exact ⟨5,by omega,by go_num,congrArg _ HS.out.symm,hB.alloc hsz _⟩
       case measure => simp [intOf]
      ·have ho:=HP4.out hb
       rw [hb] at hh
       clear hb
       go_wp2_with (go_at_call 37;refine (hh _).mono ?_;rintro e w' ⟨rfl,rfl⟩)
       go_roundw
       case rel => exact ⟨5,by omega,by go_num,by first | rfl | exact congrArg _ ho,hB.alloc hsz _⟩
       case measure => simp [intOf]
     ·have hix:=ix5
      have hh:=fun w => hold_row 5 (by omega) x w 32 rfl
      cases hb:has6 5 x
      ·have hs:=put_skip 5 x hb
       rw [hb] at hh
       clear hb
       have HS:Hid (put (5 + 1) x = put 5 x):=hs
       clear hs
       go_wp2_with (go_at_call 37;refine (hh _).mono ?_;rintro e w' ⟨rfl,rfl⟩)
       go_roundw
       case rel => exact ⟨6,by omega,by go_num,congrArg _ HS.out.symm,hB.alloc hsz _⟩
       case measure => simp [intOf]
      ·have ho:=HP5.out hb
       rw [hb] at hh
       clear hb
       go_wp2_with (go_at_call 37;refine (hh _).mono ?_;rintro e w' ⟨rfl,rfl⟩)
       go_roundw
       case rel => exact ⟨6,by omega,by go_num,by first | rfl | exact congrArg _ ho,hB.alloc hsz _⟩
       case measure => simp [intOf]
    ·obtain rfl:k = 6:=by omega
     go_wp2
     go_ret
     exact ⟨rfl,hB⟩
end Go.Proofs.Ytbdhiichhcihgaa
