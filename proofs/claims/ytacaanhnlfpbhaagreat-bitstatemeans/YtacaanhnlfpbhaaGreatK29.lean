/- HELPERS: texts of ours put together. -/
import Derived.Test.YtacaanhnlfpbhaaGreatK28
import Derived.Laws.Rows
import Derived.Test.YtacaanhnlfpbhaaGreatK26
import Derived.Test.YtacaanhnlfpbhaaGreatK14
import Derived.Deep.Onto
import Derived.Deep.RegionHeld3
import Derived.Lib.MinMax
namespace Go.Proofs.YtacaanhnlfpbhaaGreat
open Go.RowKit Go.Lk
set_option linter.unusedVariables false
set_option linter.unusedSimpArgs false
def Tk.cs:Tk → List Value
 | .go i j => [.int .i32 (i:Int),.int .i32 (j:Int)]
 | .un a o => [.int .i32 (-1 - (a:Int)),.int .i32 o]
theorem Tk.cs_len (t:Tk):t.cs.length = 2:=by cases t <;> rfl
def stk:List Tk → List Value
 | [] => []
 | t :: st => stk st ++ t.cs
theorem stk_len (st:List Tk):(stk st).length = st.length * 2:=by
 induction st with
 | nil => rfl
 | cons t st ih => rw [stk,List.length_append,ih,Tk.cs_len,List.length_cons];omega
theorem stk_top (t:Tk) (st:List Tk) (k:Nat) (hk:k < 2):(stk (t :: st))[st.length * 2 + k]? = t.cs[k]?:=by
 rw [stk,List.getElem?_append_right (by rw [stk_len];omega),stk_len]
 congr 1
 omega
structure Bk where
 ad:Option Addr
 n:Nat
 c:Nat
 S:Nat
 K:Nat
 tad:Option Addr
 tn:Nat
 tc:Nat
 ub:Nat
 a:Nat
structure Bv where
 w1:Option Addr
 w2:Nat
 w3:Nat
 z1:Option Addr
 z2:Nat
 z3:Nat
 most:Nat
 fok:Bool
 f1:Option Addr
 f2:Nat
 f3:Nat
 fw:Int
 fs:Nat
abbrev bcs (C:Bk) (V:Bv):Array Value:=#[.slice C.ad C.n C.c,.int .i64 (C.S:Int),.int .i64 (C.K:Int),.slice C.tad C.tn C.tc,.slice (some ⟨C.ub,0,none⟩) C.K C.K,.int .i64 (C.n:Int),.int .i64 (C.a:Int),.slice V.w1 V.w2 V.w3,.slice V.z1 V.z2 V.z3,.int .i64 (V.most:Int),.bool V.fok,.slice V.f1 V.f2 V.f3,.int .i64 V.fw,.int .i64 (V.fs:Int)]
def BM (w:World) (b:Nat) (C:Bk) (V:Bv):Prop:=w.heap[b]? = some (.cells (bcs C V) 126 (0,0))
theorem BM.c {w:World} {b:Nat} {C:Bk} {V:Bv} (h:BM w b C V) (k:Nat):w.cell? ⟨b,k,none⟩ = (bcs C V)[k]?:=Joins.cell_of_block h k
theorem BM.u {w:World} {b:Nat} {C:Bk} {V:Bv} (h:BM w b C V) (k:Nat):w.frozen? ⟨b,k,none⟩ = false:=Joins.unfrozen_of_block h k
theorem BM.lt {w:World} {b:Nat} {C:Bk} {V:Bv} (h:BM w b C V):b < w.heap.size:=(Array.getElem?_eq_some_iff.1 h).1
theorem BM.kept {w w':World} {b:Nat} {C:Bk} {V:Bv} (h:BM w b C V) (hk:w'.heap[b]? = w.heap[b]?):BM w' b C V:=hk.trans h
theorem BM.upd {w:World} {b:Nat} {C:Bk} {V V':Bv} (h:BM w b C V) (k:Nat) (v:Value) (e:(bcs C V).setIfInBounds k v = bcs C V'):BM (w.setCell ⟨b,k,none⟩ v) b C V':=by
 have:=Joins.block_setCell (i:=k) h v
 rw [e] at this
 exact this
structure Bits (n a len:Nat) (m:List Pt) (W:List Nat):Prop where
 sml:W.length ≤ 300000
 fits:∀ x ∈ W,x < 2 ^ 64
 bit:∀ i j,i < n → a ≤ j → j ≤ len → (W.getD (((j - a) * n + i) / 64) 0).testBit (((j - a) * n + i) % 64) = decide ((i,j) ∈ m)
theorem getD_fit {W:List Nat} (h:∀ x ∈ W,x < 2 ^ 64) (j:Nat):W.getD j 0 < 2 ^ 64:=by
 by_cases hj:j < W.length
 ·rw [getD_in W hj]
  exact h _ (List.getElem_mem hj)
 ·rw [show W.getD j 0 = 0 by simp [List.getD,List.getElem?_eq_none (Nat.le_of_not_lt hj)]]
  decide
theorem Bits.more {n a len:Nat} {m:List Pt} {W:List Nat} (h:Bits n a len m W) (k:Nat) (hk:W.length + k ≤ 300000):Bits n a len m (W ++ List.replicate k 0):=by
 refine ⟨by simpa using hk,fun x hx => ?_,fun i j hi ha hj => ?_⟩
 ·rcases List.mem_append.1 hx with hx | hx
  ·exact h.fits x hx
  ·rw [List.eq_of_mem_replicate hx];decide
 ·rw [← h.bit i j hi ha hj]
  congr 1
  simp only [List.getD_eq_getElem?_getD,List.getElem?_append]
  split
  ·rfl
  ·rename_i hl
   rw [List.getElem?_eq_none (by omega:W.length ≤ _),List.getElem?_replicate]
   split <;> rfl
theorem Bits.has {n a len i j:Nat} {m:List Pt} {W:List Nat} (h:Bits n a len m W) (hi:i < n) (ha:a ≤ j) (hj:j ≤ len) {k:Nat} (hk:k = (j - a) * n + i) :
  (bits .and .u64 ((W.getD (k / 64) 0:Nat):Int) ((2 ^ (k % 64):Nat):Int) != 0) = decide ((i,j) ∈ m):=by
 rw [(bits_nat .u64 64 (by decide) u64_in' _ _ (getD_fit h.fits _) (pow_lt k)).1,← h.bit i j hi ha hj,← hk,and_pow]
 have hp:0 < 2 ^ (k % 64):=Nat.pow_pos (by decide)
 by_cases hb:(W.getD (k / 64) 0).testBit (k % 64) = true
 ·rw [if_pos hb,hb]
  have:((2 ^ (k % 64):Nat):Int) ≠ 0:=by omega
  exact bne_iff_ne.2 this
 ·rw [if_neg hb]
  simp only [Bool.not_eq_true] at hb
  rw [hb]
  rfl
theorem Bits.add {n a len i j:Nat} {m:List Pt} {W:List Nat} (h:Bits n a len m W) (hi:i < n) (ha:a ≤ j) (hj:j ≤ len) {k:Nat} (hk:k = (j - a) * n + i) (hq:k / 64 < W.length) :
  Bits n a len (m ++ [(i,j)]) (W.set (k / 64) (W.getD (k / 64) 0 ||| 2 ^ (k % 64))):=by
 refine ⟨by rw [List.length_set];exact h.sml,fun x hx => ?_,fun x y hx hay hy => ?_⟩
 ·rcases List.mem_or_eq_of_mem_set hx with hx | rfl
  ·exact h.fits x hx
  ·exact Nat.or_lt_two_pow (getD_fit h.fits _) (pow_lt k)
 ·have e:=h.bit x y hx hay hy
  obtain ⟨k2,hk2⟩:∃ k2,k2 = (y - a) * n + x:=⟨_,rfl⟩
  rw [← hk2] at e ⊢
  have hiff:k2 = k ↔ (x = i ∧ y = j):=by
   constructor
   ·intro e'
    have:=enc_inj hx hi (show (y - a) * n + x = (j - a) * n + i by omega)
    exact ⟨this.2,by omega⟩
   ·rintro ⟨rfl,rfl⟩;omega
  by_cases hkq:k2 / 64 = k / 64
  ·rw [hkq,getD_in _ (by rw [List.length_set];exact hq),List.getElem_set_self,Nat.testBit_or,← hkq,e,Nat.testBit_two_pow]
   rw [Bool.eq_iff_iff]
   simp only [Bool.or_eq_true,decide_eq_true_eq,List.mem_append,List.mem_singleton,Prod.mk.injEq]
   rw [← hiff]
   constructor
   ·rintro (h | h)
    ·exact .inl h
    ·right;omega
   ·rintro (h | h)
    ·exact .inl h
    ·right;omega
  ·have hne:k2 ≠ k:=fun h => hkq (by rw [h])
   rw [show (W.set (k / 64) (W.getD (k / 64) 0 ||| 2 ^ (k % 64))).getD (k2 / 64) 0 = W.getD (k2 / 64) 0 by
    simp [List.getD,List.getElem?_set,show ¬ k / 64 = k2 / 64 by omega],e]
   have:¬ (x = i ∧ y = j):=fun h => hne (hiff.2 h)
   simp [this]
theorem Bits.nil (n a len:Nat):Bits n a len [] []:=⟨by simp,by simp,fun i j _ _ _ => by simp⟩
structure BC (l:List In) (tx:List Int) (C:Bk):Prop where
 len:C.n = l.length
 may:mayB l (C.S:Int) (C.K:Int) = true
 tn:C.tn = tx.length
 tl:C.tn ≤ 4194304
 at_:C.a ≤ C.tn
 big:C.n * (C.tn - C.a + 1) ≤ 16777216
structure BI (w:World) (B b:Nat) (l:List In) (tx:List Int) (C:Bk) (V:Bv) (st:List Tk) (m:List Pt) (cp:List Int) (W:List Nat):Prop where
 mb:BM w b C V
 lo:B ≤ b
 pi:PI w B C.ad C.n l
 tx:TextAt B w C.tad C.tn tx
 cap:w.ownsRow B 3 1 (.slice (some ⟨C.ub,0,none⟩) C.K C.K) C.K (I64 cp)
 row:w.ownsRow B 222 2 (.slice V.z1 V.z2 V.z3) V.z2 (stk st)
 wd:w.ownsRow B 233 1 (.slice V.w1 V.w2 V.w3) V.w2 (U64 W)
 bit:Bits C.n C.a C.tn m W
 zl:V.z2 = st.length
 wl:V.w2 = W.length
 okm:OkP C.n C.a C.tn m
 okt:∀ t ∈ st,t.ok C.n C.a C.tn C.K
 okc:okCZ C.tn cp
 stl:st.length ≤ m.length + 1
section
variable {w w':World} {B b:Nat} {l:List In} {tx:List Int} {C:Bk} {V V':Bv} {st:List Tk} {m:List Pt} {cp:List Int} {W:List Nat}
theorem BI.size (h:BI w B b l tx C V st m cp W):B ≤ w.heap.size:=by have:=h.lo;have:=h.mb.lt;omega
theorem BI.keep (h:BI w B b l tx C V st m cp W) (hb:Below B w w') (h1:w'.heap[b]? = w.heap[b]?) (h2:w'.heap[C.ub]? = w.heap[C.ub]?) (h3:∀ k,(Value.slice V.z1 V.z2 V.z3).ownBlock = some k → w'.heap[k]? = w.heap[k]?) (h4:∀ k,(Value.slice V.w1 V.w2 V.w3).ownBlock = some k → w'.heap[k]? = w.heap[k]?):BI w' B b l tx C V st m cp W:=
 ⟨h.mb.kept h1,h.lo,h.pi.kept hb (Nat.le_refl _),h.tx.below hb,row_kept h.cap (fun k hk => by simp [Value.ownBlock] at hk;subst hk;exact h2),row_kept h.row h3,row_kept h.wd h4,h.bit,h.zl,h.wl,h.okm,h.okt,h.okc,h.stl⟩
theorem BI.below (h:BI w B b l tx C V st m cp W) (hb:Below w.heap.size w w'):BI w' B b l tx C V st m cp W:=
 h.keep (Joins.below_le hb h.size) (hb.block _ h.mb.lt) (hb.block _ (h.cap.lt _ rfl).2) (fun k hk => hb.block _ (h.row.lt k hk).2) (fun k hk => hb.block _ (h.wd.lt k hk).2)
theorem BI.ub_ne (h:BI w B b l tx C V st m cp W):C.ub ≠ b:=fun e => own_ne h.cap h.mb (by decide) (by rw [e];rfl)
theorem BI.cap_block (h:BI w B b l tx C V st m cp W):∃ arr,w.heap[C.ub]? = some (.cells arr 3 (0,0)):=by
 rcases h.cap.2 with ⟨e',_⟩ | ⟨g,cap,cur,e',_,hg,_⟩
 ·cases e'
 ·simp only [Value.slice.injEq,Option.some.injEq,Addr.mk.injEq] at e'
  obtain ⟨⟨rfl,_⟩,_⟩:=e'
  exact ⟨_,hg⟩
theorem BI.row_ub (h:BI w B b l tx C V st m cp W):(Value.slice V.z1 V.z2 V.z3).ownBlock ≠ some C.ub:=by
 obtain ⟨arr,ha⟩:=h.cap_block
 exact own_ne h.row ha (by decide)
theorem BI.wd_ub (h:BI w B b l tx C V st m cp W):(Value.slice V.w1 V.w2 V.w3).ownBlock ≠ some C.ub:=by
 obtain ⟨arr,ha⟩:=h.cap_block
 exact own_ne h.wd ha (by decide)
theorem BI.row_b (h:BI w B b l tx C V st m cp W):(Value.slice V.z1 V.z2 V.z3).ownBlock ≠ some b:=own_ne h.row h.mb (by decide)
theorem BI.wd_b (h:BI w B b l tx C V st m cp W):(Value.slice V.w1 V.w2 V.w3).ownBlock ≠ some b:=own_ne h.wd h.mb (by decide)
theorem own_at {w:World} {base e size n:Nat} {v:Value} {xs:List Value} (h:w.ownsRow base e size v n xs) {k:Nat} (hk:v.ownBlock = some k):∃ arr,w.heap[k]? = some (.cells arr e (0,0)):=by
 rcases h.2 with ⟨e',_⟩ | ⟨g,cap,cur,e',_,hg,_⟩
 ·subst e';simp [Value.ownBlock] at hk
 ·subst e'
  simp [Value.ownBlock] at hk
  subst hk
  exact ⟨_,hg⟩
theorem own_apart {w:World} {base e size n base' e' size' n':Nat} {v v':Value} {xs xs':List Value} (h:w.ownsRow base e size v n xs) (h':w.ownsRow base' e' size' v' n' xs') (hne:e ≠ e') {k:Nat} (hk:v.ownBlock = some k):v'.ownBlock ≠ some k:=by
 obtain ⟨arr,ha⟩:=own_at h hk
 exact own_ne h' ha hne
theorem BI.put (h:BI w B b l tx C V st m cp W) (k:Nat) (v:Value) (e:(bcs C V).setIfInBounds k v = bcs C V') (e1:V'.z1 = V.z1 ∧ V'.z2 = V.z2 ∧ V'.z3 = V.z3) (e2:V'.w1 = V.w1 ∧ V'.w2 = V.w2 ∧ V'.w3 = V.w3) :
  BI (w.setCell ⟨b,k,none⟩ v) B b l tx C V' st m cp W ∧ Below B w (w.setCell ⟨b,k,none⟩ v):=by
 have hb:Below B w (w.setCell ⟨b,k,none⟩ v):=(Below.refl B w).setCell (p:=⟨b,k,none⟩) h.lo _
 have ho:∀ q,q ≠ b → (w.setCell ⟨b,k,none⟩ v).heap[q]? = w.heap[q]?:=fun q hq => Below.heap_setCell _ _ _ _ hq
 refine ⟨⟨h.mb.upd k v e,h.lo,h.pi.kept hb (Nat.le_refl _),h.tx.below hb,row_kept h.cap (fun q hq => ho q (fun e => own_ne h.cap h.mb (by decide) (by rw [← e];exact hq))),?_,?_,h.bit,?_,?_,h.okm,h.okt,h.okc,h.stl⟩,hb⟩
 ·rw [e1.1,e1.2.1,e1.2.2]
  exact row_kept h.row (fun q hq => ho q (fun e => h.row_b (by rw [← e];exact hq)))
 ·rw [e2.1,e2.2.1,e2.2.2]
  exact row_kept h.wd (fun q hq => ho q (fun e => h.wd_b (by rw [← e];exact hq)))
 ·rw [e1.2.1];exact h.zl
 ·rw [e2.2.1];exact h.wl
theorem BI.setc (h:BI w B b l tx C V st m cp W) (k:Nat) {v:Int} (hv:-1 ≤ v ∧ v ≤ (C.tn:Int)):BI (w.setCell ⟨C.ub,k,none⟩ (.int .i64 v)) B b l tx C V st m (cp.set k v) W ∧ Below B w (w.setCell ⟨C.ub,k,none⟩ (.int .i64 v)):=by
 have hgc:=h.cap.lt C.ub rfl
 have hb:Below B w (w.setCell ⟨C.ub,k,none⟩ (.int .i64 v)):=(Below.refl B w).setCell (p:=⟨C.ub,k,none⟩) hgc.1 _
 have ho:∀ q,q ≠ C.ub → (w.setCell ⟨C.ub,k,none⟩ (.int .i64 v)).heap[q]? = w.heap[q]?:=fun q hq => Below.heap_setCell _ _ _ _ hq
 have hc:=row_setC h.cap k (.int .i64 v)
 rw [show (I64 cp).set k (.int .i64 v) = I64 (cp.set k v) by simp [I64,List.map_set]] at hc
 exact ⟨⟨h.mb.kept (ho b (fun e => h.ub_ne e.symm)),h.lo,h.pi.kept hb (Nat.le_refl _),h.tx.below hb,hc,row_kept h.row (fun q hq => ho q (fun e => h.row_ub (by rw [← e];exact hq))),row_kept h.wd (fun q hq => ho q (fun e => h.wd_ub (by rw [← e];exact hq))),h.bit,h.zl,h.wl,h.okm,h.okt,h.okc.set k hv,h.stl⟩,hb⟩
end
theorem i32_ok (x:Int) (h:-2147483648 ≤ x) (h2:x < 2147483648):IntKind.i32.wrap x = x:=by simp [IntKind.wrap,IntKind.bits,IntKind.signed];omega
abbrev goV (i j:Nat):Value:=.agg #[.int .i32 (i:Int),.int .i32 (j:Int)]
abbrev unV (a:Nat) (o:Int):Value:=.agg #[.int .i32 (-1 - (a:Int)),.int .i32 o]
set_option maxRecDepth 100000 in
set_option maxHeartbeats 2000000 in
theorem toMeet48 (i j:Nat) (w:World) (hi:i < 2147483648) (hj:j < 2147483648):Calls Tryz.prog 159 #[.int .i64 (i:Int),.int .i64 (j:Int)] w fun e w' => e = .returned (goV i j) ∧ Below w.heap.size w w':=by
 have a1:=i32_ok (i:Int) (by omega) (by omega)
 have a2:=i32_ok (j:Int) (by omega) (by omega)
 go_enter Tryz.func159,Tryz.ntmps159
 go_wp2
 refine bodyPost_ret (results_cell_row rfl _ _ w.heap.size 222 _ (0,0) _ rfl (heap_alloc_new w _) Tryz.underlying222 rfl (by kernel_rfl)) rfl ?_
 exact ⟨rfl,Joins.below_alloc1 w _⟩
set_option maxRecDepth 100000 in
set_option maxHeartbeats 2000000 in
theorem toUndo81 (a:Nat) (o:Int) (w:World) (ha:a < 2147483647) (ho:-1 ≤ o ∧ o < 2147483648):Calls Tryz.prog 221 #[.int .i64 (a:Int),.int .i64 o] w fun e w' => e = .returned (unV a o) ∧ Below w.heap.size w w':=by
 have a0:=wrap_ok (-1 - (a:Int)) (by omega) (by omega)
 have a1:=i32_ok (-1 - (a:Int)) (by omega) (by omega)
 have a2:=i32_ok o (by omega) (by omega)
 go_enter Tryz.func221,Tryz.ntmps221
 go_wp2
 refine bodyPost_ret (results_cell_row rfl _ _ w.heap.size 222 _ (0,0) _ rfl (heap_alloc_new w _) Tryz.underlying222 rfl (by kernel_rfl)) rfl ?_
 exact ⟨rfl,Joins.below_alloc1 w _⟩
set_option maxRecDepth 100000 in
set_option maxHeartbeats 2000000 in
theorem isUndo50_go (i j:Nat) (w:World):Calls Tryz.prog 161 #[goV i j] w fun e w' => e = .returned (.bool false) ∧ Below w.heap.size w w':=by
 have b1:decide ((i:Int) < 0) = false:=by simp
 go_enter Tryz.func161,Tryz.ntmps161
 go_wp2
 go_ret
 exact ⟨rfl,Joins.below_alloc1 w _⟩
set_option maxRecDepth 100000 in
set_option maxHeartbeats 2000000 in
theorem isUndo50_un (a:Nat) (o:Int) (w:World):Calls Tryz.prog 161 #[unV a o] w fun e w' => e = .returned (.bool true) ∧ Below w.heap.size w w':=by
 have b1:decide (-1 - (a:Int) < 0) = true:=by simp;omega
 go_enter Tryz.func161,Tryz.ntmps161
 go_wp2
 go_ret
 exact ⟨rfl,Joins.below_alloc1 w _⟩
set_option maxRecDepth 100000 in
set_option maxHeartbeats 2000000 in
theorem pair52 (i j:Nat) (w:World) (hi:i < 2147483648) (hj:j < 2147483648):Calls Tryz.prog 163 #[(goV i j)] w fun e w' => e = .returned (.tuple #[.int .i64 (i:Int),.int .i64 (j:Int)]) ∧ Below w.heap.size w w':=by
 have a1:=wrap_ok (i:Int) (by omega) (by omega)
 have a2:=wrap_ok (j:Int) (by omega) (by omega)
 go_enter Tryz.func163,Tryz.ntmps163
 go_wp2
 go_region
 all_goals go_wp2
 all_goals go_ret2
 all_goals exact ⟨rfl,below_drewN' (Joins.below_alloc1 w _) _⟩
set_option maxRecDepth 100000 in
set_option maxHeartbeats 2000000 in
theorem undo51 {w:World} {B b:Nat} {l:List In} {tx:List Int} {C:Bk} {V:Bv} {st:List Tk} {m:List Pt} {cp:List Int} {W:List Nat} (a:Nat) (o:Int) (h:BI w B b l tx C V st m cp W) (ha:a < C.K) (hK:C.K ≤ 1002) (ho:-1 ≤ o ∧ o ≤ (C.tn:Int)) (ht:C.tn ≤ 4194304) :
  Calls Tryz.prog 162 #[(unV a o),.slice (some ⟨C.ub,0,none⟩) C.K C.K] w fun e w' => e = .returned (.tuple #[]) ∧ BI w' B b l tx C V st m (cp.set a o) W ∧ Below B w w' ∧ ∀ k,k < w.heap.size → k ≠ C.ub → w'.heap[k]? = w.heap[k]?:=by
 obtain ⟨U,hU⟩:∃ U,U = w.alloc (.cells #[.int .i32 (-1 - (a:Int)),.int .i32 o] 222):=⟨_,rfl⟩
 have hb:Below w.heap.size w U:=by rw [hU];exact Joins.below_alloc1 w _
 have hX:U.heap[w.heap.size]? = some (.cells #[.int .i32 (-1 - (a:Int)),.int .i32 o] 222 (0,0)):=by rw [hU];exact heap_alloc_new w _
 have hBU:=h.below hb
 have c0:=Joins.cell_of_block hX 0
 have c1:=Joins.cell_of_block hX 1
 simp at c0 c1
 have hcl:cp.length = C.K:=by have:=h.cap.1;simpa [I64] using this
 have d0:=hBU.cap.cellAt a (by omega)
 obtain ⟨vv,hvv⟩:∃ vv,(I64 cp)[a]? = some vv:=⟨_,List.getElem?_eq_getElem (by simp [I64];omega)⟩
 rw [hvv] at d0
 have f0:=hBU.cap.frozenAt a
 have a1:=i32_ok (-1 - (-1 - (a:Int))) (by omega) (by omega)
 have a2:=wrap_ok o (by omega) (by omega)
 have e1:-1 - (-1 - (a:Int)) = (a:Int):=by omega
 rw [e1] at a1
 have b2:(a:Int) < (C.K:Int):=by omega
 have HS:=hid (hBU.setc a ho)
 have HB:=hid (Joins.below_le hb h.size)
 have HK:Hid (∀ k,k < w.heap.size → U.heap[k]? = w.heap[k]?):=fun k hk => hb.block k hk
 obtain ⟨y,hy⟩:∃ y,y = w.heap.size:=⟨_,rfl⟩
 rw [← hy] at c0 c1
 clear h hBU hX hb hcl hvv
 go_enter Tryz.func162,Tryz.ntmps162
 go_upto_region 1 with fail
 rw [← hU,← hy]
 clear hU hy
 go_wp2
 go_end0
 exact ⟨rfl,HS.out.1,HB.out.trans HS.out.2,fun k hk hne => (Below.heap_setCell _ _ _ _ hne).trans (HK.out k hk)⟩
theorem look_text {N:Nat} {w:World} {ad:Option Addr} {n:Nat} {l:List Int} (h:TextAt N w ad n l):Look.TextAt N w ad n l:=h
theorem look_at (l:List Int) (p:Nat) (hp:p ≤ l.length):Look.atN l (p:Int) = atP l p:=by
 unfold Look.atN
 rw [if_neg (by omega)]
 rfl
structure En where
 i:Nat
 b:Nat
 c:List Int
instance:Inhabited En:=⟨⟨0,0,[]⟩⟩
structure Eqw (w w':World):Prop where
 heap:w'.heap = w.heap
 os:w'.os = w.os
 tape:w'.tape = w.tape
 output:w'.output = w.output
theorem Eqw.drewN (w:World) (k:Nat):Eqw w (w.drewN k):=⟨rfl,rfl,rfl,rfl⟩
theorem Eqw.drew (w:World):Eqw w w.drew:=⟨rfl,rfl,rfl,rfl⟩
theorem Eqw.blk {w w':World} (h:Eqw w w') (k:Nat):w'.heap[k]? = w.heap[k]?:=by rw [h.heap]
theorem Eqw.below {w w':World} (h:Eqw w w') (B:Nat):Below B w w':=⟨h.os,h.tape,h.output,by rw [h.heap];exact Nat.le_refl _,fun k _ => h.blk k⟩
theorem info97:(Tryz.prog.info? 222).map (fun i => (i.zero,i.size,i.bytes)) = some (some (.agg #[.int .i32 0,.int .i32 0]),2,8):=by kernel_rfl
theorem BI.pushed {w A w3:World} {B b:Nat} {l:List In} {tx:List Int} {C:Bk} {V:Bv} {st:List Tk} {m:List Pt} {cp:List Int} {W:List Nat} {t:Tk} {y1:Option Addr} {y3:Nat} (h:BI w B b l tx C V st m cp W) (hA:Below w.heap.size w A) (ht:t.ok C.n C.a C.tn C.K) (hst:st.length ≤ m.length)
  (ho:w3.ownsRow B 222 2 (.slice y1 (V.z2 + 1) y3) (V.z2 + 1) (stk st ++ t.cs)) (hf:Frm A w3 (.slice V.z1 V.z2 V.z3) (.slice y1 (V.z2 + 1) y3)) :
  BI (w3.setCell ⟨b,8,none⟩ (.slice y1 (V.z2 + 1) y3)) B b l tx C { V with z1:=y1,z2:=V.z2 + 1,z3:=y3 } (t :: st) m cp W ∧ Below B w (w3.setCell ⟨b,8,none⟩ (.slice y1 (V.z2 + 1) y3)) ∧ BM w3 b C V:=by
 have hs:=hA.size
 have hkk:∀ k,k < w.heap.size → (Value.slice V.z1 V.z2 V.z3).ownBlock ≠ some k → w3.heap[k]? = w.heap[k]?:=fun k hk hn => (hf.block k (by omega) hn).trans (hA.block k hk)
 have hbz:(Value.slice y1 (V.z2 + 1) y3).ownBlock ≠ some b:=fun e => by
  rcases hf.own b e with h' | h'
  ·exact h.row_b h'
  ·have:=h.mb.lt;omega
 have hb3:w3.heap[b]? = w.heap[b]?:=hkk b h.mb.lt h.row_b
 have hB3:Below B w w3:=⟨hf.os.trans hA.os,hf.tape.trans hA.tape,hf.output.trans hA.output,by have:=hf.size;omega,fun k hk => hkk k (by have:=h.size;omega) (fun e => by have:=(h.row.lt k e).1;omega)⟩
 have hB4:Below B w (w3.setCell ⟨b,8,none⟩ (.slice y1 (V.z2 + 1) y3)):=hB3.setCell (p:=⟨b,8,none⟩) h.lo _
 have ho4:∀ k,k ≠ b → (w3.setCell ⟨b,8,none⟩ (.slice y1 (V.z2 + 1) y3)).heap[k]? = w3.heap[k]?:=fun k hk => Below.heap_setCell _ _ _ _ hk
 refine ⟨⟨(h.mb.kept hb3).upd 8 _ rfl,h.lo,h.pi.kept hB4 (Nat.le_refl _),h.tx.below hB4,row_kept h.cap (fun k hk => ?_),own_setCell ho hbz,row_kept h.wd (fun k hk => ?_),h.bit,by show V.z2 + 1 = _;rw [h.zl];rfl,h.wl,h.okm,fun u hu => ?_,h.okc,by show st.length + 1 ≤ _;omega⟩,hB4,h.mb.kept hb3⟩
 ·simp [Value.ownBlock] at hk
  subst hk
  exact (ho4 _ h.ub_ne).trans (hkk _ (h.cap.lt _ rfl).2 h.row_ub)
 ·exact (ho4 _ (fun e => h.wd_b (by rw [← e];exact hk))).trans (hkk _ (h.wd.lt _ hk).2 (own_apart h.wd h.row (by decide) hk))
 ·rcases List.mem_cons.1 hu with rfl | hu
  ·exact ht
  ·exact h.okt u hu
set_option maxRecDepth 100000 in
set_option maxHeartbeats 4000000 in
theorem push47 {w:World} {B b:Nat} {l:List In} {tx:List Int} {C:Bk} {V:Bv} {st:List Tk} {m:List Pt} {cp:List Int} {W:List Nat} (t:Tk) (p q:Int) (hcs:t.cs = [.int .i32 p,.int .i32 q]) (h:BI w B b l tx C V st m cp W) (ht:t.ok C.n C.a C.tn C.K) (hst:st.length ≤ m.length) (hm:m.length ≤ 16777216) :
  Calls Tryz.prog 158 #[.pointer (some ⟨b,8,none⟩),.agg #[.int .i32 p,.int .i32 q]] w fun e w' => e = .returned (.tuple #[]) ∧ ∃ y1 y3 mo,BI w' B b l tx C { V with z1:=y1,z2:=V.z2 + 1,z3:=y3,most:=mo } (t :: st) m cp W ∧ Below B w w':=by
 obtain ⟨i2,hi2,hz20,hz21,hz22⟩:=info_parts info97
 obtain ⟨U,hU⟩:∃ U,U = w.alloc (.cells #[.int .i32 p,.int .i32 q] 222):=⟨_,rfl⟩
 have hbU:Below w.heap.size w U:=by rw [hU];exact Joins.below_alloc1 w _
 have hX:U.heap[w.heap.size]? = some (.cells #[.int .i32 p,.int .i32 q] 222 (0,0)):=by rw [hU];exact heap_alloc_new w _
 have hUs:U.heap.size = w.heap.size + 1:=by rw [hU];simp
 have hBU:=h.below hbU
 obtain ⟨y,hy⟩:∃ y,y = w.heap.size:=⟨_,rfl⟩
 have x0:=Joins.cell_of_block hX 0
 have x1:=Joins.cell_of_block hX 1
 simp at x0 x1
 rw [← hy] at x0 x1
 have c8:=hBU.mb.c 8
 simp at c8
 have HB:=hid hBU
 have H0:=hid h
 have HBU:=hid hbU
 have HCS:=hid hcs
 have hbl:=h.mb.lt
 have hzl:=h.zl
 have HZL:=hid hzl
 have hsm:V.z2 ≤ 16777217:=by omega
 have hNU:B ≤ U.heap.size:=hBU.size
 clear h hBU hbU hX hzl
 obtain ⟨w1,w2,w3,z1,z2,z3,most,fok,f1,f2,f3,fw,fs⟩:=V
 dsimp only at *
 go_enter Tryz.func158,Tryz.ntmps158
 go_upto_region 1 with fail
 rw [← hU,← hy]
 have HY:=hid hy
 have HUS:=hid hUs
 clear hU hy hUs
 refine wp_region_lex 6 10 (fun W => W.cell? ⟨b,8,none⟩ = some (.slice z1 z2 z3) ∧ W.cell? ⟨y,0,none⟩ = some (.int .i32 p) ∧ W.cell? ⟨y,1,none⟩ = some (.int .i32 q)) (by kernel_rfl) (by kernel_rfl) (by decide) (by kernel_rfl) (by kernel_rfl) (by simpa using ⟨c8,x0,x1⟩) ?_
 simp only [List.take_succ_cons,List.take_zero,List.drop_succ_cons,List.drop_zero]
 iterate 6
  refine lex_cons ?_ rfl (fun W hW => ?_) (fun _ _ _ h => h) ?_
  rotate_left
  ·obtain ⟨s0,s1,s2⟩:=hW
   go_simp <;> with_reducible rfl
  simp only [Act.put,List.setIfInBounds_toArray,List.set_cons_zero,List.set_cons_succ]
 obtain ⟨A,hA⟩:∃ A,A = (U.alloc (.cells #[.int .i32 p,.int .i32 q] 222)).drew:=⟨_,rfl⟩
 have hAU:Below U.heap.size U A:=by rw [hA];exact (Joins.below_alloc1 U _).trans ((Eqw.drew _).below _)
 have hAw:Below w.heap.size w A:=HBU.out.trans (Joins.below_le hAU (by have:=HUS.out;omega))
 have hBA:=H0.out.below hAw
 have hAX:A.heap[U.heap.size]? = some (.cells #[.int .i32 p,.int .i32 q] 222 (0,0)):=by rw [hA];exact heap_alloc_new U _
 have a8:A.cell? ⟨b,8,none⟩ = some (.slice z1 z2 z3):=by have:=hBA.mb.c 8;simpa using this
 have ay0:A.cell? ⟨y,0,none⟩ = some (.int .i32 p):=(hAU.cell (p:=⟨y,0,none⟩) (by show y < _;have:=HY.out;have:=HUS.out;omega)).trans x0
 have ay1:A.cell? ⟨y,1,none⟩ = some (.int .i32 q):=(hAU.cell (p:=⟨y,1,none⟩) (by show y < _;have:=HY.out;have:=HUS.out;omega)).trans x1
 have HROW:=hid hBA.row
 have hAs:B ≤ A.heap.size:=hBA.size
 have HAW:=hid hAw
 have HBA:=hid hBA
 clear hAU hAw hBA
 refine lex_nil (tail_cons fun KK hKK => ?_)
 go_simp
 rw [← hA]
 clear hA
 refine hKK.out _ _ (fun _ => ⟨a8,ay0,ay1⟩) (tail_cons fun KK hKK => ?_)
 refine step_append_row rfl (.tmp 8) (.tmp 10) 122 rfl B 222 i2 (.agg #[.int .i32 0,.int .i32 0]) 2 8 Tryz.underlying122 hi2 hz20 hz21 hz22 rfl (by decide) (.slice z1 z2 z3) z2 (stk st) (by simp [Act.eval,Act.put]) (by exact HROW.out) U.heap.size 1 1 #[.int .i32 p,.int .i32 q] 222 (by simp [Act.eval,Act.put]) hAX rfl (by decide) (by simp [Value.oneCell']) (by unfold maxLen;omega) (by omega) hAs ?_
 intro v3 wa ho3 hf3
 obtain ⟨y1,y3,rfl,hc1,hc2⟩:=row_shape ho3.out
 have hpu:=H0.out.pushed (t:=t) HAW.out ht hst (by rw [HCS.out];exact ho3.out) hf3.out
 dsimp only at hpu
 obtain ⟨p1,p2,p3⟩:=hpu
 have q8:=p3.c 8
 have v8:=p3.u 8
 simp at q8
 have HP1:=hid p1
 have HP2:=hid p2
 have hyn:(Value.slice z1 z2 z3).ownBlock ≠ some y:=fun e => by have:=(H0.out.row.lt y e).2;have:=HY.out;omega
 have hyb:wa.heap[y]? = A.heap[y]?:=hf3.out.block y (by have:=HAW.out.size;have:=HY.out;have:=(Array.getElem?_eq_some_iff.1 hAX).1;have:=HUS.out;omega) hyn
 have by0:=(cell_eq hyb 0).trans ay0
 have by1:=(cell_eq hyb 1).trans ay1
 have HSS:Hid (wa.cell? ⟨b,8,none⟩ = some (.slice z1 z2 z3) ∧ wa.cell? ⟨y,0,none⟩ = some (.int .i32 p) ∧ wa.cell? ⟨y,1,none⟩ = some (.int .i32 q)):=⟨q8,by0,by1⟩
 clear p1 p2 p3 hyn hyb by0 by1
 refine hKK.out _ _ (fun _ => ?_) (tail_cons fun KK hKK => ?_)
 ·exact HSS.out
 simp only [Act.put,List.setIfInBounds_toArray,List.set_cons_zero,List.set_cons_succ]
 go_simp
 refine hKK.out _ _ (fun _ => ?_) (tail_cons fun KK hKK => ?_)
 ·exact HSS.out
 simp only [Act.put,List.setIfInBounds_toArray,List.set_cons_zero,List.set_cons_succ]
 go_simp
 refine hKK.out _ _ (fun _ => ?_) (tail_cons fun KK hKK => ?_)
 ·exact HSS.out
 simp only [Act.put,List.setIfInBounds_toArray,List.set_cons_zero,List.set_cons_succ]
 go_simp
 refine hKK.out _ _ (fun h => absurd rfl h) (tail_nil ?_)
 obtain ⟨W1,hW1⟩:∃ W1,W1 = wa.setCell ⟨b,8,none⟩ (.slice y1 (z2 + 1) y3):=⟨_,rfl⟩
 rw [← hW1] at HP1 HP2 ⊢
 clear hW1
 have r8:=HP1.out.mb.c 8
 have r9:=HP1.out.mb.c 9
 have u9:=HP1.out.mb.u 9
 simp at r8 r9
 clear q8 v8 ho3 hf3 HROW a8 ay0 ay1 x0 x1 c8 hAX
 clear HSS HAW HBA HB HBU
 go_wp2_with fail
 go_region
 all_goals go_wp2
 all_goals go_end0
 have em:((max most (z2 + 1):Nat):Int) = max (most:Int) ((z2:Int) + 1):=by omega
 obtain ⟨g1,g2⟩:=HP1.out.put (V':=⟨w1,w2,w3,y1,z2 + 1,y3,max most (z2 + 1),fok,f1,f2,f3,fw,fs⟩) 9 (.int .i64 ((max most (z2 + 1):Nat):Int)) rfl ⟨rfl,rfl,rfl⟩ ⟨rfl,rfl,rfl⟩
 rw [em] at g1 g2
 refine ⟨rfl,y1,y3,max most (z2 + 1),?_,?_⟩
 ·exact g1.below ((Eqw.drew _).below _)
 ·exact HP2.out.trans (g2.trans ((Eqw.drew _).below _))
end Go.Proofs.YtacaanhnlfpbhaaGreat
