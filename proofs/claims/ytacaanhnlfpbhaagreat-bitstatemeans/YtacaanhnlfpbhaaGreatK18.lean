/- HELPERS: texts of ours put together. -/
import Derived.Test.YtacaanhnlfpbhaaGreatK17
import Derived.Test.YtacaanhnlfpbhaaGreatK03
import Derived.Laws.EntriesVeiled
import Derived.Test.YtacaanhnlfpbhaaGreatK04
import Derived.WalkLawsBesides
import Derived.Lib.LazyBuf
import Derived.Deep.Cut
import Derived.Laws.Rows
import Derived.Deep.MidRow
import Derived.Deep.OwnRows
import Derived.Test.YtacaanhnlfpbhaaGreatK05
namespace Go.Proofs.YtacaanhnlfpbhaaGreat
open Go.RowKit
set_option linter.unusedVariables false
set_option linter.unusedSimpArgs false
theorem row_set {w:World} {base e n b cap j:Nat} {u:Value} {xs:List Value} (h:w.ownsRow base e 1 (.slice (some ⟨b,0,none⟩) n cap) n xs) (hj:j < n):(w.setCell ⟨b,j,none⟩ u).ownsRow base e 1 (.slice (some ⟨b,0,none⟩) n cap) n (xs.set j u):=by
 refine ⟨by rw [List.length_set];exact h.1,.inr ?_⟩
 rcases h.2 with ⟨h,_⟩ | ⟨g,cap',cur,he,hb,hgg,h1,h2,h3,h4⟩
 ·cases h
 ·simp only [Value.slice.injEq,Option.some.injEq,Addr.mk.injEq] at he
  obtain ⟨⟨rfl,_⟩,_,rfl⟩:=he
  refine ⟨b,cap,cur.setIfInBounds j u,rfl,hb,Joins.block_setCell hgg u,h1,h2,by simpa using h3,?_⟩
  rw [← h4]
  simp only [Array.toList_setIfInBounds]
  rw [List.take_set]
theorem WS.blocks {N:Nat} {w:World} {g:Nat} {C:Cx} {s:Sg} {B:List Nat} (h:WS N w g C s B):g ∈ B ∧ C.mb ∈ B ∧ C.nb ∈ B:=by
 obtain ⟨pv,cs,F,_,_,_,_,rfl⟩:=h.ex
 simp
theorem WS.nblk {N:Nat} {w:World} {g:Nat} {C:Cx} {s:Sg} {B:List Nat} (h:WS N w g C s B):∃ cur,w.heap[C.nb]? = some (.cells cur 3 (0,0)):=by
 have h1:=h.notes
 rcases h1.2 with ⟨h2,_⟩ | ⟨b,cap',cur,he,hb,hgg,_⟩
 ·simp [Cx.nv] at h2
 ·simp only [Cx.nv,Value.slice.injEq,Option.some.injEq,Addr.mk.injEq] at he
  obtain ⟨⟨rfl,_⟩,_⟩:=he
  exact ⟨cur,hgg⟩
theorem WS.note {N:Nat} {w:World} {g:Nat} {C:Cx} {s:Sg} {B:List Nat} (h:WS N w g C s B) (c:Nat) (hc:c < C.K) (x:Int):WS N (w.setCell ⟨C.nb,c,none⟩ (.int .i64 x)) g C { s with notes:=s.notes.set c x } B:=by
 obtain ⟨pv,cs,F,h1,h2,h3,h4,rfl⟩:=h.ex
 obtain ⟨cur,hn⟩:=h.nblk
 obtain ⟨es,cl,hm,hm2⟩:=h.map
 have hkeep:∀ k,k ≠ C.nb → (w.setCell ⟨C.nb,c,none⟩ (.int .i64 x)).heap[k]? = w.heap[k]?:=fun k hk => Below.heap_setCell _ _ _ _ hk
 have hrow:∀ {e size n:Nat} {v:Value} {xs:List Value},e ≠ 3 → w.ownsRow N e size v n xs → (w.setCell ⟨C.nb,c,none⟩ (.int .i64 x)).ownsRow N e size v n xs:=fun he hr => own_setCell hr (fun e2 => own_ne hr hn he.symm e2)
 refine ⟨⟨pv,cs,F,?_,hrow (by decide) h2,h3.kept fun k hk => hkeep k (fun e => h4 (e ▸ hk)),h4,rfl⟩,⟨es,cl,(hkeep _ (fun e => by rw [e,hn] at hm;cases hm)).trans hm,hm2⟩,?_,by simpa using h.len,h.two,h.few,h.low⟩
 ·exact (hkeep g (fun e => by rw [e,hn] at h1;cases h1)).trans h1
 ·have hl:=h.len
  have:=row_set (u:=.int .i64 x) (j:=c) (b:=C.nb) (cap:=C.ncap) (n:=C.K) (by have:=h.notes;rw [hl] at this;exact this) hc
  rw [List.length_set,hl]
  rw [show I64 (s.notes.set c x) = (I64 s.notes).set c (.int .i64 x) by simp [I64,List.map_set]]
  exact this
theorem WS.read {N:Nat} {w:World} {g:Nat} {C:Cx} {s:Sg} {B:List Nat} (h:WS N w g C s B) (c:Nat) (hc:c < C.K):w.cell? ⟨C.nb,c,none⟩ = some (.int .i64 (s.notes.getD c 0)):=by
 have hl:=h.len
 have hN:=h.notes
 rw [hl] at hN
 have hN2:w.ownsRow N 3 1 (.slice (some ⟨C.nb,0,none⟩) C.K C.ncap) C.K (I64 s.notes):=hN
 rw [hN2.cellAt c (by omega)]
 simp [I64,List.getD,List.getElem?_eq_getElem (show c < s.notes.length by omega)]
theorem WS.drew {N:Nat} {w:World} {g:Nat} {C:Cx} {s:Sg} {B:List Nat} (h:WS N w g C s B):WS N w.drew g C s B:=by
 obtain ⟨pv,cs,F,h1,h2,h3,h4,rfl⟩:=h.ex
 exact ⟨⟨pv,cs,F,h1,h2,h3.kept fun _ _ => rfl,h4,rfl⟩,h.map.same rfl,h.notes,h.len,h.two,h.few,h.low⟩
set_option maxRecDepth 100000 in
set_option maxHeartbeats 2000000 in
theorem noted95 (N g:Nat) (C:Cx) (s:Sg) (B:List Nat) (w:World) (hW:Hid (WS N w g C s B)) (b3 b4 b5 c:Nat) (v:Value) (p:Nat) (h3:Bx w b3 71 (pt g)) (h4:Bx w b4 3 (.int .i64 (c:Int))) (h5:Bx w b5 133 v)
  (hB3:b3 ∉ B) (hB4:b4 ∉ B) (hB5:b5 ∉ B) (hc:c < C.K) (s':Sg)
  (hQ:∀ w',WS N w' g C { s with notes:=s.notes.set c (p:Int) } B → Chg w w' B B → CallsV v p w' fun e w2 => e = .returned (.tuple #[]) ∧ ∃ B',WS N w2 g C s' B' ∧ Chg w' w2 B B') :
  Calls Tryz.prog 187 #[.int .i64 (p:Int),pt b3,pt b4,pt b5] w fun e w2 => e = .returned (.tuple #[]) ∧ ∃ B',WS N w2 g C { s' with notes:=s'.notes.set c (s.notes.getD c 0) } B' ∧ Chg w w2 B B':=by
 obtain ⟨pv,cs,F,hg,_⟩:=hW.out.ex
 have few:=hW.out.few
 have g5:w.cell? ⟨g,5,none⟩ = some (.slice (some ⟨C.nb,0,none⟩) C.K C.ncap):=Joins.cell_of_block hg 5
 have c3:=bx0 h3
 have c4:=bx0 h4
 obtain ⟨old,hold⟩:∃ old,old = s.notes.getD c 0:=⟨_,rfl⟩
 have rd:=hW.out.read c hc
 rw [← hold] at rd ⊢
 obtain ⟨cur,hn⟩:=hW.out.nblk
 have uf:=Joins.unfrozen_of_block hn c
 have i1:(c:Int) < (C.K:Int):=by omega
 have HG:=hid hg
 have HWS:=hid hW.out
 have HQ:=hid hQ
 have HO:=hid hold
 have H3:=hid h3
 have H4:=hid h4
 have H5:=hid h5
 clear hg hn h3 h4 h5 hQ hW hold
 go_enter Tryz.func187,Tryz.ntmps187
 go_wp2_with fail
 go_region
 all_goals
  go_wp2_with fail
  go_region
  all_goals
   obtain ⟨X,hX⟩:∃ X,X = (w.setCell ⟨C.nb,c,none⟩ (.int .i64 (p:Int))).drew.drew:=⟨_,rfl⟩
   rw [← hX]
   have hXs:WS N X g C { s with notes:=s.notes.set c (p:Int) } B:=by rw [hX];exact (HWS.out.note c hc (p:Int)).drew.drew
   have hXc:Chg w X B B:=by rw [hX];exact (((Chg.refl w B).set (a:=⟨C.nb,c,none⟩) (.int .i64 (p:Int)) HWS.out.blocks.2.2).drew).drew
   have x5:X.cell? ⟨b5,0,none⟩ = some v:=bx0 (t:=133) ((hXc.block b5 (bx_lt H5.out) hB5).trans H5.out)
   obtain ⟨f,fi,ca,rfl,hcf,hC⟩:=HQ.out X hXs hXc
   have HXs:=hid hXs
   have HXc:=hid hXc
   have HX:=hid hX
   clear hXs hXc hX
   go_wp2_with ((with_reducible refine hC.mono ?_);rintro e w2 ⟨rfl,B2,hW2,hC2⟩;clear hC;have HC:=hid (HXc.out.trans hC2);have HW2:=hid hW2;clear hW2 hC2)
   obtain ⟨pv2,cs2,F2,hg2,_⟩:=HW2.out.ex
   have y5:w2.cell? ⟨g,5,none⟩ = some (.slice (some ⟨C.nb,0,none⟩) C.K C.ncap):=Joins.cell_of_block hg2 5
   have y3:=bx0 (t:=71) ((HC.out.block b3 (bx_lt H3.out) hB3).trans H3.out)
   have y4:=bx0 (t:=3) ((HC.out.block b4 (bx_lt H4.out) hB4).trans H4.out)
   obtain ⟨cur2,hn2⟩:=HW2.out.nblk
   have uf2:=Joins.unfrozen_of_block hn2 c
   have y6:=HW2.out.read c hc
   obtain ⟨old2,hold2⟩:∃ old2,old2 = s'.notes.getD c 0:=⟨_,rfl⟩
   rw [← hold2] at y6
   clear hg2 hn2 hold2
   go_wp2_with fail
   go_region
   all_goals
    go_wp2
    go_end0
    exact ⟨rfl,B2,(HW2.out.note c hc old).drew,((HC.out.set (a:=⟨C.nb,c,none⟩) (.int .i64 old) HWS.out.blocks.2.2).drew)⟩
set_option maxRecDepth 100000 in
set_option maxHeartbeats 2000000 in
theorem again110 (b:Nat) (v:Value) (p:Nat) (w:World) (hb:Bx w b 133 v) (R:World → Prop) (hQ:CallsV v p w fun e w2 => e = .returned (.tuple #[]) ∧ R w2) :
  Calls Tryz.prog 230 #[.int .i64 (p:Int),pt b] w fun e w2 => e = .returned (.tuple #[]) ∧ R w2:=by
 have c0:=bx0 hb
 clear hb
 obtain ⟨f,fi,ca,rfl,hcf,hC⟩:=hQ
 go_enter Tryz.func230,Tryz.ntmps230
 go_wp2_with ((with_reducible refine hC.mono ?_);rintro e w2 ⟨rfl,hR⟩)
 go_end0
 exact ⟨rfl,hR⟩
theorem Reps.len {g K:Nat} {L:Nat → Prop} {w:World} {vs:List Value} {l:List Way} {F:List Nat} (h:Reps g K L w vs l F):vs.length = l.length:=by
 induction l generalizing vs F with
 | nil => cases h;rfl
 | cons d l ih => cases h with | cons h hs => simp [ih hs]
theorem Reps.get {g K:Nat} {L:Nat → Prop} {w:World}:∀ {l:List Way} {vs:List Value} {F:List Nat},Reps g K L w vs l F → ∀ (i:Nat) (hi:i < l.length),∃ v Fi,vs[i]? = some v ∧ Rep g K L w v (l[i]'hi) Fi ∧ ∀ k ∈ Fi,k ∈ F:=by
 intro l
 induction l with
 | nil => intro vs F h i hi;simp at hi
 | cons d l ih =>
  intro vs F h i hi
  cases h with
  | @cons v vs _ _ F1 G1 h1 h2 =>
   cases i with
   | zero => exact ⟨v,F1,rfl,h1,fun k hk => List.mem_append_left _ hk⟩
   | succ i =>
    obtain ⟨u,Fi,q1,q2,q3⟩:=ih h2 i (by simpa using hi)
    exact ⟨u,Fi,by simpa using q1,q2,fun k hk => List.mem_append_right _ (q3 k hk)⟩
theorem row_cap2 {w:World} {base e n b cap:Nat} {xs:List Value} (h:w.ownsRow base e 1 (.slice (some ⟨b,0,none⟩) n cap) n xs):n ≤ cap:=by
 rcases h.2 with ⟨h,_⟩ | ⟨g,cap',cur,he,hb,hgg,h1,h2,h3,h4⟩
 ·cases h
 ·simp only [Value.slice.injEq,Option.some.injEq,Addr.mk.injEq] at he
  obtain ⟨⟨rfl,_⟩,_,rfl⟩:=he
  omega
set_option maxRecDepth 100000 in
set_option maxHeartbeats 2000000 in
theorem inOrder109 (N N0 g:Nat) (C:Cx) (ss:Nat → Sg) (B:List Nat) (w:World) (hW:Hid (WS N w g C (ss 0) B)) (b1 n:Nat) (sv:Value) (vs:List Value) (p:Nat) (h1:Bx w b1 237 sv) (hs:w.ownsRow N0 133 1 sv n vs)
  (hB1:b1 ∉ B) (hBs:∀ k,sv.ownBlock = some k → k ∉ B) (hvl:vs.length = n)
  (hQ:Hid (∀ i v w' B',i < n → vs[i]? = some v → WS N w' g C (ss i) B' → Chg w w' B B' → CallsV v p w' fun e w2 => e = .returned (.tuple #[]) ∧ ∃ B2,WS N w2 g C (ss (i + 1)) B2 ∧ Chg w' w2 B' B2)) :
  Calls Tryz.prog 229 #[.int .i64 (p:Int),pt b1] w fun e w2 => e = .returned (.tuple #[]) ∧ ∃ B',WS N w2 g C (ss n) B' ∧ Chg w w2 B B':=by
 have c0:=bx0 h1
 have kn:n ≤ 9223372036854775807:=by
  rcases hs.2 with ⟨_,h⟩ | ⟨g,cap,cur,he,h1,h2,h3,h4,h5,h6⟩
  ·omega
  ·unfold maxLen at h4
   omega
 obtain ⟨s1,s3,rfl⟩:∃ s1 s3,sv = .slice s1 n s3:=by
  rcases Joins.ownsRow_forms hs with ⟨rfl,h⟩ | ⟨b,cap,rfl⟩
  ·exact ⟨none,0,by rw [h]⟩
  ·exact ⟨_,_,rfl⟩
 have HS:=hid hs
 have HBs:=hid hBs
 have HVL:=hid hvl
 clear hs h1 hBs hvl
 go_enter Tryz.func229,Tryz.ntmps229
 go_wp2_with fail
 go_loopw [7] (fun x wq => ∃ i:Nat,x = .int .i64 (i:Int) ∧ i ≤ n ∧ Hid (∃ B',WS N wq g C (ss i) B' ∧ Chg w wq B B')) (fun x _ => n - (intOf x).toNat)
 case atStart => exact ⟨0,rfl,by omega,by exact ⟨B,hW.out,Chg.refl w B⟩⟩
 case round =>
  obtain ⟨i,rfl,hi,HI⟩:=hrel
  obtain ⟨B',hWi,hCi⟩:=HI.out
  clear HI
  by_cases hil:i < n
  ·have b1:decide ((i:Int) < (n:Int)) = true:=by simp;omega
   have b2:(i:Int) < (n:Int):=by omega
   obtain ⟨b,rfl⟩:∃ b,s1 = some ⟨b,0,none⟩:=by
    rcases HS.out.2 with ⟨_,h⟩ | ⟨g,cap,cur,he,_⟩
    ·omega
    ·simp only [Value.slice.injEq] at he
     exact ⟨g,he.1⟩
   obtain ⟨v,hv⟩:∃ v,vs[i]? = some v:=⟨vs[i]'(by rw [HVL.out];exact hil),List.getElem?_eq_getElem _⟩
   have hrow:wr.ownsRow N0 133 1 (.slice (some ⟨b,0,none⟩) n s3) n vs:=hCi.row HS.out HBs.out
   have hcap:n ≤ s3:=row_cap2 hrow
   have n0:wr.cell? ⟨b,i,none⟩ = some v:=(hrow.cellAt i (by omega)).trans hv
   obtain ⟨f,fi,ca,rfl,hcf,hC⟩:=hQ.out i v wr B' hil hv hWi hCi
   have ad1:IntKind.i64.wrap ((i:Int) + 1) = (i:Int) + 1:=by simp [IntKind.wrap,IntKind.bits,IntKind.signed];omega
   have HCi:=hid hCi
   clear hrow hWi hCi hv
   go_wp2_with ((with_reducible refine hC.mono ?_);rintro e w2 ⟨rfl,B2,hW2,hC2⟩;have HW2:=hid hW2;have HC2:=hid hC2;clear hC hW2 hC2)
   refine ⟨⟨i + 1,by push_cast;rfl,by omega,by exact ⟨B2,HW2.out,HCi.out.trans HC2.out⟩⟩,?_⟩
   simp [intOf]
   omega
  ·have b1:decide ((i:Int) < (n:Int)) = false:=by simp;omega
   obtain rfl:i = n:=by omega
   have HE:Hid (∃ B',WS N wr g C (ss i) B' ∧ Chg w wr B B'):=⟨B',hWi,hCi⟩
   clear hWi hCi
   go_wp2
   go_end0
   exact ⟨rfl,HE.out⟩
def TX (w:World) (v:Value) (tx:List Int) (Ft:List Nat):Prop:=∃ ad cap,v = .slice ad tx.length cap ∧ tx.length ≤ cap ∧
 (tx.length = 0 ∨ ∃ b off,ad = some ⟨b,off,none⟩ ∧ b ∈ Ft ∧ b < w.heap.size ∧ ∀ k,k < tx.length → w.cell? ⟨b,off + k,none⟩ = some (.int .i64 (tx.getD k 0)))
theorem cell_heap {w w':World} {b:Nat} (h:w'.heap[b]? = w.heap[b]?) (o:Nat):w'.cell? ⟨b,o,none⟩ = w.cell? ⟨b,o,none⟩:=by
 unfold World.cell?
 simp [h]
theorem TX.kept {w w':World} {v:Value} {tx:List Int} {Ft:List Nat} (h:TX w v tx Ft) (hk:∀ k ∈ Ft,k < w.heap.size → w'.heap[k]? = w.heap[k]?) (hs:w.heap.size ≤ w'.heap.size):TX w' v tx Ft:=by
 obtain ⟨ad,cap,h1,h2,h3 | ⟨b,off,rfl,h4,h5,h6⟩⟩:=h
 ·exact ⟨ad,cap,h1,h2,.inl h3⟩
 ·exact ⟨_,cap,h1,h2,.inr ⟨b,off,rfl,h4,by omega,fun k hk2 => (cell_heap (hk b h4 h5) _).trans (h6 k hk2)⟩⟩
set_option maxRecDepth 100000 in
set_option maxHeartbeats 2000000 in
theorem over89 (g:Nat) (tv hv wh m nv pv:Value) (n:Int) (w:World) (tx:List Int) (Ft:List Nat) (hg:w.heap[g]? = some (.cells #[tv,hv,wh,.int .i64 n,m,nv,pv] 135 (0,0))) (hT:Hid (TX w tv tx Ft)) (b3 b4 b5 p:Nat) (h3:Bx w b3 71 (pt g))
  (hp:tx.length ≤ p):Calls Tryz.prog 182 #[.int .i64 (p:Int),pt b3,pt b4,pt b5] w fun e w' => e = .returned (.tuple #[]) ∧ Below w.heap.size w w':=by
 obtain ⟨ad,cap,rfl,hcap,_⟩:=hT.out
 have c3:=bx0 h3
 have g0:w.cell? ⟨g,0,none⟩ = some (.slice ad tx.length cap):=Joins.cell_of_block hg 0
 obtain ⟨l,hl⟩:∃ l,l = tx.length:=⟨_,rfl⟩
 rw [← hl] at g0 hp
 have b1:decide ((p:Int) < (l:Int)) = false:=by simp;omega
 have b2:decide (p < l) = false:=by simp;omega
 clear hg h3 hT hl
 go_enter Tryz.func182,Tryz.ntmps182
 go_wp2_with fail
 go_region
 all_goals
  go_wp2
  go_end0
  exact ⟨rfl,(Below.refl _ _).drew⟩
set_option maxRecDepth 100000 in
set_option maxHeartbeats 2000000 in
theorem other89 (g:Nat) (GR:List Nat) (tv hv wh m nv pv rv:Value) (n:Int) (w:World) (tx:List Int) (Ft:List Nat) (R:Rng) (hg:w.heap[g]? = some (.cells #[tv,hv,wh,.int .i64 n,m,nv,pv] 135 (0,0))) (hT:Hid (TX w tv tx Ft)) (b3 b4 b5 p:Nat) (h3:Bx w b3 71 (pt g))
  (h4:Bx w b4 22 rv) (hr:RowIn w rv R GR) (hRl:R.length ≤ 1000000) (hp:p < tx.length) (hh:(rightB R && hasB R (tx.getD p 0)) = false) :
  Calls Tryz.prog 182 #[.int .i64 (p:Int),pt b3,pt b4,pt b5] w fun e w' => e = .returned (.tuple #[]) ∧ Below w.heap.size w w':=by
 obtain ⟨ad,cap,rfl,hcap,h0 | ⟨tb,off,rfl,_,htl,hcell⟩⟩:=hT.out
 ·omega
 obtain ⟨s1,s3,rfl⟩:=hr.form
 have c3:=bx0 h3
 have c4:=bx0 h4
 have g0:w.cell? ⟨g,0,none⟩ = some (.slice (some ⟨tb,off,none⟩) tx.length cap):=Joins.cell_of_block hg 0
 have t0:=hcell p hp
 obtain ⟨r,hrr⟩:∃ r,r = tx.getD p 0:=⟨_,rfl⟩
 rw [← hrr] at t0 hh
 obtain ⟨l,hl⟩:∃ l,l = tx.length:=⟨_,rfl⟩
 rw [← hl] at g0 hp hcap
 have b1:decide ((p:Int) < (l:Int)) = true:=by simp;omega
 have b2:decide (p < l) = true:=by simp;omega
 have b3':(p:Int) < (l:Int):=by omega
 have H0:Calls Tryz.prog 183 #[.slice s1 R.length s3,.int .i64 r] w.drew fun e w' => e = .returned (.bool false) ∧ Below w.heap.size w w':=
  Calls.mono (has30 R s1 R.length s3 r w.drew (by exact rfl) (by omega) (by exact (hr.kept (w':=w.drew) (fun _ _ => rfl)).at (Nat.le_refl _))) fun e w' h => ⟨by rw [h.1,hh],⟨h.2.os,h.2.tape,h.2.output,h.2.size,h.2.block⟩⟩
 clear hg h3 h4 hT hl hr hrr hcell hh
 go_enter Tryz.func182,Tryz.ntmps182
 go_wp2_with fail
 go_region_with (go_at_call 183;(with_reducible refine H0.mono ?_);rintro e w2 ⟨rfl,hb2⟩)
 all_goals
  go_wp2
  go_end0
  exact ⟨rfl,hb2⟩
set_option maxRecDepth 100000 in
set_option maxHeartbeats 2000000 in
theorem rune89 (g:Nat) (GR:List Nat) (tv hv wh m nv pv rv:Value) (n:Int) (w:World) (tx:List Int) (Ft:List Nat) (R:Rng) (hg:w.heap[g]? = some (.cells #[tv,hv,wh,.int .i64 n,m,nv,pv] 135 (0,0))) (hT:Hid (TX w tv tx Ft)) (b3 b4 b5 p:Nat) (h3:Bx w b3 71 (pt g))
  (h4:Bx w b4 22 rv) (hr:RowIn w rv R GR) (hRl:R.length ≤ 1000000) (hp:p < tx.length) (hh:(rightB R && hasB R (tx.getD p 0)) = true)
  (v:Value) (h5:Bx w b5 133 v) (hpl:p < 1000000) (P:World → Prop) (hQ:∀ w',Below w.heap.size w w' → CallsV v (p + 1) w' fun e w2 => e = .returned (.tuple #[]) ∧ P w2) :
  Calls Tryz.prog 182 #[.int .i64 (p:Int),pt b3,pt b4,pt b5] w fun e w' => e = .returned (.tuple #[]) ∧ P w':=by
 obtain ⟨ad,cap,rfl,hcap,h0 | ⟨tb,off,rfl,_,htl,hcell⟩⟩:=hT.out
 ·omega
 obtain ⟨s1,s3,rfl⟩:=hr.form
 have c3:=bx0 h3
 have c4:=bx0 h4
 have g0:w.cell? ⟨g,0,none⟩ = some (.slice (some ⟨tb,off,none⟩) tx.length cap):=Joins.cell_of_block hg 0
 have t0:=hcell p hp
 obtain ⟨r,hrr⟩:∃ r,r = tx.getD p 0:=⟨_,rfl⟩
 rw [← hrr] at t0 hh
 obtain ⟨l,hl⟩:∃ l,l = tx.length:=⟨_,rfl⟩
 rw [← hl] at g0 hp hcap
 have b1:decide ((p:Int) < (l:Int)) = true:=by simp;omega
 have b2:decide (p < l) = true:=by simp;omega
 have b3':(p:Int) < (l:Int):=by omega
 have H0:Calls Tryz.prog 183 #[.slice s1 R.length s3,.int .i64 r] w.drew fun e w' => e = .returned (.bool true) ∧ Below w.heap.size w w':=
  Calls.mono (has30 R s1 R.length s3 r w.drew (by exact rfl) (by omega) (by exact (hr.kept (w':=w.drew) (fun _ _ => rfl)).at (Nat.le_refl _))) fun e w' h => ⟨by rw [h.1,hh],⟨h.2.os,h.2.tape,h.2.output,h.2.size,h.2.block⟩⟩
 have H5:=hid h5
 have HQ:=hid hQ
 clear hg h3 h4 hT hl hr hrr hcell hh h5 hQ
 go_enter Tryz.func182,Tryz.ntmps182
 go_wp2_with fail
 go_region_with (go_at_call 183;(with_reducible refine H0.mono ?_);rintro e w2 ⟨rfl,hb2⟩)
 all_goals
  have x5:w2.cell? ⟨b5,0,none⟩ = some v:=bx0 (t:=133) ((hb2.block b5 (bx_lt H5.out)).trans H5.out)
  obtain ⟨f,fi,ca,rfl,hcf,hC⟩:=HQ.out w2 hb2
  have ad1:IntKind.i64.wrap ((p:Int) + 1) = (p:Int) + 1:=by simp [IntKind.wrap,IntKind.bits,IntKind.signed];omega
  rw [show ((p + 1:Nat):Int) = (p:Int) + 1 by omega] at hC
  go_wp2_with ((with_reducible refine hC.mono ?_);rintro e w3 ⟨rfl,hP⟩)
  go_end0
  exact ⟨rfl,hP⟩
def hols (tx:List Int):List Int:=(List.range (tx.length + 1)).map fun (p:Nat) => Look.atN tx (p:Int)
theorem hols_len (tx:List Int):(hols tx).length = tx.length + 1:=by simp [hols]
theorem hols_at (tx:List Int) (p:Nat) (hp:p ≤ tx.length):(hols tx).getD p 0 = Look.atN tx (p:Int):=by
 have h:p < tx.length + 1:=by omega
 simp [hols,List.getD_eq_getElem?_getD,List.getElem?_range h]
set_option maxRecDepth 100000 in
set_option maxHeartbeats 2000000 in
theorem fails91 (g:Nat) (tv hv wh m nv pv:Value) (n:Int) (w:World) (tx:List Int) (Ft:List Nat) (hg:w.heap[g]? = some (.cells #[tv,hv,wh,.int .i64 n,m,nv,pv] 135 (0,0))) (hT:Hid (TX w hv (hols tx) Ft)) (b4 b3 b5 p:Nat) (a:Int) (h4:Bx w b4 3 (.int .i64 a)) (h3:Bx w b3 71 (pt g))
  (hp:p ≤ tx.length) (hh:heldB tx a p = false):Calls Tryz.prog 184 #[.int .i64 (p:Int),pt b4,pt b3,pt b5] w fun e w' => e = .returned (.tuple #[]) ∧ Below w.heap.size w w':=by
 obtain ⟨ad,cap,rfl,hcap,h0 | ⟨tb,off,rfl,_,htl,hcell⟩⟩:=hT.out
 ·rw [hols_len] at h0;omega
 have c3:=bx0 h3
 have c4:=bx0 h4
 rw [hols_len] at hcap
 have g1:w.cell? ⟨g,1,none⟩ = some (.slice (some ⟨tb,off,none⟩) (tx.length + 1) cap):=by rw [← hols_len];exact Joins.cell_of_block hg 1
 have t0:=hcell p (by rw [hols_len];omega)
 rw [hols_at tx p hp] at t0
 unfold heldB at hh
 obtain ⟨r,hrr⟩:∃ r,r = Look.atN tx (p:Int):=⟨_,rfl⟩
 rw [← hrr] at t0 hh
 obtain ⟨l,hl⟩:∃ l,l = tx.length + 1:=⟨_,rfl⟩
 rw [← hl] at g1 hcap
 have b1:decide ((p:Int) < (l:Int)) = true:=by simp;omega
 have b2:decide (p < l) = true:=by simp;omega
 have b3':(p:Int) < (l:Int):=by omega
 have H0:Calls Tryz.prog 167 #[.int .i64 a,.int .i64 r] w.drew fun e w' => e = .returned (.bool false) ∧ Below w.heap.size w w':=
  Calls.mono (Look.holds13 a r w.drew) fun e w' h => ⟨by rw [h.1,hh],by rw [h.2];exact (Below.refl _ _).drew⟩
 clear hg h3 h4 hT hl hrr hcell hh
 go_enter Tryz.func184,Tryz.ntmps184
 go_wp2_with fail
 go_region_with (go_at_call 167;(with_reducible refine H0.mono ?_);rintro e w2 ⟨rfl,hb2⟩)
 all_goals
  go_wp2
  go_end0
  exact ⟨rfl,hb2⟩
set_option maxRecDepth 100000 in
set_option maxHeartbeats 2000000 in
theorem holds91 (g:Nat) (tv hv wh m nv pv:Value) (n:Int) (w:World) (tx:List Int) (Ft:List Nat) (hg:w.heap[g]? = some (.cells #[tv,hv,wh,.int .i64 n,m,nv,pv] 135 (0,0))) (hT:Hid (TX w hv (hols tx) Ft)) (b4 b3 b5 p:Nat) (a:Int) (h4:Bx w b4 3 (.int .i64 a)) (h3:Bx w b3 71 (pt g))
  (hp:p ≤ tx.length) (hh:heldB tx a p = true) (v:Value) (h5:Bx w b5 133 v) (P:World → Prop) (hQ:∀ w',Below w.heap.size w w' → CallsV v p w' fun e w2 => e = .returned (.tuple #[]) ∧ P w2) :
  Calls Tryz.prog 184 #[.int .i64 (p:Int),pt b4,pt b3,pt b5] w fun e w' => e = .returned (.tuple #[]) ∧ P w':=by
 obtain ⟨ad,cap,rfl,hcap,h0 | ⟨tb,off,rfl,_,htl,hcell⟩⟩:=hT.out
 ·rw [hols_len] at h0;omega
 have c3:=bx0 h3
 have c4:=bx0 h4
 rw [hols_len] at hcap
 have g1:w.cell? ⟨g,1,none⟩ = some (.slice (some ⟨tb,off,none⟩) (tx.length + 1) cap):=by rw [← hols_len];exact Joins.cell_of_block hg 1
 have t0:=hcell p (by rw [hols_len];omega)
 rw [hols_at tx p hp] at t0
 unfold heldB at hh
 obtain ⟨r,hrr⟩:∃ r,r = Look.atN tx (p:Int):=⟨_,rfl⟩
 rw [← hrr] at t0 hh
 obtain ⟨l,hl⟩:∃ l,l = tx.length + 1:=⟨_,rfl⟩
 rw [← hl] at g1 hcap
 have b1:decide ((p:Int) < (l:Int)) = true:=by simp;omega
 have b2:decide (p < l) = true:=by simp;omega
 have b3':(p:Int) < (l:Int):=by omega
 have H0:Calls Tryz.prog 167 #[.int .i64 a,.int .i64 r] w.drew fun e w' => e = .returned (.bool true) ∧ Below w.heap.size w w':=
  Calls.mono (Look.holds13 a r w.drew) fun e w' h => ⟨by rw [h.1,hh],by rw [h.2];exact (Below.refl _ _).drew⟩
 have H5:=hid h5
 have HQ:=hid hQ
 clear hg h3 h4 hT hl hrr hcell hh h5 hQ
 go_enter Tryz.func184,Tryz.ntmps184
 go_wp2_with fail
 go_region_with (go_at_call 167;(with_reducible refine H0.mono ?_);rintro e w2 ⟨rfl,hb2⟩)
 all_goals
  have x5:w2.cell? ⟨b5,0,none⟩ = some v:=bx0 (t:=133) ((hb2.block b5 (bx_lt H5.out)).trans H5.out)
  obtain ⟨f,fi,ca,rfl,hcf,hC⟩:=HQ.out w2 hb2
  go_wp2_with ((with_reducible refine hC.mono ?_);rintro e w3 ⟨rfl,hP⟩)
  go_end0
  exact ⟨rfl,hP⟩
def FRY (w:World) (b n:Nat) (f:Nat → Nv):Prop:=(∃ arr:Array Value,w.heap[b]? = some (.cells arr 25 (0,0)) ∧ arr.size = n * 9) ∧ ∀ i,i < n → N9 w b 0 i (f i)
end Go.Proofs.YtacaanhnlfpbhaaGreat
