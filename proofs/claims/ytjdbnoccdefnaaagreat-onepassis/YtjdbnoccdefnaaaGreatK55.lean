/- HELPERS: texts of ours put together. -/
import Derived.Test.YtjdbnoccdefnaaaGreatK54
import Derived.Test.YtjdbnoccdefnaaaGreatK05
import Derived.Test.YtjdbnoccdefnaaaGreatK06
import Derived.Laws.StructEq
import Derived.Deep.DrawnRows
namespace Go.Proofs.YtjdbnoccdefnaaaGreat
open Go.RowKit
set_option linter.unusedVariables false
set_option linter.unusedSimpArgs false
theorem Below.two {base g o o':Nat} {w w':World} (h:Below base w w') (hg:base ≤ g) (p q:Value):Below base w ((w'.setCell ⟨g,o,none⟩ p).setCell ⟨g,o',none⟩ q):=(h.setCell (p:=⟨g,o,none⟩) hg p).setCell (p:=⟨g,o',none⟩) hg q
set_option maxRecDepth 100000 in
set_option maxHeartbeats 16000000 in
theorem turned13 {w:World} {ad:Option Addr} {n c:Nat} {l:List In} {MS:List Iv} {s k:Int} {base:Nat} (h:PL w base ad n c l MS) (hn:n * 56 ≤ 140737488351232) (hbase:base ≤ w.heap.size) :
    Calls Tryz.prog 12 #[pv ad n c s k] w fun e w' => e = .returned (.tuple #[]) ∧ (∃ l',PI w' w'.heap.size ad n l') ∧ Below base w w' ∧ w.heap.size ≤ w'.heap.size ∧ ∀ (b':Nat) (cs:Array Value) (fr:Nat × Nat),w.heap[b']? = some (.cells cs 24 fr) → w'.heap[b']? = some (.cells cs 24 fr):=by
  obtain ⟨gz,rfl,hc1,hc2⟩:=h.blk
  obtain ⟨U,hU⟩:∃ U,U = w.alloc (.cells #[.slice (some ⟨gz,0,none⟩) n c,.int .i64 s,.int .i64 k] 24):=⟨_,rfl⟩
  have hb:Below w.heap.size w U:=by rw [hU];exact Joins.below_alloc1 w _
  have hX:U.heap[w.heap.size]? = some (.cells #[.slice (some ⟨gz,0,none⟩) n c,.int .i64 s,.int .i64 k] 24 (0,0)):=by rw [hU];exact heap_alloc_new w _
  have HT:=hid (h.tv.below hb)
  have HB:Hid (Below base w U):=Joins.below_le hb hbase
  have HF:Hid (∀ (b':Nat) (cs:Array Value) (fr:Nat × Nat),w.heap[b']? = some (.cells cs 24 fr) → U.heap[b']? = some (.cells cs 24 fr)):=fun b' cs fr h' => (hb.block b' (Array.getElem?_eq_some_iff.1 h').1).trans h'
  have hsz:w.heap.size < U.heap.size:=(Array.getElem?_eq_some_iff.1 hX).1
  obtain ⟨b,hbe⟩:∃ b,b = w.heap.size:=⟨_,rfl⟩
  clear h hb
  go_enter Tryz.func12,Tryz.ntmps12
  go_upto_region 1 with fail
  rw [← hU,← hbe]
  rw [← hbe] at hX hsz
  have HX:=hid hX
  have HBE:=hid hbe
  clear hU hbe hX
  go_wp2_with fail
  go_loopw [2] (fun y wq => ∃ i:Nat,y = .int .i64 (i:Int) ∧ i ≤ n ∧ Hid (∃ l' MS',TV wq base (some ⟨gz,0,none⟩) n c l' MS') ∧ Hid (Below base w wq) ∧ Hid (wq.heap[b]? = some (.cells #[.slice (some ⟨gz,0,none⟩) n c,.int .i64 s,.int .i64 k] 24 (0,0))) ∧ b < wq.heap.size ∧ Hid (∀ (b':Nat) (cs:Array Value) (fr:Nat × Nat),w.heap[b']? = some (.cells cs 24 fr) → wq.heap[b']? = some (.cells cs 24 fr))) (fun y _ => n - (intOf y).toNat)
  case atStart => exact ⟨0,rfl,by omega,⟨_,_,HT.out⟩,HB.out,HX.out,hsz,HF.out⟩
  case round =>
    clear HT HB HX hsz HF
    obtain ⟨i,rfl,hi,HT,HB,HX,hsz,HF⟩:=hrel
    obtain ⟨p0,p1,p2⟩:=three_cells HX.out
    by_cases hil:i < n
    · have b1:decide ((i:Int) < (n:Int)) = true:=by simp;omega
      have b2:(i:Int) < (n:Int):=by omega
      have ad1:IntKind.i64.wrap ((i:Int) + 1) = (i:Int) + 1:=by simp [IntKind.wrap,IntKind.bits,IntKind.signed];omega
      go_wp2_with fail
      obtain ⟨l1,MS,hT⟩:=HT.out
      obtain ⟨N,hN⟩:∃ N,N = MS.getD i default:=⟨_,rfl⟩
      obtain ⟨op,xx,yy,aa,r1,r2,r3⟩:=N
      have hr2:r2 ≤ 8796093022208:=by
        rcases hT.lo i (by have:=hT.len;omega) with hO | ⟨e1,_⟩
        · rw [← hN] at hO;have:=hO.sm;dsimp only at this;omega
        · rw [← hN] at e1;cases e1;omega
      have HT1:=hid hT
      have HN:=hid hN
      clear hT hN HT p0 p1 p2
      go_loopw [3] (fun y wq => ∃ j:Nat,y = .int .i64 (j:Int) ∧ j ≤ r2 ∧ Hid (∃ l',TV wq base (some ⟨gz,0,none⟩) n c l' MS) ∧ Hid (Below base w wq) ∧ Hid (wq.heap[b]? = some (.cells #[.slice (some ⟨gz,0,none⟩) n c,.int .i64 s,.int .i64 k] 24 (0,0))) ∧ b < wq.heap.size ∧ Hid (∀ (b':Nat) (cs:Array Value) (fr:Nat × Nat),w.heap[b']? = some (.cells cs 24 fr) → wq.heap[b']? = some (.cells cs 24 fr))) (fun y _ => r2 - (intOf y).toNat)
      case atStart => exact ⟨0,rfl,by omega,⟨_,HT1.out⟩,HB.out,HX.out,hsz,HF.out⟩
      case round =>
        clear HT1 HB HX hsz HF
        obtain ⟨j,rfl,hj,HT,HB,HX,hsz,HF⟩:=hrel
        obtain ⟨p0,p1,p2⟩:=three_cells HX.out
        obtain ⟨l2,hT⟩:=HT.out
        have hI5:=hT.at5 i hil
        rw [← HN.out] at hI5
        unfold I5 at hI5
        simp only [Nat.zero_add] at hI5
        obtain ⟨n0,n1,n2,n3,n4⟩:=hI5
        have hgb:gz ≠ b:=fun e => own_ne hT.row HX.out (by decide) (by rw [e];rfl)
        by_cases hjl:j < r2
        · have b3:decide ((j:Int) < (r2:Int)) = true:=by simp;omega
          have b4:(j:Int) < (r2:Int):=by omega
          have ad2:IntKind.i64.wrap ((j:Int) + 1) = (j:Int) + 1:=by simp [IntKind.wrap,IntKind.bits,IntKind.signed];omega
          have m3:IntKind.i64.wrap (3 * (j:Int)) = 3 * (j:Int):=by simp [IntKind.wrap,IntKind.bits,IntKind.signed];omega
          have m4:IntKind.i64.wrap (1000 + 3 * (j:Int)) = 1000 + 3 * (j:Int):=by simp [IntKind.wrap,IntKind.bits,IntKind.signed];omega
          obtain ⟨g,hg,hO⟩:∃ g,r1 = some ⟨g,0,none⟩ ∧ LO wr base (.slice (some ⟨gz,0,none⟩) (n + 2) c) ⟨op,xx,yy,aa,r1,r2,r3⟩ (l2[i]'(by have:=hT.len;omega)):=by
            rcases hT.lo i (by have:=hT.len;omega) with hO | ⟨e1,_⟩
            · rw [← HN.out] at hO
              obtain ⟨g,e,_,_⟩:=hO.blk
              exact ⟨g,e,hO⟩
            · rw [← HN.out] at e1;cases e1;omega
          subst hg
          have hlen:=hO.len
          dsimp only at hlen
          have ht:=row_there hO.rr (j:=j * 2) (m:=2) (by omega)
          have hgb2:g ≠ b:=fun e => own_ne hO.rr HX.out (by decide) (by rw [e];rfl)
          have hgbase:base ≤ g:=(hO.rr.lt g rfl).1
          have hgf:∀ (b':Nat) (cs:Array Value) (fr:Nat × Nat),w.heap[b']? = some (.cells cs 24 fr) → b' ≠ g:=fun b' cs fr h' e => own_ne hO.rr (HF.out b' cs fr h') (by decide) (by rw [e];rfl)
          have HGF:=hid hgf
          clear hgf
          obtain ⟨l3,hT3⟩:=hT.setR i hil HN.out.symm j hjl (1000 + 3 * (j:Int)) (1000 + 3 * (j:Int))
          have HT3:=hid hT3
          clear hT hT3 hO hlen HT
          go_wp2_with ((with_reducible refine store49 rfl (.tmp 36) (.tmp 35) rfl g j (1000 + 3 * (j:Int)) (1000 + 3 * (j:Int)) ?_ ?_ ht ?_);(rfl);(rfl))
          exact ⟨⟨j + 1,by push_cast;rfl,by omega,⟨_,HT3.out⟩,Below.two HB.out hgbase _ _,(Below.heap_setCell _ _ _ _ (fun e => hgb2 e.symm)).trans ((Below.heap_setCell _ _ _ _ (fun e => hgb2 e.symm)).trans HX.out),by simpa [World.setCell] using hsz,fun b' cs fr h' => (Below.heap_setCell _ _ _ _ (HGF.out b' cs fr h')).trans ((Below.heap_setCell _ _ _ _ (HGF.out b' cs fr h')).trans (HF.out b' cs fr h'))⟩,by simp [intOf];omega⟩
        · have b3:decide ((j:Int) < (r2:Int)) = false:=by simp;omega
          by_cases h7:op = 7
          · subst h7
            have ht:=row_there hT.row (j:=i * 5) (m:=5) (by omega)
            have hT5:=hT.setI i hil
            have hgbase:base ≤ gz:=(hT.row.lt gz rfl).1
            have hgf:∀ (b':Nat) (cs:Array Value) (fr:Nat × Nat),w.heap[b']? = some (.cells cs 24 fr) → b' ≠ gz:=fun b' cs fr h' e => own_ne hT.row (HF.out b' cs fr h') (by decide) (by rw [e];rfl)
            have HGF:=hid hgf
            clear hgf
            have HT5:=hid hT5
            clear hT hT5 HT
            go_wp2_with ((with_reducible refine store51 rfl (.tmp 48) (.tmp 47) rfl gz i ?_ ?_ ht ?_);(rfl);(rfl))
            exact ⟨⟨i + 1,by push_cast;rfl,by omega,⟨_,_,HT5.out⟩,Below.setCells hgbase _ _ _ _ HB.out,(setCells_old gz _ _ _ b (fun e => hgb e.symm)).trans HX.out,by rw [setCells_size];exact hsz,fun b' cs fr h' => (setCells_old gz _ _ _ b' (HGF.out b' cs fr h')).trans (HF.out b' cs fr h')⟩,by simp [intOf];omega⟩
          · have b7:(op == 7) = false:=by simpa using h7
            have HTT:=hid hT
            clear hT HT
            go_wp2
            exact ⟨⟨i + 1,by push_cast;rfl,by omega,⟨_,_,HTT.out⟩,HB.out,HX.out,hsz,HF.out⟩,by simp [intOf];omega⟩
    · have b1:decide ((i:Int) < (n:Int)) = false:=by simp;omega
      go_wp2
      all_goals go_end0
      all_goals obtain ⟨l',MS',hT⟩:=HT.out
      all_goals exact ⟨rfl,⟨l',hT.pi⟩,HB.out,by have:=HBE.out;omega,HF.out⟩
attribute [local go_sem ↓] Go.wp_at_zero Go.wp_at_succ
theorem fields49:Tryz.prog.underlying 50 = some (.struct (Tryz.prog.fieldsOf 50)):=by kernel_rfl
theorem held49:Tryz.prog.stoodInHeld 50 = false:=by kernel_rfl
theorem guard49:Tryz.prog.eqGuardType Tryz.prog.depth 50 = false:=by kernel_rfl
set_option maxRecDepth 100000 in
theorem rng_neq (lo hi:Int) (W:World):(binOp .neq 50 (.agg #[.int .i64 lo,.int .i64 hi]) (.agg #[.int .i64 lo,.int .i64 hi])).run Tryz.prog W = .ok (.bool false) W:=by
  have he:∀ (a b:Int),(Op.equalIn 9999 3 (.int .i64 a) (.int .i64 b)).run Tryz.prog W = .ok (a == b) W:=fun a b => run_equalIn_int W 9998 3 .i64 .i64 a b Tryz.underlying3
  rw [run_neq_struct,show Op.equalIn 10000 50 = Op.equalIn (9999 + 1) 50 from rfl,run_equalIn_agg W 9999 50 _ _ fields49 held49]
  have hp:∀ (xs:Array Value) (o:Nat) (v:Value),xs[o]? = some v → (part 3 xs o).run Tryz.prog W = .ok v W:=by
    intro xs o v h
    simp [part,Tryz.isAgg3,h,Result.andThen]
  simp [Program.fieldsOf,Tryz.underlying50,Op.eqFields,hp,he,Result.andThen]
theorem rng_guard (x y:Operand) (lo hi lo' hi':Int) (W:World):(eqGuard .neq 50 x y (.agg #[.int .i64 lo,.int .i64 hi]) (.agg #[.int .i64 lo',.int .i64 hi'])).run Tryz.prog W = .ok () W:=run_eqGuard_agg W .neq 50 x y _ _ guard49
set_option maxRecDepth 100000 in
set_option maxHeartbeats 8000000 in
theorem same11 {w:World} {ad ad':Option Addr} {n c c':Nat} {l:List In} {s k:Int} (h:PI w w.heap.size ad n l) (h':PI w w.heap.size ad' n l) (hn:n ≤ 9223372036854775807) :
    Calls Tryz.prog 10 #[pv ad n c s k,pv ad' n c' s k] w fun e w' => e = .returned (.bool true) ∧ Below w.heap.size w w':=by
  obtain ⟨U,hU⟩:∃ U,U = (w.alloc (.cells #[.slice ad n c,.int .i64 s,.int .i64 k] 24)).alloc (.cells #[.slice ad' n c',.int .i64 s,.int .i64 k] 24):=⟨_,rfl⟩
  have hb:Below w.heap.size w U:=by rw [hU];exact below_two' w _ _
  have hX1:U.heap[w.heap.size]? = some (.cells #[.slice ad n c,.int .i64 s,.int .i64 k] 24 (0,0)):=by rw [hU];exact (heap_alloc_old _ _ (by simp)).trans (heap_alloc_new w _)
  have hX2:U.heap[w.heap.size + 1]? = some (.cells #[.slice ad' n c',.int .i64 s,.int .i64 k] 24 (0,0)):=by rw [hU];exact two_new w _ _ _
  have HP:=hid (h.kept hb hb.size)
  have HP':=hid (h'.kept hb hb.size)
  have HB:=hid hb
  have HL:=hid h.len
  have l1:w.heap.size < U.heap.size:=(Array.getElem?_eq_some_iff.1 hX1).1
  have l2:w.heap.size + 1 < U.heap.size:=(Array.getElem?_eq_some_iff.1 hX2).1
  clear h h' hb
  go_enter Tryz.func10,Tryz.ntmps10
  go_upto_region 1 with fail
  rw [← hU]
  obtain ⟨x2,hx2⟩:∃ x2,x2 = w.heap.size + 1:=⟨_,rfl⟩
  rw [← hx2] at hX2 l2 ⊢
  obtain ⟨x1,hx1⟩:∃ x1,x1 = w.heap.size:=⟨_,rfl⟩
  rw [← hx1] at hX1 l1 HB ⊢
  have HX1:=hid hX1
  have HX2:=hid hX2
  have HXE:=hid hx1
  clear hx1 hx2 hU hX1 hX2
  obtain ⟨p0,p1,p2⟩:=three_cells HX1.out
  obtain ⟨q0,q1,q2⟩:=three_cells HX2.out
  go_wp2_with fail
  clear p0 p1 p2 q0 q1 q2
  go_loopw [5] (fun y wq => ∃ i:Nat,y = .int .i64 (i:Int) ∧ i ≤ n ∧ Hid (Below U.heap.size U wq)) (fun y _ => n - (intOf y).toNat)
  case atStart => exact ⟨0,rfl,by omega,Below.refl _ _⟩
  case round =>
    obtain ⟨i,rfl,hi,BK⟩:=hrel
    obtain ⟨p0,p1,p2⟩:=three_cells ((BK.out.block x1 l1).trans HX1.out)
    obtain ⟨q0,q1,q2⟩:=three_cells ((BK.out.block x2 l2).trans HX2.out)
    have hUw:U.heap.size ≤ wr.heap.size:=BK.out.size
    have l1w:x1 < wr.heap.size:=by omega
    have l2w:x2 < wr.heap.size:=by omega
    by_cases hil:i < n
    · have b1:decide ((i:Int) < (n:Int)) = true:=by simp;omega
      have b2:(i:Int) < (n:Int):=by omega
      have ad1:IntKind.i64.wrap ((i:Int) + 1) = (i:Int) + 1:=by simp [IntKind.wrap,IntKind.bits,IntKind.signed];omega
      have hlt:i < l.length:=by have:=HL.out;omega
      obtain ⟨g,o,ND,e,hg,hcs⟩:=HP.out.mem (by omega)
      obtain ⟨g',o',ND',e',hg',hcs'⟩:=HP'.out.mem (by omega)
      subst e e'
      have lg:g < wr.heap.size:=by omega
      have lg':g' < wr.heap.size:=by omega
      obtain ⟨m0,m1,m2,m3,m4⟩:=(hcs i hlt).1.kept (BK.out.block g hg)
      obtain ⟨t0,t1,t2,t3,t4⟩:=(hcs' i hlt).1.kept (BK.out.block g' hg')
      have hI:=(hcs i hlt).2.kept BK.out BK.out.size
      have hI':=(hcs' i hlt).2.kept BK.out BK.out.size
      obtain ⟨M,hM⟩:∃ M,M = ND i:=⟨_,rfl⟩
      obtain ⟨M',hM'⟩:∃ M,M = ND' i:=⟨_,rfl⟩
      rw [← hM] at m0 m1 m2 m3 m4 hI
      rw [← hM'] at t0 t1 t2 t3 t4 hI'
      clear hM hM' hcs hcs'
      obtain ⟨op,x,y,a,r1,r2,r3⟩:=M
      obtain ⟨op',x',y',a',r1',r2',r3'⟩:=M'
      obtain rfl:op' = op:=hI'.op.trans hI.op.symm
      obtain rfl:x' = x:=hI'.x.trans hI.x.symm
      obtain rfl:y' = y:=hI'.y.trans hI.y.symm
      obtain rfl:a' = a:=hI'.a.trans hI.a.symm
      obtain rfl:r2' = r2:=hI'.len.trans hI.len.symm
      have hr2:r2' ≤ 8796093022208:=by have:=hI.sm;dsimp only at this;omega
      have HI:=hid hI
      have HI':=hid hI'
      clear hI hI'
      dsimp only at m0 m1 m2 m3 m4 t0 t1 t2 t3 t4
      go_wp2_with fail
      obtain ⟨V,hV⟩:∃ V,V = (wr.alloc (.cells #[.int .i64 op',.int .i64 x',.int .i64 y',.int .i64 a',.slice r1 r2' r3] 43)).alloc (.cells #[.int .i64 op',.int .i64 x',.int .i64 y',.int .i64 a',.slice r1' r2' r3'] 43):=⟨_,rfl⟩
      rw [← hV]
      have HBV:Hid (Below wr.heap.size wr V):=by rw [hV];exact below_two' wr _ _
      have hZ1:Hid (V.heap[wr.heap.size]? = some (.cells #[.int .i64 op',.int .i64 x',.int .i64 y',.int .i64 a',.slice r1 r2' r3] 43 (0,0))):=by rw [hV];exact (heap_alloc_old _ _ (by simp)).trans (heap_alloc_new wr _)
      have hZ2:Hid (V.heap[wr.heap.size + 1]? = some (.cells #[.int .i64 op',.int .i64 x',.int .i64 y',.int .i64 a',.slice r1' r2' r3'] 43 (0,0))):=by rw [hV];exact two_new wr _ _ _
      have k1:wr.heap.size < V.heap.size:=(Array.getElem?_eq_some_iff.1 hZ1.out).1
      have k2:wr.heap.size + 1 < V.heap.size:=(Array.getElem?_eq_some_iff.1 hZ2.out).1
      obtain ⟨z2,hz2⟩:∃ z2,z2 = wr.heap.size + 1:=⟨_,rfl⟩
      rw [← hz2] at hZ2 k2 ⊢
      have HBW:=hid (BK.out.trans (Joins.below_le HBV.out BK.out.size))
      have HIV:=hid (HI.out.kept HBV.out HBV.out.size)
      have HIV':=hid (HI'.out.kept HBV.out HBV.out.size)
      obtain ⟨z1,hz1⟩:∃ z1,z1 = wr.heap.size:=⟨_,rfl⟩
      rw [← hz1] at hZ1 k1 ⊢
      clear hV hz1 hz2 HBV HI HI' m0 m1 m2 m3 m4 t0 t1 t2 t3 t4 p0 p1 p2 q0 q1 q2 b1
      go_loopw [8] (fun y wq => ∃ j:Nat,y = .int .i64 (j:Int) ∧ j ≤ r2' ∧ Hid (Below V.heap.size V wq)) (fun y _ => r2' - (intOf y).toNat)
      case atStart => exact ⟨0,rfl,by omega,Below.refl _ _⟩
      case round =>
        obtain ⟨j,rfl,hj,BJ⟩:=hrel
        obtain ⟨d0,d1,d2,d3,d4⟩:=five ((BJ.out.block z1 k1).trans hZ1.out)
        obtain ⟨f0,f1,f2,f3,f4⟩:=five ((BJ.out.block z2 k2).trans hZ2.out)
        by_cases hjl:j < r2'
        · have b3:decide ((j:Int) < (r2':Int)) = true:=by simp;omega
          have b4:(j:Int) < (r2':Int):=by omega
          have ad2:IntKind.i64.wrap ((j:Int) + 1) = (j:Int) + 1:=by simp [IntKind.wrap,IntKind.bits,IntKind.signed];omega
          have hlen:r2' = (l[i]).R.length:=HIV.out.len
          obtain ⟨a1,cap1,e1,h1⟩:=HIV.out.row.below BJ.out (Nat.le_refl _) (Nat.le_refl _)
          obtain ⟨a2,cap2,e2,h2⟩:=HIV'.out.row.below BJ.out (Nat.le_refl _) (Nat.le_refl _)
          simp only [Value.slice.injEq] at e1 e2
          obtain ⟨rfl,_,rfl⟩:=e1
          obtain ⟨rfl,_,rfl⟩:=e2
          rcases h1 with h1 | ⟨rb,ro,rfl,_,u0,u1⟩
          · omega
          rcases h2 with h2 | ⟨rb',ro',rfl,_,v0,v1⟩
          · omega
          have u0:=u0 j (by omega)
          have u1:=u1 j (by omega)
          have v0:=v0 j (by omega)
          have v1:=v1 j (by omega)
          obtain ⟨⟨lo,hi'⟩,hv⟩:∃ v,(l[i]).R.getD j (0,0) = v:=⟨_,rfl⟩
          rw [hv] at u0 u1 v0 v1
          dsimp only at u0 u1 v0 v1
          have hneq:=fun W' => rng_neq lo hi' W'
          have hgd:=fun x y W' => rng_guard x y lo hi' lo hi' W'
          clear hv hlen
          go_wp2_with fail
          go_quiet (fail)
          go_wp2
          exact ⟨⟨j + 1,by push_cast;rfl,by omega,BJ.out.trans ⟨rfl,rfl,rfl,Nat.le_refl _,fun _ _ => rfl⟩⟩,by simp [intOf];omega⟩
        · have b3:decide ((j:Int) < (r2':Int)) = false:=by simp;omega
          go_wp2
          exact ⟨⟨i + 1,by push_cast;rfl,by omega,HBW.out.trans (Joins.below_le BJ.out HBW.out.size)⟩,by simp [intOf];omega⟩
    · have b1:decide ((i:Int) < (n:Int)) = false:=by simp;omega
      go_wp2
      all_goals go_ret
      all_goals refine ⟨rfl,?_⟩
      rw [← HXE.out]
      exact HB.out.trans (Joins.below_le BK.out (by omega))
end Go.Proofs.YtjdbnoccdefnaaaGreat
