/- HELPERS: texts of ours put together. -/
import Derived.Test.YtacaanhnlfpbhaaGreatK23
import Derived.Test.YtacaanhnlfpbhaaGreatK36
import Derived.Test.YtacaanhnlfpbhaaGreatK33
import Derived.Test.YtacaanhnlfpbhaaGreatK18
import Derived.Test.YtacaanhnlfpbhaaGreatK37
import Derived.Test.YtacaanhnlfpbhaaGreatK39
import Derived.Test.YtacaanhnlfpbhaaGreatK40
namespace Go.Proofs.YtacaanhnlfpbhaaGreat
open Go.RowKit Go.Lk
set_option linter.unusedVariables false
set_option linter.unusedSimpArgs false
theorem setCells_chgM {w w':World} {F F':List Nat} (b:Nat) (hb:b ∈ F):∀ (vs:List Value) (o:Nat) (w':World),Chg w w' F F'→Chg w (w'.setCells b o vs) F F'
 | [],o,w',h=>h
 | v :: vs,o,w',h=>setCells_chgM (w':=w') b hb vs (o + 1) _ (h.set v hb)
theorem row_setCellsM {base e size n b c:Nat}:∀ (vs:List Value) (o:Nat) (w:World) (xs:List Value),w.ownsRow base e size (.slice (some ⟨b,0,none⟩) n c) n xs→o + vs.length≤xs.length→(w.setCells b o vs).ownsRow base e size (.slice (some ⟨b,0,none⟩) n c) n (xs.take o ++ vs ++ xs.drop (o + vs.length))
 | [],o,w,xs,h,_=>by simpa [World.setCells] using h
 | v :: vs,o,w,xs,h,hl=>by
  have h1:=row_setC h o v
  have h2:=row_setCellsM vs (o + 1) (w.setCell ⟨b,o,none⟩ v) (xs.set o v) h1 (by simp at hl ⊢;omega)
  have e1:(xs.set o v).take (o + 1)=xs.take o ++ [v]:=by
   rw [List.take_succ_eq_append_getElem (by simp at hl ⊢;omega),List.take_set_of_le (Nat.le_refl _)]
   simp
  have e2:(xs.set o v).drop (o + 1 + vs.length)=xs.drop (o + (v :: vs).length):=by
   rw [List.drop_set_of_lt (by omega)]
   simp only [List.length_cons]
   congr 1
   omega
  rw [e1,e2] at h2
  simpa [World.setCells] using h2
theorem make26M (c:Nat) (hc:c * 8≤140737488355325) (w:World):(Instr.makeSlice 26 (.int .i64 (c:Int)) (.int .i64 (c:Int))).run Tryz.prog w=.ok (.slice (some ⟨w.heap.size,0,none⟩) c c) (w.alloc (.cells (madeCells #[.int .i64 0] c) 3)):=by
 obtain ⟨i0,hi0,hz0,hz1,hz2⟩:=info_parts info3H
 have h:=run_make (P:=Tryz.prog) w 26 3 i0 (.int .i64 0) Tryz.underlying26 hi0 hz0 .i64 .i64 c c (by omega) (by omega) (by rw [hz2];omega) (by omega)
 simp only [Int.toNat_natCast,hz1,Nat.mul_one] at h
 exact h
theorem made26M (c N:Nat) (w:World) (hN:N≤w.heap.size) (hc:c≤35184372088832):(w.alloc (.cells (madeCells #[.int .i64 0] c) 3)).ownsRow N 3 1 (.slice (some ⟨w.heap.size,0,none⟩) c c) c (I64 (List.replicate c 0)):=by
 have h:=World.ownsRow_lit (base:=N) (e:=3) (size:=1) w (madeCells #[.int .i64 0] c) c hN (by unfold maxLen;omega) (by rw [size_madeCells];omega)
 rw [toList_madeCells_one] at h
 simpa [I64] using h
theorem copy_noneM (w:World) (dT sT ty elem:TypeId) (d a:Option Addr) (dLen dCap sLen sCap:Nat) (hu:Tryz.prog.underlying dT=some (.slice elem)) (hs:(Tryz.prog.info? elem).map (·.size)=some 1) (hn:Nat.min sLen dLen=0) :
  (Builtin.copy_ #[dT,sT] ty #[.slice d dLen dCap,.slice a sLen sCap]).run Tryz.prog w=.ok (goInt 0) w:=by
 cases hq:Tryz.prog.info? elem with
 | none=>simp [hq] at hs
 | some i =>
  have hl:∀ (x:Addr),(loadCells x 0).run Tryz.prog w=.ok #[] w:=fun x=>by simpa using run_loadCells_list (P:=Tryz.prog) w x [] (by simp)
  cases d <;> cases a <;> simp [Builtin.copy_,run_underlying hu,Builtin.lenOf,Builtin.firstCells,sizeOf,typeInfo,hq,hn,storeCells,hl]
theorem copy26M {W:World} {N tb tn tc z:Nat} {tad:Option Addr} {tx:List Int} (hT:Look.TextAt W.heap.size W tad tn tx) (ho:W.ownsRow N 3 1 (.slice (some ⟨tb,0,none⟩) (tn + z) (tn + z)) (tn + z) (I64 (List.replicate (tn + z) 0))) :
  ∃ W2,(Builtin.copy_ #[26,26] 3 #[.slice (some ⟨tb,0,none⟩) (tn + z) (tn + z),.slice tad tn tc]).run Tryz.prog W=.ok (.int .i64 (tn:Int)) W2∧W2.ownsRow N 3 1 (.slice (some ⟨tb,0,none⟩) (tn + z) (tn + z)) (tn + z) (I64 (tx ++ List.replicate z 0))∧Chg W W2 [tb] [tb]:=by
 obtain ⟨h1,h2,h0 | ⟨b,o,rfl,hb,hc⟩⟩:=hT
 ·have htx:tx=[]:=List.length_eq_zero_iff.1 (by omega)
  subst htx
  subst h0
  refine ⟨W,?_,by simpa using ho,Chg.refl _ _⟩
  have:=copy_noneM W 26 26 3 3 (some ⟨tb,0,none⟩) tad (0 + z) (0 + z) 0 tc Tryz.underlying26 size3 (by simp)
  simpa [goInt] using this
 ·have hl:(I64 tx).length=tn:=by simp [I64];omega
  have h:=run_copy_cells (P:=Tryz.prog) W 26 26 3 3 tb 0 (tn + z) (tn + z) ⟨b,o,none⟩ tn tc (I64 tx) Tryz.underlying26 size3 (by rw [hl];simp) (fun j v hj=>by
   have hjl:=(List.getElem?_eq_some_iff.1 hj).1
   rw [Addr.add_mid,hc j (by omega),← hj]
   simp [I64,List.getD_eq_getElem?_getD,show j < tx.length by omega]) (fun j hj=>by
   rw [Nat.zero_add,ho.cellAt j (by omega),List.getElem?_eq_getElem (by simp [I64];omega)];rfl) (fun j hj=>by rw [Nat.zero_add];exact ho.frozenAt j) (one_cell_ints tx)
  rw [hl] at h
  refine ⟨W.setCells tb 0 (I64 tx),by simpa [goInt] using h,?_,?_⟩
  ·have h3:=row_setCellsM (I64 tx) 0 W _ ho (by rw [hl];simp [I64])
   rw [Nat.zero_add,List.take_zero,List.nil_append,hl] at h3
   have e:I64 tx ++ (I64 (List.replicate (tn + z) 0)).drop tn=I64 (tx ++ List.replicate z 0):=by
    simp only [I64,List.map_append,List.map_replicate]
    rw [List.drop_replicate,show tn + z - tn=z by omega]
   rw [e] at h3
   exact h3
  ·exact setCells_chgM (w':=W) tb (by simp) (I64 tx) 0 W (Chg.refl _ _)
theorem TL.ti {w:World} {N:Nv} {t:Tn} {A:Nat→Prop} (h:TL w N t A):TI w w.heap.size N t:=by
 induction h with
 | @mk N R ts ND AS ok hRk e1 e2 rr sr hk d1 d2 d3 ih =>
  refine .mk (ND:=ND) ok e1 (fun hn=>?_) hRk e2 (fun hp=>?_) ih
  ·rcases rr.2 with ⟨_,h0⟩ | ⟨b,cap,cur,e,_⟩
   ·simp at h0
   ·simp only [Value.slice.injEq] at e
    have hbl:=(rr.lt b (by rw [e.1];rfl)).2
    rw [e.1] at rr
    refine ⟨b,0,e.1,hbl,fun i hi=>?_⟩
    have hl:i < (R ++ M2).length:=by simp;omega
    obtain ⟨r0,r1⟩:=O2_at (R ++ M2) i hl
    rw [List.getElem_append_left hi] at r0 r1
    rw [Nat.zero_add]
    exact ⟨(rr.cellAt (i * 2) (by omega)).trans r0,(rr.cellAt (i * 2 + 1) (by omega)).trans r1⟩
  ·rcases sr.2 with ⟨_,h0⟩ | ⟨b,cap,cur,e,_⟩
   ·simp at h0
   ·simp only [Value.slice.injEq] at e
    have hbl:=(sr.lt b (by rw [e.1];rfl)).2
    rw [e.1] at sr
    refine ⟨b,0,e.1,hbl,fun i hi=>?_⟩
    have hl:i < ((List.range ts.length).map ND ++ [mk7 (-77),mk7 (-78)]).length:=by simp;omega
    have hg:((List.range ts.length).map ND ++ [mk7 (-77),mk7 (-78)])[i]=ND i:=by
     rw [List.getElem_append_left (by simpa using hi)]
     simp
    have f:∀ k,k < 9→w.cell? ⟨b,i * 9 + k,none⟩=(Nv.cs (ND i))[k]?:=fun k hk'=>by
     rw [sr.cellAt (i * 9 + k) (by omega),flat9 _ i k hl hk',hg]
    have f0:=f 0 (by omega)
    rw [Nat.add_zero] at f0
    unfold N9
    rw [Nat.zero_add]
    exact ⟨f0,f 1 (by omega),f 2 (by omega),f 3 (by omega),f 4 (by omega),f 5 (by omega),f 6 (by omega),f 7 (by omega),f 8 (by omega)⟩
theorem marksM {tx:List Int} {tn:Nat} (h:tn=tx.length):((I64 (tx ++ [0,0])).set tn (.int .i64 71)).set (tn + 1) (.int .i64 72)=I64 (tx ++ [71,72]):=by
 subst h
 simp only [I64,List.map_append]
 rw [List.set_append_right _ _ (by simp),List.set_append_right _ _ (by simp)]
 simp
def LRM (w:World) (N tb tn:Nat) (tx:List Int):Prop:=w.ownsRow N 3 1 (.slice (some ⟨tb,0,none⟩) (tn + 2) (tn + 2)) (tn + 2) (I64 (tx ++ [71,72]))
theorem LRM.text {w:World} {N tb n:Nat} {l:List Int} (hn:n=l.length) (h:LRM w N tb n l) (hl:n≤17592186043904):Look.TextAt w.heap.size w (some ⟨tb,0,none⟩) n l:=by
 refine ⟨hn,by omega,.inr ⟨tb,0,rfl,(World.ownsRow.lt h tb rfl).2,fun k hk=>?_⟩⟩
 rw [Nat.zero_add,World.ownsRow.cellAt h k (by omega)]
 simp only [I64,List.map_append]
 rw [List.getElem?_append_left (by simp;omega)]
 simp [List.getD_eq_getElem?_getD,show k < l.length by omega]
theorem LRM.kept {w w':World} {N tb n:Nat} {l:List Int} (h:LRM w N tb n l) (hb:w'.heap[tb]?=w.heap[tb]?):LRM w' N tb n l:=row_kept h (fun b hb'=>by cases hb';exact hb)
theorem LRM.blk {w:World} {N tb n:Nat} {l:List Int} (h:LRM w N tb n l):N≤tb∧tb < w.heap.size:=World.ownsRow.lt h tb rfl
theorem LRM.m1 {w:World} {N tb n:Nat} {l:List Int} (hn:n=l.length) (h:LRM w N tb n l):w.cell? ⟨tb,n,none⟩=some (.int .i64 71):=(World.ownsRow.cellAt h n (by omega)).trans (by subst hn;simp [I64])
theorem LRM.m2 {w:World} {N tb n:Nat} {l:List Int} (hn:n=l.length) (h:LRM w N tb n l):w.cell? ⟨tb,n + 1,none⟩=some (.int .i64 72):=(World.ownsRow.cellAt h (n + 1) (by omega)).trans (by subst hn;simp [I64])
structure Few (l:List (Int × List Int)):Prop where
 few:l.length≤65
 caps:∀ x ∈ l,x.2.length≤2000
theorem errP_sound {t:Tn} {tn:Nat} {a:Int} (h:errP t tn a=0):t.sound=true:=by
 unfold errP at h
 split at h
 ·cases h
 ·split at h
  ·cases h
  ·next g=>simpa using g
theorem agreeM {t:Tn} {tx:List Int} {tn:Nat} {at_:Int} {l m:List (Int × List Int)} (h1:errP t tn at_=0→PS t t.notes tx at_.toNat l∧l.length≤65) (h2:errP t tn at_≠0→l=[]) (g1:errP t tn at_=0→PS t.spread t.notes tx at_.toNat m∧m.length≤65) (g2:errP t tn at_≠0→m=[]):m=l∧Few l:=by
 by_cases h0:errP t tn at_=0
 ·obtain ⟨a1,a2⟩:=h1 h0
  obtain ⟨b1,_⟩:=g1 h0
  have hs:=errP_sound h0
  have hf:=(sound_parts hs).1
  obtain ⟨q1,q2⟩:=fine_gi t hf
  have hK:2≤t.notes∧t.notes≤2000:=by simp only [Tn.notes];omega
  refine ⟨PS.spread_eq b1 a1,a2,fun x hx=>?_⟩
  rw [(a1.within hK.1 (t.fine_from1 hf) x hx).len]
  exact hK.2
 ·rw [h2 h0,g2 h0]
  exact ⟨rfl,by simp,by simp⟩
structure AnsAt (lo hi:Nat) (w:World) (v:Value) (l:List (Int × List Int)) (cs:List Value) (F:List Nat):Prop where
 own:w.ownsRow lo 57 2 v l.length cs
 pr:PR lo w cs l F
 nd:F.Nodup
 top:∀ b,v.ownBlock=some b→b < hi
 topF:∀ b,b ∈ F→b < hi
theorem AnsAt.of {lo:Nat} {w:World} {v:Value} {l:List (Int × List Int)} (h:ParsedD lo w v l):∃ cs F,AnsAt lo w.heap.size w v l cs F:=by
 obtain ⟨cs,F,h1,h2,h3⟩:=h
 exact ⟨cs,F,h1,h2,h3,fun b hb=>(h1.lt b hb).2,fun b hb=>(h2.low b hb).2⟩
theorem AnsAt.kept {lo hi:Nat} {w w':World} {v:Value} {l:List (Int × List Int)} {cs:List Value} {F:List Nat} (h:AnsAt lo hi w v l cs F) (hk:∀ b,lo≤b→b < hi→w'.heap[b]?=w.heap[b]?):AnsAt lo hi w' v l cs F:=
 ⟨row_kept h.own (fun b hb=>hk b (h.own.lt b hb).1 (h.top b hb)),h.pr.kept (fun b hb=>hk b (h.pr.low b hb).1 (h.topF b hb)),h.nd,h.top,h.topF⟩
theorem AnsAt.parsed {lo hi:Nat} {w:World} {v:Value} {l:List (Int × List Int)} {cs:List Value} {F:List Nat} (h:AnsAt lo hi w v l cs F):Parsed lo w v l:=⟨cs,F,h.own,h.pr⟩
structure Ok13 (t:Tn) (tx:List Int) (tn:Nat) (a:Int) (l:List (Int × List Int)):Prop where
 ok:errP t tn a=0→PS t t.notes tx a.toNat l∧l.length≤65
 no:errP t tn a≠0→l=[]
structure Ok14 (t:Tn) (tx:List Int) (tn:Nat) (a:Int) (l:List (Int × List Int)):Prop where
 ok:errP t tn a=0→PS t.spread t.notes tx a.toNat l∧l.length≤65
 no:errP t tn a≠0→l=[]
theorem Ok13.agree {t:Tn} {tx:List Int} {tn:Nat} {a:Int} {l m:List (Int × List Int)} (h:Ok13 t tx tn a l) (g:Ok14 t tx tn a m):m=l∧Few l:=agreeM h.ok h.no g.ok g.no
theorem parsesM {N:Nv} {t:Tn} {tx:List Int} {ad:Option Addr} {tn tcap:Nat} {a E:Int} {w:World} (hTI:TI w w.heap.size N t) (htx:Look.TextAt w.heap.size w ad tn tx) (htc:tn≤tcap) (hE:E=errP t tn a) :
  Calls Tryz.prog 13 #[N.v,.slice ad tn tcap,.int .i64 a] w fun e w'=>∃ pa pc l cs F,e=.returned (.tuple #[.slice pa l.length pc,.int .i64 E])∧AnsAt w.heap.size w'.heap.size w' (.slice pa l.length pc) l cs F∧Ok13 t tx tn a l∧Below w.heap.size w w':=by
 subst hE
 refine (parses13D N t tx ad tn tcap a w hTI htx htc).mono ?_
 rintro e w' ⟨pv,l,rfl,hP,h0,h1,hb⟩
 obtain ⟨pa,pc,rfl⟩:=hP.parsed.form
 obtain ⟨cs,F,hA⟩:=AnsAt.of hP
 exact ⟨pa,pc,l,cs,F,rfl,hA,⟨h0,fun h=>(h1 h).2⟩,hb⟩
theorem rparsesM {N:Nv} {t:Tn} {tx:List Int} {ad:Option Addr} {tn tcap:Nat} {a E:Int} {w:World} (hTI:TI w w.heap.size N t) (htx:Look.TextAt w.heap.size w ad tn tx) (htc:tn≤tcap) (hE:E=errP t tn a) :
  Calls Tryz.prog 14 #[N.v,.slice ad tn tcap,.int .i64 a] w fun e w'=>∃ pa pc l,e=.returned (.tuple #[.slice pa l.length pc,.int .i64 E])∧Parsed w.heap.size w' (.slice pa l.length pc) l∧Ok14 t tx tn a l∧Below w.heap.size w w':=by
 subst hE
 refine (parses14 N t tx ad tn tcap a w hTI htx htc).mono ?_
 rintro e w' ⟨pv,l,rfl,hP,h0,h1,hb⟩
 obtain ⟨pa,pc,rfl⟩:=hP.form
 exact ⟨pa,pc,l,rfl,hP,⟨h0,fun h=>(h1 h).2⟩,hb⟩
theorem three_newM (w:World) (o o':Obj) (c:Array Value) (t:TypeId):(((w.alloc o).alloc o').alloc (.cells c t)).heap[w.heap.size + 1 + 1]?=some (.cells c t (0,0)):=by
 have:=heap_alloc_new ((w.alloc o).alloc o') (.cells c t)
 simpa using this
theorem two_cellsM {w:World} {b:Nat} {v0 v1:Value} {t:TypeId} {fr:Nat × Nat} (h:w.heap[b]?=some (.cells #[v0,v1] t fr)):w.cell? ⟨b,0,none⟩=some v0∧w.cell? ⟨b,1,none⟩=some v1:=by
 constructor <;> simp [World.cell?,h]
theorem lendM {w:World} {tad:Option Addr} {tn tc:Nat} {tx:List Int} (hT:Look.TextAt w.heap.size w tad tn tx) (htn:tn≤17592186043904) :
  ∃ (M M2 M3 M4:World) (tb:Nat) (v0 v1:Value),(Instr.makeSlice 26 (.int .i64 ((tn:Int) + 2)) (.int .i64 ((tn:Int) + 2))).run Tryz.prog w=.ok (.slice (some ⟨tb,0,none⟩) (tn + 2) (tn + 2)) M∧Below w.heap.size w M ∧
   (Builtin.copy_ #[26,26] 3 #[.slice (some ⟨tb,0,none⟩) (tn + 2) (tn + 2),.slice tad tn tc]).run Tryz.prog M=.ok (.int .i64 (tn:Int)) M2∧Below w.heap.size w M2∧M3=M2.setCell ⟨tb,tn,none⟩ (.int .i64 71)∧M4=M3.setCell ⟨tb,tn + 1,none⟩ (.int .i64 72) ∧
   M2.cell? ⟨tb,tn,none⟩=some v0∧M2.frozen? ⟨tb,tn,none⟩=false∧M3.cell? ⟨tb,tn + 1,none⟩=some v1∧M3.frozen? ⟨tb,tn + 1,none⟩=false∧Below w.heap.size w M3∧Below w.heap.size w M4∧LRM M4 w.heap.size tb tn tx∧tb=w.heap.size:=by
 have htl:tn=tx.length:=hT.1
 have hmk:=make26M (tn + 2) (by omega) w
 have hr0:=made26M (tn + 2) w.heap.size w (Nat.le_refl _) (by omega)
 obtain ⟨M,hM⟩:∃ M,M=w.alloc (.cells (madeCells #[.int .i64 0] (tn + 2)) 3):=⟨_,rfl⟩
 obtain ⟨tb,htb⟩:∃ tb,tb=w.heap.size:=⟨_,rfl⟩
 have hbM:Below w.heap.size w M:=by rw [hM];exact Joins.below_alloc1 w _
 rw [← hM,← htb] at hmk hr0
 rw [show ((tn + 2:Nat):Int)=(tn:Int) + 2 by omega] at hmk
 obtain ⟨M2,hcp,hrow2,hch2⟩:=copy26M (tc:=tc) (z:=2) ((hT.below hbM).mono hbM.size) hr0
 have hst:=row_setC (row_setC hrow2 tn (.int .i64 71)) (tn + 1) (.int .i64 72)
 rw [show List.replicate 2 (0:Int)=[0,0] from rfl,marksM htl] at hst
 have d0:=(row_there hrow2 (j:=tn) (m:=1) (by omega) 0 (by omega))
 rw [Nat.add_zero] at d0
 obtain ⟨v0,hv0⟩:=Option.isSome_iff_exists.1 d0.1
 have d1:=row_there (row_setC hrow2 tn (.int .i64 71)) (j:=tn + 1) (m:=1) (by omega) 0 (by omega)
 rw [Nat.add_zero] at d1
 obtain ⟨v1,hv1⟩:=Option.isSome_iff_exists.1 d1.1
 have c2:Below w.heap.size M M2:=hch2.below hbM.size (by simp;omega)
 have c3:Below w.heap.size M (M2.setCell ⟨tb,tn,none⟩ (.int .i64 71)):=(hch2.set (a:=⟨tb,tn,none⟩) _ (by simp)).below hbM.size (by simp;omega)
 have c4:Below w.heap.size M ((M2.setCell ⟨tb,tn,none⟩ (.int .i64 71)).setCell ⟨tb,tn + 1,none⟩ (.int .i64 72)):=((hch2.set (a:=⟨tb,tn,none⟩) _ (by simp)).set (a:=⟨tb,tn + 1,none⟩) _ (by simp)).below hbM.size (by simp;omega)
 exact ⟨M,M2,_,_,tb,v0,v1,hmk,hbM,hcp,hbM.trans c2,rfl,rfl,hv0,d0.2,hv1,d1.2,hbM.trans c3,hbM.trans c4,by rw [← htb];exact hst,htb⟩
def pick4 {α:Type} (a b c d:α):Nat→α
 | 0=>a
 | 1=>b
 | 2=>c
 | _=>d
theorem own4M {w:World} {g o1 o2 o3 o4 o5 o6 cp:Nat} {va vb vc vd:Value} {la lb lc ld:List (Int × List Int)} {sa sb sc sd:List Value} {Fa Fb Fc Fd:List Nat} (hA:AnsAt o1 o2 w va la sa Fa) (hB:AnsAt o2 o3 w vb lb sb Fb) (hC:AnsAt o3 o4 w vc lc sc Fc) (hD:AnsAt o5 o6 w vd ld sd Fd) (h12:o1≤o2) (h23:o2≤o3) (h34:o3≤o4) (h45:o4≤o5) (h56:o5≤o6) (h6:o6≤g) (hg:g < w.heap.size)
  (c0:w.cell? ⟨g,0,none⟩=some va) (c1:w.cell? ⟨g,1,none⟩=some vb) (c2:w.cell? ⟨g,2,none⟩=some vc) (c3:w.cell? ⟨g,3,none⟩=some vd) (fA:Few la) (fB:Few lb) (fC:Few lc) (fD:Few ld) :
  Calls Tryz.prog 21 #[.slice (some ⟨g,0,none⟩) 4 cp] w fun e w'=>e=.returned (.bool true)∧Below o1 w w':=by
 have h:Ans4 o1 g 4 (pick4 va vb vc vd) (pick4 la lb lc ld) (pick4 sa sb sc sd) (pick4 Fa Fb Fc Fd) (pick4 o1 o2 o3 o5) (pick4 o2 o3 o4 o6) w:=by
  refine ⟨fun j hj=>?_,fun j hj=>?_,fun j hj=>?_,fun j hj=>?_,fun j hj=>?_,fun j hj=>?_,fun i j hij hj=>?_,fun j hj=>?_,hg,by omega,fun j hj=>?_,fun j hj=>?_,fun j hj=>?_,by omega⟩
  ·match j,hj with
   | 0,_=>exact hA.own
   | 1,_=>exact hB.own
   | 2,_=>exact hC.own
   | 3,_=>exact hD.own
  ·match j,hj with
   | 0,_=>exact hA.pr
   | 1,_=>exact hB.pr
   | 2,_=>exact hC.pr
   | 3,_=>exact hD.pr
  ·match j,hj with
   | 0,_=>exact hA.nd
   | 1,_=>exact hB.nd
   | 2,_=>exact hC.nd
   | 3,_=>exact hD.nd
  ·match j,hj with
   | 0,_=>exact Nat.le_refl _
   | 1,_=>exact h12
   | 2,_=>exact Nat.le_trans h12 h23
   | 3,_=>show o1≤o5;omega
  ·match j,hj with
   | 0,_=>exact hA.top
   | 1,_=>exact hB.top
   | 2,_=>exact hC.top
   | 3,_=>exact hD.top
  ·match j,hj with
   | 0,_=>exact hA.topF
   | 1,_=>exact hB.topF
   | 2,_=>exact hC.topF
   | 3,_=>exact hD.topF
  ·match i,j,hij,hj with
   | 0,1,_,_=>exact Nat.le_refl _
   | 0,2,_,_=>exact h23
   | 0,3,_,_=>show o2≤o5;omega
   | 1,2,_,_=>exact Nat.le_refl _
   | 1,3,_,_=>show o3≤o5;omega
   | 2,3,_,_=>exact h45
   | i + 3,j,hij,hj=>omega
  ·match j,hj with
   | 0,_=>show o2≤g;omega
   | 1,_=>show o3≤g;omega
   | 2,_=>show o4≤g;omega
   | 3,_=>exact h6
  ·match j,hj with
   | 0,_=>exact c0
   | 1,_=>exact c1
   | 2,_=>exact c2
   | 3,_=>exact c3
  ·match j,hj with
   | 0,_=>exact fA.few
   | 1,_=>exact fB.few
   | 2,_=>exact fC.few
   | 3,_=>exact fD.few
  ·match j,hj with
   | 0,_=>exact fun i h=>Nat.le_trans (fA.caps _ (List.getElem_mem h)) (by omega)
   | 1,_=>exact fun i h=>Nat.le_trans (fB.caps _ (List.getElem_mem h)) (by omega)
   | 2,_=>exact fun i h=>Nat.le_trans (fC.caps _ (List.getElem_mem h)) (by omega)
   | 3,_=>exact fun i h=>Nat.le_trans (fD.caps _ (List.getElem_mem h)) (by omega)
 obtain ⟨NN,A,cl,hO⟩:=h.ow
 exact own21 (hid hO)
theorem appM {T W w3:World} {g lo hi n base:Nat} {v':Value} {L:List Int} {M:Nv} {t:Tn} (hT:Below T.heap.size T W) (hTP:TP W (fun b=>lo≤b∧b < hi) M t) (hhi:hi≤W.heap.size) (hg:T.heap.size≤g) (hgl:g < lo∨hi≤g) (hn:n≤17592186043904)
  (ho:w3.ownsRow base 3 1 v' (0 + n) ([] ++ I64 L)) (hf:Frm W w3 (.slice (some ⟨g,0,none⟩) 0 0) v') :
  ∃ p1 p3,v'=.slice p1 n p3∧n≤p3∧Look.TextAt w3.heap.size w3 p1 n L∧TI w3 w3.heap.size M t∧Below T.heap.size T w3:=by
 rw [Nat.zero_add,List.nil_append] at ho
 obtain ⟨p1,p3,e,h1,h2⟩:=own_text ho (by omega)
 refine ⟨p1,p3,e,h1,h2,(hTP.kept (A':=fun b=>lo≤b∧b < hi) (fun b hb=>hf.block b (by omega) (by simp only [Value.ownBlock];intro h;cases h;omega)) (fun b hb=>hb)).ti (fun b hb=>by have:=hf.size;omega),hf.os.trans hT.os,hf.tape.trans hT.tape,hf.output.trans hT.output,Nat.le_trans hT.size hf.size,fun b hb=>(hf.block b (by have:=hT.size;omega) (by simp only [Value.ownBlock];intro h;cases h;omega)).trans (hT.block b hb)⟩
theorem en14M:∀ (args:Array Value) (w:World),(callFunc 14 args).run Tryz.prog w=.ok (.enter 14 args) w:=enter_of Tryz.func14 (by kernel_rfl) rfl
theorem en20M:∀ (args:Array Value) (w:World),(callFunc 20 args).run Tryz.prog w=.ok (.enter 20 args) w:=enter_of Tryz.func20 (by kernel_rfl) rfl
theorem src1000 {w:World} {tb n:Nat} (h:Look.TextAt w.heap.size w (some ⟨tb,0,none⟩) n (List.replicate n 1000)):0 < n→∃ b f,(some ⟨tb,0,none⟩:Option Addr)=some ⟨b,f,none⟩∧∀ j u,(I64 (List.replicate n 1000))[j]?=some u→w.cell? ⟨b,f + j,none⟩=some u:=by
 intro h0
 obtain ⟨_,_,e | ⟨b,f,e,_,hc⟩⟩:=h
 ·omega
 ·refine ⟨b,f,e,fun j u hj=>?_⟩
  have hjl:j < n:=by have:=(List.getElem?_eq_some_iff.1 hj).1;simpa [I64] using this
  rw [hc j hjl]
  simp [I64,List.getD_eq_getElem?_getD,hjl] at hj ⊢
  exact hj
theorem text1000 {w:World} {N tb n:Nat} {xs:List Value} (hr:w.ownsRow N 3 1 (.slice (some ⟨tb,0,none⟩) (n + 2) (n + 2)) (n + 2) xs) (hx:∀ k,k < n→xs[k]?=some (.int .i64 1000)) (hn:n≤17592186043904):Look.TextAt w.heap.size w (some ⟨tb,0,none⟩) n (List.replicate n 1000):=by
 refine ⟨by simp,by omega,.inr ⟨tb,0,rfl,(hr.lt tb rfl).2,fun k hk=>?_⟩⟩
 rw [Nat.zero_add,hr.cellAt k (by omega),hx k hk]
 simp [List.getD_eq_getElem?_getD,hk]
end Go.Proofs.YtacaanhnlfpbhaaGreat
