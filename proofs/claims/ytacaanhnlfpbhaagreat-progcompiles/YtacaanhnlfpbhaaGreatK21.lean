/- HELPERS: texts of ours put together. -/
import Derived.Test.YtacaanhnlfpbhaaGreatK10
import Derived.Test.YtacaanhnlfpbhaaGreatK20
import Derived.Test.YtacaanhnlfpbhaaGreatK19
namespace Go.Proofs.YtacaanhnlfpbhaaGreat
open Go.RowKit
set_option linter.unusedVariables false
set_option linter.unusedSimpArgs false
abbrev BxD (w:World) (m:Nat) (z1:Option Addr) (n c:Nat):Prop:=w.heap[m]?=some (.cells #[.slice z1 n c] 96 (0,0))
structure FrD (base:Nat) (w w':World):Prop where
 os:w'.os=w.os
 tape:w'.tape=w.tape
 output:w'.output=w.output
 size:w.heap.size≤w'.heap.size
 blk:∀ (b:Nat) (cs:Array Value) (t:TypeId) (fr:Nat × Nat),w.heap[b]?=some (.cells cs t fr)→t≠86→t≠96→w'.heap[b]?=some (.cells cs t fr)
 low:∀ b,b < base→w'.heap[b]?=w.heap[b]?
theorem FrD.trans {base:Nat} {w w1 w2:World} (h:FrD base w w1) (h':FrD base w1 w2):FrD base w w2:=
 ⟨h'.os.trans h.os,h'.tape.trans h.tape,h'.output.trans h.output,Nat.le_trans h.size h'.size,fun b cs t fr e h1 h2=>h'.blk b cs t fr (h.blk b cs t fr e h1 h2) h1 h2,fun b hb=>(h'.low b hb).trans (h.low b hb)⟩
theorem FrD.of_below {base:Nat} {w w':World} (h:Below w.heap.size w w') (hb:base≤w.heap.size):FrD base w w':=
 ⟨h.os,h.tape,h.output,h.size,fun b cs t fr e _ _=>(h.block b (Array.getElem?_eq_some_iff.1 e).1).trans e,fun b hb'=>h.block b (by omega)⟩
theorem FrD.refl (base:Nat) (w:World):FrD base w w:=⟨rfl,rfl,rfl,Nat.le_refl _,fun _ _ _ _ e _ _=>e,fun _ _=>rfl⟩
theorem FrD.drew (base:Nat) (w:World):FrD base w w.drew:=⟨rfl,rfl,rfl,Nat.le_refl _,fun _ _ _ _ e _ _=>e,fun _ _=>rfl⟩
theorem FrD.below {base:Nat} {w0 w w':World} (h:FrD base w w') (hb:Below w0.heap.size w0 w) (hw:w0.heap.size≤base):Below w0.heap.size w0 w':=
 ⟨h.os.trans hb.os,h.tape.trans hb.tape,h.output.trans hb.output,Nat.le_trans hb.size h.size,fun b hb'=>(h.low b (by omega)).trans (hb.block b hb')⟩
theorem own_atD {w:World} {base e size n:Nat} {v:Value} {xs:List Value} (h:w.ownsRow base e size v n xs) {b:Nat} (hb:v.ownBlock=some b):∃ cs,w.heap[b]?=some (.cells cs e (0,0)):=by
 rcases h.2 with ⟨rfl,_⟩ | ⟨g,cap,cur,rfl,_,hg,_⟩
 ·cases hb
 ·cases hb;exact ⟨cur,hg⟩
theorem FrD.row {base:Nat} {w w':World} (h:FrD base w w') {b0 e size n:Nat} {v:Value} {xs:List Value} (ho:w.ownsRow b0 e size v n xs) (h1:e≠86) (h2:e≠96):w'.ownsRow b0 e size v n xs:=
 row_kept ho fun b hb=>by
  obtain ⟨cs,hc⟩:=own_atD ho hb
  rw [h.blk b cs e (0,0) hc h1 h2,hc]
structure IMd (w:World) (base:Nat) (N:Iv) (I:In):Prop where
 op:N.op=I.op
 x:N.x=I.x
 y:N.y=I.y
 a:N.a=I.a
 len:N.r2=I.R.length
 sm:N.r2 * 16≤140737488351232
 rr:w.ownsRow base 70 2 N.rv I.R.length (O2 I.R)
theorem IMd.kept {w w':World} {base b0:Nat} {N:Iv} {I:In} (h:IMd w base N I) (hf:FrD b0 w w'):IMd w' base N I:=⟨h.op,h.x,h.y,h.a,h.len,h.sm,hf.row h.rr (by decide) (by decide)⟩
structure RDx (w:World) (m base:Nat) (z1:Option Addr) (c:Nat) (is:List Iv) (l:List In):Prop where
 bx:BxD w m z1 l.length c
 row:w.ownsRow base 86 5 (.slice z1 l.length c) l.length (is.flatMap Iv.cs)
 len:is.length=l.length
 im:∀ k (h:k < is.length) (h':k < l.length),IMd w base is[k] l[k]
def RD (w:World) (m base:Nat) (l:List In):Prop:=∃ z1 c is,RDx w m base z1 c is l
theorem RDx.cell {w:World} {m base c:Nat} {z1:Option Addr} {is:List Iv} {l:List In} (h:RDx w m base z1 c is l):w.cell? ⟨m,0,none⟩=some (.slice z1 l.length c):=Joins.cell_of_block h.bx 0
theorem RDx.below {w w':World} {m base c:Nat} {z1:Option Addr} {is:List Iv} {l:List In} (h:RDx w m base z1 c is l) (hb:Below w.heap.size w w'):RDx w' m base z1 c is l:=
 ⟨(hb.block m (Array.getElem?_eq_some_iff.1 h.bx).1).trans h.bx,row_kept h.row fun b hb'=>hb.block b (h.row.lt b hb').2,h.len,fun k hk hk'=>(h.im k hk hk').kept (FrD.of_below (base:=0) hb (Nat.zero_le _))⟩
theorem RD.below {w w':World} {m base:Nat} {l:List In} (h:RD w m base l) (hb:Below w.heap.size w w'):RD w' m base l:=by
 obtain ⟨z1,c,is,h⟩:=h
 exact ⟨z1,c,is,h.below hb⟩
theorem RDx.form {w:World} {m base c:Nat} {z1:Option Addr} {is:List Iv} {l:List In} (h:RDx w m base z1 c is l) (hp:0 < l.length):∃ g,z1=some ⟨g,0,none⟩:=by
 rcases h.row.2 with ⟨e,h0⟩ | ⟨g,cap,cur,e,_⟩
 ·omega
 ·simp only [Value.slice.injEq] at e
  exact ⟨g,e.1⟩
theorem RDx.lt {w:World} {m base c:Nat} {z1:Option Addr} {is:List Iv} {l:List In} (h:RDx w m base z1 c is l):m < w.heap.size:=(Array.getElem?_eq_some_iff.1 h.bx).1
set_option maxRecDepth 100000 in
theorem full59 {w:World} {m base:Nat} {l:List In} (h:RD w m base l):Calls Tryz.prog 59 #[pt m] w fun e w'=>e=.returned (.bool (decide (20000 < l.length)))∧w'=w:=by
 obtain ⟨z1,c,is,h⟩:=h
 have k0:=h.cell
 have e1:decide ((l.length:Int) > 20000)=decide (20000 < l.length):=by rw [decide_eq_decide];omega
 have e2:decide ((20000:Int) < (l.length:Int))=decide (20000 < l.length):=by rw [decide_eq_decide];omega
 clear h
 go_enter Tryz.func59,Tryz.ntmps59
 go_wp2
 all_goals go_ret
 all_goals (refine ⟨?_,rfl⟩;simp [e1,e2])
theorem RDx.push {w X w3:World} {m base c c':Nat} {z1 z1':Option Addr} {is:List Iv} {l:List In} (h:RDx w m base z1 c is l) (N:Iv) (I:In) (hX:Below w.heap.size w X) (hm:Moved X w3 (.slice z1 l.length c) (.slice z1' (l.length + 1) c')) (hbm:base≤m) (hbw:base≤w.heap.size) (ho:w3.ownsRow base 86 5 (.slice z1' (l.length + 1) c') (l.length + 1) (is.flatMap Iv.cs ++ Iv.cs N)) (hI:IMd w base N I) :
  w3.heap[m]?=w.heap[m]?∧RDx (w3.setCell ⟨m,0,none⟩ (.slice z1' (l.length + 1) c')) m base z1' c' (is ++ [N]) (l ++ [I])∧FrD base w (w3.setCell ⟨m,0,none⟩ (.slice z1' (l.length + 1) c')):=by
 have hml:=h.lt
 have hold:∀ b,b < w.heap.size→(Value.slice z1 l.length c).ownBlock≠some b→w3.heap[b]?=w.heap[b]?:=fun b hb hn=>(moved_old' hm (Nat.lt_of_lt_of_le hb hX.size) hn).trans (hX.block b hb)
 have em:w3.heap[m]?=w.heap[m]?:=hold m hml (own_ne h.row h.bx (by decide))
 have hbx3:=em.trans h.bx
 have hsz:X.heap.size≤w3.heap.size:=by have:=hm.frm.size;exact this
 have hf:FrD base w (w3.setCell ⟨m,0,none⟩ (.slice z1' (l.length + 1) c')):=by
  refine ⟨?_,?_,?_,?_,fun b cs t fr e h1 h2=>?_,fun b hb=>?_⟩
  ·exact (hm.frm.os).trans hX.os
  ·exact (hm.frm.tape).trans hX.tape
  ·exact (hm.frm.output).trans hX.output
  ·have:=hX.size;simp [World.setCell];omega
  ·have hbl:=(Array.getElem?_eq_some_iff.1 e).1
   have hbm':b≠m:=fun eq=>by subst eq;rw [h.bx] at e;cases e;exact h2 rfl
   exact (Below.heap_setCell _ _ _ _ hbm').trans ((hold b hbl (own_ne h.row e h1)).trans e)
  ·refine (Below.heap_setCell _ _ _ _ (by show b≠m;omega)).trans (hold b (by omega) fun eq=>?_)
   have:=(h.row.lt b eq).1
   omega
 refine ⟨em,⟨?_,?_,by simp [h.len],fun k hk hk'=>?_⟩,hf⟩
 ·rw [List.length_append];exact Joins.block_setCell (i:=0) hbx3 _
 ·rw [List.length_append,List.flatMap_append]
  have:=own_setCell (a:=⟨m,0,none⟩) (u:=.slice z1' (l.length + 1) c') ho (own_ne ho hbx3 (by decide))
  simpa using this
 ·by_cases hl:k < l.length
  ·rw [List.getElem_append_left (by rw [h.len];exact hl),List.getElem_append_left hl]
   exact (h.im k (by rw [h.len];exact hl) hl).kept hf
  ·simp only [List.length_append,List.length_cons,List.length_nil] at hk hk'
   have e:k=l.length:=by omega
   subst e
   rw [List.getElem_append_right (by rw [h.len];exact Nat.le_refl _),List.getElem_append_right (Nat.le_refl _)]
   simp only [h.len,Nat.sub_self,List.getElem_cons_zero]
   exact hI.kept hf
theorem info86:(Tryz.prog.info? 86).map (fun i=>(i.zero,i.size,i.bytes))=some (some Z5,5,56):=by kernel_rfl
theorem news5 (w:World) (N:Iv):∀ (j:Nat) (u:Value),(Iv.cs N)[j]?=some u→(w.alloc (.cells #[.int .i64 N.op,.int .i64 N.x,.int .i64 N.y,.int .i64 N.a,.slice N.r1 N.r2 N.r3] 86)).cell? ((⟨w.heap.size,0,none⟩:Addr).add j)=some u:=by
 intro j u h
 have hb:=heap_alloc_new w (.cells #[.int .i64 N.op,.int .i64 N.x,.int .i64 N.y,.int .i64 N.a,.slice N.r1 N.r2 N.r3] 86)
 have:((⟨w.heap.size,0,none⟩:Addr).add j)=⟨w.heap.size,j,none⟩:=by simp [Addr.add];omega
 rw [this,Joins.cell_of_block hb j]
 simpa using h
theorem one5 (N:Iv):∀ u ∈ Iv.cs N,u.oneCell'=true:=by
 intro u hu
 simp only [Iv.cs,List.mem_cons,List.not_mem_nil,or_false] at hu
 rcases hu with rfl | rfl | rfl | rfl | rfl <;> rfl
set_option maxRecDepth 100000 in
set_option maxHeartbeats 4000000 in
theorem put57 {w:World} {m base:Nat} {l:List In} (op a:Int) (h:RD w m base l) (hm:base≤m) (hn:l.length≤2000000) (hb:base≤w.heap.size) :
  Calls Tryz.prog 57 #[pt m,.int .i64 op,.int .i64 a] w fun e w'=>e=.returned (.int .i64 (l.length:Int))∧RD w' m base (l ++ [⟨op,((l.length + 1:Nat):Int),0,a,[]⟩])∧FrD base w w':=by
 obtain ⟨z1,c,is,h⟩:=h
 obtain ⟨i0,hi0,hz0,hz1,hz2⟩:=info_parts info86
 have k0:=h.cell
 obtain ⟨n,hnl⟩:∃ n,n=l.length:=⟨_,rfl⟩
 have a1:IntKind.i64.wrap ((n:Int) + 1)=((n + 1:Nat):Int):=by rw [wrap_ok _ (by omega) (by omega)];omega
 have a2:IntKind.i64.wrap ((n:Int) + 1)=(n:Int) + 1:=by rw [wrap_ok _ (by omega) (by omega)]
 obtain ⟨X,hX⟩:∃ X,X=w.alloc (.cells #[.int .i64 op,.int .i64 ((n:Int) + 1),.int .i64 0,.int .i64 a,.slice none 0 0] 86):=⟨_,rfl⟩
 have hbX:Below w.heap.size w X:=by rw [hX];exact Joins.below_alloc1 w _
 have hrow:X.ownsRow base 86 5 (.slice z1 n c) n (is.flatMap Iv.cs):=by rw [hnl];exact row_kept h.row fun b hb'=>hbX.block b (h.row.lt b hb').2
 have HROW:=hid hrow
 have HNEWS:Hid (∀ (j:Nat) (u:Value),(Iv.cs ⟨op,(n:Int) + 1,0,a,none,0,0⟩)[j]?=some u→X.cell? ((⟨w.heap.size,0,none⟩:Addr).add j)=some u):=by rw [hX];exact news5 w ⟨op,(n:Int) + 1,0,a,none,0,0⟩
 have HH:=hid h
 have HBX:=hid hbX
 have hsX:=hbX.size
 have HXE:=hid hX
 have HNL:=hid hnl
 have hxb:base≤X.heap.size:=by omega
 rw [← hnl] at k0 hn
 clear h hbX hrow hnl
 go_enter Tryz.func57,Tryz.ntmps57
 go_upto_region 2 with fail
 have HPU:Hid (∀ (w3:World) (vb vc:Nat),w3.ownsRow base 86 5 (.slice (some ⟨vb,0,none⟩) (n + 1) vc) (n + 1) (is.flatMap Iv.cs ++ Iv.cs ⟨op,(n:Int) + 1,0,a,none,0,0⟩)→Moved X w3 (.slice z1 n c) (.slice (some ⟨vb,0,none⟩) (n + 1) vc)→w3.cell? ⟨m,0,none⟩=some (.slice z1 n c)∧w3.frozen? ⟨m,0,none⟩=false∧RD (w3.setCell ⟨m,0,none⟩ (.slice (some ⟨vb,0,none⟩) (n + 1) vc)) m base (l ++ [⟨op,((l.length + 1:Nat):Int),0,a,[]⟩])∧FrD base w (w3.setCell ⟨m,0,none⟩ (.slice (some ⟨vb,0,none⟩) (n + 1) vc))):=fun w3 vb vc ho hmv=>by
  have e:=HNL.out
  subst e
  have hI:IMd w base ⟨op,(l.length:Int) + 1,0,a,none,0,0⟩ ⟨op,((l.length + 1:Nat):Int),0,a,[]⟩:=⟨rfl,by push_cast;rfl,rfl,rfl,rfl,by simp,World.ownsRow_nil _ _ _ _⟩
  obtain ⟨p1,p2,p3⟩:=HH.out.push ⟨op,(l.length:Int) + 1,0,a,none,0,0⟩ _ HBX.out hmv hm hb ho hI
  exact ⟨(cell_eq p1 0).trans HH.out.cell,(frz_eq p1 0).trans (Joins.unfrozen_of_block HH.out.bx 0),⟨_,_,_,p2⟩,p3⟩
 go_wp2_with (first | (at_builtin;rw [← HXE.out];refine wpList_append_moveN rfl (.tmp 17) (.tmp 23) 44 rfl base 86 i0 Z5 5 56 Tryz.underlying44 hi0 hz0 hz1 hz2 rfl (by decide) (.slice z1 n c) n (is.flatMap Iv.cs) rfl HROW.out ⟨w.heap.size,0,none⟩ 1 1 (Iv.cs ⟨op,(n:Int) + 1,0,a,none,0,0⟩) rfl rfl (by decide) HNEWS.out (one5 _) (by unfold maxLen;omega) (by omega) hxb ?_;intro v' w3 ho3 hm3;obtain ⟨vb,vc,rfl⟩:=Joins.ownsRow_form ho3.out (by omega);obtain ⟨q0,q1,q2,q3⟩:=HPU.out w3 vb vc ho3.out hm3.out;have Q2:=hid q2;have Q3:=hid q3;clear q2 q3 ho3 hm3))
 all_goals go_ret
 all_goals exact ⟨by rw [HNL.out];rfl,Q2.out,Q3.out⟩
theorem RDx.keep {w:World} {m base g c:Nat} {is:List Iv} {l:List In} (h:RDx w m base (some ⟨g,0,none⟩) c is l) (hbm:base≤m) (j:Nat) (v:Value):BxD (w.setCell ⟨g,j,none⟩ v) m (some ⟨g,0,none⟩) l.length c∧FrD base w (w.setCell ⟨g,j,none⟩ v):=by
 have hg:=(h.row.lt g rfl).1
 have hne:g≠m:=fun e=>own_ne h.row h.bx (by decide) (by rw [e];rfl)
 refine ⟨(Below.heap_setCell _ _ _ _ (fun e=>hne e.symm)).trans h.bx,⟨rfl,rfl,rfl,by simp [World.setCell],fun b cs t fr e h1 h2=>(Below.heap_setCell _ _ _ _ (fun eq=>?_)).trans e,fun b hb=>Below.heap_setCell _ _ _ _ (by show b≠g;omega)⟩⟩
 subst eq
 exact own_ne h.row e h1 rfl
theorem RDx.setX {w:World} {m base g c:Nat} {is:List Iv} {l:List In} (h:RDx w m base (some ⟨g,0,none⟩) c is l) (hbm:base≤m) (i:Nat) (hi:i < l.length) (x:Int):RDx (w.setCell ⟨g,i * 5 + 1,none⟩ (.int .i64 x)) m base (some ⟨g,0,none⟩) c (is.modify i (Iv.setX x)) (l.modify i (In.setX x))∧FrD base w (w.setCell ⟨g,i * 5 + 1,none⟩ (.int .i64 x)):=by
 obtain ⟨k1,k2⟩:=h.keep hbm (i * 5 + 1) (.int .i64 x)
 refine ⟨⟨by rw [List.length_modify];exact k1,?_,by simp [h.len],fun k hk hk'=>?_⟩,k2⟩
 ·rw [List.length_modify,← flat5_X _ _ _ (by rw [h.len];exact hi)]
  exact row_set1 h.row (by rw [flat5_len,h.len];omega) _
 ·simp only [List.length_modify] at hk hk'
  have hI:=(h.im k hk hk').kept k2
  rw [List.getElem_modify,List.getElem_modify]
  split
  ·exact ⟨hI.op,rfl,hI.y,hI.a,hI.len,hI.sm,hI.rr⟩
  ·exact hI
theorem RDx.setY {w:World} {m base g c:Nat} {is:List Iv} {l:List In} (h:RDx w m base (some ⟨g,0,none⟩) c is l) (hbm:base≤m) (i:Nat) (hi:i < l.length) (x:Int):RDx (w.setCell ⟨g,i * 5 + 2,none⟩ (.int .i64 x)) m base (some ⟨g,0,none⟩) c (is.modify i (Iv.setY x)) (l.modify i (In.setY x))∧FrD base w (w.setCell ⟨g,i * 5 + 2,none⟩ (.int .i64 x)):=by
 obtain ⟨k1,k2⟩:=h.keep hbm (i * 5 + 2) (.int .i64 x)
 refine ⟨⟨by rw [List.length_modify];exact k1,?_,by simp [h.len],fun k hk hk'=>?_⟩,k2⟩
 ·rw [List.length_modify,← flat5_Y _ _ _ (by rw [h.len];exact hi)]
  exact row_set1 h.row (by rw [flat5_len,h.len];omega) _
 ·simp only [List.length_modify] at hk hk'
  have hI:=(h.im k hk hk').kept k2
  rw [List.getElem_modify,List.getElem_modify]
  split
  ·exact ⟨hI.op,hI.x,rfl,hI.a,hI.len,hI.sm,hI.rr⟩
  ·exact hI
def In.setR (R:List (Int × Int)) (I:In):In:=⟨I.op,I.x,I.y,I.a,R⟩
def Iv.setR (r1:Option Addr) (r2 r3:Nat) (N:Iv):Iv:=⟨N.op,N.x,N.y,N.a,r1,r2,r3⟩
theorem flat5_R:∀ (MS:List Iv) (i:Nat) (r1:Option Addr) (r2 r3:Nat),i < MS.length→(MS.flatMap Iv.cs).set (i * 5 + 4) (.slice r1 r2 r3)=(MS.modify i (Iv.setR r1 r2 r3)).flatMap Iv.cs
 | [],i,_,_,_,h=>by simp at h
 | M :: MS,0,_,_,_,h=>by simp [Iv.setR,List.modify]
 | M :: MS,i + 1,r1,r2,r3,h=>by
  have ih:=flat5_R MS i r1 r2 r3 (by simpa using h)
  rw [List.flatMap_cons,show (i + 1) * 5 + 4=(Iv.cs M).length + (i * 5 + 4) by simp;omega,List.set_append_right _ _ (by omega),Nat.add_sub_cancel_left,ih]
  simp [List.modify]
theorem RDx.setR {w:World} {m base g c:Nat} {is:List Iv} {l:List In} (h:RDx w m base (some ⟨g,0,none⟩) c is l) (hbm:base≤m) (i:Nat) (hi:i < l.length) {r1:Option Addr} {r3:Nat} {R:List (Int × Int)} (hr:w.ownsRow base 70 2 (.slice r1 R.length r3) R.length (O2 R)) (hR:R.length≤5000):RDx (w.setCell ⟨g,i * 5 + 4,none⟩ (.slice r1 R.length r3)) m base (some ⟨g,0,none⟩) c (is.modify i (Iv.setR r1 R.length r3)) (l.modify i (In.setR R))∧FrD base w (w.setCell ⟨g,i * 5 + 4,none⟩ (.slice r1 R.length r3)):=by
 obtain ⟨k1,k2⟩:=h.keep hbm (i * 5 + 4) (.slice r1 R.length r3)
 refine ⟨⟨by rw [List.length_modify];exact k1,?_,by simp [h.len],fun k hk hk'=>?_⟩,k2⟩
 ·rw [List.length_modify,← flat5_R _ _ _ _ _ (by rw [h.len];exact hi)]
  exact row_set1 h.row (by rw [flat5_len,h.len];omega) _
 ·simp only [List.length_modify] at hk hk'
  have hI:=(h.im k hk hk').kept k2
  rw [List.getElem_modify,List.getElem_modify]
  split
  ·exact ⟨hI.op,hI.x,hI.y,hI.a,rfl,by show R.length * 16≤_;omega,k2.row hr (by decide) (by decide)⟩
  ·exact hI
theorem RDx.there {w:World} {m base g c:Nat} {is:List Iv} {l:List In} (h:RDx w m base (some ⟨g,0,none⟩) c is l) (i:Nat) (hi:i < l.length):w.there g (i * 5) 5:=row_there h.row (j:=i * 5) (m:=5) (by omega)
theorem RDx.read {w:World} {m base g c:Nat} {is:List Iv} {l:List In} (h:RDx w m base (some ⟨g,0,none⟩) c is l) (i:Nat) (hi:i < l.length):w.cell? ⟨g,i * 5 + 1,none⟩=some (.int .i64 l[i].x)∧w.cell? ⟨g,i * 5 + 2,none⟩=some (.int .i64 l[i].y):=by
 have hk:i < is.length:=by rw [h.len];exact hi
 have hI:=h.im i hk hi
 refine ⟨?_,?_⟩
 ·rw [h.row.cellAt (i * 5 + 1) (by omega),flat5 is i 1 hk (by omega)];simp [hI.x]
 ·rw [h.row.cellAt (i * 5 + 2) (by omega),flat5 is i 2 hk (by omega)];simp [hI.y]
def Laid (t:Tn) (l l':List In):Prop:=l.length≤l'.length∧(l'.length + 2≤l.length + 5 * t.nodes∧l'.length≤l.length + t.len)∧(l'.length≤20000→l'=l ++ t.lay l.length)
abbrev LayP (F base:Nat) (N:Nv) (t:Tn) (w:World) (m:Nat) (l:List In):Prop:=Calls Tryz.prog F #[pt m,N.v] w fun e w'=>e=.returned (.tuple #[])∧(∃ l',RD w' m base l'∧Laid t l l')∧FrD base w w'
abbrev LD (F base:Nat) (N:Nv) (t:Tn):Prop:=∀ (w:World) (m:Nat) (l:List In),RD w m base l→base≤m→base≤w.heap.size→TI w base N t→l.length + 5 * t.nodes≤2000000→LayP F base N t w m l
abbrev LDn (F base:Nat) (N:Nv) (t:Tn):Prop:=∀ (w:World) (m:Nat) (l:List In),RD w m base l→base≤m→base≤w.heap.size→TI w base N t→l.length + 5 * t.nodes≤2000000→l.length≤20000→LayP F base N t w m l
theorem info70d:(Tryz.prog.info? 70).map (fun i=>(i.zero,i.size,i.bytes))=some (some (.agg #[.int .i64 0,.int .i64 0]),2,16):=by kernel_rfl
theorem nodes_pos (t:Tn):1≤t.nodes:=t.pos
set_option maxRecDepth 100000 in
set_option maxHeartbeats 8000000 in
theorem lay58_full {base:Nat} {N:Nv} {t:Tn} (hl:LDn 58 base N t):LD 58 base N t:=by
 intro w m l hM hm hb hT hlen
 by_cases hfull:l.length≤20000
 ·exact hl w m l hM hm hb hT hlen hfull
 obtain ⟨U,hU⟩:∃ U,U=w.alloc (.cells #[.int .i64 N.k,.slice N.r1 N.r2 N.r3,.int .i64 N.a2,.slice N.s1 N.s2 N.s3,.int .i64 N.a4,.int .i64 N.a5,.bool N.a6,.int .i64 N.a7,.string N.a8] 25):=⟨_,rfl⟩
 have hbU:Below w.heap.size w U:=by rw [hU];exact Joins.below_alloc1 w _
 have HF:=hid (FrD.of_below (base:=base) hbU hb)
 have hMU:=hM.below hbU
 have HFU:=full59 hMU
 rw [decide_eq_true (show 20000 < l.length by omega)] at HFU
 have HL:Hid (Laid t l l):=⟨Nat.le_refl _,by have:=nodes_pos t;omega,fun h=>by omega⟩
 have HMU:=hid hMU
 obtain ⟨p,hp⟩:∃ p,p=w.heap.size:=⟨_,rfl⟩
 clear hM hMU hbU hT hl
 go_enter Tryz.func58,Tryz.ntmps58
 go_upto_region 1 with fail
 rw [← hU,← hp]
 clear hU hp
 go_wp2_with (first | (go_at_call 59;(with_reducible refine HFU.mono ?_);rintro e w2 ⟨rfl,hw⟩;have hw':=hw.symm;clear hw;subst hw';clear HFU))
 all_goals first | go_end0 | (refine bodyPost_ret (results_none rfl _ _ _) rfl ?_)
 all_goals exact ⟨rfl,⟨l,HMU.out,HL.out⟩,HF.out⟩
set_option maxRecDepth 100000 in
set_option maxHeartbeats 8000000 in
theorem dlay_empty {base:Nat} {a2 a4 a5 a7:Int} {a6:Bool} {a8:ByteArray} {r1 s1:Option Addr} {r2 r3 s2 s3:Nat} {R:List (Int × Int)} {ts:List Tn}:LDn 58 base ⟨1,r1,r2,r3,a2,s1,s2,s3,a4,a5,a6,a7,a8⟩ (.mk 1 R a2 ts a4 a5 a6 a7 a8):=by
 intro w m l hM hm hb hT hlen hroom
 obtain ⟨U,hU⟩:∃ U,U=w.alloc (.cells #[.int .i64 1,.slice r1 r2 r3,.int .i64 a2,.slice s1 s2 s3,.int .i64 a4,.int .i64 a5,.bool a6,.int .i64 a7,.string a8] 25):=⟨_,rfl⟩
 have hbU:Below w.heap.size w U:=by rw [hU];exact Joins.below_alloc1 w _
 have hQ:BNo U w.heap.size ⟨1,r1,r2,r3,a2,s1,s2,s3,a4,a5,a6,a7,a8⟩:=by rw [hU];exact heap_alloc_new w _
 have hMU:=hM.below hbU
 have hbU2:base≤U.heap.size:=Nat.le_trans hb hbU.size
 have hTU:TI U base ⟨1,r1,r2,r3,a2,s1,s2,s3,a4,a5,a6,a7,a8⟩ (.mk 1 R a2 ts a4 a5 a6 a7 a8):=hT.kept (fun b hb'=>hbU.block b (by omega))
 have HF:=hid (FrD.of_below hbU hb)
 have hpU:w.heap.size < U.heap.size:=(Array.getElem?_eq_some_iff.1 hQ).1
 obtain ⟨c0,c1,c2,c3,c4,c5,c6,c7,c8⟩:=nine' hQ
 obtain ⟨p,hp⟩:∃ p,p=w.heap.size:=⟨_,rfl⟩
 have HMU:=hid hMU
 have HTU:=hid hTU
 rw [← hp] at c0 c1 c2 c3 c4 c5 c6 c7 c8 hpU hQ
 have HQ:Hid (∀ W,FrD base U W→BNo W p ⟨1,r1,r2,r3,a2,s1,s2,s3,a4,a5,a6,a7,a8⟩∧TI W base ⟨1,r1,r2,r3,a2,s1,s2,s3,a4,a5,a6,a7,a8⟩ (.mk 1 R a2 ts a4 a5 a6 a7 a8)∧base≤W.heap.size∧FrD base w W):=fun W hW=>⟨hW.blk _ _ _ _ hQ (by decide) (by decide),hTU.kept hW.low,Nat.le_trans hbU2 hW.size,HF.out.trans hW⟩
 have HFU:=full59 hMU
 rw [decide_eq_false (show ¬ 20000 < l.length by omega)] at HFU
 clear hM hMU hbU hQ hT hTU
 have HL:Hid (Laid (.mk 1 R a2 ts a4 a5 a6 a7 a8) l l):=⟨Nat.le_refl _,by have:=nodes_pos (.mk 1 R a2 ts a4 a5 a6 a7 a8);omega,fun _=>by simp [Tn.lay]⟩
 go_enter Tryz.func58,Tryz.ntmps58
 go_upto_region 1 with fail
 rw [← hU,← hp]
 clear hU hp
 go_upto_region 3 with (first | (go_at_call 59;(with_reducible refine HFU.mono ?_);rintro e w2 ⟨rfl,hw⟩;have hw':=hw.symm;clear hw;subst hw';clear HFU))
 go_wp2
 all_goals first | go_end0 | (refine bodyPost_ret (results_none rfl _ _ _) rfl ?_)
 all_goals exact ⟨rfl,⟨l,HMU.out,HL.out⟩,HF.out⟩
set_option maxRecDepth 100000 in
set_option maxHeartbeats 8000000 in
theorem dlay_assert {base:Nat} {a2 a4 a5 a7:Int} {a6:Bool} {a8:ByteArray} {r1 s1:Option Addr} {r2 r3 s2 s3:Nat} {R:List (Int × Int)} {ts:List Tn}:LDn 58 base ⟨3,r1,r2,r3,a2,s1,s2,s3,a4,a5,a6,a7,a8⟩ (.mk 3 R a2 ts a4 a5 a6 a7 a8):=by
 intro w m l hM hm hb hT hlen hroom
 obtain ⟨U,hU⟩:∃ U,U=w.alloc (.cells #[.int .i64 3,.slice r1 r2 r3,.int .i64 a2,.slice s1 s2 s3,.int .i64 a4,.int .i64 a5,.bool a6,.int .i64 a7,.string a8] 25):=⟨_,rfl⟩
 have hbU:Below w.heap.size w U:=by rw [hU];exact Joins.below_alloc1 w _
 have hQ:BNo U w.heap.size ⟨3,r1,r2,r3,a2,s1,s2,s3,a4,a5,a6,a7,a8⟩:=by rw [hU];exact heap_alloc_new w _
 have hMU:=hM.below hbU
 have hbU2:base≤U.heap.size:=Nat.le_trans hb hbU.size
 have hTU:TI U base ⟨3,r1,r2,r3,a2,s1,s2,s3,a4,a5,a6,a7,a8⟩ (.mk 3 R a2 ts a4 a5 a6 a7 a8):=hT.kept (fun b hb'=>hbU.block b (by omega))
 have HF:=hid (FrD.of_below hbU hb)
 have hpU:w.heap.size < U.heap.size:=(Array.getElem?_eq_some_iff.1 hQ).1
 obtain ⟨c0,c1,c2,c3,c4,c5,c6,c7,c8⟩:=nine' hQ
 obtain ⟨p,hp⟩:∃ p,p=w.heap.size:=⟨_,rfl⟩
 have HMU:=hid hMU
 have HTU:=hid hTU
 rw [← hp] at c0 c1 c2 c3 c4 c5 c6 c7 c8 hpU hQ
 have HQ:Hid (∀ W,FrD base U W→BNo W p ⟨3,r1,r2,r3,a2,s1,s2,s3,a4,a5,a6,a7,a8⟩∧TI W base ⟨3,r1,r2,r3,a2,s1,s2,s3,a4,a5,a6,a7,a8⟩ (.mk 3 R a2 ts a4 a5 a6 a7 a8)∧base≤W.heap.size∧FrD base w W):=fun W hW=>⟨hW.blk _ _ _ _ hQ (by decide) (by decide),hTU.kept hW.low,Nat.le_trans hbU2 hW.size,HF.out.trans hW⟩
 have HFU:=full59 hMU
 rw [decide_eq_false (show ¬ 20000 < l.length by omega)] at HFU
 clear hM hMU hbU hQ hT hTU
 have HL:Hid (Laid (.mk 3 R a2 ts a4 a5 a6 a7 a8) l (l ++ [⟨4,((l.length + 1:Nat):Int),0,a2,[]⟩])):=⟨by simp,by have:=nodes_pos (.mk 3 R a2 ts a4 a5 a6 a7 a8);have hln:(Tn.mk 3 R a2 ts a4 a5 a6 a7 a8).len=1:=(by simp [Tn.len]);rw [List.length_append];simp only [List.length_cons,List.length_nil];omega,fun _=>by simp [Tn.lay]⟩
 have HP:=put57 4 a2 HMU.out hm (by omega) hbU2
 go_enter Tryz.func58,Tryz.ntmps58
 go_upto_region 1 with fail
 rw [← hU,← hp]
 clear hU hp
 go_upto_region 3 with (first | (go_at_call 59;(with_reducible refine HFU.mono ?_);rintro e w2 ⟨rfl,hw⟩;have hw':=hw.symm;clear hw;subst hw';clear HFU))
 go_wp2_with (first | (go_at_call 57;(with_reducible refine HP.mono ?_);rintro e V1 ⟨rfl,hM1,hf1⟩;have HM1:=hid hM1;have HF1:=hid hf1;clear hM1 hf1 HP))
 all_goals first | go_end0 | (refine bodyPost_ret (results_none rfl _ _ _) rfl ?_)
 all_goals exact ⟨rfl,⟨_,HM1.out,HL.out⟩,HF.out.trans HF1.out⟩
set_option maxRecDepth 100000 in
set_option maxHeartbeats 8000000 in
theorem dlay_fail {base:Nat} {a2 a4 a5 a7:Int} {a6:Bool} {a8:ByteArray} {r1 s1:Option Addr} {r2 r3 s2 s3:Nat} {R:List (Int × Int)} {ts:List Tn} (hR0:R.length=0):LDn 58 base ⟨2,r1,r2,r3,a2,s1,s2,s3,a4,a5,a6,a7,a8⟩ (.mk 2 R a2 ts a4 a5 a6 a7 a8):=by
 intro w m l hM hm hb hT hlen hroom
 obtain ⟨U,hU⟩:∃ U,U=w.alloc (.cells #[.int .i64 2,.slice r1 r2 r3,.int .i64 a2,.slice s1 s2 s3,.int .i64 a4,.int .i64 a5,.bool a6,.int .i64 a7,.string a8] 25):=⟨_,rfl⟩
 have hbU:Below w.heap.size w U:=by rw [hU];exact Joins.below_alloc1 w _
 have hQ:BNo U w.heap.size ⟨2,r1,r2,r3,a2,s1,s2,s3,a4,a5,a6,a7,a8⟩:=by rw [hU];exact heap_alloc_new w _
 have hMU:=hM.below hbU
 have hbU2:base≤U.heap.size:=Nat.le_trans hb hbU.size
 have hTU:TI U base ⟨2,r1,r2,r3,a2,s1,s2,s3,a4,a5,a6,a7,a8⟩ (.mk 2 R a2 ts a4 a5 a6 a7 a8):=hT.kept (fun b hb'=>hbU.block b (by omega))
 have HF:=hid (FrD.of_below hbU hb)
 have hpU:w.heap.size < U.heap.size:=(Array.getElem?_eq_some_iff.1 hQ).1
 obtain ⟨c0,c1,c2,c3,c4,c5,c6,c7,c8⟩:=nine' hQ
 obtain ⟨p,hp⟩:∃ p,p=w.heap.size:=⟨_,rfl⟩
 have HMU:=hid hMU
 have HTU:=hid hTU
 rw [← hp] at c0 c1 c2 c3 c4 c5 c6 c7 c8 hpU hQ
 have HQ:Hid (∀ W,FrD base U W→BNo W p ⟨2,r1,r2,r3,a2,s1,s2,s3,a4,a5,a6,a7,a8⟩∧TI W base ⟨2,r1,r2,r3,a2,s1,s2,s3,a4,a5,a6,a7,a8⟩ (.mk 2 R a2 ts a4 a5 a6 a7 a8)∧base≤W.heap.size∧FrD base w W):=fun W hW=>⟨hW.blk _ _ _ _ hQ (by decide) (by decide),hTU.kept hW.low,Nat.le_trans hbU2 hW.size,HF.out.trans hW⟩
 have HFU:=full59 hMU
 rw [decide_eq_false (show ¬ 20000 < l.length by omega)] at HFU
 clear hM hMU hbU hQ hT hTU
 have hr0:r2=0:=by cases HTU.out with | mk ok hr hR hRk hs hS hk=>exact hr.trans hR0
 subst hr0
 have HL:Hid (Laid (.mk 2 R a2 ts a4 a5 a6 a7 a8) l (l ++ [⟨6,0,0,0,[]⟩])):=⟨by simp,by have:=nodes_pos (.mk 2 R a2 ts a4 a5 a6 a7 a8);have hln:(Tn.mk 2 R a2 ts a4 a5 a6 a7 a8).len=1:=(by simp [Tn.len]);rw [List.length_append];simp only [List.length_cons,List.length_nil];omega,fun _=>by simp [Tn.lay,hR0]⟩
 have HP:=put57 6 0 HMU.out hm (by omega) hbU2
 obtain ⟨n,hn⟩:∃ n,n=l.length:=⟨_,rfl⟩
 rw [← hn] at HP hroom
 have HN:=hid hn
 clear hn
 go_enter Tryz.func58,Tryz.ntmps58
 go_upto_region 1 with fail
 rw [← hU,← hp]
 clear hU hp
 go_upto_region 3 with (first | (go_at_call 59;(with_reducible refine HFU.mono ?_);rintro e w2 ⟨rfl,hw⟩;have hw':=hw.symm;clear hw;subst hw';clear HFU))
 go_upto_region 7 with (first | (go_at_call 57;(with_reducible refine HP.mono ?_);rintro e V1 ⟨rfl,hM1,hf1⟩;have HM1:=hid hM1;have HF1:=hid hf1;clear hM1 hf1 HP))
 clear c0 c1 c2 c3 c4 c5 c6 c7 c8
 obtain ⟨z1,c,is,hx⟩:=HM1.out
 have hl1:(l ++ [(⟨6,((n + 1:Nat):Int),0,0,[]⟩:In)]).length=n + 1:=by rw [List.length_append,HN.out];rfl
 obtain ⟨g,rfl⟩:=hx.form (by omega)
 have k0:=hx.cell
 rw [hl1] at k0
 have ht:=hx.there n (by omega)
 obtain ⟨v1,hv1⟩:=Option.isSome_iff_exists.1 (ht 1 (by omega)).1
 have f1:=(ht 1 (by omega)).2
 have b1:(n:Int) < ((n + 1:Nat):Int):=by omega
 have b1':(n:Int) < (n:Int) + 1:=by omega
 obtain ⟨q1,q2⟩:=hx.setX hm n (by omega) 0
 have e1:(l ++ [(⟨6,((n + 1:Nat):Int),0,0,[]⟩:In)]).modify n (In.setX 0)=l ++ [⟨6,0,0,0,[]⟩]:=by rw [HN.out,modify_mid];rfl
 rw [e1] at q1
 have Q1:=hid q1
 have Q2:=hid q2
 clear hx ht q1 q2 e1 hl1 HM1
 go_wp2
 all_goals first | go_end0 | (refine bodyPost_ret (results_none rfl _ _ _) rfl ?_)
 all_goals exact ⟨rfl,⟨_,⟨_,_,_,Q1.out⟩,HL.out⟩,HF.out.trans (HF1.out.trans Q2.out)⟩
set_option maxRecDepth 100000 in
set_option maxHeartbeats 8000000 in
theorem dlay_class {base:Nat} {a2 a4 a5 a7:Int} {a6:Bool} {a8:ByteArray} {r1 s1:Option Addr} {r2 r3 s2 s3:Nat} {R:List (Int × Int)} {ts:List Tn} (hR0:R.length≠0) (hR5:R.length≤5000):LDn 58 base ⟨2,r1,r2,r3,a2,s1,s2,s3,a4,a5,a6,a7,a8⟩ (.mk 2 R a2 ts a4 a5 a6 a7 a8):=by
 intro w m l hM hm hb hT hlen hroom
 obtain ⟨U,hU⟩:∃ U,U=w.alloc (.cells #[.int .i64 2,.slice r1 r2 r3,.int .i64 a2,.slice s1 s2 s3,.int .i64 a4,.int .i64 a5,.bool a6,.int .i64 a7,.string a8] 25):=⟨_,rfl⟩
 have hbU:Below w.heap.size w U:=by rw [hU];exact Joins.below_alloc1 w _
 have hQ:BNo U w.heap.size ⟨2,r1,r2,r3,a2,s1,s2,s3,a4,a5,a6,a7,a8⟩:=by rw [hU];exact heap_alloc_new w _
 have hMU:=hM.below hbU
 have hbU2:base≤U.heap.size:=Nat.le_trans hb hbU.size
 have hTU:TI U base ⟨2,r1,r2,r3,a2,s1,s2,s3,a4,a5,a6,a7,a8⟩ (.mk 2 R a2 ts a4 a5 a6 a7 a8):=hT.kept (fun b hb'=>hbU.block b (by omega))
 have HF:=hid (FrD.of_below hbU hb)
 have hpU:w.heap.size < U.heap.size:=(Array.getElem?_eq_some_iff.1 hQ).1
 obtain ⟨c0,c1,c2,c3,c4,c5,c6,c7,c8⟩:=nine' hQ
 obtain ⟨p,hp⟩:∃ p,p=w.heap.size:=⟨_,rfl⟩
 have HMU:=hid hMU
 have HTU:=hid hTU
 rw [← hp] at c0 c1 c2 c3 c4 c5 c6 c7 c8 hpU hQ
 have HQ:Hid (∀ W,FrD base U W→BNo W p ⟨2,r1,r2,r3,a2,s1,s2,s3,a4,a5,a6,a7,a8⟩∧TI W base ⟨2,r1,r2,r3,a2,s1,s2,s3,a4,a5,a6,a7,a8⟩ (.mk 2 R a2 ts a4 a5 a6 a7 a8)∧base≤W.heap.size∧FrD base w W):=fun W hW=>⟨hW.blk _ _ _ _ hQ (by decide) (by decide),hTU.kept hW.low,Nat.le_trans hbU2 hW.size,HF.out.trans hW⟩
 have HFU:=full59 hMU
 rw [decide_eq_false (show ¬ 20000 < l.length by omega)] at HFU
 clear hM hMU hbU hQ hT hTU
 have hr0:r2=R.length:=by cases HTU.out with | mk ok hr hR hRk hs hS hk=>exact hr
 obtain ⟨i0,hi0,hz0,hz1,hz2⟩:=info_parts info70d
 have g0:((r2:Int) == 0)=false:=by simp;omega
 have HL:Hid (Laid (.mk 2 R a2 ts a4 a5 a6 a7 a8) l (l ++ [⟨1,((l.length + 1:Nat):Int),0,0,R⟩])):=⟨by simp,by have:=nodes_pos (.mk 2 R a2 ts a4 a5 a6 a7 a8);have hln:(Tn.mk 2 R a2 ts a4 a5 a6 a7 a8).len=1:=(by simp [Tn.len]);rw [List.length_append];simp only [List.length_cons,List.length_nil];omega,fun _=>by simp [Tn.lay,hR0]⟩
 have HP:=put57 1 0 HMU.out hm (by omega) hbU2
 obtain ⟨n,hn⟩:∃ n,n=l.length:=⟨_,rfl⟩
 rw [← hn] at HP hroom
 have HN:=hid hn
 have HR2:=hid hr0
 have hrp:0 < r2∧r2≤5000:=by omega
 clear hn hr0
 go_enter Tryz.func58,Tryz.ntmps58
 go_upto_region 1 with fail
 rw [← hU,← hp]
 clear hU hp
 go_upto_region 3 with (first | (go_at_call 59;(with_reducible refine HFU.mono ?_);rintro e w2 ⟨rfl,hw⟩;have hw':=hw.symm;clear hw;subst hw';clear HFU))
 go_upto_region 10 with (first | (go_at_call 57;(with_reducible refine HP.mono ?_);rintro e V1 ⟨rfl,hM1,hf1⟩;have HM1:=hid hM1;have HF1:=hid hf1;clear hM1 hf1 HP))
 clear c0 c1 c2 c3 c4 c5 c6 c7 c8
 obtain ⟨hQ1,hT1,hbV1,_⟩:=HQ.out V1 HF1.out
 obtain ⟨c0,c1,c2,c3,c4,c5,c6,c7,c8⟩:=nine' hQ1
 have hsrc:∃ b o,r1=some ⟨b,o,none⟩∧b < base∧∀ j u,(O2 R)[j]?=some u→V1.cell? ⟨b,o + j,none⟩=some u:=by
  cases hT1 with
  | mk ok hr hR hRk hs hS hk =>
   obtain ⟨b,o,e1,e2,e3⟩:=hR (by intro e;exact hR0 (by rw [e];rfl))
   refine ⟨b,o,e1,e2,fun j u hj=>?_⟩
   have hjl:j < (O2 R).length:=(List.getElem?_eq_some_iff.1 hj).1
   rw [O2_len] at hjl
   have hk:j / 2 < R.length:=by omega
   obtain ⟨o1,o2⟩:=O2_at R (j / 2) hk
   have h3:=e3 (j / 2) hk
   rcases Nat.mod_two_eq_zero_or_one j with h0 | h0
   ·have e:j=j / 2 * 2:=by omega
    rw [e] at hj ⊢
    rw [o1] at hj
    exact h3.1.trans hj
   ·have e:j=j / 2 * 2 + 1:=by omega
    rw [e] at hj ⊢
    rw [o2] at hj
    exact h3.2.trans hj
 obtain ⟨rb,ro,rfl,hrb,hrc⟩:=hsrc
 obtain ⟨z1,c,is,hx⟩:=HM1.out
 have hl1:(l ++ [(⟨1,((n + 1:Nat):Int),0,0,[]⟩:In)]).length=n + 1:=by rw [List.length_append,HN.out];rfl
 obtain ⟨g,rfl⟩:=hx.form (by omega)
 have k0:=hx.cell
 rw [hl1] at k0
 have b1:(n:Int) < ((n + 1:Nat):Int):=by omega
 have b1':(n:Int) < (n:Int) + 1:=by omega
 have hpV:p < V1.heap.size:=by have:=HF1.out.size;omega
 have hmV:=hx.lt
 have HX:=hid hx
 have HRC:=hid hrc
 clear hx hQ1 hT1 HM1
 have HFIN:Hid (∀ (W:World) vb vc,Below V1.heap.size V1 W→W.ownsRow base 70 2 (.slice (some ⟨vb,0,none⟩) r2 vc) r2 (O2 R)→(∃ v,W.cell? ⟨g,n * 5 + 4,none⟩=some v)∧W.frozen? ⟨g,n * 5 + 4,none⟩=false∧(∃ l',RD (W.setCell ⟨g,n * 5 + 4,none⟩ (.slice (some ⟨vb,0,none⟩) r2 vc)) m base l'∧Laid (.mk 2 R a2 ts a4 a5 a6 a7 a8) l l')∧FrD base w (W.setCell ⟨g,n * 5 + 4,none⟩ (.slice (some ⟨vb,0,none⟩) r2 vc))):=fun W vb vc hW ho=>by
  have hx2:=HX.out.below hW
  have ht:=hx2.there n (by omega)
  obtain ⟨v1,hv1⟩:=Option.isSome_iff_exists.1 (ht 4 (by omega)).1
  rw [HR2.out] at ho ⊢
  obtain ⟨q1,q2⟩:=hx2.setR hm n (by omega) ho hR5
  have e1:(l ++ [(⟨1,((n + 1:Nat):Int),0,0,[]⟩:In)]).modify n (In.setR R)=l ++ [⟨1,((l.length + 1:Nat):Int),0,0,R⟩]:=by rw [HN.out,modify_mid];rfl
  rw [e1] at q1
  exact ⟨⟨v1,hv1⟩,(ht 4 (by omega)).2,⟨_,⟨_,_,_,q1⟩,HL.out⟩,HF.out.trans (HF1.out.trans ((FrD.of_below hW hbV1).trans q2))⟩
 refine wp_region_lexK [0,1,2,3,4,5,6,7] [8,9,10,11] 11 (fun V=>V.cell? ⟨m,0,none⟩=some (.slice (some ⟨g,0,none⟩) (n + 1) c)∧V.cell? ⟨p,1,none⟩=some (.slice (some ⟨rb,ro,none⟩) r2 r3)) (by kernel_rfl) (by kernel_rfl) rfl (by kernel_rfl) (by kernel_rfl) ⟨k0,c1⟩ ?_
 simp only [opsAt,opsNo,List.getElem?_toArray,List.getElem?_cons_zero,List.getElem?_cons_succ]
 iterate 8
  refine lex_cons ?_ rfl (fun V hV=>?_) (fun _ _ _ h=>h) ?_
  rotate_left
  ·obtain ⟨s0,s1⟩:=hV
   go_simp <;> with_reducible rfl
  simp only [Act.put,List.setIfInBounds_toArray,List.set_cons_zero,List.set_cons_succ]
 refine lex_nil (tailK_cons fun K hK=>?_)
 refine step_append rfl (.tmp 36) (.tmp 38) 22 rfl base 70 i0 (.agg #[.int .i64 0,.int .i64 0]) 2 16 Tryz.underlying22 hi0 hz0 hz1 hz2 rfl (by decide) (.slice none 0 0) 0 [] rfl (World.ownsRow_nil _ _ _ _) ⟨rb,ro,none⟩ r2 r3 (O2 R) rfl (by rw [O2_len,← HR2.out]) (by omega) ?_ (O2_one R) (by unfold maxLen;omega) (by omega) (by exact hbV1) ?_
 ·intro j u hj
  have:=HRC.out j u hj
  have e:((⟨rb,ro,none⟩:Addr).add j)=⟨rb,ro + j,none⟩:=by
   by_cases h0:j=0
   ·subst h0;simp [Addr.add]
   ·simp [Addr.add,h0]
  rw [e]
  exact this
 intro v' w3 ho3 hm3
 rw [Nat.zero_add,List.nil_append] at ho3
 obtain ⟨vb,vc,rfl⟩:=Joins.ownsRow_form ho3.out (by omega)
 have hB3:Below V1.heap.size V1 w3:=by
  have hfm:=hm3.out.frm
  exact ⟨hfm.os,hfm.tape,hfm.output,hfm.size,fun b hb'=>hfm.block b hb' (by simp [Value.ownBlock])⟩
 obtain ⟨⟨v4,hv4⟩,hf4,hl',hfr⟩:=HFIN.out w3 vb vc hB3 ho3.out
 have HL':=hid hl'
 have HFR:=hid hfr
 have s0:w3.cell? ⟨m,0,none⟩=some (.slice (some ⟨g,0,none⟩) (n + 1) c):=(hB3.cell (p:=⟨m,0,none⟩) hmV).trans k0
 have s1:w3.cell? ⟨p,1,none⟩=some (.slice (some ⟨rb,ro,none⟩) r2 r3):=(hB3.cell (p:=⟨p,1,none⟩) hpV).trans c1
 clear hl' hfr ho3 hm3 hB3
 refine hK.out _ _ (fun _=>⟨s0,s1⟩) (tailK_cons fun K hK=>?_)
 simp only [Act.put,List.setIfInBounds_toArray,List.set_cons_zero,List.set_cons_succ]
 go_simp
 refine hK.out _ _ (fun _=>⟨s0,s1⟩) (tailK_cons fun K hK=>?_)
 simp only [Act.put,List.setIfInBounds_toArray,List.set_cons_zero,List.set_cons_succ]
 go_simp
 refine hK.out _ _ (fun _=>⟨s0,s1⟩) (tailK_cons fun K hK=>?_)
 simp only [Act.put,List.setIfInBounds_toArray,List.set_cons_zero,List.set_cons_succ]
 go_simp
 refine hK.out _ _ (fun h=>absurd rfl h) (tailK_nil ?_)
 go_wp2_with fail
 all_goals first | go_end0 | (refine bodyPost_ret (results_none rfl _ _ _) rfl ?_)
 all_goals exact ⟨rfl,HL'.out,HFR.out⟩
end Go.Proofs.YtacaanhnlfpbhaaGreat
