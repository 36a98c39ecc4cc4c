/- HELPERS: texts of ours put together. -/
import Derived.Test.YtacaanhnlfpbhaaGreatK01
import Derived.Test.YtacaanhnlfpbhaaGreatProg
import Derived.WalkKit
import Derived.ProofKit
import Derived.BigQuiet
import Derived.WalkSmall
import Derived.Deep.QuietTactic
import Derived.Deep.RegionWith
import Derived.Laws.EntriesVeiled
import Derived.Deep.WholeRow
import Derived.Test.YtacaanhnlfpbhaaGreatK03
import Derived.Deep.SlicePairs
import Derived.RowKit
import Derived.Test.YtacaanhnlfpbhaaGreatK04
import Derived.Deep.RegionHeld3
import Derived.Deep.Cut
import Derived.Deep.CutRange
import Derived.Test.YtacaanhnlfpbhaaGreatK02
namespace Go.Proofs.YtacaanhnlfpbhaaGreat.Look
open Go.RowKit
set_option linter.unusedVariables false
set_option linter.unusedSimpArgs false
theorem wpList_store_new {P:Program} {ops:Array Oper} {rest:List Oper} {op:Oper} {a:Act} {w:World} {Q:Exit→Act→World→Prop} (hgd:op.guard=none) (ty:TypeId) (x y:Operand) (ho:op.op=.store ty x y)
  (c c':Array Value) (hx:a.eval x=.pointer (some ⟨w.heap.size,0,none⟩)) (hy:a.eval y=.agg c') (hi:(P.info? ty).map (·.size)=some c'.size) (hc:c.size=c'.size) (h1:c'.all (·.oneCell')=true)
  (h:wpList P ops Q rest (a.put op.dst undef) (w.alloc (.cells c' ty))):wpList P ops Q (op :: rest) a (w.alloc (.cells c ty)):=
 wpList_plain hgd fun K hK=>by
  unfold Oper.wp execOp
  simp only [ho,hx,hy,Sem.run_bind,Sem.run_pure,Result.andThen_ok,run_storeAt_new w ty c c' hi hc h1]
  exact hK _ _ h
theorem results_cell1 {fn:Func} {p:Tmp} {ty:TypeId} (h:fn.results=#[.cell p ty]) (tmps:Array Value) (P:Program) (w:World) :
  (results fn tmps).run P w=((asAddr (tmps.getD p undef)).run P w).andThen fun a w₁=>((loadVar ty a).run P w₁).andThen fun v w₂=>.ok v w₂:=by
 simp only [results,h]
 simp [Sem.run_bind,Result.andThen]
 cases (asAddr (tmps[p]?.getD undef)).run P w with
 | halt h w=>rfl
 | ok a w=>show (loadVar ty a).run P w=_;cases h:(loadVar ty a).run P w <;> simp [h]
def fv (f:Nat):Value:=.func (.func f) #[] #[]
def rowsV:Array Value:=#[.int .i64 1,.int .i64 2,fv 174,.int .i64 2,.int .i64 1,fv 175,.int .i64 4,.int .i64 8,fv 176,.int .i64 8,.int .i64 4,fv 177,.int .i64 16,.int .i64 16,fv 178,.int .i64 32,.int .i64 32,fv 179]
theorem info37:(Tryz.prog.info? 173).map (·.size)=some 18:=by kernel_rfl
theorem one37:(rowsV.all (·.oneCell'))=true:=by simp [rowsV,fv,Value.oneCell']
set_option maxRecDepth 100000 in
theorem rows17 (w:World):Calls Tryz.prog 112 #[] w fun e w'=>e=.returned (.agg rowsV)∧w'=w.alloc (.cells rowsV 173):=by
 go_enter Tryz.func112,Tryz.ntmps112
 go_wp2_with (refine wpList_store_new rfl 173 (.tmp 0) (.tmp 7) rfl _ rowsV rfl rfl info37 rfl one37 ?_)
 refine bodyPost_ret (v:=.agg rowsV) ?_ rfl ⟨rfl,rfl⟩
 rw [results_cell1 Tryz.results112]
 have h:=run_loadVar_new (P:=Tryz.prog) w 173 rowsV 6 172 Tryz.underlying173 info37
 simp [asAddr,Result.andThen,h,Act.put]
theorem holds13 (x y:Int) (w:World):Calls Tryz.prog 167 #[.int .i64 x,.int .i64 y] w fun e w'=>e=.returned (.bool (bits .andNot .i64 x y == 0))∧w'=w:=by
 go_enter Tryz.func167,Tryz.ntmps167
 go_wp2
 go_ret
 exact ⟨rfl,rfl⟩
def wordR (r:Int):Bool:=decide (48≤r∧r≤57∨65≤r∧r≤90∨97≤r∧r≤122∨r=95)
theorem dom28 (r:Int) (w:World):Calls Tryz.prog 222 #[.int .i64 r] w fun e w'=>e=.returned (.bool (dom r))∧w'=w:=by
 go_enter Tryz.func222,Tryz.ntmps222
 go_wp2
 all_goals go_ret
 all_goals exact ⟨ret_bool (by rw [Bool.eq_iff_iff];simp [dom];omega),rfl⟩
theorem word27 (r:Int) (w:World):Calls Tryz.prog 225 #[.int .i64 r] w fun e w'=>e=.returned (.bool (wordR r))∧w'=w:=by
 have hd:=dom28 r w
 by_cases hD:dom r=true
 ·rw [hD] at hd
  have hr:0≤r∧r≤1114111:=by simp [dom] at hD;omega
  have hw:IntKind.i32.wrap r=r:=by simp [IntKind.wrap,IntKind.bits,IntKind.signed];omega
  clear hD
  go_enter Tryz.func225,Tryz.ntmps225
  go_wp2_with (go_at_call 222;refine hd.mono ?_;rintro e w' ⟨rfl,rfl⟩)
  all_goals go_ret
  all_goals exact ⟨ret_bool (by rw [Bool.eq_iff_iff];simp [wordR,hw];omega),rfl⟩
 ·have hD':dom r=false:=by simpa using hD
  rw [hD'] at hd
  have hr:wordR r=false:=by simp [dom] at hD;simp [wordR];omega
  rw [hr]
  go_enter Tryz.func225,Tryz.ntmps225
  go_wp2_with (go_at_call 222;refine hd.mono ?_;rintro e w' ⟨rfl,rfl⟩)
  go_ret
  exact ⟨rfl,rfl⟩
def TextAt (N:Nat) (w:World) (ad:Option Addr) (n:Nat) (l:List Int):Prop:=
 n=l.length∧n≤35184372088832∧(n=0∨∃ b off,ad=some ⟨b,off,none⟩∧b < N∧∀ k,k < n→w.cell? ⟨b,off + k,none⟩=some (.int .i64 (l.getD k 0)))
theorem TextAt.below {N:Nat} {w w':World} {ad:Option Addr} {n:Nat} {l:List Int} (h:TextAt N w ad n l) (hb:Below N w w'):TextAt N w' ad n l:=by
 obtain ⟨h1,h2,h | ⟨b,off,ha,hbN,hc⟩⟩:=h
 ·exact ⟨h1,h2,.inl h⟩
 ·exact ⟨h1,h2,.inr ⟨b,off,ha,hbN,fun k hk=>(hb.cell (p:=⟨b,off + k,none⟩) hbN).trans (hc k hk)⟩⟩
theorem TextAt.mono {N M:Nat} {w:World} {ad:Option Addr} {n:Nat} {l:List Int} (h:TextAt N w ad n l) (hNM:N≤M):TextAt M w ad n l:=by
 obtain ⟨h1,h2,h | ⟨b,off,ha,hbN,hc⟩⟩:=h
 ·exact ⟨h1,h2,.inl h⟩
 ·exact ⟨h1,h2,.inr ⟨b,off,ha,by omega,hc⟩⟩
def spot (ad:Option Addr) (n cap:Nat) (p:Int):Value:=.agg #[.slice ad n cap,.int .i64 p]
def begB (p:Nat):Bool:=decide (p=0)
def endB (l:List Int) (p:Nat):Bool:=decide (p=l.length)
def blB (l:List Int) (p:Nat):Bool:=decide (p=0) || decide (l.getD (p - 1) 0=10)
def elB (l:List Int) (p:Nat):Bool:=decide (p=l.length) || decide (l.getD p 0=10)
def waB (l:List Int) (p:Nat):Bool:=decide (0 < p) && wordR (l.getD (p - 1) 0)
def wbB (l:List Int) (p:Nat):Bool:=decide (p < l.length) && wordR (l.getD p 0)
theorem beg19 (ad:Option Addr) (n cap p:Nat) (w:World):Calls Tryz.prog 174 #[.agg #[.slice ad n cap,.int .i64 p]] w fun e w'=>e=.returned (.bool (begB p))∧Below w.heap.size w w':=by
 go_enter Tryz.func174,Tryz.ntmps174
 go_wp2
 go_ret
 exact ⟨ret_bool (by rw [Bool.eq_iff_iff];simp [begB]),(Below.refl _ _).alloc (Nat.le_refl _) _⟩
theorem end20 (ad:Option Addr) (n cap p:Nat) (l:List Int) (w:World) (hn:n=l.length):Calls Tryz.prog 175 #[.agg #[.slice ad n cap,.int .i64 p]] w fun e w'=>e=.returned (.bool (endB l p))∧Below w.heap.size w w':=by
 go_enter Tryz.func175,Tryz.ntmps175
 go_wp2
 go_ret
 exact ⟨ret_bool (by rw [Bool.eq_iff_iff];simp [endB,hn];omega),(Below.refl _ _).alloc (Nat.le_refl _) _⟩
theorem box_cells {w w':World} {v:Value} {p:Int} (hb:Below (w.alloc (.cells #[v,.int .i64 p] 169)).heap.size (w.alloc (.cells #[v,.int .i64 p] 169)) w') :
  w'.cell? ⟨w.heap.size,0,none⟩=some v∧w'.cell? ⟨w.heap.size,1,none⟩=some (.int .i64 p)∧(∀ b o:Nat,b < w.heap.size→w'.cell? ⟨b,o,none⟩=w.cell? ⟨b,o,none⟩)∧Below w.heap.size w w':=by
 refine ⟨(hb.cell (p:=⟨w.heap.size,0,none⟩) (by simp)).trans ?_,(hb.cell (p:=⟨w.heap.size,1,none⟩) (by simp)).trans ?_,fun b o ha=>(hb.cell (p:=⟨b,o,none⟩) (by simp;omega)).trans ?_,((Below.refl _ _).alloc (Nat.le_refl _) _).trans (hb.mono (by simp))⟩
 ·rw [World.cell?_alloc_at _ _ _ _ rfl];rfl
 ·rw [World.cell?_alloc_at _ _ _ _ rfl];rfl
 ·exact World.cell?_alloc_past _ _ _ (by omega)
set_option maxHeartbeats 1000000 in
theorem bl21 (ad:Option Addr) (n cap p:Nat) (l:List Int) (w:World) (hT:Hid (TextAt w.heap.size w ad n l)) (hp:p≤n):Calls Tryz.prog 176 #[.agg #[.slice ad n cap,.int .i64 p]] w fun e w'=>e=.returned (.bool (blB l p))∧Below w.heap.size w w':=by
 have hbeg:=fun w=>beg19 ad n cap p w
 by_cases h0:p=0
 ·subst h0
  have e1:begB 0=true:=by decide
  have e2:blB l 0=true:=by simp [blB]
  rw [e1] at hbeg
  rw [e2]
  go_enter Tryz.func176,Tryz.ntmps176
  go_wp2_with (go_at_call 174;refine (hbeg _).mono ?_;rintro e w' ⟨rfl,hb⟩)
  go_ret
  exact ⟨rfl,((Below.refl _ _).alloc (Nat.le_refl _) _).trans (hb.mono (by simp))⟩
 ·have e1:begB p=false:=by simp [begB,h0]
  have e2:blB l p=decide (l.getD (p - 1) 0=10):=by simp [blB,h0]
  rw [e1] at hbeg
  rw [e2]
  obtain ⟨hn,hmax,h | ⟨b,off,rfl,hbN,hc⟩⟩:=hT.out
  ·omega
  ·have d0:=hc (p - 1) (by omega)
   generalize l.getD (p - 1) 0=x at d0
   clear hc e1 e2 hn
   go_enter Tryz.func176,Tryz.ntmps176
   go_wp2_with fail
   refine (hbeg _).mono ?_
   rintro e w' ⟨rfl,hb⟩
   obtain ⟨c0,c1,hk,hb2⟩:=box_cells hb
   have d1:=(hk b (off + (p - 1)) hbN).trans d0
   clear hb hk d0 hbeg
   go_wp2
   go_ret
   exact ⟨ret_bool (by rw [Bool.eq_iff_iff];simp),hb2⟩
set_option maxHeartbeats 1000000 in
theorem el22 (ad:Option Addr) (n cap p:Nat) (l:List Int) (w:World) (hT:Hid (TextAt w.heap.size w ad n l)) (hp:p≤n):Calls Tryz.prog 177 #[.agg #[.slice ad n cap,.int .i64 p]] w fun e w'=>e=.returned (.bool (elB l p))∧Below w.heap.size w w':=by
 have hend:=fun w=>end20 ad n cap p l w hT.out.1
 have hn:=hT.out.1
 by_cases h0:p=n
 ·subst h0
  have e1:endB l p=true:=by simp [endB,hn]
  have e2:elB l p=true:=by simp [elB,hn]
  rw [e1] at hend
  rw [e2]
  clear hn e1 e2
  go_enter Tryz.func177,Tryz.ntmps177
  go_wp2_with (go_at_call 175;refine (hend _).mono ?_;rintro e w' ⟨rfl,hb⟩)
  go_ret
  exact ⟨rfl,((Below.refl _ _).alloc (Nat.le_refl _) _).trans (hb.mono (by simp))⟩
 ·have e1:endB l p=false:=by simp [endB];omega
  have e2:elB l p=decide (l.getD p 0=10):=by
   have:¬ p=l.length:=by omega
   simp [elB,this]
  rw [e1] at hend
  rw [e2]
  obtain ⟨hn',hmax,h | ⟨b,off,rfl,hbN,hc⟩⟩:=hT.out
  ·omega
  ·have d0:=hc p (by omega)
   generalize l.getD p 0=x at d0
   have hp2:p < n:=by omega
   clear hc e1 e2 hn hn'
   go_enter Tryz.func177,Tryz.ntmps177
   go_wp2_with fail
   refine (hend _).mono ?_
   rintro e w' ⟨rfl,hb⟩
   obtain ⟨c0,c1,hk,hb2⟩:=box_cells hb
   have d1:=(hk b (off + p) hbN).trans d0
   clear hb hk d0 hend
   go_wp2
   go_ret
   exact ⟨ret_bool (by rw [Bool.eq_iff_iff];simp),hb2⟩
set_option maxHeartbeats 1000000 in
theorem wa25 (ad:Option Addr) (n cap p:Nat) (l:List Int) (w:World) (hT:Hid (TextAt w.heap.size w ad n l)) (hp:p≤n):Calls Tryz.prog 226 #[.agg #[.slice ad n cap,.int .i64 p]] w fun e w'=>e=.returned (.bool (waB l p))∧Below w.heap.size w w':=by
 have hbeg:=fun w=>beg19 ad n cap p w
 by_cases h0:p=0
 ·subst h0
  have e1:begB 0=true:=by decide
  have e2:waB l 0=false:=by simp [waB]
  rw [e1] at hbeg
  rw [e2]
  go_enter Tryz.func226,Tryz.ntmps226
  go_wp2_with (go_at_call 174;refine (hbeg _).mono ?_;rintro e w' ⟨rfl,hb⟩)
  go_ret
  exact ⟨rfl,((Below.refl _ _).alloc (Nat.le_refl _) _).trans (hb.mono (by simp))⟩
 ·have e1:begB p=false:=by simp [begB,h0]
  have e2:waB l p=wordR (l.getD (p - 1) 0):=by
   have:0 < p:=by omega
   simp [waB,this]
  rw [e1] at hbeg
  rw [e2]
  obtain ⟨hn,hmax,h | ⟨b,off,rfl,hbN,hc⟩⟩:=hT.out
  ·omega
  ·have d0:=hc (p - 1) (by omega)
   generalize l.getD (p - 1) 0=x at d0
   have hword:=fun w=>word27 x w
   clear hc e1 e2 hn
   generalize wordR x=bx at hword
   go_enter Tryz.func226,Tryz.ntmps226
   go_wp2_with fail
   refine (hbeg _).mono ?_
   rintro e w' ⟨rfl,hb⟩
   obtain ⟨c0,c1,hk,hb2⟩:=box_cells hb
   have d1:=(hk b (off + (p - 1)) hbN).trans d0
   clear hb hk d0 hbeg
   go_wp2_with (go_at_call 225;refine (hword _).mono ?_;rintro e w'' ⟨rfl,rfl⟩)
   go_ret
   exact ⟨rfl,hb2⟩
set_option maxHeartbeats 1000000 in
theorem wb26 (ad:Option Addr) (n cap p:Nat) (l:List Int) (w:World) (hT:Hid (TextAt w.heap.size w ad n l)) (hp:p≤n):Calls Tryz.prog 227 #[.agg #[.slice ad n cap,.int .i64 p]] w fun e w'=>e=.returned (.bool (wbB l p))∧Below w.heap.size w w':=by
 have hend:=fun w=>end20 ad n cap p l w hT.out.1
 have hn:=hT.out.1
 by_cases h0:p=n
 ·subst h0
  have e1:endB l p=true:=by simp [endB,hn]
  have e2:wbB l p=false:=by simp [wbB,hn]
  rw [e1] at hend
  rw [e2]
  clear hn e1 e2
  go_enter Tryz.func227,Tryz.ntmps227
  go_wp2_with (go_at_call 175;refine (hend _).mono ?_;rintro e w' ⟨rfl,hb⟩)
  go_ret
  exact ⟨rfl,((Below.refl _ _).alloc (Nat.le_refl _) _).trans (hb.mono (by simp))⟩
 ·have e1:endB l p=false:=by simp [endB];omega
  have e2:wbB l p=wordR (l.getD p 0):=by
   have:p < l.length:=by omega
   simp [wbB,this]
  rw [e1] at hend
  rw [e2]
  obtain ⟨hn',hmax,h | ⟨b,off,rfl,hbN,hc⟩⟩:=hT.out
  ·omega
  ·have d0:=hc p (by omega)
   generalize l.getD p 0=x at d0
   have hp2:p < n:=by omega
   have hword:=fun w=>word27 x w
   clear hc e1 e2 hn hn'
   generalize wordR x=bx at hword
   go_enter Tryz.func227,Tryz.ntmps227
   go_wp2_with fail
   refine (hend _).mono ?_
   rintro e w' ⟨rfl,hb⟩
   obtain ⟨c0,c1,hk,hb2⟩:=box_cells hb
   have d1:=(hk b (off + p) hbN).trans d0
   clear hb hk d0 hend
   go_wp2_with (go_at_call 225;refine (hword _).mono ?_;rintro e w'' ⟨rfl,rfl⟩)
   go_ret
   exact ⟨rfl,hb2⟩
def edgeB (l:List Int) (p:Nat):Bool:=waB l p != wbB l p
def Box (w:World) (g:Nat) (v:Value) (p:Int) (w':World):Prop:=Below w.heap.size w w'∧w'.cell? ⟨g,0,none⟩=some v∧w'.cell? ⟨g,1,none⟩=some (.int .i64 p)∧g < w'.heap.size
theorem Box.below {w:World} {g:Nat} {v:Value} {p:Int} {w1 w2:World} (h:Box w g v p w1) (hb:Below w1.heap.size w1 w2):Box w g v p w2:=
 ⟨h.1.trans (hb.mono h.1.size),(hb.cell (p:=⟨g,0,none⟩) h.2.2.2).trans h.2.1,(hb.cell (p:=⟨g,1,none⟩) h.2.2.2).trans h.2.2.1,Nat.lt_of_lt_of_le h.2.2.2 hb.size⟩
theorem Box.new (w:World) (v:Value) (p:Int):Box w w.heap.size v p (w.alloc (.cells #[v,.int .i64 p] 169)):=by
 refine ⟨(Below.refl _ _).alloc (Nat.le_refl _) _,?_,?_,by simp⟩
 ·rw [World.cell?_alloc_at _ _ _ _ rfl];rfl
 ·rw [World.cell?_alloc_at _ _ _ _ rfl];rfl
theorem Box.drew {w:World} {g:Nat} {v:Value} {p:Int} {w1:World} (h:Box w g v p w1):Box w g v p w1.drew:=
 ⟨h.1.trans ⟨rfl,rfl,rfl,Nat.le_refl _,fun _ _=>rfl⟩,h.2.1,h.2.2.1,h.2.2.2⟩
set_option maxHeartbeats 1000000 in
theorem edge23 (ad:Option Addr) (n cap p:Nat) (l:List Int) (w:World) (hT:Hid (TextAt w.heap.size w ad n l)) (hp:p≤n):Calls Tryz.prog 178 #[.agg #[.slice ad n cap,.int .i64 p]] w fun e w'=>e=.returned (.bool (edgeB l p))∧Below w.heap.size w w':=by
 have h1:=fun w' (hb:Box w w.heap.size (.slice ad n cap) p w')=>(wa25 ad n cap p l w' ((hT.out.below hb.1).mono hb.1.size) hp).mono fun e w'' h=>(⟨h.1,hb.below h.2⟩:_∧Box w w.heap.size (.slice ad n cap) p w'')
 have h2:=fun w' (hb:Box w w.heap.size (.slice ad n cap) p w')=>(wb26 ad n cap p l w' ((hT.out.below hb.1).mono hb.1.size) hp).mono fun e w'' h=>(⟨h.1,hb.below h.2⟩:_∧Box w w.heap.size (.slice ad n cap) p w'')
 have hB0:=(Box.new w (.slice ad n cap) p).drew
 have he:edgeB l p=(waB l p != wbB l p):=rfl
 generalize edgeB l p=E at he ⊢
 generalize waB l p=A at he h1
 generalize wbB l p=B at he h2
 subst he
 go_enter Tryz.func178,Tryz.ntmps178
 go_wp2
 go_region_with (first
  | (go_at_call 226;refine (h1 _ (by assumption)).mono ?_;rintro e w' ⟨rfl,hB⟩;obtain ⟨hb,c0,c1,hg⟩:=id hB)
  | (go_at_call 227;refine (h2 _ (by assumption)).mono ?_;rintro e w' ⟨rfl,hB⟩;obtain ⟨hb,c0,c1,hg⟩:=id hB))
 all_goals go_wp2
 all_goals go_ret
 all_goals exact ⟨rfl,by assumption⟩
set_option maxHeartbeats 1000000 in
theorem noedge24 (ad:Option Addr) (n cap p:Nat) (l:List Int) (w:World) (hT:Hid (TextAt w.heap.size w ad n l)) (hp:p≤n):Calls Tryz.prog 179 #[.agg #[.slice ad n cap,.int .i64 p]] w fun e w'=>e=.returned (.bool (!edgeB l p))∧Below w.heap.size w w':=by
 have h1:=fun w' (hb:Box w w.heap.size (.slice ad n cap) p w')=>(edge23 ad n cap p l w' ((hT.out.below hb.1).mono hb.1.size) hp).mono fun e w'' h=>(⟨h.1,hb.below h.2⟩:_∧Box w w.heap.size (.slice ad n cap) p w'')
 have hB0:=(Box.new w (.slice ad n cap) p)
 generalize edgeB l p=E at h1
 go_enter Tryz.func179,Tryz.ntmps179
 go_wp2_with (go_at_call 178;refine (h1 _ (by assumption)).mono ?_;rintro e w' ⟨rfl,hB⟩)
 go_ret
 exact ⟨rfl,hB.1⟩
def bI (b:Bool) (x:Int):Int:=if b then x else 0
def sumB (b1 b2 b3 b4 b5:Bool):Nat→Int
 | 0=>0
 | 1=>bI b1 1
 | 2=>bI b1 1 + bI b2 2
 | 3=>bI b1 1 + bI b2 2 + bI b3 4
 | 4=>bI b1 1 + bI b2 2 + bI b3 4 + bI b4 8
 | 5=>bI b1 1 + bI b2 2 + bI b3 4 + bI b4 8 + bI b5 16
 | _=>bI b1 1 + bI b2 2 + bI b3 4 + bI b4 8 + bI b5 16 + bI (!b5) 32
def atP (l:List Int) (p:Nat):Int:=sumB (begB p) (endB l p) (blB l p) (elB l p) (edgeB l p) 6
def atN (l:List Int) (p:Int):Int:=if p < 0∨(l.length:Int) < p then 0 else atP l p.toNat
theorem or_row (b1 b2 b3 b4 b5:Bool) :
  bits .or .i64 (sumB b1 b2 b3 b4 b5 0) 1=sumB true b2 b3 b4 b5 1 ∧
  bits .or .i64 (sumB b1 b2 b3 b4 b5 1) 2=sumB b1 true b3 b4 b5 2 ∧
  bits .or .i64 (sumB b1 b2 b3 b4 b5 2) 4=sumB b1 b2 true b4 b5 3 ∧
  bits .or .i64 (sumB b1 b2 b3 b4 b5 3) 8=sumB b1 b2 b3 true b5 4 ∧
  bits .or .i64 (sumB b1 b2 b3 b4 b5 4) 16=sumB b1 b2 b3 b4 true 5 ∧
  bits .or .i64 (sumB b1 b2 b3 b4 false 5) 32=sumB b1 b2 b3 b4 false 6:=by
 cases b1 <;> cases b2 <;> cases b3 <;> cases b4 <;> cases b5 <;> decide +kernel
set_option maxRecDepth 100000 in
theorem ix0 (w:World):(Instr.index 173 (.agg rowsV) (.int .i64 0)).run Tryz.prog w=.ok (.agg #[.int .i64 1,.int .i64 2,.func (.func 174) #[] #[]]) w:=rfl
set_option maxRecDepth 100000 in
theorem ix1 (w:World):(Instr.index 173 (.agg rowsV) (.int .i64 1)).run Tryz.prog w=.ok (.agg #[.int .i64 2,.int .i64 1,.func (.func 175) #[] #[]]) w:=rfl
set_option maxRecDepth 100000 in
theorem ix2 (w:World):(Instr.index 173 (.agg rowsV) (.int .i64 2)).run Tryz.prog w=.ok (.agg #[.int .i64 4,.int .i64 8,.func (.func 176) #[] #[]]) w:=rfl
set_option maxRecDepth 100000 in
theorem ix3 (w:World):(Instr.index 173 (.agg rowsV) (.int .i64 3)).run Tryz.prog w=.ok (.agg #[.int .i64 8,.int .i64 4,.func (.func 177) #[] #[]]) w:=rfl
set_option maxRecDepth 100000 in
theorem ix4 (w:World):(Instr.index 173 (.agg rowsV) (.int .i64 4)).run Tryz.prog w=.ok (.agg #[.int .i64 16,.int .i64 16,.func (.func 178) #[] #[]]) w:=rfl
set_option maxRecDepth 100000 in
theorem ix5 (w:World):(Instr.index 173 (.agg rowsV) (.int .i64 5)).run Tryz.prog w=.ok (.agg #[.int .i64 32,.int .i64 32,.func (.func 179) #[] #[]]) w:=rfl
set_option maxHeartbeats 1000000 in
theorem at_in (l:List Int) (ad:Option Addr) (n cap p:Nat) (w:World) (hT:Hid (TextAt w.heap.size w ad n l)) (hp:p≤n) (hm:n≤35184372088832) :
  Calls Tryz.prog 74 #[.slice ad n cap,.int .i64 p] w fun e w'=>e=.returned (.int .i64 (atP l p))∧Below w.heap.size w w':=by
 have k0:=fun w' (hb:Box w w.heap.size (.slice ad n cap) p w')=>(beg19 ad n cap p w').mono fun e w'' h=>(⟨h.1,hb.below h.2,h.2⟩:_∧Box w w.heap.size (.slice ad n cap) p w''∧Below w'.heap.size w' w'')
 have k1:=fun w' (hb:Box w w.heap.size (.slice ad n cap) p w')=>(end20 ad n cap p l w' hT.out.1).mono fun e w'' h=>(⟨h.1,hb.below h.2,h.2⟩:_∧Box w w.heap.size (.slice ad n cap) p w''∧Below w'.heap.size w' w'')
 have k2:=fun w' (hb:Box w w.heap.size (.slice ad n cap) p w')=>(bl21 ad n cap p l w' ((hT.out.below hb.1).mono hb.1.size) hp).mono fun e w'' h=>(⟨h.1,hb.below h.2,h.2⟩:_∧Box w w.heap.size (.slice ad n cap) p w''∧Below w'.heap.size w' w'')
 have k3:=fun w' (hb:Box w w.heap.size (.slice ad n cap) p w')=>(el22 ad n cap p l w' ((hT.out.below hb.1).mono hb.1.size) hp).mono fun e w'' h=>(⟨h.1,hb.below h.2,h.2⟩:_∧Box w w.heap.size (.slice ad n cap) p w''∧Below w'.heap.size w' w'')
 have k4:=fun w' (hb:Box w w.heap.size (.slice ad n cap) p w')=>(edge23 ad n cap p l w' ((hT.out.below hb.1).mono hb.1.size) hp).mono fun e w'' h=>(⟨h.1,hb.below h.2,h.2⟩:_∧Box w w.heap.size (.slice ad n cap) p w''∧Below w'.heap.size w' w'')
 have k5:=fun w' (hb:Box w w.heap.size (.slice ad n cap) p w')=>(noedge24 ad n cap p l w' ((hT.out.below hb.1).mono hb.1.size) hp).mono fun e w'' h=>(⟨h.1,hb.below h.2,h.2⟩:_∧Box w w.heap.size (.slice ad n cap) p w''∧Below w'.heap.size w' w'')
 have hB0:=(Box.new w (.slice ad n cap) p)
 have he:atP l p=sumB (begB p) (endB l p) (blB l p) (elB l p) (edgeB l p) 6:=rfl
 generalize atP l p=E at he ⊢
 generalize begB p=b1 at he k0
 generalize endB l p=b2 at he k1
 generalize blB l p=b3 at he k2
 generalize elB l p=b4 at he k3
 generalize edgeB l p=b5 at he k4 k5
 subst he
 have hrows:=rows17
 go_enter Tryz.func74,Tryz.ntmps74
 go_wp2_with (go_at_call 112;refine (hrows _).mono ?_;rintro e w' ⟨rfl,rfl⟩)
 go_loopw [6,21] (fun bt i wr=>∃ (k:Nat),k≤6∧i=.int .i64 k∧bt=.int .i64 (sumB b1 b2 b3 b4 b5 k)∧Box w w.heap.size (.slice ad n cap) p wr) (fun _ i _=>6 - (intOf i).toNat)
 case atStart=>exact ⟨0,by omega,rfl,rfl,hB0.below ((Below.refl _ _).alloc (Nat.le_refl _) _)⟩
 case round =>
  obtain ⟨k,hk,rfl,rfl,hB⟩:=hrel
  by_cases hlt:k < 6
  ·have hk6:k=0∨k=1∨k=2∨k=3∨k=4∨k=5:=by omega
   rcases hk6 with rfl | rfl | rfl | rfl | rfl | rfl
   ·obtain ⟨hb,c0,c1,hg⟩:=id hB
    have hix:=ix0
    have hor:=(or_row b1 b2 b3 b4 b5).1
    cases b1
    ·go_wp2_with (go_at_call 174;refine (k0 _ (by exact hB.below ((Below.refl _ _).alloc (Nat.le_refl _) _))).mono ?_;rintro e w' ⟨rfl,hB2,hb2⟩;have r0:w'.cell? ⟨wr.heap.size,0,none⟩=some (.int .i64 1):=(hb2.cell (p:=⟨wr.heap.size,0,none⟩) (by simp)).trans (by rw [World.cell?_alloc_at _ _ _ _ rfl];rfl))
     go_roundw
     case rel=>exact ⟨1,by omega,by go_num,by simp [sumB,bI],hB2⟩
     case measure=>simp [intOf]
    ·go_wp2_with (go_at_call 174;refine (k0 _ (by exact hB.below ((Below.refl _ _).alloc (Nat.le_refl _) _))).mono ?_;rintro e w' ⟨rfl,hB2,hb2⟩;have r0:w'.cell? ⟨wr.heap.size,0,none⟩=some (.int .i64 1):=(hb2.cell (p:=⟨wr.heap.size,0,none⟩) (by simp)).trans (by rw [World.cell?_alloc_at _ _ _ _ rfl];rfl))
     go_roundw
     case rel=>exact ⟨1,by omega,by go_num,by first | rfl | exact congrArg _ hor,hB2⟩
     case measure=>simp [intOf]
   ·obtain ⟨hb,c0,c1,hg⟩:=id hB
    have hix:=ix1
    have hor:=(or_row b1 b2 b3 b4 b5).2.1
    cases b2
    ·go_wp2_with (go_at_call 175;refine (k1 _ (by exact hB.below ((Below.refl _ _).alloc (Nat.le_refl _) _))).mono ?_;rintro e w' ⟨rfl,hB2,hb2⟩;have r0:w'.cell? ⟨wr.heap.size,0,none⟩=some (.int .i64 2):=(hb2.cell (p:=⟨wr.heap.size,0,none⟩) (by simp)).trans (by rw [World.cell?_alloc_at _ _ _ _ rfl];rfl))
     go_roundw
     case rel=>exact ⟨2,by omega,by go_num,by simp [sumB,bI],hB2⟩
     case measure=>simp [intOf]
    ·go_wp2_with (go_at_call 175;refine (k1 _ (by exact hB.below ((Below.refl _ _).alloc (Nat.le_refl _) _))).mono ?_;rintro e w' ⟨rfl,hB2,hb2⟩;have r0:w'.cell? ⟨wr.heap.size,0,none⟩=some (.int .i64 2):=(hb2.cell (p:=⟨wr.heap.size,0,none⟩) (by simp)).trans (by rw [World.cell?_alloc_at _ _ _ _ rfl];rfl))
     go_roundw
     case rel=>exact ⟨2,by omega,by go_num,by first | rfl | exact congrArg _ hor,hB2⟩
     case measure=>simp [intOf]
   ·obtain ⟨hb,c0,c1,hg⟩:=id hB
    have hix:=ix2
    have hor:=(or_row b1 b2 b3 b4 b5).2.2.1
    cases b3
    ·go_wp2_with (go_at_call 176;refine (k2 _ (by exact hB.below ((Below.refl _ _).alloc (Nat.le_refl _) _))).mono ?_;rintro e w' ⟨rfl,hB2,hb2⟩;have r0:w'.cell? ⟨wr.heap.size,0,none⟩=some (.int .i64 4):=(hb2.cell (p:=⟨wr.heap.size,0,none⟩) (by simp)).trans (by rw [World.cell?_alloc_at _ _ _ _ rfl];rfl))
     go_roundw
     case rel=>exact ⟨3,by omega,by go_num,by simp [sumB,bI],hB2⟩
     case measure=>simp [intOf]
    ·go_wp2_with (go_at_call 176;refine (k2 _ (by exact hB.below ((Below.refl _ _).alloc (Nat.le_refl _) _))).mono ?_;rintro e w' ⟨rfl,hB2,hb2⟩;have r0:w'.cell? ⟨wr.heap.size,0,none⟩=some (.int .i64 4):=(hb2.cell (p:=⟨wr.heap.size,0,none⟩) (by simp)).trans (by rw [World.cell?_alloc_at _ _ _ _ rfl];rfl))
     go_roundw
     case rel=>exact ⟨3,by omega,by go_num,by first | rfl | exact congrArg _ hor,hB2⟩
     case measure=>simp [intOf]
   ·obtain ⟨hb,c0,c1,hg⟩:=id hB
    have hix:=ix3
    have hor:=(or_row b1 b2 b3 b4 b5).2.2.2.1
    cases b4
    ·go_wp2_with (go_at_call 177;refine (k3 _ (by exact hB.below ((Below.refl _ _).alloc (Nat.le_refl _) _))).mono ?_;rintro e w' ⟨rfl,hB2,hb2⟩;have r0:w'.cell? ⟨wr.heap.size,0,none⟩=some (.int .i64 8):=(hb2.cell (p:=⟨wr.heap.size,0,none⟩) (by simp)).trans (by rw [World.cell?_alloc_at _ _ _ _ rfl];rfl))
     go_roundw
     case rel=>exact ⟨4,by omega,by go_num,by simp [sumB,bI],hB2⟩
     case measure=>simp [intOf]
    ·go_wp2_with (go_at_call 177;refine (k3 _ (by exact hB.below ((Below.refl _ _).alloc (Nat.le_refl _) _))).mono ?_;rintro e w' ⟨rfl,hB2,hb2⟩;have r0:w'.cell? ⟨wr.heap.size,0,none⟩=some (.int .i64 8):=(hb2.cell (p:=⟨wr.heap.size,0,none⟩) (by simp)).trans (by rw [World.cell?_alloc_at _ _ _ _ rfl];rfl))
     go_roundw
     case rel=>exact ⟨4,by omega,by go_num,by first | rfl | exact congrArg _ hor,hB2⟩
     case measure=>simp [intOf]
   ·obtain ⟨hb,c0,c1,hg⟩:=id hB
    have hix:=ix4
    have hor:=(or_row b1 b2 b3 b4 b5).2.2.2.2.1
    cases b5
    ·go_wp2_with (go_at_call 178;refine (k4 _ (by exact hB.below ((Below.refl _ _).alloc (Nat.le_refl _) _))).mono ?_;rintro e w' ⟨rfl,hB2,hb2⟩;have r0:w'.cell? ⟨wr.heap.size,0,none⟩=some (.int .i64 16):=(hb2.cell (p:=⟨wr.heap.size,0,none⟩) (by simp)).trans (by rw [World.cell?_alloc_at _ _ _ _ rfl];rfl))
     go_roundw
     case rel=>exact ⟨5,by omega,by go_num,by simp [sumB,bI],hB2⟩
     case measure=>simp [intOf]
    ·go_wp2_with (go_at_call 178;refine (k4 _ (by exact hB.below ((Below.refl _ _).alloc (Nat.le_refl _) _))).mono ?_;rintro e w' ⟨rfl,hB2,hb2⟩;have r0:w'.cell? ⟨wr.heap.size,0,none⟩=some (.int .i64 16):=(hb2.cell (p:=⟨wr.heap.size,0,none⟩) (by simp)).trans (by rw [World.cell?_alloc_at _ _ _ _ rfl];rfl))
     go_roundw
     case rel=>exact ⟨5,by omega,by go_num,by first | rfl | exact congrArg _ hor,hB2⟩
     case measure=>simp [intOf]
   ·obtain ⟨hb,c0,c1,hg⟩:=id hB
    have hix:=ix5
    have hor:=(or_row b1 b2 b3 b4 b5).2.2.2.2.2
    cases b5
    ·go_wp2_with (go_at_call 179;refine (k5 _ (by exact hB.below ((Below.refl _ _).alloc (Nat.le_refl _) _))).mono ?_;rintro e w' ⟨rfl,hB2,hb2⟩;have r0:w'.cell? ⟨wr.heap.size,0,none⟩=some (.int .i64 32):=(hb2.cell (p:=⟨wr.heap.size,0,none⟩) (by simp)).trans (by rw [World.cell?_alloc_at _ _ _ _ rfl];rfl))
     go_roundw
     case rel=>exact ⟨6,by omega,by go_num,by first | rfl | exact congrArg _ hor,hB2⟩
     case measure=>simp [intOf]
    ·go_wp2_with (go_at_call 179;refine (k5 _ (by exact hB.below ((Below.refl _ _).alloc (Nat.le_refl _) _))).mono ?_;rintro e w' ⟨rfl,hB2,hb2⟩;have r0:w'.cell? ⟨wr.heap.size,0,none⟩=some (.int .i64 32):=(hb2.cell (p:=⟨wr.heap.size,0,none⟩) (by simp)).trans (by rw [World.cell?_alloc_at _ _ _ _ rfl];rfl))
     go_roundw
     case rel=>exact ⟨6,by omega,by go_num,by simp [sumB,bI],hB2⟩
     case measure=>simp [intOf]
  ·obtain rfl:k=6:=by omega
   go_wp2
   go_ret
   exact ⟨rfl,hB.1⟩
set_option maxHeartbeats 1000000 in
theorem at_out (l:List Int) (ad:Option Addr) (n cap:Nat) (p:Int) (w:World) (hp:p < 0∨(n:Int) < p) :
  Calls Tryz.prog 74 #[.slice ad n cap,.int .i64 p] w fun e w'=>e=.returned (.int .i64 0)∧Below w.heap.size w w':=by
 rcases hp with hp | hp
 ·go_enter Tryz.func74,Tryz.ntmps74
  go_wp2
  go_ret
  exact ⟨rfl,Below.refl _ _⟩
 ·by_cases h0:p < 0
  ·go_enter Tryz.func74,Tryz.ntmps74
   go_wp2
   go_ret
   exact ⟨rfl,Below.refl _ _⟩
  ·go_enter Tryz.func74,Tryz.ntmps74
   go_wp2
   go_ret
   exact ⟨rfl,Below.refl _ _⟩
theorem at10 (l:List Int) (ad:Option Addr) (n cap:Nat) (p:Int) (w:World) (hT:TextAt w.heap.size w ad n l) :
  Calls Tryz.prog 74 #[.slice ad n cap,.int .i64 p] w fun e w'=>e=.returned (.int .i64 (atN l p))∧Below w.heap.size w w':=by
 have hn:=hT.1
 by_cases h:p < 0∨(l.length:Int) < p
 ·rw [show atN l p=0 by unfold atN;rw [if_pos h]]
  exact at_out l ad n cap p w (by rw [hn];exact h)
 ·obtain ⟨q,rfl⟩:=Int.eq_ofNat_of_zero_le (show 0≤p by omega)
  rw [show atN l (q:Int)=atP l q by unfold atN;rw [if_neg h];rfl]
  exact at_in l ad n cap q w hT (by omega) hT.2.1
end Go.Proofs.YtacaanhnlfpbhaaGreat.Look
namespace Go.Proofs.YtacaanhnlfpbhaaGreat
open Go.RowKit
set_option linter.unusedVariables false
set_option linter.unusedSimpArgs false
def wordR (r:Int):Bool:=decide (48≤r∧r≤57∨65≤r∧r≤90∨97≤r∧r≤122∨r=95)
def TextAt (N:Nat) (w:World) (ad:Option Addr) (n:Nat) (l:List Int):Prop:=
 n=l.length∧n≤35184372088832∧(n=0∨∃ b off,ad=some ⟨b,off,none⟩∧b < N∧∀ k,k < n→w.cell? ⟨b,off + k,none⟩=some (.int .i64 (l.getD k 0)))
theorem TextAt.below {N:Nat} {w w':World} {ad:Option Addr} {n:Nat} {l:List Int} (h:TextAt N w ad n l) (hb:Below N w w'):TextAt N w' ad n l:=by
 obtain ⟨h1,h2,h | ⟨b,off,ha,hbN,hc⟩⟩:=h
 ·exact ⟨h1,h2,.inl h⟩
 ·exact ⟨h1,h2,.inr ⟨b,off,ha,hbN,fun k hk=>(hb.cell (p:=⟨b,off + k,none⟩) hbN).trans (hc k hk)⟩⟩
theorem TextAt.mono {N M:Nat} {w:World} {ad:Option Addr} {n:Nat} {l:List Int} (h:TextAt N w ad n l) (hNM:N≤M):TextAt M w ad n l:=by
 obtain ⟨h1,h2,h | ⟨b,off,ha,hbN,hc⟩⟩:=h
 ·exact ⟨h1,h2,.inl h⟩
 ·exact ⟨h1,h2,.inr ⟨b,off,ha,by omega,hc⟩⟩
def begB (p:Nat):Bool:=decide (p=0)
def endB (l:List Int) (p:Nat):Bool:=decide (p=l.length)
def blB (l:List Int) (p:Nat):Bool:=decide (p=0) || decide (l.getD (p - 1) 0=10)
def elB (l:List Int) (p:Nat):Bool:=decide (p=l.length) || decide (l.getD p 0=10)
def waB (l:List Int) (p:Nat):Bool:=decide (0 < p) && wordR (l.getD (p - 1) 0)
def wbB (l:List Int) (p:Nat):Bool:=decide (p < l.length) && wordR (l.getD p 0)
def edgeB (l:List Int) (p:Nat):Bool:=waB l p != wbB l p
def bI (b:Bool) (x:Int):Int:=if b then x else 0
def sumB (b1 b2 b3 b4 b5:Bool):Nat→Int
 | 0=>0
 | 1=>bI b1 1
 | 2=>bI b1 1 + bI b2 2
 | 3=>bI b1 1 + bI b2 2 + bI b3 4
 | 4=>bI b1 1 + bI b2 2 + bI b3 4 + bI b4 8
 | 5=>bI b1 1 + bI b2 2 + bI b3 4 + bI b4 8 + bI b5 16
 | _=>bI b1 1 + bI b2 2 + bI b3 4 + bI b4 8 + bI b5 16 + bI (!b5) 32
def atP (l:List Int) (p:Nat):Int:=sumB (begB p) (endB l p) (blB l p) (elB l p) (edgeB l p) 6
def atN (l:List Int) (p:Int):Int:=if p < 0∨(l.length:Int) < p then 0 else atP l p.toNat
set_option maxRecDepth 100000 in
set_option maxHeartbeats 4000000 in
theorem bareE (N:Nv) (w:World):Calls Tryz.prog 147 #[N.v,.bool false,.bool false,.bool false,.bool false,.bool false] w fun e w'=>e=.returned (.bool (bareB N.r2 N.a2 N.s2 N.a4 N.a5 N.a6 N.a7 N.a8 false false false false false))∧Below w.heap.size w w':=by
 obtain ⟨k,r1,r2,r3,a2,s1,s2,s3,a4,a5,a6,a7,a8⟩:=N
 go_enter Tryz.func147,Tryz.ntmps147
 go_wp2
 all_goals go_ret
 all_goals exact ⟨ret_bool (by simp_all [bareB]),Joins.below_alloc1 w _⟩
set_option maxRecDepth 100000 in
set_option maxHeartbeats 4000000 in
theorem bareC (N:Nv) (w:World):Calls Tryz.prog 147 #[N.v,.bool true,.bool false,.bool false,.bool false,.bool false] w fun e w'=>e=.returned (.bool (bareB N.r2 N.a2 N.s2 N.a4 N.a5 N.a6 N.a7 N.a8 true false false false false))∧Below w.heap.size w w':=by
 obtain ⟨k,r1,r2,r3,a2,s1,s2,s3,a4,a5,a6,a7,a8⟩:=N
 go_enter Tryz.func147,Tryz.ntmps147
 go_wp2
 all_goals go_ret
 all_goals exact ⟨ret_bool (by simp_all [bareB]),Joins.below_alloc1 w _⟩
set_option maxRecDepth 100000 in
set_option maxHeartbeats 4000000 in
theorem bareA (N:Nv) (w:World):Calls Tryz.prog 147 #[N.v,.bool false,.bool true,.bool false,.bool false,.bool false] w fun e w'=>e=.returned (.bool (bareB N.r2 N.a2 N.s2 N.a4 N.a5 N.a6 N.a7 N.a8 false true false false false))∧Below w.heap.size w w':=by
 obtain ⟨k,r1,r2,r3,a2,s1,s2,s3,a4,a5,a6,a7,a8⟩:=N
 go_enter Tryz.func147,Tryz.ntmps147
 go_wp2
 all_goals go_ret
 all_goals exact ⟨ret_bool (by simp_all [bareB]),Joins.below_alloc1 w _⟩
set_option maxRecDepth 100000 in
set_option maxHeartbeats 4000000 in
theorem bareS (N:Nv) (w:World):Calls Tryz.prog 147 #[N.v,.bool false,.bool false,.bool true,.bool false,.bool false] w fun e w'=>e=.returned (.bool (bareB N.r2 N.a2 N.s2 N.a4 N.a5 N.a6 N.a7 N.a8 false false true false false))∧Below w.heap.size w w':=by
 obtain ⟨k,r1,r2,r3,a2,s1,s2,s3,a4,a5,a6,a7,a8⟩:=N
 go_enter Tryz.func147,Tryz.ntmps147
 go_wp2
 all_goals go_ret
 all_goals exact ⟨ret_bool (by simp_all [bareB]),Joins.below_alloc1 w _⟩
set_option maxRecDepth 100000 in
set_option maxHeartbeats 4000000 in
theorem bareR (N:Nv) (w:World):Calls Tryz.prog 147 #[N.v,.bool false,.bool false,.bool true,.bool true,.bool false] w fun e w'=>e=.returned (.bool (bareB N.r2 N.a2 N.s2 N.a4 N.a5 N.a6 N.a7 N.a8 false false true true false))∧Below w.heap.size w w':=by
 obtain ⟨k,r1,r2,r3,a2,s1,s2,s3,a4,a5,a6,a7,a8⟩:=N
 go_enter Tryz.func147,Tryz.ntmps147
 go_wp2
 all_goals go_ret
 all_goals exact ⟨ret_bool (by simp_all [bareB]),Joins.below_alloc1 w _⟩
set_option maxRecDepth 100000 in
set_option maxHeartbeats 4000000 in
theorem bareG (N:Nv) (w:World):Calls Tryz.prog 147 #[N.v,.bool false,.bool false,.bool true,.bool false,.bool true] w fun e w'=>e=.returned (.bool (bareB N.r2 N.a2 N.s2 N.a4 N.a5 N.a6 N.a7 N.a8 false false true false true))∧Below w.heap.size w w':=by
 obtain ⟨k,r1,r2,r3,a2,s1,s2,s3,a4,a5,a6,a7,a8⟩:=N
 go_enter Tryz.func147,Tryz.ntmps147
 go_wp2
 all_goals go_ret
 all_goals exact ⟨ret_bool (by simp_all [bareB]),Joins.below_alloc1 w _⟩
theorem assertion74 (n:Int) (w:World):Calls Tryz.prog 148 #[.int .i64 n] w fun e w'=>e=.returned (.bool (assertB n))∧w'=w:=by
 go_enter Tryz.func148,Tryz.ntmps148
 go_wp2
 all_goals go_ret
 all_goals exact ⟨ret_bool (by simp_all [assertB]),rfl⟩
set_option maxRecDepth 100000 in
set_option maxHeartbeats 4000000 in
theorem name75s (s:ByteArray) (w:World) (h1:1≤s.size) (h2:s.size≤32):Calls Tryz.prog 149 #[.string s] w fun e w'=>e=.returned (.bool (nameB s))∧w'=w:=by
 have b1:decide ((s.size:Int) < 1)=false:=by simp;omega
 have b2:decide ((s.size:Int) > 32)=false:=by simp;omega
 have b2':decide (32 < (s.size:Int))=false:=by simp;omega
 obtain ⟨r,hr⟩:∃ r,r=nameB s:=⟨_,rfl⟩
 rw [← hr]
 have HR:=hid' hr
 clear hr
 go_enter Tryz.func149,Tryz.ntmps149
 go_wp2_with fail
 go_loopw [3] (fun y wq=>∃ i:Nat,y=.int .i64 (i:Int)∧i≤s.size∧Hid (∀ j,j < i→okAt s j=true)∧wq=w) (fun y _=>s.size - (intOf y).toNat)
 case atStart=>exact ⟨0,rfl,by omega,fun j hj=>by omega,rfl⟩
 case round =>
  obtain ⟨i,rfl,hi,HJ,rfl⟩:=hrel
  by_cases hil:i < s.size
  ·have b1:decide ((i:Int) < (s.size:Int))=true:=by simp;omega
   have b2:(i:Int) < (s.size:Int):=by omega
   have ad1:IntKind.i64.wrap ((i:Int) + 1)=(i:Int) + 1:=by simp [IntKind.wrap,IntKind.bits,IntKind.signed];omega
   have HC:Hid (∀ (c:Int),c=(s[i].toNat:Int)→okC c i=true→∀ j,j < i + 1→okAt s j=true):=fun c hc h j hj=>by
    by_cases e:j=i
    ·subst e;rw [okAt_eq hil,← hc];exact h
    ·exact HJ.out j (by omega)
   have HD:Hid (∀ (c:Int),c=(s[i].toNat:Int)→okC c i=false→r=false):=fun c hc h=>by rw [HR.out];exact name_false i hil (by rw [← hc];exact h)
   go_wp2
   all_goals first
    | (refine ⟨⟨i + 1,by push_cast;rfl,by omega,HC.out _ rfl (by simp_all [okC] <;> omega),by trivial⟩,?_⟩;(simp [intOf];omega))
    | (go_ret;refine ⟨ret_bool ?_,rfl⟩;exact (HD.out _ rfl (by simp_all [okC] <;> omega)).symm)
  ·have b1:decide ((i:Int) < (s.size:Int))=false:=by simp;omega
   have e:r=true:=by rw [HR.out];exact name_true h1 h2 fun j hj=>HJ.out j (by omega)
   subst e
   go_wp2
   go_ret
   exact ⟨rfl,rfl⟩
theorem name75 (s:ByteArray) (w:World) (hs:s.size≤9223372036854775807):Calls Tryz.prog 149 #[.string s] w fun e w'=>e=.returned (.bool (nameB s))∧w'=w:=by
 by_cases h:1≤s.size∧s.size≤32
 ·exact name75s s w h.1 h.2
 ·rw [name_long h]
  by_cases h1:1≤s.size
  ·have b1:decide ((s.size:Int) < 1)=false:=by simp;omega
   have b2:decide ((s.size:Int) > 32)=true:=by simp;omega
   have b2':decide (32 < (s.size:Int))=true:=by simp;omega
   go_enter Tryz.func149,Tryz.ntmps149
   go_wp2
   go_ret
   exact ⟨rfl,rfl⟩
  ·have b1:decide ((s.size:Int) < 1)=true:=by simp;omega
   go_enter Tryz.func149,Tryz.ntmps149
   go_wp2
   go_ret
   exact ⟨rfl,rfl⟩
end Go.Proofs.YtacaanhnlfpbhaaGreat
