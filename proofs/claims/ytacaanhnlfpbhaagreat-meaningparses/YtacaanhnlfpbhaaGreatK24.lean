/- HELPERS: texts of ours put together. -/
import Derived.Test.YtacaanhnlfpbhaaGreatK23
import Derived.Test.YtacaanhnlfpbhaaGreatK20
import Derived.Test.YtacaanhnlfpbhaaGreatK19
namespace Go.Proofs.YtacaanhnlfpbhaaGreat
open Go.RowKit
set_option linter.unusedVariables false
set_option linter.unusedSimpArgs false
def BRw (w:World) (b n:Nat) (f:Nat→Bool):Prop:=∃ arr:Array Value,w.heap[b]?=some (.cells arr 4 (0,0))∧arr.size=n∧∀ i,i < n→arr[i]?=some (.bool (f i))
theorem BRw.cell {w:World} {b n:Nat} {f:Nat→Bool} (h:BRw w b n f) {i:Nat} (hi:i < n):w.cell? ⟨b,i,none⟩=some (.bool (f i)):=by
 obtain ⟨arr,h1,h2,h3⟩:=h
 rw [Joins.cell_of_block h1 i]
 exact h3 i hi
theorem BRw.free {w:World} {b n:Nat} {f:Nat→Bool} (h:BRw w b n f) (i:Nat):w.frozen? ⟨b,i,none⟩=false:=by
 obtain ⟨arr,h1,h2,h3⟩:=h
 exact Joins.unfrozen_of_block h1 i
theorem BRw.kept {w w':World} {b n:Nat} {f:Nat→Bool} (h:BRw w b n f) (hk:w'.heap[b]?=w.heap[b]?):BRw w' b n f:=by
 obtain ⟨arr,h1,h2,h3⟩:=h
 exact ⟨arr,hk.trans h1,h2,h3⟩
theorem BRw.as {w:World} {b n:Nat} {f g:Nat→Bool} (h:BRw w b n f) (he:∀ i,i < n→f i=g i):BRw w b n g:=by
 obtain ⟨arr,h1,h2,h3⟩:=h
 exact ⟨arr,h1,h2,fun i hi=>by rw [← he i hi];exact h3 i hi⟩
theorem BRw.lt {w:World} {b n:Nat} {f:Nat→Bool} (h:BRw w b n f):b < w.heap.size:=by
 obtain ⟨arr,h1,h2,h3⟩:=h
 exact (Array.getElem?_eq_some_iff.1 h1).1
theorem BRw.set {w:World} {b n:Nat} {f:Nat→Bool} (h:BRw w b n f) (i:Nat) (x:Bool):BRw (w.setCell ⟨b,i,none⟩ (.bool x)) b n (fun j=>if j=i then x else f j):=by
 obtain ⟨arr,h1,h2,h3⟩:=h
 refine ⟨arr.setIfInBounds i (.bool x),Joins.block_setCell (i:=i) h1 _,by simp [h2],fun j hj=>?_⟩
 by_cases e:j=i
 ·subst e;simp [h2,hj]
 ·rw [Array.getElem?_setIfInBounds_ne (by omega)];simp [e];exact h3 j hj
theorem info4:(Tryz.prog.info? 4).map (fun i=>(i.zero,i.size,i.bytes))=some (some (.bool false),1,1):=by kernel_rfl
theorem makeB (c:Nat) (hc:c≤10000) (w:World):(Instr.makeSlice 79 (.int .i64 (c:Int)) (.int .i64 (c:Int))).run Tryz.prog w=.ok (.slice (some ⟨w.heap.size,0,none⟩) c c) (w.alloc (.cells (madeCells #[.bool false] c) 4)):=
 run_make_row' (P:=Tryz.prog) 79 4 (.bool false) 1 Tryz.underlying79 info4 rfl .i64 .i64 c (by omega) (by omega) w
theorem BRw.made (w:World) (c:Nat):BRw (w.alloc (.cells (madeCells #[.bool false] c) 4)) w.heap.size c (fun _=>false):=
 ⟨_,heap_alloc_new w _,by simp [madeCells],fun i hi=>by simp [madeCells,hi,Nat.mod_one]⟩
structure WC where
 N0:Nat
 wb:Nat
 tb:Nat
 pb:Nat
 n:Nat
 pc:Nat
 NB:Nat
 bg:Nat
 bc:Nat
 dg:Nat
 dc:Nat
 rb:Nat→Nat
 rd:Nat→Nat
 eb:Nat
 tn:Nat
 tc:Nat
 tad:Option Addr
 frm:Int
 tx:List Int
 L:List Pl
 E:Nat→Way
 K:Nat
def Lt.kk:Lt→Int
 | .mk _ k _ _ _ mn mx _ _ _=>if k=6 then (if mx < 0 then (if mn=0 then 101 else 102) else 103) else k
structure WFr (C:WC) (W W':World):Prop where
 os:W'.os=W.os
 tape:W'.tape=W.tape
 output:W'.output=W.output
 size:W.heap.size≤W'.heap.size
 low:∀ (b:Nat),b < C.N0→W'.heap[b]?=W.heap[b]?
 typ:∀ (b:Nat) (cur:Array Value) (t:TypeId),t≠4→t≠82→t≠57→W.heap[b]?=some (.cells cur t (0,0))→W'.heap[b]?=some (.cells cur t (0,0))
theorem WFr.refl (C:WC) (W:World):WFr C W W:=⟨rfl,rfl,rfl,Nat.le_refl _,fun _ _=>rfl,fun _ _ _ _ _ _ h=>h⟩
theorem WFr.trans {C:WC} {a b c:World} (h:WFr C a b) (k:WFr C b c):WFr C a c:=⟨k.os.trans h.os,k.tape.trans h.tape,k.output.trans h.output,Nat.le_trans h.size k.size,fun i hi=>(k.low i hi).trans (h.low i hi),fun i cur t h1 h2 h3 x=>k.typ i cur t h1 h2 h3 (h.typ i cur t h1 h2 h3 x)⟩
theorem WFr.of_below {C:WC} {W W':World} (h:Below W.heap.size W W') (hN:C.N0≤W.heap.size):WFr C W W':=
 ⟨h.os,h.tape,h.output,h.size,fun b hb=>h.block b (by omega),fun b cur t _ _ _ hx=>(h.block b (Array.getElem?_eq_some_iff.1 hx).1).trans hx⟩
theorem WFr.row {C:WC} {W W':World} {v:Value} {L:List Int} (f:WFr C W W') (h:Rw W v L):Rw W' v L:=by
 rcases h with h | ⟨h0,h⟩
 ·exact .inl h
 ·refine .inr ⟨h0,h.1,?_⟩
  rcases h.2 with hn | ⟨g,cap,cur,hv,hb,hg,rest⟩
  ·exact .inl hn
  ·exact .inr ⟨g,cap,cur,hv,hb,f.typ g cur 3 (by decide) (by decide) (by decide) hg,rest⟩
abbrev N8 (W:World) (b o:Nat) (k a ix:Int) (rv sv:Value) (lz:Bool) (up nth:Int):Prop:=
 W.cell? ⟨b,o,none⟩=some (.int .i64 k)∧W.cell? ⟨b,o + 1,none⟩=some (.int .i64 a)∧W.cell? ⟨b,o + 2,none⟩=some (.int .i64 ix)∧W.cell? ⟨b,o + 3,none⟩=some rv∧W.cell? ⟨b,o + 4,none⟩=some sv∧W.cell? ⟨b,o + 5,none⟩=some (.bool lz)∧W.cell? ⟨b,o + 6,none⟩=some (.int .i64 up)∧W.cell? ⟨b,o + 7,none⟩=some (.int .i64 nth)
theorem N8.kept {W W':World} {b o:Nat} {k a ix:Int} {rv sv:Value} {lz:Bool} {up nth:Int} (h:N8 W b o k a ix rv sv lz up nth) (hk:W'.heap[b]?=W.heap[b]?):N8 W' b o k a ix rv sv lz up nth:=by
 have e:∀ x,W'.cell? ⟨b,x,none⟩=W.cell? ⟨b,x,none⟩:=fun x=>by simp only [World.cell?,hk]
 obtain ⟨h0,h1,h2,h3,h4,h5,h6,h7⟩:=h
 exact ⟨(e _).trans h0,(e _).trans h1,(e _).trans h2,(e _).trans h3,(e _).trans h4,(e _).trans h5,(e _).trans h6,(e _).trans h7⟩
structure Nds (N0:Nat) (W:World) (k:Int) (R:List (Int × Int)) (a:Int) (s:List Lt) (lz:Bool) (ix:Int) (a' ix':Int) (r1:Option Addr) (r2 r3:Nat) (sa:Option Addr) (sc:Nat) (lz':Bool):Prop where
 asr:k=3→a'=a
 gr:k=7→ix'=ix
 lp:k=6→lz'=lz
 cl:k=2→RowAt N0 W (.slice r1 r2 r3) R
 su:Rw W (.slice sa s.length sc) (s.map fun t=>(t.lb:Int))
def PLw (C:WC) (W:World):Pl→Prop
 | ⟨.mk lb k R a s mn mx lz ix nm,B,up,nth⟩=>∃ a' ix' r1 r2 r3 sa sc lz',N8 W C.pb (lb * 8) (Lt.kk (.mk lb k R a s mn mx lz ix nm)) a' ix' (.slice r1 r2 r3) (.slice sa s.length sc) lz' up (nth:Int)∧Nds C.N0 W k R a s lz ix a' ix' r1 r2 r3 sa sc lz'
theorem RowAt.keptW {N:Nat} {w w':World} {v:Value} {L:List (Int × Int)} (h:RowAt N w v L) (hk:∀ b,b < N→w'.heap[b]?=w.heap[b]?):RowAt N w' v L:=by
 obtain ⟨ad,cap,e,h⟩:=h
 refine ⟨ad,cap,e,?_⟩
 rcases h with h | ⟨b,off,e1,h1,h2,h3⟩
 ·exact .inl h
 ·have e:∀ x,w'.cell? ⟨b,x,none⟩=w.cell? ⟨b,x,none⟩:=fun x=>by simp only [World.cell?,hk b h1]
  exact .inr ⟨b,off,e1,h1,fun k hk=>(e _).trans (h2 k hk),fun k hk=>(e _).trans (h3 k hk)⟩
theorem Nds.kept {C:WC} {W W':World} {k:Int} {R:List (Int × Int)} {a:Int} {s:List Lt} {lz:Bool} {ix:Int} {a' ix':Int} {r1:Option Addr} {r2 r3:Nat} {sa:Option Addr} {sc:Nat} {lz':Bool} (h:Nds C.N0 W k R a s lz ix a' ix' r1 r2 r3 sa sc lz') (f:WFr C W W'):Nds C.N0 W' k R a s lz ix a' ix' r1 r2 r3 sa sc lz':=
 ⟨h.asr,h.gr,h.lp,fun e=>(h.cl e).keptW f.low,f.row h.su⟩
structure FL (C:WC) (W:World) (done:List (Int × Int)):Prop where
 b:∀ i,i < C.n→BRw W (C.rb i) (C.tn + 1) (fun p=>decide ((kb i,(p:Int)) ∈ done))
 d:∀ i,i < C.n→BRw W (C.rd i) (C.tn + 1) (fun p=>decide ((kd i,(p:Int)) ∈ done))
 e:BRw W C.eb (C.tn + 1) (fun p=>decide ((1,(p:Int)) ∈ done))
abbrev WBx (C:WC) (W:World) (v:Value):Prop:=W.heap[C.wb]?=some (.cells #[.pointer (some ⟨C.tb,0,none⟩),.slice C.tad C.tn C.tc,.int .i64 C.frm,.slice (some ⟨C.bg,0,none⟩) C.n C.bc,.slice (some ⟨C.dg,0,none⟩) C.n C.dc,.slice (some ⟨C.eb,0,none⟩) (C.tn + 1) (C.tn + 1),v] 82 (0,0))
def RRb (W:World) (g n m:Nat) (r:Nat→Nat):Prop:=∃ arr:Array Value,W.heap[g]?=some (.cells arr 79 (0,0))∧∀ i,i < n→arr[i]?=some (.slice (some ⟨r i,0,none⟩) m m)
theorem RRb.cell {W:World} {g n m:Nat} {r:Nat→Nat} (h:RRb W g n m r) {i:Nat} (hi:i < n):W.cell? ⟨g,i,none⟩=some (.slice (some ⟨r i,0,none⟩) m m):=by
 obtain ⟨arr,h1,h2⟩:=h
 have:=h2 i hi
 simp [World.cell?,h1,this]
structure FM (C:WC) (W:World) (done:List (Int × Int)) (out:List (Int × List Int)):Prop where
 box:∃ v,WBx C W v∧Parsed C.NB W v out
 nb:C.NB≤W.heap.size
 tree:W.heap[C.tb]?=some (.cells #[.slice (some ⟨C.pb,0,none⟩) C.n C.pc] 77 (0,0))
 beg:RRb W C.bg C.n (C.tn + 1) C.rb
 dec:RRb W C.dg C.n (C.tn + 1) C.rd
 fl:FL C W done
 nod:∃ arr,W.heap[C.pb]?=some (.cells arr 141 (0,0))
 pl:∀ e ∈ C.L,PLw C W e
 tx:Look.TextAt C.N0 W C.tad C.tn C.tx
structure WCk (C:WC):Prop where
 child:∀ e ∈ C.L,∀ i (hi:i < e.t.sub.length),child e i hi ∈ C.L
 par:∀ e ∈ C.L,(e.up=-1∧e.B=.once 1 .through)∨∃ p ∈ C.L,∃ i,∃ (hi:i < p.t.sub.length),e=Go.Proofs.YtacaanhnlfpbhaaGreat.child p i hi∧e.t.lb < p.t.lb
 fine:∀ e ∈ C.L,e.t.tn.fine=true
 eo:∀ e ∈ C.L,e.t.eo C.E e.B
 num:∀ e ∈ C.L,e.t.lb < C.n
 nn:C.n≤300000
 subs:∀ e ∈ C.L,e.t.sub.length≤300000
 tn64:C.tn≤64
 tnl:C.tn=C.tx.length
 k2:2≤C.K∧C.K≤1002
 grp:∀ lb k R a s mn mx lz ix nm B up nth,(⟨.mk lb k R a s mn mx lz ix nm,B,up,nth⟩:Pl) ∈ C.L→k=7→1≤ix∧2 * ix + 1 < C.K
 wbN:C.N0≤C.wb∧C.wb < C.NB
 rbN:∀ i,i < C.n→C.N0≤C.rb i∧C.rb i < C.NB
 rdN:∀ i,i < C.n→C.N0≤C.rd i∧C.rd i < C.NB
 ebN:C.N0≤C.eb∧C.eb < C.NB
 rbi:∀ i j,i < C.n→j < C.n→C.rb i=C.rb j→i=j
 rdi:∀ i j,i < C.n→j < C.n→C.rd i=C.rd j→i=j
 rbd:∀ i j,i < C.n→j < C.n→C.rb i≠C.rd j
 rbe:∀ i,i < C.n→C.rb i≠C.eb
 rde:∀ i,i < C.n→C.rd i≠C.eb
theorem WBx.lt {C:WC} {W:World} {v:Value} (h:WBx C W v):C.wb < W.heap.size:=(Array.getElem?_eq_some_iff.1 h).1
theorem FM.next {C:WC} {W W':World} {done done':List (Int × Int)} {out out':List (Int × List Int)} (h:FM C W done out) (f:WFr C W W') (hb:∃ v,WBx C W' v∧Parsed C.NB W' v out') (hf:FL C W' done'):FM C W' done' out':=by
 obtain ⟨arr,ha⟩:=h.nod
 obtain ⟨a1,b1,b2⟩:=h.beg
 obtain ⟨a2,d1,d2⟩:=h.dec
 refine ⟨hb,Nat.le_trans h.nb f.size,f.typ _ _ _ (by decide) (by decide) (by decide) h.tree,⟨a1,f.typ _ _ _ (by decide) (by decide) (by decide) b1,b2⟩,⟨a2,f.typ _ _ _ (by decide) (by decide) (by decide) d1,d2⟩,hf,⟨arr,f.typ _ _ _ (by decide) (by decide) (by decide) ha⟩,fun e he=>?_,?_⟩
 ·have:=h.pl e he
  obtain ⟨⟨lb,k,R,a,s,mn,mx,lz,ix,nm⟩,B,up,nth⟩:=e
  obtain ⟨a',ix',r1,r2,r3,sa,sc,lz',h1,h2⟩:=this
  exact ⟨a',ix',r1,r2,r3,sa,sc,lz',h1.kept ((f.typ _ _ _ (by decide) (by decide) (by decide) ha).trans ha.symm),h2.kept f⟩
 ·obtain ⟨h1,h2,h3 | ⟨b,off,h4,h5,h6⟩⟩:=h.tx
  ·exact ⟨h1,h2,.inl h3⟩
  ·have e:∀ x,W'.cell? ⟨b,x,none⟩=W.cell? ⟨b,x,none⟩:=fun x=>by simp only [World.cell?,f.low b h5]
   exact ⟨h1,h2,.inr ⟨b,off,h4,h5,fun k hk=>(e _).trans (h6 k hk)⟩⟩
theorem FL.kept {C:WC} {W W':World} {done:List (Int × Int)} (h:FL C W done) (hk:∀ b,b < W.heap.size→W'.heap[b]?=W.heap[b]?):FL C W' done:=
 ⟨fun i hi=>(h.b i hi).kept (hk _ (h.b i hi).lt),fun i hi=>(h.d i hi).kept (hk _ (h.d i hi).lt),h.e.kept (hk _ h.e.lt)⟩
theorem FM.below {C:WC} {W W':World} {done:List (Int × Int)} {out:List (Int × List Int)} (hk:WCk C) (h:FM C W done out) (hb:Below W.heap.size W W'):FM C W' done out∧WFr C W W':=by
 have f:=WFr.of_below (C:=C) hb (by have:=hk.wbN;have:=h.nb;omega)
 obtain ⟨v,h1,h2⟩:=h.box
 exact ⟨h.next f ⟨v,(hb.block _ h1.lt).trans h1,h2.kept' (fun b _ hl=>hb.block b hl)⟩ (h.fl.kept fun b hl=>hb.block b hl),f⟩
theorem WFr.set {C:WC} {W:World} {b n:Nat} {f:Nat→Bool} (h:BRw W b n f) (hb:C.N0≤b) (p:Nat) (x:Bool):WFr C W (W.setCell ⟨b,p,none⟩ (.bool x)):=by
 obtain ⟨arr,h1,_⟩:=h
 have hk:∀ c,c≠b→(W.setCell ⟨b,p,none⟩ (.bool x)).heap[c]?=W.heap[c]?:=fun c hc=>Below.heap_setCell _ _ _ _ hc
 refine ⟨rfl,rfl,rfl,by simp [World.setCell],fun c hc=>hk c (by omega),fun c cur t h4 _ _ hx=>?_⟩
 by_cases e:c=b
 ·subst e
  rw [h1] at hx
  simp at hx
  exact absurd hx.2.symm h4
 ·exact (hk c e).trans hx
theorem FM.setBox {C:WC} {W:World} {done:List (Int × Int)} {out:List (Int × List Int)} (hk:WCk C) (h:FM C W done out) {b n:Nat} {f:Nat→Bool} (hb:BRw W b n f) (hN:b < C.NB) (p:Nat) (x:Bool):∃ v,WBx C (W.setCell ⟨b,p,none⟩ (.bool x)) v∧Parsed C.NB (W.setCell ⟨b,p,none⟩ (.bool x)) v out:=by
 obtain ⟨v,h1,h2⟩:=h.box
 have hne:C.wb≠b:=fun e=>by
  obtain ⟨arr,h3,_⟩:=hb
  rw [← e,h1] at h3
  simp at h3
 have hkk:∀ c,c≠b→(W.setCell ⟨b,p,none⟩ (.bool x)).heap[c]?=W.heap[c]?:=fun c hc=>Below.heap_setCell _ _ _ _ hc
 exact ⟨v,(hkk _ hne).trans h1,h2.kept' (fun c hc _=>hkk c (by omega))⟩
theorem dec_snoc {m q n p:Int} {done:List (Int × Int)} (h:m≠n):decide ((m,q) ∈ done ++ [(n,p)])=decide ((m,q) ∈ done):=by
 simp [h]
theorem FM.begun {C:WC} {W:World} {done:List (Int × Int)} {out:List (Int × List Int)} (hk:WCk C) (h:FM C W done out) {i p:Nat} (hi:i < C.n) (hp:p≤C.tn):FM C (W.setCell ⟨C.rb i,p,none⟩ (.bool true)) (done ++ [(kb i,(p:Int))]) out∧WFr C W (W.setCell ⟨C.rb i,p,none⟩ (.bool true)):=by
 have hB:=h.fl.b i hi
 have f:=WFr.set (C:=C) hB (hk.rbN i hi).1 p true
 have hkk:∀ c,c≠C.rb i→(W.setCell ⟨C.rb i,p,none⟩ (.bool true)).heap[c]?=W.heap[c]?:=fun c hc=>Below.heap_setCell _ _ _ _ hc
 refine ⟨h.next f (h.setBox hk hB (hk.rbN i hi).2 p true) ⟨fun j hj=>?_,fun j hj=>?_,?_⟩,f⟩
 ·by_cases e:j=i
  ·subst e
   refine (hB.set p true).as fun q hq=>?_
   by_cases e:q=p
   ·subst e;simp
   ·rw [if_neg e]
    refine decide_eq_decide.2 ?_
    simp
    omega
  ·refine ((h.fl.b j hj).kept (hkk _ fun e2=>e (hk.rbi j i hj hi e2))).as fun q hq=>(dec_snoc ?_).symm
   simp only [kb];omega
 ·refine ((h.fl.d j hj).kept (hkk _ fun e2=>hk.rbd i j hi hj e2.symm)).as fun q hq=>(dec_snoc ?_).symm
  simp only [kb,kd];omega
 ·refine (h.fl.e.kept (hkk _ fun e2=>hk.rbe i hi e2.symm)).as fun q hq=>(dec_snoc ?_).symm
  simp only [kb];omega
theorem FM.decided {C:WC} {W:World} {done:List (Int × Int)} {out:List (Int × List Int)} (hk:WCk C) (h:FM C W done out) {i p:Nat} (hi:i < C.n) (hp:p≤C.tn):FM C (W.setCell ⟨C.rd i,p,none⟩ (.bool true)) (done ++ [(kd i,(p:Int))]) out∧WFr C W (W.setCell ⟨C.rd i,p,none⟩ (.bool true)):=by
 have hB:=h.fl.d i hi
 have f:=WFr.set (C:=C) hB (hk.rdN i hi).1 p true
 have hkk:∀ c,c≠C.rd i→(W.setCell ⟨C.rd i,p,none⟩ (.bool true)).heap[c]?=W.heap[c]?:=fun c hc=>Below.heap_setCell _ _ _ _ hc
 refine ⟨h.next f (h.setBox hk hB (hk.rdN i hi).2 p true) ⟨fun j hj=>?_,fun j hj=>?_,?_⟩,f⟩
 ·refine ((h.fl.b j hj).kept (hkk _ fun e2=>hk.rbd j i hj hi e2)).as fun q hq=>(dec_snoc ?_).symm
  simp only [kb,kd];omega
 ·by_cases e:j=i
  ·subst e
   refine (hB.set p true).as fun q hq=>?_
   by_cases e:q=p
   ·subst e;simp
   ·rw [if_neg e]
    refine decide_eq_decide.2 ?_
    simp
    omega
  ·refine ((h.fl.d j hj).kept (hkk _ fun e2=>e (hk.rdi j i hj hi e2))).as fun q hq=>(dec_snoc ?_).symm
   simp only [kd];omega
 ·refine (h.fl.e.kept (hkk _ fun e2=>hk.rde i hi e2.symm)).as fun q hq=>(dec_snoc ?_).symm
  simp only [kd];omega
theorem FM.ended {C:WC} {W:World} {done:List (Int × Int)} {out:List (Int × List Int)} (hk:WCk C) (h:FM C W done out) {p:Nat} (hp:p≤C.tn):FM C (W.setCell ⟨C.eb,p,none⟩ (.bool true)) (done ++ [(1,(p:Int))]) out∧WFr C W (W.setCell ⟨C.eb,p,none⟩ (.bool true)):=by
 have hB:=h.fl.e
 have f:=WFr.set (C:=C) hB hk.ebN.1 p true
 have hkk:∀ c,c≠C.eb→(W.setCell ⟨C.eb,p,none⟩ (.bool true)).heap[c]?=W.heap[c]?:=fun c hc=>Below.heap_setCell _ _ _ _ hc
 refine ⟨h.next f (h.setBox hk hB hk.ebN.2 p true) ⟨fun j hj=>?_,fun j hj=>?_,?_⟩,f⟩
 ·refine ((h.fl.b j hj).kept (hkk _ (hk.rbe j hj))).as fun q hq=>(dec_snoc ?_).symm
  simp only [kb];omega
 ·refine ((h.fl.d j hj).kept (hkk _ (hk.rde j hj))).as fun q hq=>(dec_snoc ?_).symm
  simp only [kd];omega
 ·refine (hB.set p true).as fun q hq=>?_
  by_cases e:q=p
  ·subst e;simp
  ·rw [if_neg e]
   refine decide_eq_decide.2 ?_
   simp
   omega
structure WIn (C:WC) (W:World) (s:Sg) (p:Nat) (caps:List Int) (cv:Value):Prop where
 fm:FM C W s.done s.parses
 p64:p≤C.tn
 cap:Rw W cv caps
 capl:caps.length=C.K
 nt:s.notes=caps.set 0 C.frm
 ol:s.parses.length≤70
def WPost (C:WC) (s1:Sg) (W:World) (e:Ending) (w':World):Prop:=e=.returned (.tuple #[])∧FM C w' s1.done s1.parses∧WFr C W w'
theorem WPost.pre {C:WC} {s1:Sg} {W V w':World} {e:Ending} (h:WPost C s1 V e w') (f:WFr C W V):WPost C s1 W e w':=⟨h.1,h.2.1,f.trans h.2.2⟩
def WCall (C:WC) (f:FuncId) (lb p:Nat) (s s1:Sg):Prop:=∀ W caps cv,WIn C W s p caps cv→Calls Tryz.prog f #[.pointer (some ⟨C.wb,0,none⟩),.int .i64 (lb:Int),.int .i64 (p:Int),cv] W (WPost C s1 W)
theorem FM.cells {C:WC} {W:World} {done:List (Int × Int)} {out:List (Int × List Int)} (h:FM C W done out):W.cell? ⟨C.wb,0,none⟩=some (.pointer (some ⟨C.tb,0,none⟩))∧W.cell? ⟨C.wb,1,none⟩=some (.slice C.tad C.tn C.tc)∧W.cell? ⟨C.wb,2,none⟩=some (.int .i64 C.frm)∧W.cell? ⟨C.wb,3,none⟩=some (.slice (some ⟨C.bg,0,none⟩) C.n C.bc)∧W.cell? ⟨C.wb,4,none⟩=some (.slice (some ⟨C.dg,0,none⟩) C.n C.dc)∧W.cell? ⟨C.wb,5,none⟩=some (.slice (some ⟨C.eb,0,none⟩) (C.tn + 1) (C.tn + 1))∧W.cell? ⟨C.tb,0,none⟩=some (.slice (some ⟨C.pb,0,none⟩) C.n C.pc):=by
 obtain ⟨v,h1,_⟩:=h.box
 exact ⟨Joins.cell_of_block h1 0,Joins.cell_of_block h1 1,Joins.cell_of_block h1 2,Joins.cell_of_block h1 3,Joins.cell_of_block h1 4,Joins.cell_of_block h1 5,Joins.cell_of_block h.tree 0⟩
def loopN (x:Tn) (mn mx:Int) (lz:Bool):Tn:=.mk 6 [] 0 [x] mn mx lz 0 ⟨#[]⟩
def rowN:List Tn→Tn
 | []=>.mk 1 [] 0 [] 0 0 false 0 ⟨#[]⟩
 | [x]=>x
 | x :: y :: l=>.mk 4 [] 0 (x :: y :: l) 0 0 false 0 ⟨#[]⟩
def optN (x:Tn) (lz:Bool):Nat→Tn
 | 0=>loopN x 0 1 lz
 | k + 1=>loopN (rowN [x,optN x lz k]) 0 1 lz
def sprN (x:Tn) (mn mx:Int) (lz:Bool):Tn:=
 if mx < 0 then (if mn < 2 then loopN x mn (-1) lz else rowN (List.replicate (mn - 1).toNat x ++ [loopN x 1 (-1) lz]))
 else rowN (List.replicate mn.toNat x ++ if mn < mx then [optN x lz (mx - mn - 1).toNat] else [])
mutual
def Tn.spread:Tn→Tn
 | .mk k R a s mn mx lz ix nm=>if k=6 then (match spreadL s with | x :: _=>sprN x mn mx lz | []=>.mk k R a [] mn mx lz ix nm) else .mk k R a (spreadL s) mn mx lz ix nm
def spreadL:List Tn→List Tn
 | []=>[]
 | t :: ts=>t.spread :: spreadL ts
end
theorem spreadL_map (ts:List Tn):spreadL ts=ts.map Tn.spread:=by
 induction ts with
 | nil=>rfl
 | cons t ts ih=>simp [spreadL,ih]
section
variable {E:Nat→Way}
theorem row_begC {l:List Tn} (hl:l≠[]) {n n1:Int} {B W:Way} (h:Beg E (rowN l) n B n1 W):BegC E l n B n1 W:=by
 match l,hl,h with
 | [x],_,h=>exact .cons .nil h
 | x :: y :: l,_,h=>exact h.cats
theorem begC_rep {x:Tn} {ts:List Tn}:∀ {c:Nat} {n n2:Int} {B W:Way},BegC E (List.replicate c x ++ ts) n B n2 W→∃ n1 W1,BegC E ts n B n1 W1∧BegT E x c n1 W1 n2 W:=by
 intro c
 induction c with
 | zero=>intro n n2 B W h;exact ⟨_,_,by simpa using h,.zero⟩
 | succ c ih =>
  intro n n2 B W h
  rw [List.replicate_succ,List.cons_append] at h
  obtain ⟨n1,W1,h1,h2⟩:=h.first
  obtain ⟨n3,W3,h3,h4⟩:=ih h1
  exact ⟨n3,W3,h3,.succ h4 h2⟩
theorem begC_one {x:Tn} {n n1:Int} {B W:Way} (h:BegC E [x] n B n1 W):Beg E x n B n1 W:=by
 obtain ⟨_,_,h1,h2⟩:=h.first
 obtain ⟨rfl,rfl⟩:=h1.none
 exact h2
theorem may_beg {x:Tn} {lz:Bool} {n n1:Int} {B W:Way} (h:Beg E (loopN x 0 1 lz) n B n1 W):∃ n2 W2,n1=n2 + 1∧W=.once (n2 + 1) (.inOrder (if lz=true then [B,W2] else [W2,B]))∧Beg E x n B n2 W2:=by
 obtain ⟨t,e,h0⟩:=Beg.rep h
 simp only [List.cons.injEq,and_true] at e
 subst e
 rcases h0 with ⟨b,_,e,_⟩ | ⟨b,c,_,_,e,_⟩ | ⟨c,m,n2,W1,e1,e2,hO,hT⟩
 ·omega
 ·omega
 ·obtain rfl:c=0:=by omega
  obtain rfl:m=1:=by omega
  obtain ⟨rfl,rfl⟩:=hT.none
  obtain ⟨_,n2',_,W2,rfl,rfl,r1,r2⟩:=hO.next
  obtain ⟨rfl,rfl⟩:=r1.none
  exact ⟨n2',W2,rfl,rfl,r2⟩
theorem opt_begO {x:Tn} {lz:Bool}:∀ {k:Nat} {n n1:Int} {B W:Way},Beg E (optN x lz k) n B n1 W→BegO E x lz B (k + 1) n n1 W:=by
 intro k
 induction k with
 | zero =>
  intro n n1 B W h
  obtain ⟨n2,W2,rfl,rfl,r0⟩:=may_beg h
  exact .succ .zero r0
 | succ k ih =>
  intro n n1 B W h
  obtain ⟨n2,W2,rfl,rfl,r0⟩:=may_beg h
  obtain ⟨n3,W3,h1,h2⟩:=(row_begC (by simp) r0).first
  exact .succ (ih (begC_one h1)) h2
theorem spr_any0 {x:Tn} {lz:Bool} {n n1:Int} {B W:Way} (h:Beg E (sprN x 0 (-1) lz) n B n1 W):∃ b,Beg E x (n + 1) (Dcd lz n b B) n1 (E b)∧W=Dcd lz n b B:=by
 simp [sprN,loopN] at h
 obtain ⟨t,e,h0⟩:=h.rep
 simp only [List.cons.injEq,and_true] at e
 subst e
 rcases h0 with ⟨b,_,_,r0,rfl⟩ | ⟨b,c,_,e,_⟩ | ⟨c,m,_,_,_,e,_⟩
 ·exact ⟨b,r0,rfl⟩
 ·omega
 ·omega
theorem spr_any {x:Tn} {lz:Bool} {c:Nat} {n n1:Int} {B W:Way} (h:Beg E (sprN x ((c:Int) + 1) (-1) lz) n B n1 W):∃ b n2,Beg E x (n + 1) (Dcd lz n b B) n2 (E b)∧BegT E x c n2 (E b) n1 W:=by
 have plus:∀ {n1:Int} {W:Way},Beg E (loopN x 1 (-1) lz) n B n1 W→∃ b,Beg E x (n + 1) (Dcd lz n b B) n1 (E b)∧W=E b:=by
  intro n1 W h
  obtain ⟨t,e,h0⟩:=Beg.rep h
  simp only [List.cons.injEq,and_true] at e
  subst e
  rcases h0 with ⟨b,e,_⟩ | ⟨b,c,n2,e,_,r0,hT⟩ | ⟨c,m,_,_,_,e,_⟩
  ·omega
  ·obtain rfl:c=0:=by omega
   obtain ⟨rfl,rfl⟩:=hT.none
   exact ⟨b,r0,rfl⟩
  ·omega
 by_cases hc:c=0
 ·subst hc
  simp [sprN] at h
  obtain ⟨b,h1,rfl⟩:=plus h
  exact ⟨b,_,h1,.zero⟩
 ·rw [sprN,if_pos (by omega),if_neg (by omega),show ((c:Int) + 1 - 1).toNat=c by omega] at h
  obtain ⟨n2,W1,h1,h2⟩:=begC_rep (row_begC (by simp) h)
  obtain ⟨b,h3,rfl⟩:=plus (begC_one h1)
  exact ⟨b,n2,h3,h2⟩
theorem spr_bnd {x:Tn} {lz:Bool} {c m:Nat} {n n1:Int} {B W:Way} (h:Beg E (sprN x (c:Int) ((c:Int) + (m:Int)) lz) n B n1 W):(c=0∧m=0∧n1=n + 1∧W=.once (n + 1) B)∨∃ n2 W1,BegO E x lz B m n n2 W1∧BegT E x c n2 W1 n1 W:=by
 rw [sprN,if_neg (by omega),show ((c:Int)).toNat=c by omega] at h
 by_cases hm:m=0
 ·subst hm
  rw [if_neg (by omega)] at h
  by_cases hc:c=0
  ·subst hc
   simp [rowN] at h
   obtain ⟨rfl,rfl⟩:=h.empties
   exact .inl ⟨rfl,rfl,rfl,rfl⟩
  ·obtain ⟨n2,W1,h1,h2⟩:=begC_rep (row_begC (by simp;omega) h)
   obtain ⟨rfl,rfl⟩:=h1.none
   exact .inr ⟨_,_,.zero,h2⟩
 ·rw [if_pos (by omega),show ((c:Int) + (m:Int) - (c:Int) - 1).toNat=m - 1 by omega] at h
  obtain ⟨n2,W1,h1,h2⟩:=begC_rep (row_begC (by simp) h)
  have:=opt_begO (begC_one h1)
  rw [show m - 1 + 1=m by omega] at this
  exact .inr ⟨n2,W1,this,h2⟩
end
mutual
def Tn.pn:Tn→Nat→Lt
 | .mk k R a s mn mx lz ix nm,n=>.mk (n + nodesL s) k R a (pnL s n) mn mx lz ix nm
def pnL:List Tn→Nat→List Lt
 | [],_=>[]
 | t :: ts,n=>t.pn n :: pnL ts (n + t.nodes)
end
mutual
theorem pn_tn:∀ (t:Tn) (n:Nat),(t.pn n).tn=t
 | .mk k R a s mn mx lz ix nm,n=>by simp only [Tn.pn,Lt.tn];rw [pnL_tn s n]
theorem pnL_tn:∀ (ts:List Tn) (n:Nat),tnL (pnL ts n)=ts
 | [],n=>rfl
 | t :: ts,n=>by simp only [pnL,tnL];rw [pn_tn t n,pnL_tn ts (n + t.nodes)]
end
theorem pn_lb (t:Tn) (n:Nat):(t.pn n).lb + 1=n + t.nodes:=by
 obtain ⟨k,R,a,s,mn,mx,lz,ix,nm⟩:=t
 simp only [Tn.pn,Lt.lb,Tn.nodes]
 omega
theorem pnL_app (a b:List Tn) (n:Nat):pnL (a ++ b) n=pnL a n ++ pnL b (n + nodesL a):=by
 induction a generalizing n with
 | nil=>simp [pnL,nodesL]
 | cons t a ih=>simp only [List.cons_append,pnL,nodesL,ih,Nat.add_assoc]
theorem pnL_len (ts:List Tn) (n:Nat):(pnL ts n).length=ts.length:=by
 induction ts generalizing n with
 | nil=>rfl
 | cons t ts ih=>simp [pnL,ih]
mutual
theorem pn_lbs:∀ (t:Tn) (n x:Nat),x ∈ (t.pn n).lbs→n≤x∧x < n + t.nodes
 | .mk k R a s mn mx lz ix nm,n,x,h=>by
  simp only [Tn.pn,Lt.lbs,List.mem_cons] at h
  simp only [Tn.nodes]
  rcases h with rfl | h
  ·omega
  ·have:=pnL_lbs s n x h;omega
theorem pnL_lbs:∀ (ts:List Tn) (n x:Nat),x ∈ lbsL (pnL ts n)→n≤x∧x < n + nodesL ts
 | [],n,x,h=>by simp [pnL,lbsL] at h
 | t :: ts,n,x,h=>by
  simp only [pnL,lbsL,List.mem_append] at h
  simp only [nodesL]
  rcases h with h | h
  ·have:=pn_lbs t n x h;omega
  ·have:=pnL_lbs ts (n + t.nodes) x h;omega
end
mutual
theorem pn_nodup:∀ (t:Tn) (n:Nat),(t.pn n).lbs.Nodup
 | .mk k R a s mn mx lz ix nm,n=>by
  simp only [Tn.pn,Lt.lbs,List.nodup_cons]
  exact ⟨fun h=>by have:=pnL_lbs s n _ h;omega,pnL_nodup s n⟩
theorem pnL_nodup:∀ (ts:List Tn) (n:Nat),(lbsL (pnL ts n)).Nodup
 | [],n=>by simp [pnL,lbsL]
 | t :: ts,n=>by
  simp only [pnL,lbsL]
  rw [List.nodup_append]
  refine ⟨pn_nodup t n,pnL_nodup ts _,fun x hx y hy e=>?_⟩
  have:=pn_lbs t n x hx
  have:=pnL_lbs ts _ y hy
  omega
end
structure E8 where
 k:Int
 a:Int
 ix:Int
 r1:Option Addr
 r2:Nat
 r3:Nat
 sa:Option Addr
 sn:Nat
 sc:Nat
 lz:Bool
 up:Int
 nth:Int
abbrev E8.cs (q:E8):List Value:=[.int .i64 q.k,.int .i64 q.a,.int .i64 q.ix,.slice q.r1 q.r2 q.r3,.slice q.sa q.sn q.sc,.bool q.lz,.int .i64 q.up,.int .i64 q.nth]
theorem flat8_len (L:List E8):(L.flatMap E8.cs).length=L.length * 8:=by
 induction L with
 | nil=>rfl
 | cons M L ih =>
  have e:(E8.cs M).length=8:=rfl
  rw [List.flatMap_cons,List.length_append,ih,e,List.length_cons]
  omega
theorem flat8 (L:List E8):∀ (j k:Nat) (hj:j < L.length),k < 8→(L.flatMap E8.cs)[j * 8 + k]?=(E8.cs L[j])[k]?:=by
 induction L with
 | nil=>intro j k hj;simp at hj
 | cons M L ih =>
  intro j k hj hk
  rw [List.flatMap_cons]
  have e9:(E8.cs M).length=8:=rfl
  cases j with
  | zero=>rw [List.getElem?_append_left (by rw [e9];omega)];simp
  | succ j =>
   rw [List.getElem?_append_right (by rw [e9];omega)]
   have:=ih j k (by simpa using hj) hk
   rw [e9,show (j + 1) * 8 + k - 8=j * 8 + k by omega,this]
   rfl
theorem flat8_setUp:∀ (L:List E8) (j:Nat) (hj:j < L.length) (u:Int),(L.flatMap E8.cs).set (j * 8 + 6) (.int .i64 u)=(L.set j { L[j] with up:=u }).flatMap E8.cs
 | [],j,hj,u=>by simp at hj
 | q :: L,0,_,u=>by rw [List.flatMap_cons];rfl
 | q :: L,j + 1,hj,u=>by
  rw [List.flatMap_cons,List.set_append_right _ _ (by show 8≤_;omega),List.set_cons_succ,List.flatMap_cons]
  rw [show (j + 1) * 8 + 6 - (E8.cs q).length=j * 8 + 6 by show (j + 1) * 8 + 6 - 8=_;omega,flat8_setUp L j (by simpa using hj) u]
  rfl
theorem flat8_setNth:∀ (L:List E8) (j:Nat) (hj:j < L.length) (u:Int),(L.flatMap E8.cs).set (j * 8 + 7) (.int .i64 u)=(L.set j { L[j] with nth:=u }).flatMap E8.cs
 | [],j,hj,u=>by simp at hj
 | q :: L,0,_,u=>by rw [List.flatMap_cons];rfl
 | q :: L,j + 1,hj,u=>by
  rw [List.flatMap_cons,List.set_append_right _ _ (by show 8≤_;omega),List.set_cons_succ,List.flatMap_cons]
  rw [show (j + 1) * 8 + 7 - (E8.cs q).length=j * 8 + 7 by show (j + 1) * 8 + 7 - 8=_;omega,flat8_setNth L j (by simpa using hj) u]
  rfl
mutual
def Lt.inQ (W:World) (N0:Nat) (Q:List E8):Lt→Int→Int→Prop
 | .mk lb k R a s mn mx lz ix nm,up,nth=>(∃ q,Q[lb]?=some q∧q.k=Lt.kk (.mk lb k R a s mn mx lz ix nm)∧q.up=up∧q.nth=nth∧q.sn=s.length∧Nds N0 W k R a s lz ix q.a q.ix q.r1 q.r2 q.r3 q.sa q.sc q.lz)∧inQL W N0 Q s (lb:Int) 0
def inQL (W:World) (N0:Nat) (Q:List E8):List Lt→Int→Nat→Prop
 | [],_,_=>True
 | t :: ts,up,i=>t.inQ W N0 Q up (i:Int)∧inQL W N0 Q ts up (i + 1)
end
def KI (N0:Nat) (W W':World):Prop:=(∀ b,b < N0→W'.heap[b]?=W.heap[b]?)∧∀ (b:Nat) (cur:Array Value),W.heap[b]?=some (.cells cur 3 (0,0))→W'.heap[b]?=some (.cells cur 3 (0,0))
theorem KI.refl (N0:Nat) (W:World):KI N0 W W:=⟨fun _ _=>rfl,fun _ _ h=>h⟩
theorem KI.trans {N0:Nat} {a b c:World} (h:KI N0 a b) (k:KI N0 b c):KI N0 a c:=⟨fun i hi=>(k.1 i hi).trans (h.1 i hi),fun i cur x=>k.2 i cur (h.2 i cur x)⟩
theorem KI.below {N0:Nat} {W W':World} (h:Below W.heap.size W W') (hN:N0≤W.heap.size):KI N0 W W':=⟨fun b hb=>h.block b (by omega),fun b cur hx=>(h.block b (Array.getElem?_eq_some_iff.1 hx).1).trans hx⟩
theorem KI.row {N0:Nat} {W W':World} {v:Value} {L:List Int} (f:KI N0 W W') (h:Rw W v L):Rw W' v L:=by
 rcases h with h | ⟨h0,h⟩
 ·exact .inl h
 ·refine .inr ⟨h0,h.1,?_⟩
  rcases h.2 with hn | ⟨g,cap,cur,hv,hb,hg,rest⟩
  ·exact .inl hn
  ·exact .inr ⟨g,cap,cur,hv,hb,f.2 g cur hg,rest⟩
theorem Nds.ki {N0:Nat} {W W':World} {k:Int} {R:List (Int × Int)} {a:Int} {s:List Lt} {lz:Bool} {ix:Int} {a' ix':Int} {r1:Option Addr} {r2 r3:Nat} {sa:Option Addr} {sc:Nat} {lz':Bool} (h:Nds N0 W k R a s lz ix a' ix' r1 r2 r3 sa sc lz') (f:KI N0 W W'):Nds N0 W' k R a s lz ix a' ix' r1 r2 r3 sa sc lz':=
 ⟨h.asr,h.gr,h.lp,fun e=>(h.cl e).keptW f.1,f.row h.su⟩
mutual
theorem inQ_on {N0:Nat} {W W':World} (f:KI N0 W W') {Q Q':List E8}:∀ (T:Lt) (up nth:Int),(∀ x ∈ T.lbs,Q'[x]?=Q[x]?)→T.inQ W N0 Q up nth→T.inQ W' N0 Q' up nth
 | .mk lb k R a s mn mx lz ix nm,up,nth,hq,h=>by
  simp only [Lt.inQ] at h ⊢
  obtain ⟨⟨q,h1,h2,h3,h4,h5,h6⟩,h7⟩:=h
  exact ⟨⟨q,(hq lb (by simp [Lt.lbs])).trans h1,h2,h3,h4,h5,h6.ki f⟩,inQL_on f s _ _ (fun x hx=>hq x (by simp [Lt.lbs,hx])) h7⟩
theorem inQL_on {N0:Nat} {W W':World} (f:KI N0 W W') {Q Q':List E8}:∀ (ts:List Lt) (up:Int) (i:Nat),(∀ x ∈ lbsL ts,Q'[x]?=Q[x]?)→inQL W N0 Q ts up i→inQL W' N0 Q' ts up i
 | [],_,_,_,_=>by simp [inQL]
 | t :: ts,up,i,hq,h=>by
  simp only [inQL] at h ⊢
  exact ⟨inQ_on f t _ _ (fun x hx=>hq x (by simp [lbsL,hx])) h.1,inQL_on f ts _ _ (fun x hx=>hq x (by simp [lbsL,hx])) h.2⟩
end
theorem inQ_root {N0:Nat} {W:World} {Q Q':List E8} {T:Lt} {up nth:Int} (h:T.inQ W N0 Q up nth) (hn:T.lbs.Nodup) {u z:Int} (hr:∀ q,Q[T.lb]?=some q→Q'[T.lb]?=some { q with up:=u,nth:=z }) (ho:∀ x ∈ T.lbs,x≠T.lb→Q'[x]?=Q[x]?):T.inQ W N0 Q' u z:=by
 obtain ⟨lb,k,R,a,s,mn,mx,lz,ix,nm⟩:=T
 simp only [Lt.lbs,List.nodup_cons] at hn
 simp only [Lt.lb] at hr ho
 simp only [Lt.inQ] at h ⊢
 obtain ⟨⟨q,h1,h2,h3,h4,h5,h6⟩,h7⟩:=h
 refine ⟨⟨_,hr q h1,h2,rfl,rfl,h5,h6⟩,inQL_on (KI.refl _ _) s _ _ (fun x hx=>ho x (by simp [Lt.lbs,hx]) (fun e=>hn.1 (e ▸ hx))) h7⟩
def Tops (W:World) (N0:Nat) (Q:List E8) (ts:List Tn) (n:Nat):Prop:=∀ T ∈ pnL ts n,T.inQ W N0 Q (-1) 0
def rts (ts:List Tn) (n:Nat):List Nat:=(pnL ts n).map Lt.lb
theorem lb_in (T:Lt):T.lb ∈ T.lbs:=by cases T;simp [Lt.lb,Lt.lbs]
theorem lbs_in {T:Lt} {ts:List Lt} (h:T ∈ ts):∀ x ∈ T.lbs,x ∈ lbsL ts:=by
 induction ts with
 | nil=>cases h
 | cons t ts ih =>
  intro x hx
  simp only [lbsL,List.mem_append]
  rcases List.mem_cons.1 h with rfl | h
  ·exact .inl hx
  ·exact .inr (ih h x hx)
theorem Tops.on {N0:Nat} {W W':World} {Q Q':List E8} {ts:List Tn} {n:Nat} (h:Tops W N0 Q ts n) (f:KI N0 W W') (hq:∀ x,n≤x→x < n + nodesL ts→Q'[x]?=Q[x]?):Tops W' N0 Q' ts n:=fun T hT=>inQ_on f T _ _ (fun x hx=>by
 have:=pnL_lbs ts n x (lbs_in hT x hx)
 exact hq x this.1 this.2) (h T hT)
def ups (n:Nat):List Nat→Nat→List E8→List E8
 | [],_,Q=>Q
 | a :: S,i,Q=>ups n S (i + 1) (match Q[a]? with | some q=>Q.set a { q with up:=(n:Int),nth:=(i:Int) } | none=>Q)
theorem ups_len (n:Nat):∀ (S:List Nat) (i:Nat) (Q:List E8),(ups n S i Q).length=Q.length
 | [],_,_=>rfl
 | a :: S,i,Q=>by
  simp only [ups]
  rw [ups_len n S (i + 1)]
  split <;> simp
theorem ups_no (n:Nat):∀ (S:List Nat) (i:Nat) (Q:List E8) (x:Nat),x ∉ S→(ups n S i Q)[x]?=Q[x]?
 | [],_,_,_,_=>rfl
 | a :: S,i,Q,x,h=>by
  simp only [List.mem_cons,not_or] at h
  simp only [ups]
  rw [ups_no n S (i + 1) _ x h.2]
  split
  ·rw [List.getElem?_set,if_neg (fun e=>h.1 e.symm)]
  ·rfl
theorem ups_yes (n:Nat):∀ (S:List Nat) (i:Nat) (Q:List E8),S.Nodup→∀ (j:Nat) (hj:j < S.length) (q:E8),Q[S[j]]?=some q→(ups n S i Q)[S[j]]?=some { q with up:=(n:Int),nth:=((i + j:Nat):Int) }
 | [],_,_,_,j,hj,_,_=>by simp at hj
 | a :: S,i,Q,hn,0,_,q,h=>by
  simp only [List.nodup_cons] at hn
  simp only [List.getElem_cons_zero] at h ⊢
  simp only [ups]
  rw [ups_no n S (i + 1) _ a hn.1,h]
  have hlt:a < Q.length:=(List.getElem?_eq_some_iff.1 h).1
  simp [List.getElem?_set,hlt]
 | a :: S,i,Q,hn,j + 1,hj,q,h=>by
  simp only [List.nodup_cons] at hn
  simp only [List.getElem_cons_succ] at h ⊢
  have hne:S[j]'(by simpa using hj)≠a:=fun e=>hn.1 (e ▸ List.getElem_mem _)
  simp only [ups]
  have:=ups_yes n S (i + 1) (match Q[a]? with | some q=>Q.set a { q with up:=(n:Int),nth:=(i:Int) } | none=>Q) hn.2 j (by simpa using hj) q (by
   rw [← h]
   split
   ·rw [List.getElem?_set,if_neg (fun e=>hne e.symm)]
   ·rfl)
  rw [this]
  simp
  omega
theorem rts_nodup (ts:List Tn) (n:Nat):(rts ts n).Nodup:=by
 induction ts generalizing n with
 | nil=>simp [rts,pnL]
 | cons t ts ih =>
  have h:=ih (n + t.nodes)
  simp only [rts,pnL,List.map_cons,List.nodup_cons] at h ⊢
  refine ⟨fun hm=>?_,h⟩
  obtain ⟨T,hT,e⟩:=List.mem_map.1 hm
  have h1:=pn_lb t n
  have h2:=pnL_lbs ts (n + t.nodes) T.lb (lbs_in hT _ (lb_in T))
  omega
theorem inQL_of {N0:Nat} {W:World} {Q:List E8} {up:Int}:∀ (l:List Lt) (i:Nat),(∀ j (hj:j < l.length),(l[j]).inQ W N0 Q up ((i + j:Nat):Int))→inQL W N0 Q l up i
 | [],_,_=>by simp [inQL]
 | t :: l,i,h=>by
  simp only [inQL]
  refine ⟨by have:=h 0 (by simp);simpa using this,inQL_of l (i + 1) fun j hj=>?_⟩
  have:=h (j + 1) (by simpa using hj)
  rw [show i + 1 + j=i + (j + 1) by omega]
  exact this
theorem lbs_apart {ts:List Lt} (hn:(lbsL ts).Nodup):∀ (i j:Nat) (hi:i < ts.length) (hj:j < ts.length),i≠j→∀ x ∈ (ts[i]).lbs,x ∉ (ts[j]).lbs:=by
 induction ts with
 | nil=>intro i j hi;simp at hi
 | cons t ts ih =>
  simp only [lbsL] at hn
  rw [List.nodup_append] at hn
  intro i j hi hj hij x hx hx'
  cases i with
  | zero =>
   cases j with
   | zero=>exact hij rfl
   | succ j=>exact hn.2.2 x hx x (lbs_in (List.getElem_mem (by simpa using hj)) x hx') rfl
  | succ i =>
   cases j with
   | zero=>exact hn.2.2 x hx' x (lbs_in (List.getElem_mem (by simpa using hi)) x hx) rfl
   | succ j=>exact ih hn.2.1 i j (by simpa using hi) (by simpa using hj) (by omega) x hx hx'
theorem put_tree {N0:Nat} {W:World} {Q:List E8} {ts:List Tn} {n:Nat} (h:Tops W N0 Q ts n) (hn:n + nodesL ts=Q.length) {k:Int} {R:List (Int × Int)} {a mn mx ix:Int} {lz:Bool} {nm:ByteArray} {x:E8} (hk:x.k=Lt.kk ((Tn.mk k R a ts mn mx lz ix nm).pn n)) (hu:x.up=-1) (hz:x.nth=0) (hs:x.sn=ts.length) (hN:Nds N0 W k R a (pnL ts n) lz ix x.a x.ix x.r1 x.r2 x.r3 x.sa x.sc x.lz) :
  ((Tn.mk k R a ts mn mx lz ix nm).pn n).inQ W N0 (ups Q.length (rts ts n) 0 Q ++ [x]) (-1) 0:=by
 have hl:=ups_len Q.length (rts ts n) 0 Q
 simp only [Tn.pn] at hk ⊢
 simp only [Lt.inQ]
 refine ⟨⟨x,?_,hk,hu,hz,by rw [pnL_len];exact hs,hN⟩,?_⟩
 ·rw [List.getElem?_append_right (by omega),hl,hn]
  simp
 ·rw [hn]
  refine inQL_of _ 0 fun j hj=>?_
  have hT:=h _ (List.getElem_mem hj)
  have hjr:j < (rts ts n).length:=by simpa [rts] using hj
  have hjl:(rts ts n)[j]=((pnL ts n)[j]).lb:=by simp [rts]
  have hlt:∀ y ∈ ((pnL ts n)[j]).lbs,y < Q.length:=fun y hy=>by
   have:=pnL_lbs ts n y (lbs_in (List.getElem_mem hj) y hy)
   omega
  refine inQ_root hT ?_ (fun q hq=>?_) (fun y hy hne=>?_)
  ·have hnd:=pnL_nodup ts n
   clear hT hjr hjl hlt
   revert hj
   generalize pnL ts n=l at hnd
   intro hj
   induction l generalizing j with
   | nil=>simp at hj
   | cons t l ih =>
    simp only [lbsL] at hnd
    rw [List.nodup_append] at hnd
    cases j with
    | zero=>exact hnd.1
    | succ j=>exact ih j hnd.2.1 (by simpa using hj)
  ·rw [List.getElem?_append_left (by rw [hl];exact hlt _ (lb_in _))]
   have:=ups_yes Q.length (rts ts n) 0 Q (rts_nodup ts n) j hjr q (by rw [hjl];exact hq)
   rw [hjl] at this
   rw [this]
  ·rw [List.getElem?_append_left (by rw [hl];exact hlt _ hy)]
   refine ups_no _ _ _ _ _ fun hm=>?_
   obtain ⟨i,hi,e⟩:=List.mem_iff_getElem.1 hm
   have hi':i < (pnL ts n).length:=by simpa [rts] using hi
   have hil:(rts ts n)[i]=((pnL ts n)[i]).lb:=by simp [rts]
   rw [hil] at e
   by_cases hij:i=j
   ·subst hij;exact hne e.symm
   ·exact lbs_apart (pnL_nodup ts n) i j hi' hj hij _ (lb_in _) (e ▸ hy)
theorem sub_cell {W:World} {sa:Option Addr} {m sc:Nat} {l:List Int} (h:Rw W (.slice sa m sc) l) (hm:m=l.length) {i:Nat} (hi:i < m):∃ g,sa=some ⟨g,0,none⟩∧W.cell? ⟨g,i,none⟩=some (.int .i64 (l.getD i 0)):=by
 subst hm
 rcases h with ⟨_,e⟩ | ⟨h0,h⟩
 ·subst e;simp at hi
 ·rcases Joins.ownsRow_forms h with ⟨_,e⟩ | ⟨g,cap,e⟩
  ·omega
  ·simp only [Value.slice.injEq] at e
   obtain ⟨rfl,_,rfl⟩:=e
   exact ⟨g,rfl,by rw [h.cellAt i (by omega)];simp [List.getD_eq_getElem?_getD,List.getElem?_eq_getElem hi]⟩
end Go.Proofs.YtacaanhnlfpbhaaGreat
