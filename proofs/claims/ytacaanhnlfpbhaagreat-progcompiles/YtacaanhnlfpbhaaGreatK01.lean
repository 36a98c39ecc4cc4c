/- HELPERS: texts of ours put together. -/
import Derived.Deep.SlicePairs
import Derived.RowKit
import Derived.Test.YtacaanhnlfpbhaaGreatRows
import Derived.JoinedCond
import Derived.OpenShut
import Derived.SizedLaws
import Derived.Lib.SmallJoins
import Derived.Test.YtacaanhnlfpbhaaGreatProg
import Derived.WalkKit
import Derived.ProofKit
import Derived.BigQuiet
import Derived.WalkSmall
import Derived.Deep.QuietTactic
import Derived.Deep.RegionWith
import Derived.Lib.MinMax
import Derived.Maps.AppendAt
import Derived.Laws.AppendOwnNone
import Derived.Lib.Small
namespace Go.Proofs.YtacaanhnlfpbhaaGreat
open Go.RowKit Go.Deep Go.ChangeShapes Go.WideShapes
set_option linter.unusedVariables false
set_option linter.unusedSimpArgs false
structure Nv where
 k:Int
 r1:Option Addr
 r2:Nat
 r3:Nat
 a2:Int
 s1:Option Addr
 s2:Nat
 s3:Nat
 a4:Int
 a5:Int
 a6:Bool
 a7:Int
 a8:ByteArray
instance:Inhabited Nv:=⟨⟨0,none,0,0,0,none,0,0,0,0,false,0,⟨#[]⟩⟩⟩
abbrev Nv.cs (N:Nv):List Value:=[.int .i64 N.k,.slice N.r1 N.r2 N.r3,.int .i64 N.a2,.slice N.s1 N.s2 N.s3,.int .i64 N.a4,.int .i64 N.a5,.bool N.a6,.int .i64 N.a7,.string N.a8]
abbrev Nv.v (N:Nv):Value:=.agg #[.int .i64 N.k,.slice N.r1 N.r2 N.r3,.int .i64 N.a2,.slice N.s1 N.s2 N.s3,.int .i64 N.a4,.int .i64 N.a5,.bool N.a6,.int .i64 N.a7,.string N.a8]
inductive Tn where
 | mk (k:Int) (R:List (Int × Int)) (a:Int) (s:List Tn) (mn mx:Int) (lz:Bool) (ix:Int) (nm:ByteArray)
instance:Inhabited Tn:=⟨.mk 0 [] 0 [] 0 0 false 0 ⟨#[]⟩⟩
def Tn.kind:Tn→Int | .mk k ..=>k
def Tn.subs:Tn→List Tn | .mk _ _ _ s ..=>s
def N9 (w:World) (b o i:Nat) (N:Nv):Prop:=w.cell? ⟨b,o + i * 9,none⟩=some (.int .i64 N.k)∧w.cell? ⟨b,o + i * 9 + 1,none⟩=some (.slice N.r1 N.r2 N.r3)∧w.cell? ⟨b,o + i * 9 + 2,none⟩=some (.int .i64 N.a2)∧w.cell? ⟨b,o + i * 9 + 3,none⟩=some (.slice N.s1 N.s2 N.s3) ∧
 w.cell? ⟨b,o + i * 9 + 4,none⟩=some (.int .i64 N.a4)∧w.cell? ⟨b,o + i * 9 + 5,none⟩=some (.int .i64 N.a5)∧w.cell? ⟨b,o + i * 9 + 6,none⟩=some (.bool N.a6)∧w.cell? ⟨b,o + i * 9 + 7,none⟩=some (.int .i64 N.a7)∧w.cell? ⟨b,o + i * 9 + 8,none⟩=some (.string N.a8)
def R2 (w:World) (B:Nat) (ad:Option Addr) (R:List (Int × Int)):Prop:=
 R≠[]→∃ b o,ad=some ⟨b,o,none⟩∧b < B∧∀ i (hi:i < R.length),w.cell? ⟨b,o + i * 2,none⟩=some (.int .i64 R[i].1)∧w.cell? ⟨b,o + i * 2 + 1,none⟩=some (.int .i64 R[i].2)
abbrev I64ok (x:Int):Prop:=-9223372036854775808≤x∧x≤9223372036854775807
structure Nv.ok (N:Nv):Prop where
 k:I64ok N.k
 a2:I64ok N.a2
 a4:I64ok N.a4
 a5:I64ok N.a5
 a7:I64ok N.a7
 a8:N.a8.size≤maxLen
 r:N.r2≤N.r3∧N.r3≤maxLen
 s:N.s2≤N.s3∧N.s3≤maxLen
inductive TI (w:World) (B:Nat):Nv→Tn→Prop
 | mk {N:Nv} {R:List (Int × Int)} {ts:List Tn} {ND:Nat→Nv} (ok:N.ok) (hr:N.r2=R.length) (hR:R2 w B N.r1 R) (hRk:∀ x ∈ R,I64ok x.1∧I64ok x.2) (hs:N.s2=ts.length)
   (hS:0 < ts.length→∃ b o,N.s1=some ⟨b,o,none⟩∧b < B∧∀ i,i < ts.length→N9 w b o i (ND i)) (hk:∀ i (hi:i < ts.length),TI w B (ND i) ts[i]) :
   TI w B N (.mk N.k R N.a2 ts N.a4 N.a5 N.a6 N.a7 N.a8)
theorem cell_eq {w w':World} {b:Nat} (h:w'.heap[b]?=w.heap[b]?) (o:Nat):w'.cell? ⟨b,o,none⟩=w.cell? ⟨b,o,none⟩:=by simp only [World.cell?,h]
theorem N9.kept {w w':World} {b o i:Nat} {N:Nv} (h:N9 w b o i N) (hk:w'.heap[b]?=w.heap[b]?):N9 w' b o i N:=by
 obtain ⟨h0,h1,h2,h3,h4,h5,h6,h7,h8⟩:=h
 exact ⟨(cell_eq hk _).trans h0,(cell_eq hk _).trans h1,(cell_eq hk _).trans h2,(cell_eq hk _).trans h3,(cell_eq hk _).trans h4,(cell_eq hk _).trans h5,(cell_eq hk _).trans h6,(cell_eq hk _).trans h7,(cell_eq hk _).trans h8⟩
theorem R2.kept {w w':World} {B:Nat} {ad:Option Addr} {R:List (Int × Int)} (h:R2 w B ad R) (hk:∀ b,b < B→w'.heap[b]?=w.heap[b]?):R2 w' B ad R:=fun hn=>by
 obtain ⟨b,o,h1,h2,h3⟩:=h hn
 exact ⟨b,o,h1,h2,fun i hi=>⟨(cell_eq (hk b h2) _).trans (h3 i hi).1,(cell_eq (hk b h2) _).trans (h3 i hi).2⟩⟩
theorem R2.le {w:World} {B B':Nat} {ad:Option Addr} {R:List (Int × Int)} (h:R2 w B ad R) (hB:B≤B'):R2 w B' ad R:=fun hn=>by
 obtain ⟨b,o,h1,h2,h3⟩:=h hn
 exact ⟨b,o,h1,by omega,h3⟩
theorem TI.kept {w w':World} {B:Nat} {N:Nv} {t:Tn} (h:TI w B N t) (hk:∀ b,b < B→w'.heap[b]?=w.heap[b]?):TI w' B N t:=by
 induction h with
 | mk ok hr hR hRk hs hS hkk ih =>
  refine .mk ok hr (hR.kept hk) hRk hs (fun hp=>?_) ih
  obtain ⟨b,o,h1,h2,h3⟩:=hS hp
  exact ⟨b,o,h1,h2,fun i hi=>(h3 i hi).kept (hk b h2)⟩
theorem TI.le {w:World} {B B':Nat} {N:Nv} {t:Tn} (h:TI w B N t) (hB:B≤B'):TI w B' N t:=by
 induction h with
 | mk ok hr hR hRk hs hS hkk ih =>
  refine .mk ok hr (hR.le hB) hRk hs (fun hp=>?_) ih
  obtain ⟨b,o,h1,h2,h3⟩:=hS hp
  exact ⟨b,o,h1,by omega,h3⟩
structure NodeTy (P:Program) (tn ts tr te ti tb tg:TypeId) (f:Nat→Field) (g0 g1:Field):Prop where
 hn:P.underlying tn=some (.struct #[f 0,f 1,f 2,f 3,f 4,f 5,f 6,f 7,f 8])
 cn:P.cellsOf tn=9
 ty:(f 0).type=ti∧(f 1).type=tr∧(f 2).type=ti∧(f 3).type=ts∧(f 4).type=ti∧(f 5).type=ti∧(f 6).type=tb∧(f 7).type=ti∧(f 8).type=tg
 of:∀ i,i < 9→(f i).offset=i
 ci:P.cellsOf ti=1
 cr:P.cellsOf tr=1
 cs:P.cellsOf ts=1
 cb:P.cellsOf tb=1
 cg:P.cellsOf tg=1
 hi:P.underlying ti=some (.int .i64)
 hb:P.underlying tb=some .bool
 hg:P.underlying tg=some .string
 hs:P.underlying ts=some (.slice tn)
 hr:P.underlying tr=some (.slice te)
 he:P.underlying te=some (.struct #[g0,g1])
 ce:P.cellsOf te=2
 og:g0.offset=0∧g1.offset=1∧g0.type=ti∧g1.type=ti
theorem i64ok {n:Int} (h:(Lit.int .i64 n).wf=true):I64ok n:=by
 simp [Lit.wf,IntKind.min,IntKind.signed,IntKind.bits] at h
 exact h
section
variable {H:Type} {enc:TypeId × Value→H} {P:Program} {w:World} {base:Nat} {spare:Nat→Bool} {held:Bool} {tn ts tr te ti tb tg:TypeId} {f:Nat→Field} {g0 g1:Field}
theorem open_ranges (S:NodeTy P tn ts tr te ti tb tg f g0 g1) {fuel:Nat} {cs:List Value} {x:DataW H × List MemPlace} (h:DataW.trod enc P w base spare held fuel tr cs=some x) :
  ∃ (ad:Option Addr) (n c:Nat) (R:List (Int × Int)),cs=[.slice ad n c]∧n=R.length∧n≤c∧c≤maxLen∧R2 w w.heap.size ad R∧∀ x ∈ R,I64ok x.1∧I64ok x.2:=by
 obtain ⟨o0,o1,t0,t1⟩:=S.og
 rcases open_slice_pairs S.hr S.he S.ce o0 o1 (by rw [t0];exact S.ci) (by rw [t1];exact S.ci) h with ⟨rfl,rfl⟩ | ⟨a,len,cap,m,n,V0,V1,D0,D1,P0,P1,rfl,hb,hl,hm,hmm,rfl,hx⟩
 ·exact ⟨none,0,0,[],rfl,rfl,Nat.le_refl _,by simp [maxLen],fun hn=>absurd rfl hn,fun x hx=>by cases hx⟩
 have hlm:len≤m:=by rw [hmm];split <;> omega
 rw [t0,t1] at hx
 have each:∀ i,i < len→∃ q:Int × Int,w.cell? (a.add (i * 2))=some (.int .i64 q.1)∧w.cell? (a.add (i * 2 + 1))=some (.int .i64 q.2)∧I64ok q.1∧I64ok q.2:=fun i hi=>by
  obtain ⟨h1,h2,h3,h4⟩:=hx i (by omega)
  obtain ⟨n0,e0,_,w0⟩:=DataW.trod_int S.hi h3
  obtain ⟨n1,e1,_,w1⟩:=DataW.trod_int S.hi h4
  simp at e0 e1
  rw [e0] at h1
  rw [e1] at h2
  exact ⟨(n0,n1),h1,h2,i64ok w0,i64ok w1⟩
 obtain ⟨q,hq⟩:=choose_lt each
 refine ⟨some a,len,cap,(List.range len).map q,rfl,by simp,hl,hm,fun hn=>?_,fun x hx=>?_⟩
 ·have hpos:0 < len:=by
   rcases Nat.eq_zero_or_pos len with h0 | h0
   ·subst h0;simp at hn
   ·exact h0
  have hc0:=(hq 0 hpos).1
  have hsp:a.spot=none:=by simpa [Addr.add] using World.cell?_spot hc0
  obtain ⟨b,o,sp⟩:=a
  simp only at hsp
  subst hsp
  refine ⟨b,o,rfl,World.block_lt_of_cell? _ _ hc0,fun i hi=>?_⟩
  simp only [List.length_map,List.length_range] at hi
  have h1:=hq i hi
  rw [add_plain,add_plain] at h1
  simp only [List.getElem_map,List.getElem_range]
  exact ⟨h1.1,by rw [Nat.add_assoc];exact h1.2.1⟩
 ·simp only [List.mem_map,List.mem_range] at hx
  obtain ⟨i,hi,rfl⟩:=hx
  exact (hq i hi).2.2
end
end Go.Proofs.YtacaanhnlfpbhaaGreat
namespace Go.Proofs.YtacaanhnlfpbhaaGreat
open Go.ChangeShapes Go.WideShapes Go.ChangeAt Go.RowKit
set_option linter.unusedVariables false
set_option linter.unusedSimpArgs false
theorem ownB:ownKnob Tryz.prog.godebug=none:=by kernel_rfl
theorem laidOut:laidOutB Tryz.prog=true:=by kernel_rfl
def nf:Nat→Field
 | 0 => { name := "Kind", type := 3, offset := 0, embedded := false, tag := "", pkgPath := "", byteOffset := 0 }
 | 1 => { name := "Ranges", type := 22, offset := 1, embedded := false, tag := "", pkgPath := "", byteOffset := 8 }
 | 2 => { name := "Assert", type := 3, offset := 2, embedded := false, tag := "", pkgPath := "", byteOffset := 32 }
 | 3 => { name := "Subs", type := 23, offset := 3, embedded := false, tag := "", pkgPath := "", byteOffset := 40 }
 | 4 => { name := "Min", type := 3, offset := 4, embedded := false, tag := "", pkgPath := "", byteOffset := 64 }
 | 5 => { name := "Max", type := 3, offset := 5, embedded := false, tag := "", pkgPath := "", byteOffset := 72 }
 | 6 => { name := "Lazy", type := 4, offset := 6, embedded := false, tag := "", pkgPath := "", byteOffset := 80 }
 | 7 => { name := "Index", type := 3, offset := 7, embedded := false, tag := "", pkgPath := "", byteOffset := 88 }
 | _ => { name := "Name", type := 9, offset := 8, embedded := false, tag := "", pkgPath := "", byteOffset := 96 }
theorem nodeTy : NodeTy Tryz.prog 25 23 22 70 3 4 9 nf { name := "Lo", type := 3, offset := 0, embedded := false, tag := "", pkgPath := "", byteOffset := 0 } { name := "Hi", type := 3, offset := 1, embedded := false, tag := "", pkgPath := "", byteOffset := 8 } where
 hn:=Tryz.underlying25
 cn:=by kernel_rfl
 ty:=⟨rfl,rfl,rfl,rfl,rfl,rfl,rfl,rfl,rfl⟩
 of:=fun i hi=>by
  match i,hi with
  | 0,_=>rfl
  | 1,_=>rfl
  | 2,_=>rfl
  | 3,_=>rfl
  | 4,_=>rfl
  | 5,_=>rfl
  | 6,_=>rfl
  | 7,_=>rfl
  | 8,_=>rfl
 ci:=by kernel_rfl
 cr:=by kernel_rfl
 cs:=by kernel_rfl
 cb:=by kernel_rfl
 cg:=by kernel_rfl
 hi:=Tryz.underlying3
 hb:=Tryz.underlying4
 hg:=Tryz.underlying9
 hs:=Tryz.underlying23
 hr:=Tryz.underlying22
 he:=Tryz.underlying70
 ce:=by kernel_rfl
 og:=⟨rfl,rfl,rfl,rfl⟩
set_option maxRecDepth 100000
end Go.Proofs.YtacaanhnlfpbhaaGreat
namespace Go.Proofs.YtacaanhnlfpbhaaGreat
open Go.RowKit
set_option linter.unusedVariables false
set_option linter.unusedSimpArgs false
mutual
def Tn.nodes:Tn→Nat
 | .mk _ _ _ s _ _ _ _ _=>1 + nodesL s
def nodesL:List Tn→Nat
 | []=>0
 | t :: ts=>t.nodes + nodesL ts
end
mutual
def Tn.depth:Tn→Nat
 | .mk _ _ _ s _ _ _ _ _=>1 + depthL s
def depthL:List Tn→Nat
 | []=>0
 | t :: ts=>max t.depth (depthL ts)
end
mutual
def Tn.gr:Tn→Int→Int
 | .mk _ _ _ s _ _ _ _ _,l=>grL s (l - 1)
def grL:List Tn→Int→Int
 | [],l=>l
 | t :: ts,l=>if l < 0 then l else grL ts (t.gr l)
end
theorem grL_neg (ts:List Tn) (l:Int) (h:l < 0):grL ts l=l:=by cases ts <;> simp [grL,h]
mutual
theorem Tn.gr_spec:∀ (t:Tn) (l:Int),0≤l→(t.gr l≤l - 1)∧(-1≤t.gr l)∧(0≤t.gr l↔(t.nodes:Int)≤l)∧(0≤t.gr l→t.gr l=l - t.nodes)
 | .mk _ _ _ s _ _ _ _ _,l,h=>by
  have:=grL_spec s (l - 1) (by omega)
  simp only [Tn.gr,Tn.nodes]
  omega
theorem grL_spec:∀ (ts:List Tn) (l:Int),-1≤l→(grL ts l≤l)∧(-1≤grL ts l)∧(0≤grL ts l↔(nodesL ts:Int)≤l)∧(0≤grL ts l→grL ts l=l - nodesL ts)
 | [],l,h=>by simp [grL,nodesL];omega
 | t :: ts,l,h=>by
  simp only [grL,nodesL]
  by_cases hl:l < 0
  ·simp only [hl,if_true]
   omega
  ·have h1:=Tn.gr_spec t l (by omega)
   have h2:=grL_spec ts (t.gr l) (by omega)
   simp only [hl,if_false]
   omega
end
theorem grL_drop (ts:List Tn) (i:Nat) (hi:i < ts.length) (l:Int) (h:0≤l):grL (ts.drop i) l=grL (ts.drop (i + 1)) (ts[i].gr l):=by
 rw [List.drop_eq_getElem_cons hi]
 simp only [grL]
 rw [if_neg (by omega)]
theorem Tn.pos (t:Tn):1≤t.nodes:=by cases t;simp only [Tn.nodes];omega
abbrev zN (k:Int) (s:List Tn):Tn:=.mk k [] 0 s 0 0 false 0 ⟨#[]⟩
abbrev emptyT:Tn:=zN 1 []
abbrev loopT (mn mx:Int) (lz:Bool) (y:Tn):Tn:=.mk 6 [] 0 [y] mn mx lz 0 ⟨#[]⟩
def within (k:Int) (t:Tn):List Tn:=if t.kind=k then t.subs else [t]
def rowS (k:Int) (l:List (Tn × Nat)):List Tn:=l.flatMap fun x=>(List.replicate x.2 (within k x.1)).flatten
abbrev rowT (k:Int) (l:List (Tn × Nat)):Tn:=zN k (rowS k l)
def keep (x:Tn × Nat):Bool:=decide (0 < x.2) && !(x.1.kind == 1)
def timesOf:List (Tn × Nat)→Nat
 | []=>0
 | x :: l=>x.2 + timesOf l
def joinK (l:List (Tn × Nat)):Tn:=if timesOf l=0 then emptyT else if timesOf l=1 then (l.headD (emptyT,0)).1 else rowT 4 l
def joinT (l:List (Tn × Nat)):Tn:=joinK (l.filter keep)
def optT (y:Tn) (lz:Bool):Nat→Tn
 | 0=>emptyT
 | 1=>loopT 0 1 lz y
 | n + 2=>loopT 0 1 lz (joinT [(y,1),(optT y lz (n + 1),1)])
def repT (y:Tn) (mn mx:Int) (lz:Bool):Tn:=
 if mx≠-1 then joinT [(y,mn.toNat),(optT y lz (mx - mn).toNat,1)] else if mn=0 then loopT 0 (-1) lz y else joinT [(y,(mn - 1).toNat),(loopT 1 (-1) lz y,1)]
abbrev ones (l:List Tn):List (Tn × Nat):=l.map fun t=>(t,1)
mutual
def Tn.S:Tn→Tn
 | .mk k R a s mn mx lz ix nm =>
  if k=4 then joinT (ones (SL s)) else if k=5 then rowT 5 (ones (SL s)) else if k=6 then repT ((SL s).headD emptyT) mn mx lz else if k=7 then .mk 7 [] 0 [(SL s).headD emptyT] 0 0 false ix nm else .mk k R a [] mn mx lz ix nm
def SL:List Tn→List Tn
 | []=>[]
 | t :: ts=>t.S :: SL ts
end
theorem SL_map (ts:List Tn):SL ts=ts.map Tn.S:=by
 induction ts with
 | nil=>rfl
 | cons t ts ih=>simp [SL,ih]
theorem nodesL_append (a b:List Tn):nodesL (a ++ b)=nodesL a + nodesL b:=by
 induction a with
 | nil=>simp [nodesL]
 | cons t a ih=>simp only [List.cons_append,nodesL,ih];omega
theorem depthL_append (a b:List Tn):depthL (a ++ b)=max (depthL a) (depthL b):=by
 induction a with
 | nil=>simp [depthL]
 | cons t a ih=>simp only [List.cons_append,depthL,ih];omega
theorem nodesL_rep (n:Nat) (l:List Tn):nodesL (List.replicate n l).flatten=n * nodesL l:=by
 induction n with
 | zero=>simp [nodesL]
 | succ n ih=>rw [List.replicate_succ,List.flatten_cons,nodesL_append,ih,Nat.add_mul];omega
theorem depthL_rep (n:Nat) (l:List Tn) (h:0 < n):depthL (List.replicate n l).flatten=depthL l:=by
 induction n with
 | zero=>omega
 | succ n ih =>
  rw [List.replicate_succ,List.flatten_cons,depthL_append]
  rcases Nat.eq_zero_or_pos n with h0 | h0
  ·subst h0;simp [depthL]
  ·rw [ih h0];omega
theorem Tn.nodes_subs (t:Tn):t.nodes=1 + nodesL t.subs:=by cases t;rfl
theorem Tn.depth_subs (t:Tn):t.depth=1 + depthL t.subs:=by cases t;rfl
theorem within_nodes (k:Int) (t:Tn):nodesL (within k t)=if t.kind=k then t.nodes - 1 else t.nodes:=by
 unfold within
 split
 ·rw [t.nodes_subs];omega
 ·simp [nodesL]
theorem within_depth (k:Int) (t:Tn):depthL (within k t)=if t.kind=k then t.depth - 1 else t.depth:=by
 unfold within
 split
 ·rw [t.depth_subs];omega
 ·simp [depthL]
theorem rowS_cons (k:Int) (x:Tn × Nat) (l:List (Tn × Nat)):rowS k (x :: l)=(List.replicate x.2 (within k x.1)).flatten ++ rowS k l:=by simp [rowS]
theorem rowS_append (k:Int) (a b:List (Tn × Nat)):rowS k (a ++ b)=rowS k a ++ rowS k b:=by simp [rowS]
theorem rowS_take (k:Int) (l:List (Tn × Nat)) (i:Nat) (hi:i < l.length):rowS k (l.take (i + 1))=rowS k (l.take i) ++ (List.replicate l[i].2 (within k l[i].1)).flatten:=by
 rw [List.take_succ_eq_append_getElem hi,rowS_append,rowS_cons];simp [rowS]
abbrev capN (n:Nat):Nat:=min n 200001
theorem row_nodes_step (k:Int) (l:List (Tn × Nat)) (i:Nat) (hi:i < l.length) (hp:0 < l[i].2) :
  capN (1 + nodesL (rowS k (l.take (i + 1))))=capN (capN (1 + nodesL (rowS k (l.take i))) + l[i].2 * (if l[i].1.kind=k then capN l[i].1.nodes - 1 else capN l[i].1.nodes)):=by
 rw [rowS_take k l i hi,nodesL_append,nodesL_rep,within_nodes]
 generalize nodesL (rowS k (l.take i))=a
 generalize hm:l[i].2=m at hp ⊢
 generalize hn:l[i].1.nodes=n
 have hn1:1≤n:=by rw [← hn];exact Tn.pos _
 unfold capN
 split
 ·by_cases h:n≤200001
  ·rw [Nat.min_eq_left h];omega
  ·rw [Nat.min_eq_right (by omega:200001≤n)]
   have h1:200000≤m * (200001 - 1):=by have:=Nat.mul_le_mul_right 200000 hp;omega
   have h2:200001≤m * (n - 1):=by have:=Nat.mul_le_mul hp (show 200001≤n - 1 by omega);omega
   omega
 ·by_cases h:n≤200001
  ·rw [Nat.min_eq_left h];omega
  ·rw [Nat.min_eq_right (by omega:200001≤n)]
   have h1:200001≤m * 200001:=by have:=Nat.mul_le_mul_right 200001 hp;omega
   have h2:200001≤m * n:=by have:=Nat.mul_le_mul hp (show 200001≤n by omega);omega
   omega
def depR (k:Int) (l:List (Tn × Nat)) (i:Nat):Nat:=if i=0 then 0 else 1 + depthL (rowS k (l.take i))
theorem row_depth_step (k:Int) (l:List (Tn × Nat)) (i:Nat) (hi:i < l.length) (hp:0 < l[i].2) :
  depR k l (i + 1)=max (depR k l i) (1 + (if l[i].1.kind=k then l[i].1.depth - 1 else l[i].1.depth)):=by
 unfold depR
 rw [if_neg (by omega),rowS_take k l i hi,depthL_append,depthL_rep _ _ hp,within_depth]
 by_cases h0:i=0
 ·subst h0;simp [rowS,depthL]
 ·rw [if_neg h0];omega
theorem rowT_nodes (k:Int) (l:List (Tn × Nat)):(rowT k l).nodes=1 + nodesL (rowS k l):=rfl
theorem rowT_depth (k:Int) (l:List (Tn × Nat)):(rowT k l).depth=1 + depthL (rowS k l):=rfl
theorem join_two (y o:Tn) (ho:o.kind=6):joinT [(y,1),(o,1)]=if y.kind=1 then o else rowT 4 [(y,1),(o,1)]:=by
 unfold joinT
 have h2:keep (o,1)=true:=by simp [keep,ho]
 by_cases h:y.kind=1
 ·have h1:keep (y,1)=false:=by simp [keep,h]
  rw [if_pos h]
  simp [List.filter,h1,h2,joinK,timesOf]
 ·have h1:keep (y,1)=true:=by simp [keep,h]
  rw [if_neg h]
  simp [List.filter,h1,h2,joinK,timesOf]
theorem optT_kind (y:Tn) (lz:Bool) (n:Nat):(optT y lz (n + 1)).kind=6:=by cases n <;> rfl
theorem rowS_two (k:Int) (y o:Tn):rowS k [(y,1),(o,1)]=within k y ++ within k o:=by simp [rowS]
theorem join_two_nodes (y o:Tn) (ho:o.kind=6):(joinT [(y,1),(o,1)]).nodes=o.nodes + (if y.kind=1 then 0 else if y.kind=4 then y.nodes else y.nodes + 1):=by
 rw [join_two y o ho]
 by_cases h:y.kind=1
 ·simp [h]
 ·rw [if_neg h,if_neg h,rowT_nodes]
  rw [rowS_two,nodesL_append,within_nodes,within_nodes,ho,if_neg (by decide:¬ (6:Int)=4)]
  have:=y.pos
  split <;> omega
theorem join_two_depth (y o:Tn) (ho:o.kind=6) (hd:y.depth≤o.depth):(joinT [(y,1),(o,1)]).depth=o.depth + (if y.kind=1 then 0 else 1):=by
 rw [join_two y o ho]
 by_cases h:y.kind=1
 ·simp [h]
 ·rw [if_neg h,if_neg h,rowT_depth]
  rw [rowS_two,depthL_append,within_depth,within_depth,ho,if_neg (by decide:¬ (6:Int)=4)]
  split <;> omega
theorem loopT_nodes (mn mx:Int) (lz:Bool) (y:Tn):(loopT mn mx lz y).nodes=1 + y.nodes:=by simp [Tn.nodes,nodesL]
theorem loopT_depth (mn mx:Int) (lz:Bool) (y:Tn):(loopT mn mx lz y).depth=1 + y.depth:=by simp [Tn.depth,depthL]
theorem optT_step (y:Tn) (lz:Bool) (n:Nat):optT y lz (n + 2)=loopT 0 1 lz (joinT [(y,1),(optT y lz (n + 1),1)]):=rfl
theorem optT_deep (y:Tn) (lz:Bool) (n:Nat):y.depth≤(optT y lz (n + 1)).depth:=by
 induction n with
 | zero=>rw [show optT y lz (0 + 1)=loopT 0 1 lz y from rfl,loopT_depth];omega
 | succ n ih=>rw [optT_step,loopT_depth,join_two_depth _ _ (optT_kind _ _ _) ih];omega
theorem optT_nodes (y:Tn) (lz:Bool) (n:Nat):(optT y lz (n + 1)).nodes=1 + y.nodes + n * (1 + if y.kind=1 then 0 else if y.kind=4 then y.nodes else y.nodes + 1):=by
 induction n with
 | zero=>rw [show optT y lz (0 + 1)=loopT 0 1 lz y from rfl,loopT_nodes];omega
 | succ n ih=>rw [optT_step,loopT_nodes,join_two_nodes _ _ (optT_kind _ _ _),ih,Nat.add_mul];omega
theorem optT_depth (y:Tn) (lz:Bool) (n:Nat):(optT y lz (n + 1)).depth=1 + y.depth + n * (1 + if y.kind=1 then 0 else 1):=by
 induction n with
 | zero=>rw [show optT y lz (0 + 1)=loopT 0 1 lz y from rfl,loopT_depth];omega
 | succ n ih=>rw [optT_step,loopT_depth,join_two_depth _ _ (optT_kind _ _ _) (optT_deep _ _ _),ih,Nat.add_mul];omega
theorem optT_capN (y:Tn) (lz:Bool) (n:Nat):capN (optT y lz (n + 2)).nodes=capN (capN (optT y lz 1).nodes + (n + 1) * (capN (optT y lz 2).nodes - capN (optT y lz 1).nodes)):=by
 rw [show n + 2=(n + 1) + 1 from rfl,optT_nodes,optT_nodes y lz 0,optT_nodes y lz 1]
 generalize (1 + if y.kind=1 then 0 else if y.kind=4 then y.nodes else y.nodes + 1)=c
 generalize 1 + y.nodes=a
 unfold capN
 simp only [Nat.zero_mul,Nat.one_mul,Nat.add_zero]
 by_cases h:a + c≤200001
 ·rw [Nat.min_eq_left h,Nat.min_eq_left (by omega:a≤200001),show a + c - a=c by omega]
 ·rw [Nat.min_eq_right (by omega:200001≤a + c)]
  have h1:c≤(n + 1) * c:=Nat.le_mul_of_pos_left _ (by omega)
  have h2:200001 - min a 200001≤(n + 1) * (200001 - min a 200001):=Nat.le_mul_of_pos_left _ (by omega)
  omega
theorem optT_dep (y:Tn) (lz:Bool) (n:Nat):(optT y lz (n + 2)).depth=(optT y lz 1).depth + (n + 1) * ((optT y lz 2).depth - (optT y lz 1).depth):=by
 rw [show n + 2=(n + 1) + 1 from rfl,optT_depth,optT_depth y lz 0,optT_depth y lz 1]
 generalize (1 + if y.kind=1 then 0 else 1)=c
 generalize 1 + y.depth=a
 simp only [Nat.zero_mul,Nat.one_mul,Nat.add_zero]
 rw [show a + c - a=c by omega]
theorem info3:(Tryz.prog.info? 3).map (fun i=>(i.zero,i.size,i.bytes))=some (some (.int .i64 0),1,8):=by kernel_rfl
theorem ret_bool {a b:Bool} (h:a=b):Ending.returned (.bool a)=.returned (.bool b):=by rw [h]
theorem ret_int {a b:Int} (h:a=b):Ending.returned (.int .i64 a)=.returned (.int .i64 b):=by rw [h]
def Moved (w w':World) (v v':Value):Prop:=(v'.ownBlock=v.ownBlock∧w.grownBy w' v.ownBlock)∨(v'.ownBlock=some w.heap.size∧w.grownBy w' none)
structure Chg (w w':World) (F F':List Nat):Prop where
 os:w'.os=w.os
 tape:w'.tape=w.tape
 output:w'.output=w.output
 size:w.heap.size≤w'.heap.size
 block:∀ k,k < w.heap.size→k ∉ F→w'.heap[k]?=w.heap[k]?
 new:∀ k,k ∈ F'→k ∈ F∨w.heap.size≤k
theorem Chg.below {B:Nat} {w w':World} {F F':List Nat} (h:Chg w w' F F') (hB:B≤w.heap.size) (hF:∀ k ∈ F,B≤k):Below B w w':=
 ⟨h.os,h.tape,h.output,h.size,fun k hk=>h.block k (by omega) (fun hm=>by have:=hF k hm;omega)⟩
theorem Chg.of_below {w w':World} {F:List Nat} (h:Below w.heap.size w w'):Chg w w' F F:=⟨h.os,h.tape,h.output,h.size,fun k hk _=>h.block k hk,fun k hk=>.inl hk⟩
theorem Chg.set {w w':World} {F F':List Nat} (h:Chg w w' F F') {a:Addr} (u:Value) (ha:a.block ∈ F):Chg w (w'.setCell a u) F F':=
 ⟨h.os,h.tape,h.output,by have:=h.size;simp [World.setCell];exact this,fun k hk hn=>(Below.heap_setCell _ _ _ _ (fun e=>hn (by rw [e];exact ha))).trans (h.block k hk hn),h.new⟩
theorem own_setCell {w:World} {base e size n:Nat} {v u:Value} {xs:List Value} {a:Addr} (h:w.ownsRow base e size v n xs) (hne:v.ownBlock≠some a.block):(w.setCell a u).ownsRow base e size v n xs:=by
 refine ⟨h.1,?_⟩
 rcases h.2 with hn | ⟨g,cap,cur,rfl,hb,hgg,rest⟩
 ·exact .inl hn
 ·refine .inr ⟨g,cap,cur,rfl,hb,?_,rest⟩
  rw [Below.heap_setCell _ _ _ _ (fun e=>hne (by simp [Value.ownBlock,e]))]
  exact hgg
theorem own_ne {w:World} {base e size n g:Nat} {v:Value} {xs:List Value} {c:Array Value} {t:TypeId} {fr:Nat × Nat} (ho:w.ownsRow base e size v n xs) (hg:w.heap[g]?=some (.cells c t fr)) (ht:t≠e):v.ownBlock≠some g:=by
 intro h
 rcases ho.2 with ⟨rfl,_⟩ | ⟨b,cap,cur,rfl,hb,hgg,rest⟩
 ·simp [Value.ownBlock] at h
 ·simp [Value.ownBlock] at h
  subst h
  rw [hgg] at hg
  simp at hg
  exact ht hg.2.1.symm
theorem hid' {p:Prop} (h:p):Hid p:=h
theorem nine' {w:World} {b:Nat} {t:TypeId} {a0 a1 a2 a3 a4 a5 a6 a7 a8:Value} (h:w.heap[b]?=some (.cells #[a0,a1,a2,a3,a4,a5,a6,a7,a8] t (0,0))) :
  w.cell? ⟨b,0,none⟩=some a0∧w.cell? ⟨b,1,none⟩=some a1∧w.cell? ⟨b,2,none⟩=some a2∧w.cell? ⟨b,3,none⟩=some a3∧w.cell? ⟨b,4,none⟩=some a4∧w.cell? ⟨b,5,none⟩=some a5∧w.cell? ⟨b,6,none⟩=some a6∧w.cell? ⟨b,7,none⟩=some a7∧w.cell? ⟨b,8,none⟩=some a8:=
 ⟨Joins.cell_of_block h 0,Joins.cell_of_block h 1,Joins.cell_of_block h 2,Joins.cell_of_block h 3,Joins.cell_of_block h 4,Joins.cell_of_block h 5,Joins.cell_of_block h 6,Joins.cell_of_block h 7,Joins.cell_of_block h 8⟩
set_option maxRecDepth 100000 in
set_option maxHeartbeats 4000000 in
theorem great27 {w0:World} {B:Nat} {N:Nv} {t:Tn} (h:TI w0 B N t):∀ (l:Int) (w:World),0≤l∧l≤4194304→B≤w.heap.size→(∀ b,b < B→w.heap[b]?=w0.heap[b]?) →
  Calls Tryz.prog 39 #[N.v,.int .i64 l] w fun e w'=>e=.returned (.int .i64 (t.gr l))∧Below w.heap.size w w':=by
 induction h with
 | @mk N R ts ND ok hr hR hRk hs hS hk ih =>
 intro l w hl hB hw
 have hmax:=ok.s
 obtain ⟨k,r1,r2,r3,a2,s1,s2,s3,a4,a5,a6,a7,a8⟩:=N
 simp only at hs hS hmax
 simp only [Tn.gr]
 have HG:=grL_spec ts (l - 1) (by omega)
 have ad0:IntKind.i64.wrap (l - 1)=l - 1:=by simp [IntKind.wrap,IntKind.bits,IntKind.signed];omega
 obtain ⟨r,hrr⟩:∃ r,r=grL ts (l - 1):=⟨_,rfl⟩
 rw [← hrr]
 have HR:=hid' hrr
 have HW:=hid' hw
 have HS:=hid' hS
 have IH:=hid' ih
 have hm2:s2≤9223372036854775807:=by have:maxLen=9223372036854775807:=rfl;omega
 have HL:=hid' hs
 have HHL:=hid' hl
 clear ok hr hR hRk hk hS hw hrr ih hmax HG hs
 go_enter Tryz.func39,Tryz.ntmps39
 go_wp2_with fail
 go_loopw [1,5] (fun u y wq=>∃ i:Nat,y=.int .i64 (i:Int)∧i≤s2∧(∃ q,u=.int .i64 q∧(-1≤q∧q≤4194304)∧Hid (grL (ts.drop i) q=r))∧Hid (Below w.heap.size w wq)∧Hid (wq.heap[w.heap.size]?=some (.cells #[.int .i64 k,.slice r1 r2 r3,.int .i64 a2,.slice s1 s2 s3,.int .i64 a4,.int .i64 a5,.bool a6,.int .i64 a7,.string a8] 25 (0,0)))) (fun _ y _=>s2 - (intOf y).toNat)
 case atStart=>exact ⟨0,rfl,by omega,⟨l - 1,rfl,by omega,HR.out.symm⟩,Joins.below_alloc1 w _,heap_alloc_new w _⟩
 case round =>
  obtain ⟨i,rfl,hi,⟨q,rfl,hq,HQ⟩,BK,BX⟩:=hrel
  obtain ⟨o0,o1,o2,o3,o4,o5,o6,o7,o8⟩:=nine' BX.out
  by_cases hil:i < s2
  ·have b1:decide ((i:Int) < (s2:Int))=true:=by simp;omega
   have b2:(i:Int) < (s2:Int):=by omega
   by_cases hq0:0≤q
   ·have b3:decide (q ≥ 0)=true:=by simp;omega
    have b3':decide (0≤q)=true:=by simp;omega
    have hlt:i < ts.length:=by rw [← HL.out];exact hil
    obtain ⟨b,o,hs1,hb,hc⟩:=HS.out (by omega)
    subst hs1
    have hwk:∀ b,b < B→wr.heap[b]?=w0.heap[b]?:=fun b hb=>(BK.out.block b (by omega)).trans (HW.out b hb)
    obtain ⟨n0,n1,n2,n3,n4,n5,n6,n7,n8⟩:=(hc i hlt).kept (hwk b hb)
    have HC:=IH.out i hlt q wr ⟨hq0,hq.2⟩ (by have:=BK.out.size;omega) hwk
    have hsp:=Tn.gr_spec ts[i] q hq0
    rw [grL_drop ts i hlt q hq0] at HQ
    obtain ⟨g,hg⟩:∃ g,g=ts[i].gr q:=⟨_,rfl⟩
    rw [← hg] at HC HQ hsp
    have hg2:-1≤g∧g≤4194304:=by omega
    obtain ⟨M,hM⟩:∃ M,M=ND i:=⟨_,rfl⟩
    rw [← hM] at HC n0 n1 n2 n3 n4 n5 n6 n7 n8
    have ad1:IntKind.i64.wrap ((i:Int) + 1)=(i:Int) + 1:=by simp [IntKind.wrap,IntKind.bits,IntKind.signed];omega
    clear hM hg hwk hc hsp hlt
    go_wp2_with (first | (go_at_call 39;(with_reducible refine HC.mono ?_);rintro e w2 ⟨rfl,hb2⟩;have HB2:=hid' hb2;clear hb2 HC))
    refine ⟨⟨i + 1,by push_cast;rfl,by omega,⟨_,rfl,hg2,HQ.out⟩,?_,?_⟩,?_⟩
    ·exact BK.out.trans (Joins.below_le HB2.out BK.out.size)
    ·exact (HB2.out.block _ (Array.getElem?_eq_some_iff.1 BX.out).1).trans BX.out
    ·simp [intOf]
     omega
   ·have b3:decide (q ≥ 0)=false:=by simp;omega
    have b3':decide (0≤q)=false:=by simp;omega
    have e:=HQ.out
    rw [grL_neg _ _ (by omega)] at e
    go_wp2
    go_ret
    exact ⟨by first | rfl | exact ret_int e,BK.out⟩
  ·have b1:decide ((i:Int) < (s2:Int))=false:=by simp;omega
   obtain rfl:i=s2:=by omega
   have e:=HQ.out
   rw [HL.out,List.drop_length] at e
   simp only [grL] at e
   go_wp2
   go_ret
   exact ⟨by first | rfl | exact ret_int e,BK.out⟩
theorem deep10 {w:World} {N:Nv} {t:Tn} (h:TI w w.heap.size N t):Calls Tryz.prog 8 #[N.v] w fun e w'=>e=.returned (.bool (decide (4194304 < t.nodes)))∧Below w.heap.size w w':=by
 have HC:=great27 h 4194304 (w.alloc (.cells (Array.mk N.cs) 25)) (by omega) (by simp) (fun b hb=>heap_alloc_old w _ hb)
 have HS:=Tn.gr_spec t 4194304 (by omega)
 obtain ⟨k,r1,r2,r3,a2,s1,s2,s3,a4,a5,a6,a7,a8⟩:=N
 obtain ⟨g,hg⟩:∃ g,g=t.gr 4194304:=⟨_,rfl⟩
 rw [← hg] at HC HS
 have e1:decide (g < 0)=decide (4194304 < t.nodes):=by rw [Bool.eq_iff_iff];simp;omega
 clear hg HS
 go_enter Tryz.func8,Tryz.ntmps8
 go_wp2_with (first | (go_at_call 39;(with_reducible refine HC.mono ?_);rintro e w2 ⟨rfl,hb2⟩;have HB2:=hid' hb2;clear hb2 HC))
 go_ret
 exact ⟨by first | rfl | exact ret_bool e1,(Joins.below_alloc1 w _).trans (Joins.below_le HB2.out (by simp))⟩
end Go.Proofs.YtacaanhnlfpbhaaGreat
namespace Go.Proofs.YtacaanhnlfpbhaaGreat
open Go.RowKit Go.Lib
set_option linter.unusedVariables false
set_option linter.unusedSimpArgs false
def dom (r:Int):Bool:=decide (0≤r∧r < 55296∨57343 < r∧r≤1114111)
theorem dom41 (r:Int) (w:World):Calls Tryz.prog 222 #[.int .i64 r] w fun e w'=>e=.returned (.bool (dom r))∧w'=w:=by
 go_enter Tryz.func222,Tryz.ntmps222
 go_wp2
 all_goals go_ret
 all_goals exact ⟨ret_bool (by rw [Bool.eq_iff_iff];simp [dom];omega),rfl⟩
def RowAt (N:Nat) (w:World) (v:Value) (L:List (Int × Int)):Prop:=∃ ad cap,v=.slice ad L.length cap∧(L.length=0∨∃ b off,ad=some ⟨b,off,none⟩∧b < N ∧
 (∀ k,k < L.length→w.cell? ⟨b,off + k * 2,none⟩=some (.int .i64 (L.getD k (0,0)).1))∧(∀ k,k < L.length→w.cell? ⟨b,off + k * 2 + 1,none⟩=some (.int .i64 (L.getD k (0,0)).2)))
theorem RowAt.below {N N' B:Nat} {w w':World} {v:Value} {L:List (Int × Int)} (h:RowAt N w v L) (hb:Below B w w') (hB:N≤B) (hN:N≤N'):RowAt N' w' v L:=by
 obtain ⟨ad,cap,hv,h | ⟨b,off,ha,hbN,h0,h1⟩⟩:=h
 ·exact ⟨ad,cap,hv,.inl h⟩
 ·exact ⟨ad,cap,hv,.inr ⟨b,off,ha,by omega,fun k hk=>(hb.cell (p:=⟨b,off + k * 2,none⟩) (by show b < B;omega)).trans (h0 k hk),fun k hk=>(hb.cell (p:=⟨b,off + k * 2 + 1,none⟩) (by show b < B;omega)).trans (h1 k hk)⟩⟩
def gapB (g:Int × Int):Bool:=decide (g.1 < 55296∧57343 < g.2)
def okG (least:Int) (g:Int × Int):Bool:=decide (least≤g.1) && decide (g.1≤g.2) && dom g.1 && dom g.2 && !gapB g
def rightFrom:Int→List (Int × Int)→Bool
 | _,[]=>true
 | least,g :: t=>okG least g && rightFrom (g.2 + 2) t
def rightB (L:List (Int × Int)):Bool:=decide (L.length≤5000) && rightFrom 0 L
theorem drop_consR (L:List (Int × Int)) (k:Nat) (h:k < L.length):L.drop k=L.getD k (0,0) :: L.drop (k + 1):=by
 rw [List.drop_eq_getElem_cons h];simp [h]
theorem gap46 (lo hi:Int) (w:World):Calls Tryz.prog 223 #[.agg #[.int .i64 lo,.int .i64 hi]] w fun e w'=>e=.returned (.bool (gapB (lo,hi)))∧w'=w.alloc (.cells #[.int .i64 lo,.int .i64 hi] 70):=by
 go_enter Tryz.func223,Tryz.ntmps223
 go_wp2
 all_goals go_ret
 all_goals exact ⟨ret_bool (by rw [Bool.eq_iff_iff];simp [gapB];omega),rfl⟩
set_option maxHeartbeats 2000000 in
set_option maxRecDepth 1000000 in
theorem right_short (L:List (Int × Int)) (ad:Option Addr) (n cap:Nat) (w:World) (hn:Hid (n=L.length)) (hS:n≤5000) (hl:Hid (RowAt w.heap.size w (.slice ad n cap) L)) :
  Calls Tryz.prog 169 #[.slice ad n cap] w fun e w'=>e=.returned (.bool (rightFrom 0 L))∧Below w.heap.size w w':=by
 go_enter Tryz.func169,Tryz.ntmps169
 go_wp2
 go_loopw [3,11] (fun lv i wr=>∃ (k:Nat) (ls:Int),k≤n∧0≤ls∧ls≤1114113∧lv=.int .i64 ls∧i=.int .i64 k∧Below w.heap.size w wr∧Hid (rightFrom 0 L=rightFrom ls (L.drop k)))
  (fun _ i _=>n - (intOf i).toNat)
 case atStart=>exact ⟨0,0,by omega,by omega,by omega,rfl,rfl,Below.refl _ _,by exact rfl⟩
 case round =>
  obtain ⟨k,ls,hk,hs0,hs1,rfl,rfl,hbw,HR⟩:=hrel
  have hsz:=hbw.size
  by_cases hlt:k < n
  ·obtain ⟨ad',cap',he,h | ⟨b,off,rfl,hbN,hc0,hc1⟩⟩:=hl.out
   ·exact absurd h (by rw [← hn.out];omega)
   ·have hn':=hn.out
    simp only [Value.slice.injEq] at he
    obtain ⟨rfl,-,rfl⟩:=he
    have d0:=(hbw.cell (p:=⟨b,off + k * 2,none⟩) hbN).trans (hc0 k (by omega))
    have d1:=(hbw.cell (p:=⟨b,off + k * 2 + 1,none⟩) hbN).trans (hc1 k (by omega))
    have hdr:=drop_consR L k (by omega)
    have hR:=HR.out
    rw [hdr] at hR
    generalize L.getD k (0,0)=g at d0 d1 hR
    obtain ⟨lo,hi⟩:=g
    simp only at d0 d1
    have HR2:Hid (rightFrom 0 L=(okG ls (lo,hi) && rightFrom (hi + 2) (L.drop (k + 1)))):=hR
    clear hdr hR HR hc0 hc1 hn'
    have hd0:=dom41 lo
    have hd1:=dom41 hi
    have hgp:=gap46 lo hi
    generalize ho:okG ls (lo,hi)=ok at HR2
    have hok:ok=(decide (ls≤lo) && decide (lo≤hi) && dom lo && dom hi && !gapB (lo,hi)):=ho.symm
    clear ho
    generalize h3:dom lo=e3 at hd0 hok
    generalize h4:dom hi=e4 at hd1 hok
    generalize h5:gapB (lo,hi)=e5 at hgp hok
    have H4:Hid (dom hi=e4):=h4
    clear h3 h4 h5
    have HOK:Hid (ok=(decide (ls≤lo) && decide (lo≤hi) && e3 && e4 && !e5)):=hok
    clear hok
    by_cases g1:ls≤lo
    ·by_cases g2:lo≤hi
     ·cases e3
      ·have hE:Hid (rightFrom 0 L=false):=by show rightFrom 0 L=_;rw [HR2.out,HOK.out];simp
       go_wp2_with (first | (go_at_call_of 135 (.int .i64 lo);refine (hd0 _).mono ?_;rintro e w' ⟨rfl,rfl⟩) | (go_at_call 222;refine (hd0 _).mono ?_;rintro e w' ⟨rfl,rfl⟩))
       go_ret
       exact ⟨ret_bool hE.out.symm,hbw.alloc hsz _⟩
      ·cases e4
       ·have hE:Hid (rightFrom 0 L=false):=by show rightFrom 0 L=_;rw [HR2.out,HOK.out];simp
        go_wp2_with fail
        refine (hd0 _).mono ?_
        rintro e w' ⟨rfl,rfl⟩
        go_wp2_with fail
        refine (hd1 _).mono ?_
        rintro e w' ⟨rfl,rfl⟩
        go_wp2
        go_ret
        exact ⟨ret_bool hE.out.symm,hbw.alloc hsz _⟩
       ·cases e5
        ·have hE:Hid (rightFrom 0 L=rightFrom (hi + 2) (L.drop (k + 1))):=by show rightFrom 0 L=_;rw [HR2.out,HOK.out];simp [g1,g2]
         obtain ⟨hh0,hh1⟩:0≤hi∧hi≤1114111:=by have:=H4.out;simp [dom] at this;omega
         go_wp2_with fail
         refine (hd0 _).mono ?_
         rintro e w' ⟨rfl,rfl⟩
         go_wp2_with fail
         refine (hd1 _).mono ?_
         rintro e w' ⟨rfl,rfl⟩
         go_wp2_with fail
         refine (hgp _).mono ?_
         rintro e w' ⟨rfl,rfl⟩
         go_wp2
         go_roundw
         case rel=>exact ⟨k + 1,hi + 2,by omega,by omega,by omega,rfl,by go_num,(hbw.alloc hsz _).alloc (by simp;omega) _,hE⟩
         case measure=>simp [intOf];omega
        ·have hE:Hid (rightFrom 0 L=false):=by show rightFrom 0 L=_;rw [HR2.out,HOK.out];simp
         go_wp2_with fail
         refine (hd0 _).mono ?_
         rintro e w' ⟨rfl,rfl⟩
         go_wp2_with fail
         refine (hd1 _).mono ?_
         rintro e w' ⟨rfl,rfl⟩
         go_wp2_with fail
         refine (hgp _).mono ?_
         rintro e w' ⟨rfl,rfl⟩
         go_wp2
         go_ret
         exact ⟨ret_bool hE.out.symm,(hbw.alloc hsz _).alloc (by simp;omega) _⟩
     ·have hE:Hid (rightFrom 0 L=false):=by show rightFrom 0 L=_;rw [HR2.out,HOK.out];simp [g2]
      clear hd0 hd1 hgp
      go_wp2
      go_ret
      exact ⟨ret_bool hE.out.symm,hbw.alloc hsz _⟩
    ·have hE:Hid (rightFrom 0 L=false):=by show rightFrom 0 L=_;rw [HR2.out,HOK.out];simp [g1]
     clear hd0 hd1 hgp
     go_wp2
     go_ret
     exact ⟨ret_bool hE.out.symm,hbw.alloc hsz _⟩
  ·obtain rfl:k=n:=by omega
   have hE:Hid (rightFrom 0 L=true):=by
    show rightFrom 0 L=_
    rw [HR.out,List.drop_of_length_le (by rw [← hn.out];exact Nat.le_refl _)];rfl
   clear HR
   go_wp2
   go_ret
   exact ⟨ret_bool hE.out.symm,hbw⟩
theorem rightB_len {L:List (Int × Int)} (h:rightB L=true):L.length≤5000:=by unfold rightB at h;rw [Bool.and_eq_true,decide_eq_true_eq] at h;exact h.1
end Go.Proofs.YtacaanhnlfpbhaaGreat
namespace Go.Proofs.YtacaanhnlfpbhaaGreat
open Go.RowKit
set_option linter.unusedVariables false
set_option linter.unusedSimpArgs false
def bareB (nr:Nat) (a:Int) (ns:Nat) (mn mx:Int) (lz:Bool) (ix:Int) (nm:ByteArray) (f1 f2 f3 f4 f5:Bool):Bool:=
 (f1 || nr == 0) && (f2 || a == 0) && (f3 || ns == 0) && (f4 || mn == 0 && mx == 0 && !lz) && (f5 || ix == 0 && nm.toList.isEmpty)
def assertB (n:Int):Bool:=n == 1 || n == 2 || n == 4 || n == 8 || n == 16 || n == 32
end Go.Proofs.YtacaanhnlfpbhaaGreat
