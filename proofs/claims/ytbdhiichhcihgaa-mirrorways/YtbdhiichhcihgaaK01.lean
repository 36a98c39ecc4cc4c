/- HELPERS: texts of ours put together. -/
import Derived.Deep.SlicePairs
import Derived.RowKit
import Derived.Test.YtbdhiichhcihgaaRows
import Derived.JoinedCond
import Derived.OpenShut
import Derived.SizedLaws
import Derived.Lib.SmallJoins
import Derived.Test.YtbdhiichhcihgaaProg
import Derived.WalkKit
import Derived.ProofKit
import Derived.BigQuiet
import Derived.WalkSmall
import Derived.Deep.QuietTactic
import Derived.Deep.RegionWith
import Derived.Lib.MinMax
import Derived.Maps.AppendAt
import Derived.Laws.AppendOwnNone
import Derived.Lib.Small
import Derived.Deep.Cut
import Derived.Deep.CutRange
import Derived.Laws.EntriesVeiled
import Derived.OrdersHeld
import Derived.StillTail
import Derived.Tactics
import Derived.Below
import Derived.Deep.RegionHeld3
import Derived.Deep.MidRow
import Derived.Deep.OwnRows
import Derived.Laws.Rows
import Derived.WalkLawsBesides
import Derived.Deep.RegionLaw
import Derived.Laws.CopyOwn
import Derived.Lib.LazyBuf
import Derived.Laws.BitsLemmas
import Derived.Deep.RegionHeld2
namespace Go.Proofs.Ytbdhiichhcihgaa
open Go.RowKit Go.Deep Go.ChangeShapes Go.WideShapes
set_option linter.unusedVariables false
set_option linter.unusedSimpArgs false
structure Nv where
 k:Int
 r1:Option Addr
 r2:Nat
 r3:Nat
 a2:Int
 s1:Option Addr
 s2:Nat
 s3:Nat
 a4:Int
 a5:Int
 a6:Bool
 a7:Int
 a8:ByteArray
instance:Inhabited Nv:=⟨⟨0,none,0,0,0,none,0,0,0,0,false,0,⟨#[]⟩⟩⟩
abbrev Nv.cs (N:Nv):List Value:=[.int .i64 N.k,.slice N.r1 N.r2 N.r3,.int .i64 N.a2,.slice N.s1 N.s2 N.s3,.int .i64 N.a4,.int .i64 N.a5,.bool N.a6,.int .i64 N.a7,.string N.a8]
abbrev Nv.v (N:Nv):Value:=.agg #[.int .i64 N.k,.slice N.r1 N.r2 N.r3,.int .i64 N.a2,.slice N.s1 N.s2 N.s3,.int .i64 N.a4,.int .i64 N.a5,.bool N.a6,.int .i64 N.a7,.string N.a8]
inductive Tn where
 | mk (k:Int) (R:List (Int × Int)) (a:Int) (s:List Tn) (mn mx:Int) (lz:Bool) (ix:Int) (nm:ByteArray)
instance:Inhabited Tn:=⟨.mk 0 [] 0 [] 0 0 false 0 ⟨#[]⟩⟩
def N9 (w:World) (b o i:Nat) (N:Nv):Prop:=w.cell? ⟨b,o + i * 9,none⟩ = some (.int .i64 N.k) ∧ w.cell? ⟨b,o + i * 9 + 1,none⟩ = some (.slice N.r1 N.r2 N.r3) ∧ w.cell? ⟨b,o + i * 9 + 2,none⟩ = some (.int .i64 N.a2) ∧ w.cell? ⟨b,o + i * 9 + 3,none⟩ = some (.slice N.s1 N.s2 N.s3) ∧
 w.cell? ⟨b,o + i * 9 + 4,none⟩ = some (.int .i64 N.a4) ∧ w.cell? ⟨b,o + i * 9 + 5,none⟩ = some (.int .i64 N.a5) ∧ w.cell? ⟨b,o + i * 9 + 6,none⟩ = some (.bool N.a6) ∧ w.cell? ⟨b,o + i * 9 + 7,none⟩ = some (.int .i64 N.a7) ∧ w.cell? ⟨b,o + i * 9 + 8,none⟩ = some (.string N.a8)
def R2 (w:World) (B:Nat) (ad:Option Addr) (R:List (Int × Int)):Prop:=
 R ≠ [] → ∃ b o,ad = some ⟨b,o,none⟩ ∧ b < B ∧ ∀ i (hi:i < R.length),w.cell? ⟨b,o + i * 2,none⟩ = some (.int .i64 R[i].1) ∧ w.cell? ⟨b,o + i * 2 + 1,none⟩ = some (.int .i64 R[i].2)
abbrev I64ok (x:Int):Prop:=-9223372036854775808 ≤ x ∧ x ≤ 9223372036854775807
structure Nv.ok (N:Nv):Prop where
 k:I64ok N.k
 a2:I64ok N.a2
 a4:I64ok N.a4
 a5:I64ok N.a5
 a7:I64ok N.a7
 a8:N.a8.size ≤ maxLen
 r:N.r2 ≤ N.r3 ∧ N.r3 ≤ maxLen
 s:N.s2 ≤ N.s3 ∧ N.s3 ≤ maxLen
inductive TI (w:World) (B:Nat):Nv → Tn → Prop
 | mk {N:Nv} {R:List (Int × Int)} {ts:List Tn} {ND:Nat → Nv} (ok:N.ok) (hr:N.r2 = R.length) (hR:R2 w B N.r1 R) (hRk:∀ x ∈ R,I64ok x.1 ∧ I64ok x.2) (hs:N.s2 = ts.length)
   (hS:0 < ts.length → ∃ b o,N.s1 = some ⟨b,o,none⟩ ∧ b < B ∧ ∀ i,i < ts.length → N9 w b o i (ND i)) (hk:∀ i (hi:i < ts.length),TI w B (ND i) ts[i]) :
   TI w B N (.mk N.k R N.a2 ts N.a4 N.a5 N.a6 N.a7 N.a8)
theorem cell_eq {w w':World} {b:Nat} (h:w'.heap[b]? = w.heap[b]?) (o:Nat):w'.cell? ⟨b,o,none⟩ = w.cell? ⟨b,o,none⟩:=by simp only [World.cell?,h]
theorem N9.kept {w w':World} {b o i:Nat} {N:Nv} (h:N9 w b o i N) (hk:w'.heap[b]? = w.heap[b]?):N9 w' b o i N:=by
 obtain ⟨h0,h1,h2,h3,h4,h5,h6,h7,h8⟩:=h
 exact ⟨(cell_eq hk _).trans h0,(cell_eq hk _).trans h1,(cell_eq hk _).trans h2,(cell_eq hk _).trans h3,(cell_eq hk _).trans h4,(cell_eq hk _).trans h5,(cell_eq hk _).trans h6,(cell_eq hk _).trans h7,(cell_eq hk _).trans h8⟩
theorem R2.kept {w w':World} {B:Nat} {ad:Option Addr} {R:List (Int × Int)} (h:R2 w B ad R) (hk:∀ b,b < B → w'.heap[b]? = w.heap[b]?):R2 w' B ad R:=fun hn => by
 obtain ⟨b,o,h1,h2,h3⟩:=h hn
 exact ⟨b,o,h1,h2,fun i hi => ⟨(cell_eq (hk b h2) _).trans (h3 i hi).1,(cell_eq (hk b h2) _).trans (h3 i hi).2⟩⟩
theorem R2.le {w:World} {B B':Nat} {ad:Option Addr} {R:List (Int × Int)} (h:R2 w B ad R) (hB:B ≤ B'):R2 w B' ad R:=fun hn => by
 obtain ⟨b,o,h1,h2,h3⟩:=h hn
 exact ⟨b,o,h1,by omega,h3⟩
theorem TI.kept {w w':World} {B:Nat} {N:Nv} {t:Tn} (h:TI w B N t) (hk:∀ b,b < B → w'.heap[b]? = w.heap[b]?):TI w' B N t:=by
 induction h with
 | mk ok hr hR hRk hs hS hkk ih =>
  refine .mk ok hr (hR.kept hk) hRk hs (fun hp => ?_) ih
  obtain ⟨b,o,h1,h2,h3⟩:=hS hp
  exact ⟨b,o,h1,h2,fun i hi => (h3 i hi).kept (hk b h2)⟩
theorem TI.le {w:World} {B B':Nat} {N:Nv} {t:Tn} (h:TI w B N t) (hB:B ≤ B'):TI w B' N t:=by
 induction h with
 | mk ok hr hR hRk hs hS hkk ih =>
  refine .mk ok hr (hR.le hB) hRk hs (fun hp => ?_) ih
  obtain ⟨b,o,h1,h2,h3⟩:=hS hp
  exact ⟨b,o,h1,by omega,h3⟩
structure NodeTy (P:Program) (tn ts tr te ti tb tg:TypeId) (f:Nat → Field) (g0 g1:Field):Prop where
 hn:P.underlying tn = some (.struct #[f 0,f 1,f 2,f 3,f 4,f 5,f 6,f 7,f 8])
 cn:P.cellsOf tn = 9
 ty:(f 0).type = ti ∧ (f 1).type = tr ∧ (f 2).type = ti ∧ (f 3).type = ts ∧ (f 4).type = ti ∧ (f 5).type = ti ∧ (f 6).type = tb ∧ (f 7).type = ti ∧ (f 8).type = tg
 of:∀ i,i < 9 → (f i).offset = i
 ci:P.cellsOf ti = 1
 cr:P.cellsOf tr = 1
 cs:P.cellsOf ts = 1
 cb:P.cellsOf tb = 1
 cg:P.cellsOf tg = 1
 hi:P.underlying ti = some (.int .i64)
 hb:P.underlying tb = some .bool
 hg:P.underlying tg = some .string
 hs:P.underlying ts = some (.slice tn)
 hr:P.underlying tr = some (.slice te)
 he:P.underlying te = some (.struct #[g0,g1])
 ce:P.cellsOf te = 2
 og:g0.offset = 0 ∧ g1.offset = 1 ∧ g0.type = ti ∧ g1.type = ti
theorem i64ok {n:Int} (h:(Lit.int .i64 n).wf = true):I64ok n:=by
 simp [Lit.wf,IntKind.min,IntKind.signed,IntKind.bits] at h
 exact h
section
variable {H:Type} {enc:TypeId × Value → H} {P:Program} {w:World} {base:Nat} {spare:Nat → Bool} {held:Bool} {tn ts tr te ti tb tg:TypeId} {f:Nat → Field} {g0 g1:Field}
theorem open_ranges (S:NodeTy P tn ts tr te ti tb tg f g0 g1) {fuel:Nat} {cs:List Value} {x:DataW H × List MemPlace} (h:DataW.trod enc P w base spare held fuel tr cs = some x) :
  ∃ (ad:Option Addr) (n c:Nat) (R:List (Int × Int)),cs = [.slice ad n c] ∧ n = R.length ∧ n ≤ c ∧ c ≤ maxLen ∧ R2 w w.heap.size ad R ∧ ∀ x ∈ R,I64ok x.1 ∧ I64ok x.2:=by
 obtain ⟨o0,o1,t0,t1⟩:=S.og
 rcases open_slice_pairs S.hr S.he S.ce o0 o1 (by rw [t0];exact S.ci) (by rw [t1];exact S.ci) h with ⟨rfl,rfl⟩ | ⟨a,len,cap,m,n,V0,V1,D0,D1,P0,P1,rfl,hb,hl,hm,hmm,rfl,hx⟩
 ·exact ⟨none,0,0,[],rfl,rfl,Nat.le_refl _,by simp [maxLen],fun hn => absurd rfl hn,fun x hx => by cases hx⟩
 have hlm:len ≤ m:=by rw [hmm];split <;> omega
 rw [t0,t1] at hx
 have each:∀ i,i < len → ∃ q:Int × Int,w.cell? (a.add (i * 2)) = some (.int .i64 q.1) ∧ w.cell? (a.add (i * 2 + 1)) = some (.int .i64 q.2) ∧ I64ok q.1 ∧ I64ok q.2:=fun i hi => by
  obtain ⟨h1,h2,h3,h4⟩:=hx i (by omega)
  obtain ⟨n0,e0,_,w0⟩:=DataW.trod_int S.hi h3
  obtain ⟨n1,e1,_,w1⟩:=DataW.trod_int S.hi h4
  simp at e0 e1
  rw [e0] at h1
  rw [e1] at h2
  exact ⟨(n0,n1),h1,h2,i64ok w0,i64ok w1⟩
 obtain ⟨q,hq⟩:=choose_lt each
 refine ⟨some a,len,cap,(List.range len).map q,rfl,by simp,hl,hm,fun hn => ?_,fun x hx => ?_⟩
 ·have hpos:0 < len:=by
   rcases Nat.eq_zero_or_pos len with h0 | h0
   ·subst h0;simp at hn
   ·exact h0
  have hc0:=(hq 0 hpos).1
  have hsp:a.spot = none:=by simpa [Addr.add] using World.cell?_spot hc0
  obtain ⟨b,o,sp⟩:=a
  simp only at hsp
  subst hsp
  refine ⟨b,o,rfl,World.block_lt_of_cell? _ _ hc0,fun i hi => ?_⟩
  simp only [List.length_map,List.length_range] at hi
  have h1:=hq i hi
  rw [add_plain,add_plain] at h1
  simp only [List.getElem_map,List.getElem_range]
  exact ⟨h1.1,by rw [Nat.add_assoc];exact h1.2.1⟩
 ·simp only [List.mem_map,List.mem_range] at hx
  obtain ⟨i,hi,rfl⟩:=hx
  exact (hq i hi).2.2
end
end Go.Proofs.Ytbdhiichhcihgaa
namespace Go.Proofs.Ytbdhiichhcihgaa
open Go.ChangeShapes Go.WideShapes Go.ChangeAt Go.RowKit
set_option linter.unusedVariables false
set_option linter.unusedSimpArgs false
theorem ownB:ownKnob Try.prog.godebug = none:=by kernel_rfl
theorem laidOut:laidOutB Try.prog = true:=by kernel_rfl
theorem cells3a:Try.prog.cellsOf 3 = 1:=by kernel_rfl
theorem lt_of_cell {w:World} {b o:Nat} {v:Value} (h:w.cell? ⟨b,o,none⟩ = some v):b < w.heap.size:=by
 rcases Nat.lt_or_ge b w.heap.size with h1 | h1
 ·exact h1
 ·have:w.heap[b]? = none:=Array.getElem?_eq_none h1
  simp [World.cell?,this] at h
def nf:Nat → Field
 | 0 => { name := "Kind", type := 3, offset := 0, embedded := false, tag := "", pkgPath := "", byteOffset := 0 }
 | 1 => { name := "Ranges", type := 22, offset := 1, embedded := false, tag := "", pkgPath := "", byteOffset := 8 }
 | 2 => { name := "Assert", type := 3, offset := 2, embedded := false, tag := "", pkgPath := "", byteOffset := 32 }
 | 3 => { name := "Subs", type := 23, offset := 3, embedded := false, tag := "", pkgPath := "", byteOffset := 40 }
 | 4 => { name := "Min", type := 3, offset := 4, embedded := false, tag := "", pkgPath := "", byteOffset := 64 }
 | 5 => { name := "Max", type := 3, offset := 5, embedded := false, tag := "", pkgPath := "", byteOffset := 72 }
 | 6 => { name := "Lazy", type := 4, offset := 6, embedded := false, tag := "", pkgPath := "", byteOffset := 80 }
 | 7 => { name := "Index", type := 3, offset := 7, embedded := false, tag := "", pkgPath := "", byteOffset := 88 }
 | _ => { name := "Name", type := 9, offset := 8, embedded := false, tag := "", pkgPath := "", byteOffset := 96 }
theorem nodeTy : NodeTy Try.prog 25 23 22 39 3 4 9 nf { name := "Lo", type := 3, offset := 0, embedded := false, tag := "", pkgPath := "", byteOffset := 0 } { name := "Hi", type := 3, offset := 1, embedded := false, tag := "", pkgPath := "", byteOffset := 8 } where
 hn:=Try.underlying25
 cn:=by kernel_rfl
 ty:=⟨rfl,rfl,rfl,rfl,rfl,rfl,rfl,rfl,rfl⟩
 of:=fun i hi => by
  match i,hi with
  | 0,_ => rfl
  | 1,_ => rfl
  | 2,_ => rfl
  | 3,_ => rfl
  | 4,_ => rfl
  | 5,_ => rfl
  | 6,_ => rfl
  | 7,_ => rfl
  | 8,_ => rfl
 ci:=by kernel_rfl
 cr:=by kernel_rfl
 cs:=by kernel_rfl
 cb:=by kernel_rfl
 cg:=by kernel_rfl
 hi:=Try.underlying3
 hb:=Try.underlying4
 hg:=Try.underlying9
 hs:=Try.underlying23
 hr:=Try.underlying22
 he:=Try.underlying39
 ce:=by kernel_rfl
 og:=⟨rfl,rfl,rfl,rfl⟩
set_option maxRecDepth 100000
section
variable {H:Type} {enc:TypeId × Value → H} {W:World} {base:Nat} {v:Value} {d:DataW H} {p:List MemPlace}
end
end Go.Proofs.Ytbdhiichhcihgaa
namespace Go.Proofs.Ytbdhiichhcihgaa
open Go.RowKit
set_option linter.unusedVariables false
set_option linter.unusedSimpArgs false
mutual
def Tn.nodes:Tn → Nat
 | .mk _ _ _ s _ _ _ _ _ => 1 + nodesL s
def nodesL:List Tn → Nat
 | [] => 0
 | t :: ts => t.nodes + nodesL ts
end
mutual
def Tn.depth:Tn → Nat
 | .mk _ _ _ s _ _ _ _ _ => 1 + depthL s
def depthL:List Tn → Nat
 | [] => 0
 | t :: ts => max t.depth (depthL ts)
end
mutual
def Tn.gr:Tn → Int → Int
 | .mk _ _ _ s _ _ _ _ _,l => grL s (l - 1)
def grL:List Tn → Int → Int
 | [],l => l
 | t :: ts,l => if l < 0 then l else grL ts (t.gr l)
end
theorem grL_neg (ts:List Tn) (l:Int) (h:l < 0):grL ts l = l:=by cases ts <;> simp [grL,h]
mutual
theorem Tn.gr_spec:∀ (t:Tn) (l:Int),0 ≤ l → (t.gr l ≤ l - 1) ∧ (-1 ≤ t.gr l) ∧ (0 ≤ t.gr l ↔ (t.nodes:Int) ≤ l) ∧ (0 ≤ t.gr l → t.gr l = l - t.nodes)
 | .mk _ _ _ s _ _ _ _ _,l,h => by
  have:=grL_spec s (l - 1) (by omega)
  simp only [Tn.gr,Tn.nodes]
  omega
theorem grL_spec:∀ (ts:List Tn) (l:Int),-1 ≤ l → (grL ts l ≤ l) ∧ (-1 ≤ grL ts l) ∧ (0 ≤ grL ts l ↔ (nodesL ts:Int) ≤ l) ∧ (0 ≤ grL ts l → grL ts l = l - nodesL ts)
 | [],l,h => by simp [grL,nodesL];omega
 | t :: ts,l,h => by
  simp only [grL,nodesL]
  by_cases hl:l < 0
  ·simp only [hl,if_true]
   omega
  ·have h1:=Tn.gr_spec t l (by omega)
   have h2:=grL_spec ts (t.gr l) (by omega)
   simp only [hl,if_false]
   omega
end
theorem grL_drop (ts:List Tn) (i:Nat) (hi:i < ts.length) (l:Int) (h:0 ≤ l):grL (ts.drop i) l = grL (ts.drop (i + 1)) (ts[i].gr l):=by
 rw [List.drop_eq_getElem_cons hi]
 simp only [grL]
 rw [if_neg (by omega)]
theorem Tn.pos (t:Tn):1 ≤ t.nodes:=by cases t;simp only [Tn.nodes];omega
theorem info3:(Try.prog.info? 3).map (fun i => (i.zero,i.size,i.bytes)) = some (some (.int .i64 0),1,8):=by kernel_rfl
theorem ret_bool {a b:Bool} (h:a = b):Ending.returned (.bool a) = .returned (.bool b):=by rw [h]
theorem ret_int {a b:Int} (h:a = b):Ending.returned (.int .i64 a) = .returned (.int .i64 b):=by rw [h]
def Moved (w w':World) (v v':Value):Prop:=(v'.ownBlock = v.ownBlock ∧ w.grownBy w' v.ownBlock) ∨ (v'.ownBlock = some w.heap.size ∧ w.grownBy w' none)
theorem own_setCell {w:World} {base e size n:Nat} {v u:Value} {xs:List Value} {a:Addr} (h:w.ownsRow base e size v n xs) (hne:v.ownBlock ≠ some a.block):(w.setCell a u).ownsRow base e size v n xs:=by
 refine ⟨h.1,?_⟩
 rcases h.2 with hn | ⟨g,cap,cur,rfl,hb,hgg,rest⟩
 ·exact .inl hn
 ·refine .inr ⟨g,cap,cur,rfl,hb,?_,rest⟩
  rw [Below.heap_setCell _ _ _ _ (fun e => hne (by simp [Value.ownBlock,e]))]
  exact hgg
theorem own_ne {w:World} {base e size n g:Nat} {v:Value} {xs:List Value} {c:Array Value} {t:TypeId} {fr:Nat × Nat} (ho:w.ownsRow base e size v n xs) (hg:w.heap[g]? = some (.cells c t fr)) (ht:t ≠ e):v.ownBlock ≠ some g:=by
 intro h
 rcases ho.2 with ⟨rfl,_⟩ | ⟨b,cap,cur,rfl,hb,hgg,rest⟩
 ·simp [Value.ownBlock] at h
 ·simp [Value.ownBlock] at h
  subst h
  rw [hgg] at hg
  simp at hg
  exact ht hg.2.1.symm
theorem hid' {p:Prop} (h:p):Hid p:=h
theorem nine' {w:World} {b:Nat} {t:TypeId} {a0 a1 a2 a3 a4 a5 a6 a7 a8:Value} (h:w.heap[b]? = some (.cells #[a0,a1,a2,a3,a4,a5,a6,a7,a8] t (0,0))) :
  w.cell? ⟨b,0,none⟩ = some a0 ∧ w.cell? ⟨b,1,none⟩ = some a1 ∧ w.cell? ⟨b,2,none⟩ = some a2 ∧ w.cell? ⟨b,3,none⟩ = some a3 ∧ w.cell? ⟨b,4,none⟩ = some a4 ∧ w.cell? ⟨b,5,none⟩ = some a5 ∧ w.cell? ⟨b,6,none⟩ = some a6 ∧ w.cell? ⟨b,7,none⟩ = some a7 ∧ w.cell? ⟨b,8,none⟩ = some a8:=
 ⟨Joins.cell_of_block h 0,Joins.cell_of_block h 1,Joins.cell_of_block h 2,Joins.cell_of_block h 3,Joins.cell_of_block h 4,Joins.cell_of_block h 5,Joins.cell_of_block h 6,Joins.cell_of_block h 7,Joins.cell_of_block h 8⟩
set_option maxRecDepth 100000 in
set_option maxHeartbeats 4000000 in
theorem great27 {w0:World} {B:Nat} {N:Nv} {t:Tn} (h:TI w0 B N t):∀ (l:Int) (w:World),0 ≤ l ∧ l ≤ 4194304 → B ≤ w.heap.size → (∀ b,b < B → w.heap[b]? = w0.heap[b]?) →
  Calls Try.prog 10 #[N.v,.int .i64 l] w fun e w' => e = .returned (.int .i64 (t.gr l)) ∧ Below w.heap.size w w':=by
 induction h with
 | @mk N R ts ND ok hr hR hRk hs hS hk ih =>
 intro l w hl hB hw
 have hmax:=ok.s
 obtain ⟨k,r1,r2,r3,a2,s1,s2,s3,a4,a5,a6,a7,a8⟩:=N
 simp only at hs hS hmax
 simp only [Tn.gr]
 have HG:=grL_spec ts (l - 1) (by omega)
 have ad0:IntKind.i64.wrap (l - 1) = l - 1:=by simp [IntKind.wrap,IntKind.bits,IntKind.signed];omega
 obtain ⟨r,hrr⟩:∃ r,r = grL ts (l - 1):=⟨_,rfl⟩
 rw [← hrr]
 have HR:=hid' hrr
 have HW:=hid' hw
 have HS:=hid' hS
 have IH:=hid' ih
 have hm2:s2 ≤ 9223372036854775807:=by have:maxLen = 9223372036854775807:=rfl;omega
 have HL:=hid' hs
 have HHL:=hid' hl
 clear ok hr hR hRk hk hS hw hrr ih hmax HG hs
 go_enter Try.func10,Try.ntmps10
 go_wp2_with fail
 go_loopw [1,5] (fun u y wq => ∃ i:Nat,y = .int .i64 (i:Int) ∧ i ≤ s2 ∧ (∃ q,u = .int .i64 q ∧ (-1 ≤ q ∧ q ≤ 4194304) ∧ Hid (grL (ts.drop i) q = r)) ∧ Hid (Below w.heap.size w wq) ∧ Hid (wq.heap[w.heap.size]? = some (.cells #[.int .i64 k,.slice r1 r2 r3,.int .i64 a2,.slice s1 s2 s3,.int .i64 a4,.int .i64 a5,.bool a6,.int .i64 a7,.string a8] 25 (0,0)))) (fun _ y _ => s2 - (intOf y).toNat)
 case atStart => exact ⟨0,rfl,by omega,⟨l - 1,rfl,by omega,HR.out.symm⟩,Joins.below_alloc1 w _,heap_alloc_new w _⟩
 case round =>
  obtain ⟨i,rfl,hi,⟨q,rfl,hq,HQ⟩,BK,BX⟩:=hrel
  obtain ⟨o0,o1,o2,o3,o4,o5,o6,o7,o8⟩:=nine' BX.out
  by_cases hil:i < s2
  ·have b1:decide ((i:Int) < (s2:Int)) = true:=by simp;omega
   have b2:(i:Int) < (s2:Int):=by omega
   by_cases hq0:0 ≤ q
   ·have b3:decide (q ≥ 0) = true:=by simp;omega
    have b3':decide (0 ≤ q) = true:=by simp;omega
    have hlt:i < ts.length:=by rw [← HL.out];exact hil
    obtain ⟨b,o,hs1,hb,hc⟩:=HS.out (by omega)
    subst hs1
    have hwk:∀ b,b < B → wr.heap[b]? = w0.heap[b]?:=fun b hb => (BK.out.block b (by omega)).trans (HW.out b hb)
    obtain ⟨n0,n1,n2,n3,n4,n5,n6,n7,n8⟩:=(hc i hlt).kept (hwk b hb)
    have HC:=IH.out i hlt q wr ⟨hq0,hq.2⟩ (by have:=BK.out.size;omega) hwk
    have hsp:=Tn.gr_spec ts[i] q hq0
    rw [grL_drop ts i hlt q hq0] at HQ
    obtain ⟨g,hg⟩:∃ g,g = ts[i].gr q:=⟨_,rfl⟩
    rw [← hg] at HC HQ hsp
    have hg2:-1 ≤ g ∧ g ≤ 4194304:=by omega
    obtain ⟨M,hM⟩:∃ M,M = ND i:=⟨_,rfl⟩
    rw [← hM] at HC n0 n1 n2 n3 n4 n5 n6 n7 n8
    have ad1:IntKind.i64.wrap ((i:Int) + 1) = (i:Int) + 1:=by simp [IntKind.wrap,IntKind.bits,IntKind.signed];omega
    clear hM hg hwk hc hsp hlt
    go_wp2_with (first | (go_at_call 10;(with_reducible refine HC.mono ?_);rintro e w2 ⟨rfl,hb2⟩;have HB2:=hid' hb2;clear hb2 HC))
    refine ⟨⟨i + 1,by push_cast;rfl,by omega,⟨_,rfl,hg2,HQ.out⟩,?_,?_⟩,?_⟩
    ·exact BK.out.trans (Joins.below_le HB2.out BK.out.size)
    ·exact (HB2.out.block _ (Array.getElem?_eq_some_iff.1 BX.out).1).trans BX.out
    ·simp [intOf]
     omega
   ·have b3:decide (q ≥ 0) = false:=by simp;omega
    have b3':decide (0 ≤ q) = false:=by simp;omega
    have e:=HQ.out
    rw [grL_neg _ _ (by omega)] at e
    go_wp2
    go_ret
    exact ⟨by first | rfl | exact ret_int e,BK.out⟩
  ·have b1:decide ((i:Int) < (s2:Int)) = false:=by simp;omega
   obtain rfl:i = s2:=by omega
   have e:=HQ.out
   rw [HL.out,List.drop_length] at e
   simp only [grL] at e
   go_wp2
   go_ret
   exact ⟨by first | rfl | exact ret_int e,BK.out⟩
theorem deep10 {w:World} {N:Nv} {t:Tn} (h:TI w w.heap.size N t):Calls Try.prog 4 #[N.v] w fun e w' => e = .returned (.bool (decide (4194304 < t.nodes))) ∧ Below w.heap.size w w':=by
 have HC:=great27 h 4194304 (w.alloc (.cells (Array.mk N.cs) 25)) (by omega) (by simp) (fun b hb => heap_alloc_old w _ hb)
 have HS:=Tn.gr_spec t 4194304 (by omega)
 obtain ⟨k,r1,r2,r3,a2,s1,s2,s3,a4,a5,a6,a7,a8⟩:=N
 obtain ⟨g,hg⟩:∃ g,g = t.gr 4194304:=⟨_,rfl⟩
 rw [← hg] at HC HS
 have e1:decide (g < 0) = decide (4194304 < t.nodes):=by rw [Bool.eq_iff_iff];simp;omega
 clear hg HS
 go_enter Try.func4,Try.ntmps4
 go_wp2_with (first | (go_at_call 10;(with_reducible refine HC.mono ?_);rintro e w2 ⟨rfl,hb2⟩;have HB2:=hid' hb2;clear hb2 HC))
 go_ret
 exact ⟨by first | rfl | exact ret_bool e1,(Joins.below_alloc1 w _).trans (Joins.below_le HB2.out (by simp))⟩
end Go.Proofs.Ytbdhiichhcihgaa
namespace Go.Proofs.Ytbdhiichhcihgaa
open Go.RowKit Go.Lib
set_option linter.unusedVariables false
set_option linter.unusedSimpArgs false
def dom (r:Int):Bool:=decide (0 ≤ r ∧ r < 55296 ∨ 57343 < r ∧ r ≤ 1114111)
def RowAt (N:Nat) (w:World) (v:Value) (L:List (Int × Int)):Prop:=∃ ad cap,v = .slice ad L.length cap ∧ (L.length = 0 ∨ ∃ b off,ad = some ⟨b,off,none⟩ ∧ b < N ∧
 (∀ k,k < L.length → w.cell? ⟨b,off + k * 2,none⟩ = some (.int .i64 (L.getD k (0,0)).1)) ∧ (∀ k,k < L.length → w.cell? ⟨b,off + k * 2 + 1,none⟩ = some (.int .i64 (L.getD k (0,0)).2)))
theorem RowAt.below {N N' B:Nat} {w w':World} {v:Value} {L:List (Int × Int)} (h:RowAt N w v L) (hb:Below B w w') (hB:N ≤ B) (hN:N ≤ N'):RowAt N' w' v L:=by
 obtain ⟨ad,cap,hv,h | ⟨b,off,ha,hbN,h0,h1⟩⟩:=h
 ·exact ⟨ad,cap,hv,.inl h⟩
 ·exact ⟨ad,cap,hv,.inr ⟨b,off,ha,by omega,fun k hk => (hb.cell (p:=⟨b,off + k * 2,none⟩) (by show b < B;omega)).trans (h0 k hk),fun k hk => (hb.cell (p:=⟨b,off + k * 2 + 1,none⟩) (by show b < B;omega)).trans (h1 k hk)⟩⟩
def gapB (g:Int × Int):Bool:=decide (g.1 < 55296 ∧ 57343 < g.2)
def okG (least:Int) (g:Int × Int):Bool:=decide (least ≤ g.1) && decide (g.1 ≤ g.2) && dom g.1 && dom g.2 && !gapB g
def rightFrom:Int → List (Int × Int) → Bool
 | _,[] => true
 | least,g :: t => okG least g && rightFrom (g.2 + 2) t
def rightB (L:List (Int × Int)):Bool:=decide (L.length ≤ 5000) && rightFrom 0 L
theorem drop_consR (L:List (Int × Int)) (k:Nat) (h:k < L.length):L.drop k = L.getD k (0,0) :: L.drop (k + 1):=by
 rw [List.drop_eq_getElem_cons h];simp [h]
theorem rightB_len {L:List (Int × Int)} (h:rightB L = true):L.length ≤ 5000:=by unfold rightB at h;rw [Bool.and_eq_true,decide_eq_true_eq] at h;exact h.1
end Go.Proofs.Ytbdhiichhcihgaa
namespace Go.Proofs.Ytbdhiichhcihgaa
open Go.RowKit
set_option linter.unusedVariables false
set_option linter.unusedSimpArgs false
def bareB (nr:Nat) (a:Int) (ns:Nat) (mn mx:Int) (lz:Bool) (ix:Int) (nm:ByteArray) (f1 f2 f3 f4 f5:Bool):Bool:=
 (f1 || nr == 0) && (f2 || a == 0) && (f3 || ns == 0) && (f4 || mn == 0 && mx == 0 && !lz) && (f5 || ix == 0 && nm.toList.isEmpty)
def assertB (n:Int):Bool:=n == 1 || n == 2 || n == 4 || n == 8 || n == 16 || n == 32
def okC (c:Int) (i:Nat):Bool:=decide (97 ≤ c ∧ c ≤ 122 ∨ 65 ≤ c ∧ c ≤ 90 ∨ c = 95 ∨ 48 ≤ c ∧ c ≤ 57 ∧ i ≠ 0)
def okAt (s:ByteArray) (i:Nat):Bool:=if h:i < s.size then okC (s[i].toNat:Int) i else true
def nameB (s:ByteArray):Bool:=decide (1 ≤ s.size) && decide (s.size ≤ 32) && (List.range s.size).all (okAt s)
theorem okAt_eq {s:ByteArray} {i:Nat} (h:i < s.size):okAt s i = okC (s[i].toNat:Int) i:=by unfold okAt;rw [dif_pos h]
theorem name_false {s:ByteArray} (i:Nat) (hi:i < s.size) (h:okC (s[i].toNat:Int) i = false):nameB s = false:=by
 have e:(List.range s.size).all (okAt s) = false:=by
  rw [List.all_eq_false]
  exact ⟨i,by simpa using hi,by rw [okAt_eq hi,h];simp⟩
 unfold nameB
 rw [e];simp
theorem name_true {s:ByteArray} (h1:1 ≤ s.size) (h2:s.size ≤ 32) (h:∀ j,j < s.size → okAt s j = true):nameB s = true:=by
 unfold nameB
 rw [decide_eq_true h1,decide_eq_true h2]
 simpa using h
theorem name_long {s:ByteArray} (h:¬ (1 ≤ s.size ∧ s.size ≤ 32)):nameB s = false:=by
 unfold nameB
 by_cases h1:1 ≤ s.size
 ·rw [decide_eq_false (show ¬ s.size ≤ 32 by omega)];simp
 ·rw [decide_eq_false h1];simp
def nodeB (k:Int) (R:List (Int × Int)) (a:Int) (n:Nat) (mn mx:Int) (lz:Bool) (ix:Int) (nm:ByteArray):Bool:=
 if k = 1 then bareB R.length a n mn mx lz ix nm false false false false false
 else if k = 2 then rightB R && bareB R.length a n mn mx lz ix nm true false false false false
 else if k = 3 then assertB a && bareB R.length a n mn mx lz ix nm false true false false false
 else if k = 4 ∨ k = 5 then decide (2 ≤ n) && bareB R.length a n mn mx lz ix nm false false true false false
 else if k = 6 then decide (n = 1) && decide (0 ≤ mn) && decide (mn ≤ 1000) && (decide (mx = -1) || decide (mn ≤ mx) && decide (mx ≤ 1000)) && bareB R.length a n mn mx lz ix nm false false true true false
 else if k = 7 then decide (n = 1) && decide (1 ≤ ix) && decide (ix ≤ 500) && (nm.toList.isEmpty || nameB nm) && bareB R.length a n mn mx lz ix nm false false true false true
 else false
theorem R2.row {w:World} {B:Nat} {N:Nv} {R:List (Int × Int)} (h:R2 w B N.r1 R) (hr:N.r2 = R.length):RowAt B w (.slice N.r1 N.r2 N.r3) R:=by
 refine ⟨N.r1,N.r3,by rw [hr],?_⟩
 rcases R with _ | ⟨x,R⟩
 ·exact .inl rfl
 ·obtain ⟨b,o,h1,h2,h3⟩:=h (by simp)
  refine .inr ⟨b,o,h1,h2,fun k hk => ?_,fun k hk => ?_⟩
  ·rw [(h3 k hk).1];simp only [List.getD_eq_getElem?_getD,List.getElem?_eq_getElem hk,Option.getD_some]
  ·rw [(h3 k hk).2];simp only [List.getD_eq_getElem?_getD,List.getElem?_eq_getElem hk,Option.getD_some]
theorem nodeB_ne {k:Int} {R:List (Int × Int)} {a:Int} {n:Nat} {mn mx:Int} {lz:Bool} {ix:Int} {nm:ByteArray} (h:k ≠ 1 ∧ k ≠ 2 ∧ k ≠ 3 ∧ k ≠ 4 ∧ k ≠ 5 ∧ k ≠ 6 ∧ k ≠ 7):nodeB k R a n mn mx lz ix nm = false:=by
 simp [nodeB,h]
theorem below_two' (w:World) (o o':Obj):Below w.heap.size w ((w.alloc o).alloc o'):=(Joins.below_alloc1 w o).trans (Joins.below_le (Joins.below_alloc1 _ o') (by simp))
mutual
def Tn.fine:Tn → Bool
 | .mk k R a s mn mx lz ix nm => nodeB k R a s.length mn mx lz ix nm && fineL s
def fineL:List Tn → Bool
 | [] => true
 | t :: ts => t.fine && fineL ts
end
def Tn.sound (t:Tn):Bool:=t.fine && decide (t.depth ≤ 10000) && decide (t.nodes ≤ 200000)
theorem hid {p:Prop} (h:p):Hid p:=h
theorem row_kept {w w':World} {base e size n:Nat} {v:Value} {xs:List Value} (h:w.ownsRow base e size v n xs) (hk:∀ b,v.ownBlock = some b → w'.heap[b]? = w.heap[b]?):w'.ownsRow base e size v n xs:=by
 refine ⟨h.1,?_⟩
 rcases h.2 with hn | ⟨g,cap,cur,rfl,hb,hgg,rest⟩
 ·exact .inl hn
 ·exact .inr ⟨g,cap,cur,rfl,hb,(hk g rfl).trans hgg,rest⟩
end Go.Proofs.Ytbdhiichhcihgaa
namespace Go.Proofs.Ytbdhiichhcihgaa
open Go Go.RowKit
set_option linter.unusedVariables false
section
variable {P:Program} {ops:Array Oper} {Q:Exit → Act → World → Prop} {md:Region.Mode} {S:World → Prop} {L:Nat}
def wpAnyX (P:Program) (md:Region.Mode) (ops:Array Oper) (Q:Exit → Act → World → Prop) (S:World → Prop) (L:Nat):Nat → Array Bool → Act → World → Prop
 | 0,listed,a,w => Region.ready md ops listed = [] ∧ Q .normal a w
 | fuel + 1,listed,a,w =>
  (Region.ready md ops listed = [] → Q .normal a w) ∧
  ∀ i ∈ Region.ready md ops listed,wpOp P ops Q i (fun a' w' => (i ≠ L → S w') ∧ wpAnyX P md ops Q S L fuel (listed.setIfInBounds i true) a' w') a w
theorem wpAny_of_X:∀ (fuel:Nat) (listed:Array Bool) (a:Act) (w:World),wpAnyX P md ops Q S L fuel listed a w → wpAny P md ops Q fuel listed a w
 | 0,_,_,_,h => h
 | fuel + 1,_,_,_,h => ⟨h.1,fun i hi => wpOp_mono (fun a' w' h' => wpAny_of_X fuel _ a' w' h'.2) (h.2 i hi)⟩
theorem wpAnyX_first {i:Nat} {oi:Oper} {v:Value} (hi:ops[i]? = some oi) (hsel:∀ (j:Nat) (o:Oper) cs b,ops[j]? = some o → o.op ≠ .select cs b)
  (hQ:∀ c a w,Q (.panic c) (a.put oi.dst v) w → Q (.panic c) a w) (hL:Region.waitsFor md ops L i = true) :
  ∀ (fuel:Nat) (listed:Array Bool) (a:Act) (w:World),
   (∀ j oj,ops[j]? = some oj → j ≠ i → listed.getD j true = false → (∀ e ∈ oj.after,Region.binds md e = true → e.on ≠ i) → oi.apart ops oj = true) →
   i ∈ Region.ready md ops listed → YieldsIf P ops S oi v a → S w →
   wpAnyX P md ops Q S L fuel (listed.setIfInBounds i true) (a.put oi.dst v) w → wpAnyX P md ops Q S L (fuel + 1) listed a w:=by
 intro fuel
 induction fuel with
 | zero =>
  intro listed a w _ hr hy hS H
  refine ⟨fun h => (by rw [h] at hr;cases hr),fun j hj => ?_⟩
  by_cases hji:j = i
  ·subst hji;exact hy.wpOp hi hS ⟨fun _ => hS,H⟩
  ·have:=ready_mono hj hji
   rw [H.1] at this
   cases this
 | succ fuel ih =>
  intro listed a w hfree hr hy hS H
  refine ⟨fun h => (by rw [h] at hr;cases hr),fun j hj => ?_⟩
  by_cases hji:j = i
  ·subst hji;exact hy.wpOp hi hS ⟨fun _ => hS,H⟩
  ·have h1:=H.2 j (ready_mono hj hji)
   obtain ⟨hjun,oj,hoj,hall⟩:=mem_ready.1 hj
   have hnot:∀ e ∈ oj.after,Region.binds md e = true → e.on ≠ i:=fun e he hb heq => by
    have h1:=hall e he hb
    have h0:=(mem_ready.1 hr).1
    rw [heq] at h1
    rcases Nat.lt_or_ge i listed.size with h' | h'
    ·simp [h'] at h0 h1;rw [h0] at h1;cases h1
    ·simp [Array.getElem?_eq_none h'] at h1
   have hjL:j ≠ L:=fun e => by
    subst e
    obtain ⟨o',ho',e,he,hb,hon⟩:=Region.waitsFor_spec hL
    have:o' = oj:=Option.some.inj (ho'.symm.trans hoj)
    subst this
    exact hnot e he hb hon
   have h2:=wpOp_putIf hoj (hfree j oj hoj hji hjun hnot) (fun cs b => hsel i oi cs b hi) (fun cs b => hsel j oj cs b hoj) hQ hy h1
   have hfree':∀ k ok,ops[k]? = some ok → k ≠ i → (listed.setIfInBounds j true).getD k true = false →
     (∀ e ∈ ok.after,Region.binds md e = true → e.on ≠ i) → oi.apart ops ok = true:=fun k ok hk hki hun hno => by
    refine hfree k ok hk hki ?_ hno
    by_cases hjk:j = k
    ·subst hjk;exact hjun
    ·rw [getD_set_ne true hjk] at hun;exact hun
   refine wpOp_mono (fun a' w' h3 => ⟨fun _ => h3.2.1 hjL,ih (listed.setIfInBounds j true) a' w' hfree' (ready_mono hr (Ne.symm hji)) h3.1 (h3.2.1 hjL) ?_⟩) h2
   rw [Array.setIfInBounds_comm _ _ hji]
   exact h3.2.2
def wpLex (P:Program) (ops:Array Oper) (Q:Exit → Act → World → Prop) (S:World → Prop) (K:Act → Prop):List Oper → Act → Prop
 | [],a => K a
 | o :: l,a => ∃ v,YieldsIf P ops S o v a ∧ (∀ c a w,Q (.panic c) (a.put o.dst v) w → Q (.panic c) a w) ∧ wpLex P ops Q S K l (a.put o.dst v)
theorem lex_cons {K:Act → Prop} {o:Oper} {l:List Oper} {a:Act} (v:Value) (hw:Region.wanted o (yielded ops a.tmps) = true) (hv:∀ w,S w → (execOp a.eval o).run P w = .ok (.value v) w)
  (hQ:∀ c a w,Q (.panic c) (a.put o.dst v) w → Q (.panic c) a w) (h:wpLex P ops Q S K l (a.put o.dst v)):wpLex P ops Q S K (o :: l) a:=⟨v,.inl ⟨hw,hv⟩,hQ,h⟩
theorem lex_nil {K:Act → Prop} {a:Act} (h:K a):wpLex P ops Q S K [] a:=h
end
end Go.Proofs.Ytbdhiichhcihgaa
namespace Go.Proofs.Ytbdhiichhcihgaa
open Go.RowKit
set_option linter.unusedVariables false
set_option linter.unusedSimpArgs false
structure Iv where
 op:Int
 x:Int
 y:Int
 a:Int
 r1:Option Addr
 r2:Nat
 r3:Nat
instance:Inhabited Iv:=⟨⟨0,0,0,0,none,0,0⟩⟩
structure In where
 op:Int
 x:Int
 y:Int
 a:Int
 R:List (Int × Int)
instance:Inhabited In:=⟨⟨0,0,0,0,[]⟩⟩
theorem run_append_moveN {P:Program} (w:World) (base:Nat) (t ty e:TypeId) (i:TypeInfo) (z:Value) (size bytes:Nat) (ht:P.underlying t = some (.slice e)) (hi:P.info? e = some i) (hz:i.zero = some z)
  (hsize:i.size = size) (hby:i.bytes = bytes) (hzs:z.cells.size = size) (hpos:0 < size)
  (v:Value) (n:Nat) (xs:List Value) (hown:w.ownsRow base e size v n xs)
  (a:Addr) (m c:Nat) (news:List Value) (hl:news.length = m * size) (hm:0 < m) (hnews:∀ j u,news[j]? = some u → w.cell? (a.add j) = some u) (h1:∀ u ∈ news,u.oneCell' = true)
  (h63:n + m ≤ maxLen) (hbytes:(n + m) * bytes ≤ 140737488355328) (hbase:base ≤ w.heap.size) :
  ∃ v' w',(Builtin.append_ #[t,t] ty #[v,.slice (some a) m c]).run P w = .ok v' w' ∧ w'.ownsRow base e size v' (n + m) (xs ++ news) ∧ Moved w w' v v':=by
 obtain ⟨v',w',hrun,h2,h3,h4,h5⟩:=run_append_own_at (P:=P) w base t ty e i z size bytes ht hi hz hsize hby hzs hpos v n xs hown a m c news hl hnews h1 h63 hbytes hbase
 refine ⟨v',w',hrun,h2,?_⟩
 rcases hown.2 with ⟨rfl,rfl⟩ | ⟨g,cap,cur,rfl,hbg,hg,hnc,hcm,hcs,htake⟩
 ·rcases h5 with h5 | h5
  ·exact .inl ⟨h5,h3⟩
  ·exact .inr ⟨h5,h3⟩
 ·by_cases hroom:n + m ≤ cap
  ·have hr:=run_append_room (P:=P) w t ty e i ht hi g n cap cur hg a m c news (by rw [hsize];omega) hnews h1 hroom (by rw [hsize,hcs,hl,← Nat.add_mul];exact Nat.mul_le_mul_right _ hroom)
   have he:=hrun.symm.trans hr
   injection he with e1 e2
   left
   exact ⟨by rw [e1];rfl,h3⟩
  ·have holds:∀ j u,xs[j]? = some u → w.cell? ((⟨g,0,none⟩:Addr).add j) = some u:=hown.cells (g:=g) rfl
   have hr:=run_append_grow (P:=P) w t ty e i z ht hi hz ⟨g,0,none⟩ n cap xs (by rw [hsize];exact hown.1) holds a m c news (by rw [hsize];omega) hnews (by omega) (by unfold maxLen at h63;omega) (growslice_fits (by omega) (by rw [hby];exact hbytes))
   have he:=hrun.symm.trans hr
   injection he with e1 e2
   right
   refine ⟨by rw [e1];rfl,?_⟩
   rw [e2]
   exact ⟨rfl,rfl,rfl,by simp,fun k hk _ => heap_alloc_old w.drew _ hk⟩
theorem moved_old' {w w':World} {v v':Value} {k:Nat} (h:Moved w w' v v') (hk:k < w.heap.size) (hn:v.ownBlock ≠ some k):w'.heap[k]? = w.heap[k]?:=by
 rcases h with ⟨_,h⟩ | ⟨_,h⟩
 ·exact h.block k hk (fun e => hn e.symm)
 ·exact h.block k hk (by simp)
end Go.Proofs.Ytbdhiichhcihgaa
namespace Go.Lk
open Go.RowKit
set_option linter.unusedVariables false
set_option linter.unusedSimpArgs false
def back:Nat → Nat
 | 0 => 2
 | 1 => 1
 | 2 => 8
 | 3 => 4
 | 4 => 16
 | _ => 32
def bk:Nat → Nat → Nat
 | 0,_ => 0
 | k + 1,m => if m.testBit k then bk k m ||| back k else bk k m
def put (k:Nat) (x:Int):Int:=x - x % 64 + (bk k (x % 64).toNat:Nat)
end Go.Lk
namespace Go.Proofs.Ytbdhiichhcihgaa
open Go.RowKit Go.Lk
set_option linter.unusedVariables false
set_option linter.unusedSimpArgs false
theorem fineL_get {ts:List Tn} (h:fineL ts = true):∀ (i:Nat) (hi:i < ts.length),ts[i].fine = true:=by
 induction ts with
 | nil => intro i hi;simp at hi
 | cons t ts ih =>
  simp only [fineL,Bool.and_eq_true] at h
  intro i hi
  cases i with
  | zero => exact h.1
  | succ i => exact ih h.2 i (by simpa using hi)
theorem nodes_ge (ts:List Tn):ts.length ≤ nodesL ts:=by
 induction ts with
 | nil => simp
 | cons t ts ih => simp only [nodesL,List.length_cons];have:=t.pos;omega
theorem nodes_get (ts:List Tn):∀ (i:Nat) (hi:i < ts.length),ts[i].nodes ≤ nodesL ts:=by
 induction ts with
 | nil => intro i hi;simp at hi
 | cons t ts ih =>
  intro i hi
  cases i with
  | zero => simp only [nodesL,List.getElem_cons_zero];omega
  | succ i => have:=ih i (by simpa using hi);simp only [nodesL,List.getElem_cons_succ];omega
structure FineN (k:Int) (R:List (Int × Int)) (a:Int) (n:Nat) (mn mx:Int) (lz:Bool) (ix:Int) (nm:ByteArray):Prop where
 kind:k = 1 ∨ k = 2 ∨ k = 3 ∨ k = 4 ∨ k = 5 ∨ k = 6 ∨ k = 7
 grp:k = 7 → n = 1
 rng:k ≠ 2 → R.length = 0
 cls:k = 2 → rightB R = true
 ast:k = 3 → assertB a = true
 nas:k ≠ 3 → a = 0
theorem fine_node {k:Int} {R:List (Int × Int)} {a:Int} {n:Nat} {mn mx:Int} {lz:Bool} {ix:Int} {nm:ByteArray} (h:nodeB k R a n mn mx lz ix nm = true):FineN k R a n mn mx lz ix nm:=by
 have hk:k = 1 ∨ k = 2 ∨ k = 3 ∨ k = 4 ∨ k = 5 ∨ k = 6 ∨ k = 7:=by
  by_cases h':k ≠ 1 ∧ k ≠ 2 ∧ k ≠ 3 ∧ k ≠ 4 ∧ k ≠ 5 ∧ k ≠ 6 ∧ k ≠ 7
  ·rw [nodeB_ne h'] at h;cases h
  ·omega
 rcases hk with rfl | rfl | rfl | rfl | rfl | rfl | rfl <;> simp [nodeB,bareB] at h <;> refine ⟨by omega,by omega,?_,?_,?_,?_⟩ <;> first | (intro h';omega) | (intro _;exact h.1) | (intro _;simp [h])
end Go.Proofs.Ytbdhiichhcihgaa
namespace Go.Proofs.Ytbdhiichhcihgaa
open Go.RowKit
set_option linter.unusedVariables false
set_option linter.unusedSimpArgs false
theorem moved_below {w:World} {B:Nat} {W w3:World} {v v':Value} (hb:Below B W w) (hB:B ≤ w.heap.size) (hv:∀ k,v.ownBlock = some k → B ≤ k) (hm:Moved w w3 v v'):Below B W w3 ∧ w.heap.size ≤ w3.heap.size:=by
 have hs3:w.heap.size ≤ w3.heap.size:=by rcases hm with ⟨_,h⟩ | ⟨_,h⟩ <;> exact h.size
 have hold:∀ k,k < B → w3.heap[k]? = w.heap[k]?:=fun k hk => moved_old' hm (by omega) (fun e => by have:=hv k e;omega)
 refine ⟨⟨?_,?_,?_,by have:=hb.size;omega,fun k hk => (hold k hk).trans (hb.block k hk)⟩,hs3⟩
 ·rcases hm with ⟨_,h⟩ | ⟨_,h⟩ <;> exact h.os.trans hb.os
 ·rcases hm with ⟨_,h⟩ | ⟨_,h⟩ <;> exact h.tape.trans hb.tape
 ·rcases hm with ⟨_,h⟩ | ⟨_,h⟩ <;> exact h.output.trans hb.output
theorem enter_of {P : Program} {f : FuncId} {fn : Func} {c : Code} (hf : P.funcs[f]? = some fn) (hname : (fn.name == "runtime.NumGoroutine") = false) (hb : fn.body = some c) : ∀ (args : Array Value) (w : World), (callFunc f args).run P w = .ok (.enter f args) w := by
 intro args w
 have h1 : fn.name ≠ "runtime.NumGoroutine" := by simpa using hname
 simp [callFunc,hf,h1,hb]
mutual
def Tn.small:Tn → Bool
 | .mk _ R _ s _ _ _ _ _ => decide (R.length * 16 ≤ 140737488351232) && smallL s
def smallL:List Tn → Bool
 | [] => true
 | t :: ts => t.small && smallL ts
end
end Go.Proofs.Ytbdhiichhcihgaa
