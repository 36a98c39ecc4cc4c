/- HELPERS: texts of ours put together. -/
import Derived.Deep.SlicePairs
import Derived.RowKit
import Derived.Test.YtjdbnoccdefnaaaGreatRows
import Derived.JoinedCond
import Derived.OpenShut
import Derived.SizedLaws
import Derived.Lib.SmallJoins
import Derived.Test.YtjdbnoccdefnaaaGreatProg
import Derived.WalkKit
import Derived.ProofKit
import Derived.BigQuiet
import Derived.WalkSmall
import Derived.Deep.QuietTactic
import Derived.Deep.RegionWith
import Derived.Lib.MinMax
import Derived.Maps.AppendAt
import Derived.Laws.AppendOwnNone
namespace Go.Proofs.YtjdbnoccdefnaaaGreat
open Go.RowKit Go.Deep Go.ChangeShapes Go.WideShapes
set_option linter.unusedVariables false
set_option linter.unusedSimpArgs false
structure Nv where
  k:Int
  r1:Option Addr
  r2:Nat
  r3:Nat
  a2:Int
  s1:Option Addr
  s2:Nat
  s3:Nat
  a4:Int
  a5:Int
  a6:Bool
  a7:Int
  a8:ByteArray
instance:Inhabited Nv:=⟨⟨0,none,0,0,0,none,0,0,0,0,false,0,⟨#[]⟩⟩⟩
abbrev Nv.cs (N:Nv):List Value:=[.int .i64 N.k,.slice N.r1 N.r2 N.r3,.int .i64 N.a2,.slice N.s1 N.s2 N.s3,.int .i64 N.a4,.int .i64 N.a5,.bool N.a6,.int .i64 N.a7,.string N.a8]
abbrev Nv.v (N:Nv):Value:=.agg #[.int .i64 N.k,.slice N.r1 N.r2 N.r3,.int .i64 N.a2,.slice N.s1 N.s2 N.s3,.int .i64 N.a4,.int .i64 N.a5,.bool N.a6,.int .i64 N.a7,.string N.a8]
inductive Tn where
  | mk (k:Int) (R:List (Int × Int)) (a:Int) (s:List Tn) (mn mx:Int) (lz:Bool) (ix:Int) (nm:ByteArray)
instance:Inhabited Tn:=⟨.mk 0 [] 0 [] 0 0 false 0 ⟨#[]⟩⟩
def N9 (w:World) (b o i:Nat) (N:Nv):Prop:=w.cell? ⟨b,o + i * 9,none⟩ = some (.int .i64 N.k) ∧ w.cell? ⟨b,o + i * 9 + 1,none⟩ = some (.slice N.r1 N.r2 N.r3) ∧ w.cell? ⟨b,o + i * 9 + 2,none⟩ = some (.int .i64 N.a2) ∧ w.cell? ⟨b,o + i * 9 + 3,none⟩ = some (.slice N.s1 N.s2 N.s3) ∧
  w.cell? ⟨b,o + i * 9 + 4,none⟩ = some (.int .i64 N.a4) ∧ w.cell? ⟨b,o + i * 9 + 5,none⟩ = some (.int .i64 N.a5) ∧ w.cell? ⟨b,o + i * 9 + 6,none⟩ = some (.bool N.a6) ∧ w.cell? ⟨b,o + i * 9 + 7,none⟩ = some (.int .i64 N.a7) ∧ w.cell? ⟨b,o + i * 9 + 8,none⟩ = some (.string N.a8)
def R2 (w:World) (B:Nat) (ad:Option Addr) (R:List (Int × Int)):Prop:=
  R ≠ [] → ∃ b o,ad = some ⟨b,o,none⟩ ∧ b < B ∧ ∀ i (hi:i < R.length),w.cell? ⟨b,o + i * 2,none⟩ = some (.int .i64 R[i].1) ∧ w.cell? ⟨b,o + i * 2 + 1,none⟩ = some (.int .i64 R[i].2)
abbrev I64ok (x:Int):Prop:=-9223372036854775808 ≤ x ∧ x ≤ 9223372036854775807
structure Nv.ok (N:Nv):Prop where
  k:I64ok N.k
  a2:I64ok N.a2
  a4:I64ok N.a4
  a5:I64ok N.a5
  a7:I64ok N.a7
  a8:N.a8.size ≤ maxLen
  r:N.r2 ≤ N.r3 ∧ N.r3 ≤ maxLen
  s:N.s2 ≤ N.s3 ∧ N.s3 ≤ maxLen
inductive TI (w:World) (B:Nat):Nv → Tn → Prop
  | mk {N:Nv} {R:List (Int × Int)} {ts:List Tn} {ND:Nat → Nv} (ok:N.ok) (hr:N.r2 = R.length) (hR:R2 w B N.r1 R) (hRk:∀ x ∈ R,I64ok x.1 ∧ I64ok x.2) (hs:N.s2 = ts.length)
      (hS:0 < ts.length → ∃ b o,N.s1 = some ⟨b,o,none⟩ ∧ b < B ∧ ∀ i,i < ts.length → N9 w b o i (ND i)) (hk:∀ i (hi:i < ts.length),TI w B (ND i) ts[i]) :
      TI w B N (.mk N.k R N.a2 ts N.a4 N.a5 N.a6 N.a7 N.a8)
theorem cell_eq {w w':World} {b:Nat} (h:w'.heap[b]? = w.heap[b]?) (o:Nat):w'.cell? ⟨b,o,none⟩ = w.cell? ⟨b,o,none⟩:=by simp only [World.cell?,h]
theorem N9.kept {w w':World} {b o i:Nat} {N:Nv} (h:N9 w b o i N) (hk:w'.heap[b]? = w.heap[b]?):N9 w' b o i N:=by
  obtain ⟨h0,h1,h2,h3,h4,h5,h6,h7,h8⟩:=h
  exact ⟨(cell_eq hk _).trans h0,(cell_eq hk _).trans h1,(cell_eq hk _).trans h2,(cell_eq hk _).trans h3,(cell_eq hk _).trans h4,(cell_eq hk _).trans h5,(cell_eq hk _).trans h6,(cell_eq hk _).trans h7,(cell_eq hk _).trans h8⟩
theorem R2.kept {w w':World} {B:Nat} {ad:Option Addr} {R:List (Int × Int)} (h:R2 w B ad R) (hk:∀ b,b < B → w'.heap[b]? = w.heap[b]?):R2 w' B ad R:=fun hn => by
  obtain ⟨b,o,h1,h2,h3⟩:=h hn
  exact ⟨b,o,h1,h2,fun i hi => ⟨(cell_eq (hk b h2) _).trans (h3 i hi).1,(cell_eq (hk b h2) _).trans (h3 i hi).2⟩⟩
theorem TI.kept {w w':World} {B:Nat} {N:Nv} {t:Tn} (h:TI w B N t) (hk:∀ b,b < B → w'.heap[b]? = w.heap[b]?):TI w' B N t:=by
  induction h with
  | mk ok hr hR hRk hs hS hkk ih =>
    refine .mk ok hr (hR.kept hk) hRk hs (fun hp => ?_) ih
    obtain ⟨b,o,h1,h2,h3⟩:=hS hp
    exact ⟨b,o,h1,h2,fun i hi => (h3 i hi).kept (hk b h2)⟩
section
variable {H:Type} {enc:TypeId × Value → H} {P:Program} {w:World} {base:Nat} {spare:Nat → Bool} {held:Bool} {tn ts tr te ti tb tg:TypeId} {f:Nat → Field} {g0 g1:Field}
end
theorem i64ok {n:Int} (h:(Lit.int .i64 n).wf = true):I64ok n:=by
  simp [Lit.wf,IntKind.min,IntKind.signed,IntKind.bits] at h
  exact h
section
variable {H:Type} {enc:TypeId × Value → H} {P:Program} {w:World} {base:Nat} {spare:Nat → Bool} {held:Bool} {tn ts tr te ti tb tg:TypeId} {f:Nat → Field} {g0 g1:Field}
end
end Go.Proofs.YtjdbnoccdefnaaaGreat
namespace Go.Proofs.YtjdbnoccdefnaaaGreat
open Go.ChangeShapes Go.WideShapes Go.ChangeAt Go.RowKit Go.Deep
set_option linter.unusedVariables false
set_option linter.unusedSimpArgs false
theorem ownB:ownKnob Tryz.prog.godebug = none:=by kernel_rfl
theorem laidOut:laidOutB Tryz.prog = true:=by kernel_rfl
theorem cells3a:Tryz.prog.cellsOf 3 = 1:=by kernel_rfl
structure RgTy (P:Program) (tr te ti:TypeId) (g0 g1:Field):Prop where
  ci:P.cellsOf ti = 1
  hi:P.underlying ti = some (.int .i64)
  hr:P.underlying tr = some (.slice te)
  he:P.underlying te = some (.struct #[g0,g1])
  ce:P.cellsOf te = 2
  og:g0.offset = 0 ∧ g1.offset = 1 ∧ g0.type = ti ∧ g1.type = ti
section
variable {H:Type} {enc:TypeId × Value → H} {P:Program} {w:World} {base:Nat} {spare:Nat → Bool} {held:Bool} {tr te ti:TypeId} {g0 g1:Field}
theorem open_rng (S:RgTy P tr te ti g0 g1) {fuel:Nat} {cs:List Value} {x:DataW H × List MemPlace} (h:DataW.trod enc P w base spare held fuel tr cs = some x) :
    ∃ (ad:Option Addr) (n c:Nat) (R:List (Int × Int)),cs = [.slice ad n c] ∧ n = R.length ∧ n ≤ c ∧ c ≤ maxLen ∧ R2 w w.heap.size ad R ∧ ∀ x ∈ R,I64ok x.1 ∧ I64ok x.2:=by
  obtain ⟨o0,o1,t0,t1⟩:=S.og
  rcases open_slice_pairs S.hr S.he S.ce o0 o1 (by rw [t0];exact S.ci) (by rw [t1];exact S.ci) h with ⟨rfl,rfl⟩ | ⟨a,len,cap,m,n,V0,V1,D0,D1,P0,P1,rfl,hb,hl,hm,hmm,rfl,hx⟩
  · exact ⟨none,0,0,[],rfl,rfl,Nat.le_refl _,by simp [maxLen],fun hn => absurd rfl hn,fun x hx => by cases hx⟩
  have hlm:len ≤ m:=by rw [hmm];split <;> omega
  rw [t0,t1] at hx
  have each:∀ i,i < len → ∃ q:Int × Int,w.cell? (a.add (i * 2)) = some (.int .i64 q.1) ∧ w.cell? (a.add (i * 2 + 1)) = some (.int .i64 q.2) ∧ I64ok q.1 ∧ I64ok q.2:=fun i hi => by
    obtain ⟨h1,h2,h3,h4⟩:=hx i (by omega)
    obtain ⟨n0,e0,_,w0⟩:=DataW.trod_int S.hi h3
    obtain ⟨n1,e1,_,w1⟩:=DataW.trod_int S.hi h4
    simp at e0 e1
    rw [e0] at h1
    rw [e1] at h2
    exact ⟨(n0,n1),h1,h2,i64ok w0,i64ok w1⟩
  obtain ⟨q,hq⟩:=choose_lt each
  refine ⟨some a,len,cap,(List.range len).map q,rfl,by simp,hl,hm,fun hn => ?_,fun x hx => ?_⟩
  · have hpos:0 < len:=by
      rcases Nat.eq_zero_or_pos len with h0 | h0
      · subst h0;simp at hn
      · exact h0
    have hc0:=(hq 0 hpos).1
    have hsp:a.spot = none:=by simpa [Addr.add] using World.cell?_spot hc0
    obtain ⟨b,o,sp⟩:=a
    simp only at hsp
    subst hsp
    refine ⟨b,o,rfl,World.block_lt_of_cell? _ _ hc0,fun i hi => ?_⟩
    simp only [List.length_map,List.length_range] at hi
    have h1:=hq i hi
    rw [add_plain,add_plain] at h1
    simp only [List.getElem_map,List.getElem_range]
    exact ⟨h1.1,by rw [Nat.add_assoc];exact h1.2.1⟩
  · simp only [List.mem_map,List.mem_range] at hx
    obtain ⟨i,hi,rfl⟩:=hx
    exact (hq i hi).2.2
end
theorem rgTy : RgTy Tryz.prog 41 50 3 { name := "Lo", type := 3, offset := 0, embedded := false, tag := "", pkgPath := "", byteOffset := 0 } { name := "Hi", type := 3, offset := 1, embedded := false, tag := "", pkgPath := "", byteOffset := 8 } where
  ci:=by kernel_rfl
  hi:=Tryz.underlying3
  hr:=Tryz.underlying41
  he:=Tryz.underlying50
  ce:=by kernel_rfl
  og:=⟨rfl,rfl,rfl,rfl⟩
end Go.Proofs.YtjdbnoccdefnaaaGreat
namespace Go.Proofs.YtjdbnoccdefnaaaGreat
open Go.RowKit
set_option linter.unusedVariables false
set_option linter.unusedSimpArgs false
mutual
def Tn.depth:Tn → Nat
  | .mk _ _ _ s _ _ _ _ _ => 1 + depthL s
def depthL:List Tn → Nat
  | [] => 0
  | t :: ts => max t.depth (depthL ts)
end
theorem ret_bool {a b:Bool} (h:a = b):Ending.returned (.bool a) = .returned (.bool b):=by rw [h]
theorem ret_int {a b:Int} (h:a = b):Ending.returned (.int .i64 a) = .returned (.int .i64 b):=by rw [h]
def Moved (w w':World) (v v':Value):Prop:=(v'.ownBlock = v.ownBlock ∧ w.grownBy w' v.ownBlock) ∨ (v'.ownBlock = some w.heap.size ∧ w.grownBy w' none)
structure Chg (w w':World) (F F':List Nat):Prop where
  os:w'.os = w.os
  tape:w'.tape = w.tape
  output:w'.output = w.output
  size:w.heap.size ≤ w'.heap.size
  block:∀ k,k < w.heap.size → k ∉ F → w'.heap[k]? = w.heap[k]?
  new:∀ k,k ∈ F' → k ∈ F ∨ w.heap.size ≤ k
theorem Chg.below {B:Nat} {w w':World} {F F':List Nat} (h:Chg w w' F F') (hB:B ≤ w.heap.size) (hF:∀ k ∈ F,B ≤ k):Below B w w':=
  ⟨h.os,h.tape,h.output,h.size,fun k hk => h.block k (by omega) (fun hm => by have:=hF k hm;omega)⟩
theorem Chg.low {B:Nat} {w w':World} {F F':List Nat} (h:Chg w w' F F') (hB:B ≤ w.heap.size) (hF:∀ k ∈ F,B ≤ k):∀ k ∈ F',B ≤ k:=fun k hk => by
  rcases h.new k hk with h | h
  · exact hF k h
  · omega
theorem Chg.row {w w':World} {F F':List Nat} {base e size n:Nat} {v:Value} {xs:List Value} (h:Chg w w' F F') (ho:w.ownsRow base e size v n xs) (hd:∀ k,v.ownBlock = some k → k ∉ F):w'.ownsRow base e size v n xs:=by
  refine ⟨ho.1,?_⟩
  rcases ho.2 with hn | ⟨g,cap,cur,rfl,hb,hgg,rest⟩
  · exact .inl hn
  · refine .inr ⟨g,cap,cur,rfl,hb,?_,rest⟩
    rw [h.block g (Array.getElem?_eq_some_iff.1 hgg).1 (hd g rfl)]
    exact hgg
theorem Chg.set {w w':World} {F F':List Nat} (h:Chg w w' F F') {a:Addr} (u:Value) (ha:a.block ∈ F):Chg w (w'.setCell a u) F F':=
  ⟨h.os,h.tape,h.output,by have:=h.size;simp [World.setCell];exact this,fun k hk hn => (Below.heap_setCell _ _ _ _ (fun e => hn (by rw [e];exact ha))).trans (h.block k hk hn),h.new⟩
theorem Chg.drew {w w':World} {F F':List Nat} (h:Chg w w' F F'):Chg w w'.drew F F':=⟨h.os,h.tape,h.output,h.size,h.block,h.new⟩
theorem own_setCell {w:World} {base e size n:Nat} {v u:Value} {xs:List Value} {a:Addr} (h:w.ownsRow base e size v n xs) (hne:v.ownBlock ≠ some a.block):(w.setCell a u).ownsRow base e size v n xs:=by
  refine ⟨h.1,?_⟩
  rcases h.2 with hn | ⟨g,cap,cur,rfl,hb,hgg,rest⟩
  · exact .inl hn
  · refine .inr ⟨g,cap,cur,rfl,hb,?_,rest⟩
    rw [Below.heap_setCell _ _ _ _ (fun e => hne (by simp [Value.ownBlock,e]))]
    exact hgg
theorem own_ne {w:World} {base e size n g:Nat} {v:Value} {xs:List Value} {c:Array Value} {t:TypeId} {fr:Nat × Nat} (ho:w.ownsRow base e size v n xs) (hg:w.heap[g]? = some (.cells c t fr)) (ht:t ≠ e):v.ownBlock ≠ some g:=by
  intro h
  rcases ho.2 with ⟨rfl,_⟩ | ⟨b,cap,cur,rfl,hb,hgg,rest⟩
  · simp [Value.ownBlock] at h
  · simp [Value.ownBlock] at h
    subst h
    rw [hgg] at hg
    simp at hg
    exact ht hg.2.1.symm
theorem hid' {p:Prop} (h:p):Hid p:=h
end Go.Proofs.YtjdbnoccdefnaaaGreat
