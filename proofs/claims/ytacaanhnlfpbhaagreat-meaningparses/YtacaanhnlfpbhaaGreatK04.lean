/- HELPERS: texts of ours put together. -/
import Derived.Test.YtacaanhnlfpbhaaGreatK03
import Derived.Test.YtacaanhnlfpbhaaGreatK01
import Derived.Test.YtacaanhnlfpbhaaGreatProg
import Derived.WalkKit
import Derived.ProofKit
import Derived.BigQuiet
import Derived.WalkSmall
import Derived.Deep.QuietTactic
import Derived.Deep.RegionWith
import Derived.Lib.SmallJoins
import Derived.Lib.MinMax
import Derived.Maps.AppendAt
import Derived.Laws.AppendOwnNone
import Derived.DeepKeys3
import Derived.MapKept
import Derived.Lib.Small
import Derived.Deep.SlicePairs
import Derived.RowKit
import Derived.Deep.Cut
import Derived.Deep.CutRange
import Derived.Test.YtacaanhnlfpbhaaGreatK02
import Derived.Laws.EntriesVeiled
import Derived.OrdersHeld
import Derived.StillTail
import Derived.Tactics
import Derived.Below
import Derived.Deep.RegionHeld3
import Derived.Deep.MidRow
import Derived.Deep.OwnRows
import Derived.Laws.Rows
import Derived.WalkLawsBesides
import Derived.Deep.RegionLaw
import Derived.Laws.CopyOwn
import Derived.Lib.LazyBuf
namespace Go.Proofs.YtacaanhnlfpbhaaGreat
open Go.RowKit
set_option linter.unusedVariables false
set_option linter.unusedSimpArgs false
theorem step_call1 {P:Program} {ops:Array Oper} {o:Oper} {a:Act} {w:World} {K:Act→World→Prop} {Q:Exit→Act→World→Prop} {E:Prop} (hg:o.guard=none) (f:FuncId) (x:Operand) (t:TypeId)
  (hop:o.op=Op.call { callee:=Callee.value (.func f),args:=#[x],argTypes:=#[t] }) (hen:∀ args w,(callFunc f args).run P w=.ok (.enter f args) w)
  (hc:Calls P f #[a.eval x] w fun e w'=>∃ v,e=.returned v∧K (a.put o.dst v) w') :
  if Region.wanted o (yielded ops a.tmps)=true then Oper.wp P o a w K Q else E:=by
 have hw:Region.wanted o (yielded ops a.tmps)=true:=by simp [Region.wanted,hg]
 rw [if_pos hw]
 have h2:=hen #[a.eval x] w
 unfold Oper.wp
 have ev:a.eval (.func f)=.func (.func f) #[] #[]:=rfl
 simp [execOp,hop,resolve,invoke,ev,Deferred.ofValue,h2,Result.andThen]
 show Calls P f #[a.eval x] w _
 refine hc.mono fun e w' h=>?_
 obtain ⟨v,rfl,hk⟩:=h
 exact hk
theorem enter_of {P : Program} {f : FuncId} {fn : Func} {c : Code} (hf : P.funcs[f]? = some fn) (hname : (fn.name == "runtime.NumGoroutine") = false) (hb : fn.body = some c) : ∀ (args : Array Value) (w : World), (callFunc f args).run P w = .ok (.enter f args) w := by
 intro args w
 have h1 : fn.name ≠ "runtime.NumGoroutine" := by simpa using hname
 simp [callFunc,hf,h1,hb]
theorem RP.src {w:World} {A:Nat→Prop} {ad:Option Addr} {R:List (Int × Int)} (h:RP w A ad R) (hp:0 < R.length):∃ b f,ad=some ⟨b,f,none⟩∧∀ j u,(O2 R)[j]?=some u→w.cell? ⟨b,f + j,none⟩=some u:=by
 obtain ⟨b,f,h1,_,h3⟩:=h (fun e=>by rw [e] at hp;simp at hp)
 refine ⟨b,f,h1,fun j u hj=>?_⟩
 have hjl:j < R.length * 2:=by have:=(List.getElem?_eq_some_iff.1 hj).1;rwa [O2_len] at this
 obtain ⟨i,r,hr,rfl⟩:∃ i r,r < 2∧j=i * 2 + r:=⟨j / 2,j % 2,by omega,by omega⟩
 have hi:i < R.length:=by omega
 have ho:=O2_at R i hi
 have hc:=h3 i hi
 have:r=0∨r=1:=by omega
 rcases this with rfl | rfl
 ·rw [Nat.add_zero] at hj ⊢
  rw [ho.1] at hj
  rw [hc.1];exact hj
 ·rw [ho.2] at hj
  rw [← Nat.add_assoc,hc.2];exact hj
mutual
def Tn.small:Tn→Bool
 | .mk _ R _ s _ _ _ _ _=>decide (R.length * 16≤140737488351232) && smallL s
def smallL:List Tn→Bool
 | []=>true
 | t :: ts=>t.small && smallL ts
end
theorem smallL_get {ts:List Tn} (h:smallL ts=true):∀ (i:Nat) (hi:i < ts.length),ts[i].small=true:=by
 induction ts with
 | nil=>intro i hi;simp at hi
 | cons t ts ih =>
  simp only [smallL,Bool.and_eq_true] at h
  intro i hi
  cases i with
  | zero=>exact h.1
  | succ i=>exact ih h.2 i (by simpa using hi)
end Go.Proofs.YtacaanhnlfpbhaaGreat
namespace Go.Proofs.YtacaanhnlfpbhaaGreat
open Go.RowKit Go.Deep Go.ChangeShapes Go.WideShapes
set_option linter.unusedVariables false
set_option linter.unusedSimpArgs false
theorem smallL_of:∀ {ts:List Tn},(∀ t ∈ ts,t.small=true)→smallL ts=true
 | [],_=>rfl
 | t :: ts,h=>by simp only [smallL,Bool.and_eq_true];exact ⟨h t (by simp),smallL_of fun u hu=>h u (by simp [hu])⟩
theorem weightsAll_memT {H:Type} {P:Program} {e:TypeId}:∀ {l:List (DataW H)} {d:DataW H},d ∈ l→∀ n ∈ d.weights P e,n ∈ DataW.weightsAll P e l
 | x :: l,d,hd,n,hn=>by
  simp only [DataW.weightsAll,List.mem_append]
  rcases List.mem_cons.1 hd with rfl | h
  ·exact .inl hn
  ·exact .inr (weightsAll_memT h n hn)
section
variable {H:Type} {enc:TypeId × Value→H} {P:Program} {w:World} {base:Nat} {spare:Nat→Bool} {held:Bool} {tn ts tr te ti tb tg:TypeId} {f:Nat→Field} {g0 g1:Field}
theorem ranges_smallT (S:NodeTy P tn ts tr te ti tb tg f g0 g1) (hby:P.bytesOf te=16) {fuel:Nat} {cs:List Value} {x:DataW H × List MemPlace} (h:DataW.trod enc P w base spare held fuel tr cs=some x) (hw:∀ n ∈ x.1.weights P tr,n≤reachBytes) {ad:Option Addr} {n c:Nat} (hc:cs=[.slice ad n c]):n * 16≤140737488351232:=by
 rcases DataW.trod_slice S.hr h with ⟨e,_⟩ | ⟨a,len,cap,elems,rest,n',_,e,hx,_,_,_,hel,_⟩
 ·rw [hc] at e
  simp at e
  omega
 ·rw [hc] at e
  simp at e
  have:=hw ((elems.length + rest.length) * P.bytesOf te) (by rw [hx];simp [DataW.weights,S.hr])
  rw [hby] at this
  have hr:reachBytes=140737488351232:=by decide
  omega
theorem open_nodeS (S:NodeTy P tn ts tr te ti tb tg f g0 g1) (hby:P.bytesOf te=16):∀ (fuel:Nat) (cs:List Value) (x:DataW H × List MemPlace),DataW.trod enc P w base spare held fuel tn cs=some x→(∀ n ∈ x.1.weights P tn,n≤reachBytes)→∃ N t,cs=Nv.cs N∧TI w w.heap.size N t∧t.small=true:=by
 intro fuel
 induction fuel using Nat.strongRecOn with
 | _ fuel ih =>
 intro cs x h hwt
 obtain ⟨xs,n,hf,rfl,hl,hxl,hfs⟩:=DataW.trod_struct S.hn h
 rw [S.cn] at hl
 simp only [List.size_toArray,List.length_cons,List.length_nil] at hxl
 obtain ⟨t0,t1,t2,t3,t4,t5,t6,t7,t8⟩:=S.ty
 match xs,hxl,cs,hl with
 | [y0,y1,y2,y3,y4,y5,y6,y7,y8],_,[v0,v1,v2,v3,v4,v5,v6,v7,v8],_ =>
 have g0:=hfs 0 (f 0) rfl
 have g1:=hfs 1 (f 1) rfl
 have g2:=hfs 2 (f 2) rfl
 have g3:=hfs 3 (f 3) rfl
 have g4:=hfs 4 (f 4) rfl
 have g5:=hfs 5 (f 5) rfl
 have g6:=hfs 6 (f 6) rfl
 have g7:=hfs 7 (f 7) rfl
 have g8:=hfs 8 (f 8) rfl
 simp [t0,S.of,S.ci] at g0
 simp [t1,S.of,S.cr] at g1
 simp [t2,S.of,S.ci] at g2
 simp [t3,S.of,S.cs] at g3
 simp [t4,S.of,S.ci] at g4
 simp [t5,S.of,S.ci] at g5
 simp [t6,S.of,S.cb] at g6
 simp [t7,S.of,S.ci] at g7
 simp [t8,S.of,S.cg] at g8
 have hw1:∀ n ∈ y1.1.weights P tr,n≤reachBytes:=fun n hn=>hwt n (by
  simp only [DataW.weights,S.hn]
  exact DataW.weights_mem_each (j:=1) (by simp [t1]) (by simp) n hn)
 have hw3:∀ n ∈ y3.1.weights P ts,n≤reachBytes:=fun n hn=>hwt n (by
  simp only [DataW.weights,S.hn]
  exact DataW.weights_mem_each (j:=3) (by simp [t3]) (by simp) n hn)
 obtain ⟨k,e0,_,w0⟩:=DataW.trod_int S.hi g0
 obtain ⟨a2,e2,_,w2⟩:=DataW.trod_int S.hi g2
 obtain ⟨a4,e4,_,w4⟩:=DataW.trod_int S.hi g4
 obtain ⟨a5,e5,_,w5⟩:=DataW.trod_int S.hi g5
 obtain ⟨a7,e7,_,w7⟩:=DataW.trod_int S.hi g7
 obtain ⟨a6,e6,_⟩:=DataW.trod_bool S.hb g6
 obtain ⟨a8,e8,_,w8⟩:=DataW.trod_string S.hg g8
 obtain ⟨r1,r2,r3,R,e1,hr,hrc,hrm,hR,hRk⟩:=open_ranges S g1
 have hsr:R.length * 16≤140737488351232:=by rw [← hr];exact ranges_smallT S hby g1 hw1 e1
 simp only [List.cons.injEq,and_true] at e0 e1 e2 e4 e5 e6 e7 e8
 subst e0 e1 e2 e4 e5 e6 e7 e8
 rcases DataW.trod_slice S.hs g3 with ⟨e3,_⟩ | ⟨a,len,cap,elems,rest,n',hn',e3,hy3,hb,hlc,hcm,hel,hx,_,_⟩
 ·simp only [List.cons.injEq,and_true] at e3
  subst e3
  exact ⟨⟨k,r1,r2,r3,a2,none,0,0,a4,a5,a6,a7,a8⟩,_,rfl,.mk (ts:=[]) (ND:=fun _=>default) ⟨i64ok w0,i64ok w2,i64ok w4,i64ok w5,i64ok w7,w8,⟨hrc,hrm⟩,⟨Nat.le_refl _,by simp [maxLen]⟩⟩ hr hR hRk rfl (fun hp=>absurd hp (by simp)) (fun i hi=>absurd hi (by simp)),by simp only [Tn.small,smallL,Bool.and_true,decide_eq_true_eq];exact hsr⟩
 ·simp only [List.cons.injEq,and_true] at e3
  subst e3
  rw [S.cn] at hx
  have each:∀ i,i < len→∃ q:Nv × Tn,(∀ j,j < 9→w.cell? (a.add (i * 9 + j))=(Nv.cs q.1)[j]?)∧TI w w.heap.size q.1 q.2∧q.2.small=true:=fun i hi=>by
   have h1:=hx i hi
   rw [List.getElem?_eq_getElem (by omega)] at h1
   obtain ⟨cs',h2,h3⟩:=Option.bind_eq_some_iff.1 h1
   obtain ⟨N,t,rfl,ht,hts⟩:=ih n' (by omega) cs' _ h3 (fun n hn=>hw3 n (by rw [hy3];simp only [DataW.weights,S.hs];exact List.mem_cons_of_mem _ (List.mem_append_left _ (weightsAll_memT (List.mem_map.2 ⟨_,List.getElem_mem _,rfl⟩) n hn))))
   obtain ⟨_,_,hc⟩:=World.cells?_some h2
   exact ⟨(N,t),fun j hj=>by have:=hc j hj;rwa [add_add] at this,ht,hts⟩
  obtain ⟨q,hq⟩:=choose_lt each
  refine ⟨⟨k,r1,r2,r3,a2,some a,len,cap,a4,a5,a6,a7,a8⟩,_,rfl,.mk (ts:=(List.range len).map fun i=>(q i).2) (ND:=fun i=>(q i).1) ⟨i64ok w0,i64ok w2,i64ok w4,i64ok w5,i64ok w7,w8,⟨hrc,hrm⟩,⟨hlc,hcm⟩⟩ hr hR hRk (by simp) (fun hp=>?_) (fun i hi=>?_),?_⟩
  ·simp only [List.length_map,List.length_range] at hp ⊢
   have hc0:=(hq 0 hp).1 0 (by omega)
   simp only [Nv.cs,List.getElem?_cons_zero] at hc0
   have hsp:a.spot=none:=by simpa [Addr.add] using World.cell?_spot hc0
   obtain ⟨b,o,sp⟩:=a
   simp only at hsp
   subst hsp
   refine ⟨b,o,rfl,World.block_lt_of_cell? _ _ hc0,fun i hi=>?_⟩
   have h1:=(hq i hi).1
   simp only [add_plain,← Nat.add_assoc] at h1
   exact ⟨by simpa using h1 0 (by omega),by simpa using h1 1 (by omega),by simpa using h1 2 (by omega),by simpa using h1 3 (by omega),by simpa using h1 4 (by omega),by simpa using h1 5 (by omega),by simpa using h1 6 (by omega),by simpa using h1 7 (by omega),by simpa using h1 8 (by omega)⟩
  ·simp only [List.length_map,List.length_range] at hi
   simpa using (hq i hi).2.1
  ·simp only [Tn.small,Bool.and_eq_true,decide_eq_true_eq]
   refine ⟨hsr,smallL_of fun t ht=>?_⟩
   obtain ⟨i,hi,rfl⟩:=List.mem_map.1 ht
   exact (hq i (List.mem_range.1 hi)).2.2
end
set_option maxRecDepth 100000
section
variable {H:Type} {enc:TypeId × Value→H} {W:World} {base:Nat} {v:Value} {d:DataW H} {p:List MemPlace}
theorem node_argS (hok:Value.okWide Tryz.prog W .any base 25 v) (h0:DataW.Trod enc Tryz.prog W 0 (fun _=>true) true 25 v d p) (hsz:∀ n ∈ d.weights Tryz.prog 25,n≤reachBytes):∃ N t,v=Nv.v N∧TI W W.heap.size N t∧t.small=true:=by
 obtain ⟨cs,rfl,hs⟩:=okWide_struct Tryz.underlying25 hok
 obtain ⟨fuel,hf⟩:=h0
 obtain ⟨N,t,h1,h2,h3⟩:=open_nodeS nodeTy (by kernel_rfl) fuel _ _ hf hsz
 have h1':cs.toList=Nv.cs N:=h1
 refine ⟨N,t,?_,h2,h3⟩
 have:cs=(Nv.cs N).toArray:=by rw [← h1']
 rw [this]
end
end Go.Proofs.YtacaanhnlfpbhaaGreat
namespace Go.Proofs.YtacaanhnlfpbhaaGreat
open Go Go.RowKit
set_option linter.unusedVariables false
section
variable {P:Program} {ops:Array Oper} {Q:Exit→Act→World→Prop} {md:Region.Mode} {S:World→Prop} {L:Nat}
def lexK (md:Region.Mode) (ops:Array Oper) (L:Nat):List Nat→Array Bool→Bool
 | [],_=>true
 | k :: ks,listed=>(Region.ready md ops listed).contains k && Region.free md ops listed k && Region.waitsFor md ops L k && lexK md ops L ks (listed.setIfInBounds k true)
def marksK:List Nat→Array Bool→Array Bool
 | [],listed=>listed
 | k :: ks,listed=>marksK ks (listed.setIfInBounds k true)
def seqK (md:Region.Mode) (ops:Array Oper):List Nat→Array Bool→Bool
 | [],listed=>(Region.ready md ops listed).isEmpty
 | k :: ks,listed=>decide (Region.ready md ops listed=[k]) && seqK md ops ks (listed.setIfInBounds k true)
def opsAt (ops:Array Oper):List Nat→List Oper
 | []=>[]
 | k :: ks=>match ops[k]? with | some o=>o :: opsAt ops ks | none=>opsAt ops ks
def opsNo (ops:Array Oper):List Nat→List (Nat × Oper)
 | []=>[]
 | k :: ks=>match ops[k]? with | some o=>(k,o) :: opsNo ops ks | none=>opsNo ops ks
theorem wpAnyX_lexK {g:Nat} {w:World} (hsel:Region.noSelect ops=true) (hS:S w) :
  ∀ (ks:List Nat) (listed:Array Bool) (a:Act),lexK md ops L ks listed=true →
  wpLex P ops Q S (fun a'=>wpAnyX P md ops Q S L g (marksK ks listed) a' w) (opsAt ops ks) a→wpAnyX P md ops Q S L (ks.length + g) listed a w
 | [],listed,a,_,h=>by simpa [marksK,opsAt,wpLex] using h
 | k :: ks,listed,a,hB,h=>by
  simp only [lexK,Bool.and_eq_true] at hB
  obtain ⟨⟨⟨hr,hf⟩,hL⟩,hB'⟩:=hB
  have hr':k ∈ Region.ready md ops listed:=by simpa using hr
  obtain ⟨_,o,h0,_⟩:=mem_ready.1 hr'
  simp only [opsAt,h0] at h
  obtain ⟨v,hy,hQ,hK⟩:=h
  rw [show (k :: ks).length + g=(ks.length + g) + 1 by simp only [List.length_cons];omega]
  exact wpAnyX_first h0 (Region.noSelect_spec hsel) hQ hL (ks.length + g) listed a w (Region.free_spec h0 hf) hr' hy hS
   (wpAnyX_lexK hsel hS ks _ _ hB' hK)
def wpTailK (P:Program) (ops:Array Oper) (Q:Exit→Act→World→Prop) (S:World→Prop) (L:Nat):List (Nat × Oper)→Act→World→Prop
 | [],a,w=>Q .normal a w
 | (k,o) :: l,a,w=>∀ K:Act→World→Prop,Hid (∀ a' w',(k≠L→S w')→wpTailK P ops Q S L l a' w'→K a' w')→if Region.wanted o (yielded ops a.tmps)=true then Oper.wp P o a w K Q else K (a.put o.dst undef) w
theorem tailK_cons {o:Oper} {l:List (Nat × Oper)} {k:Nat} {a:Act} {w:World} (h:∀ K:Act→World→Prop,Hid (∀ a' w',(k≠L→S w')→wpTailK P ops Q S L l a' w'→K a' w')→if Region.wanted o (yielded ops a.tmps)=true then Oper.wp P o a w K Q else K (a.put o.dst undef) w):wpTailK P ops Q S L ((k,o) :: l) a w:=h
theorem tailK_nil {a:Act} {w:World} (h:Q .normal a w):wpTailK P ops Q S L [] a w:=h
theorem wpAnyX_of_tailK:∀ (js:List Nat) (listed:Array Bool) (a:Act) (w:World),
  seqK md ops js listed=true→wpTailK P ops Q S L (opsNo ops js) a w→wpAnyX P md ops Q S L js.length listed a w
 | [],_,_,_,hB,h=>⟨by simpa [seqK] using hB,h⟩
 | k :: js,listed,a,w,hB,h=>by
  simp only [seqK,Bool.and_eq_true,decide_eq_true_eq] at hB
  have hr:k ∈ Region.ready md ops listed:=by rw [hB.1];simp
  obtain ⟨_,o,h0,_⟩:=mem_ready.1 hr
  simp only [opsNo,h0] at h
  refine ⟨fun h1=>absurd (hB.1.symm.trans h1) (by simp),fun j hj=>?_⟩
  rw [hB.1] at hj
  have:j=k:=by simpa using hj
  subst this
  have h1:=h (fun a' w'=>(j≠L→S w')∧wpAnyX P md ops Q S L js.length (listed.setIfInBounds j true) a' w') ((fun a' w' h1 h2=>⟨h1,wpAnyX_of_tailK js _ a' w' hB.2 h2⟩))
  unfold wpOp
  simp only [h0]
  split
  ·rename_i hw;rw [if_pos hw] at h1;exact .inl h1
  ·rename_i hw;rw [if_neg hw] at h1;exact h1
theorem wp_region_lexK {id:Nat} {a:Act} {w:World} (ks js:List Nat) (L:Nat) (S:World→Prop) (hm:P.follows .mixedOrders=true) (hsel:Region.noSelect ops=true) (hn:ks.length + js.length=ops.size) (hB:lexK .any ops L ks (Array.replicate ops.size false)=true)
  (hT:seqK .any ops js (marksK ks (Array.replicate ops.size false))=true) (hS:S w.drew)
  (h:wpLex P ops Q S (fun a'=>wpTailK P ops Q S L (opsNo ops js) a' w.drew) (opsAt ops ks) a):(Code.region id ops true).wp P Q a w:=by
 have hlex:∀ (l':List Oper) (a:Act),wpLex P ops Q S (fun a'=>wpTailK P ops Q S L (opsNo ops js) a' w.drew) l' a→wpLex P ops Q S (fun a'=>wpAnyX P .any ops Q S L js.length (marksK ks (Array.replicate ops.size false)) a' w.drew) l' a:=by
  intro l'
  induction l' with
  | nil=>intro a h;exact wpAnyX_of_tailK (md:=.any) js _ a w.drew hT h
  | cons o l' ih=>rintro a ⟨v,h1,h2,h3⟩;exact ⟨v,h1,h2,ih _ h3⟩
 have H:=wpAnyX_lexK (md:=.any) (L:=L) (Q:=Q) (g:=js.length) (P:=P) (w:=w.drew) hsel hS ks (Array.replicate ops.size false) a hB (hlex _ _ h)
 rw [hn] at H
 exact wp_region_any hm (by simpa using wpAny_of_X _ _ _ _ H)
end
end Go.Proofs.YtacaanhnlfpbhaaGreat
namespace Go.Proofs.YtacaanhnlfpbhaaGreat
open Go.RowKit
set_option linter.unusedVariables false
set_option linter.unusedSimpArgs false
abbrev I64 (l:List Int):List Value:=l.map (Value.int .i64)
theorem one_cell_ints (l:List Int):∀ u ∈ I64 l,u.oneCell'=true:=by
 intro u hu
 obtain ⟨x,_,rfl⟩:=List.mem_map.1 hu
 rfl
theorem run_append_move {P:Program} (w:World) (base:Nat) (t ty e:TypeId) (i:TypeInfo) (z:Value) (bytes:Nat) (ht:P.underlying t=some (.slice e)) (hi:P.info? e=some i) (hz:i.zero=some z)
  (hsize:i.size=1) (hby:i.bytes=bytes) (hzs:z.cells.size=1)
  (v:Value) (n:Nat) (xs:List Value) (hown:w.ownsRow base e 1 v n xs)
  (a:Addr) (m c:Nat) (news:List Value) (hl:news.length=m) (hm:0 < m) (hnews:∀ j u,news[j]?=some u→w.cell? (a.add j)=some u) (h1:∀ u ∈ news,u.oneCell'=true)
  (h63:n + m≤maxLen) (hbytes:(n + m) * bytes≤140737488355328) (hbase:base≤w.heap.size) :
  ∃ v' w',(Builtin.append_ #[t,t] ty #[v,.slice (some a) m c]).run P w=.ok v' w'∧w'.ownsRow base e 1 v' (n + m) (xs ++ news)∧Moved w w' v v':=by
 obtain ⟨v',w',hrun,h2,h3,h4,h5⟩:=run_append_own_at (P:=P) w base t ty e i z 1 bytes ht hi hz hsize hby hzs (by decide) v n xs hown a m c news (by omega) hnews h1 h63 hbytes hbase
 refine ⟨v',w',hrun,h2,?_⟩
 rcases hown.2 with ⟨rfl,rfl⟩ | ⟨g,cap,cur,rfl,hbg,hg,hnc,hcm,hcs,htake⟩
 ·rcases h5 with h5 | h5
  ·exact .inl ⟨h5,h3⟩
  ·exact .inr ⟨h5,h3⟩
 ·by_cases hroom:n + m≤cap
  ·have hr:=run_append_room (P:=P) w t ty e i ht hi g n cap cur hg a m c news (by rw [hsize];omega) hnews h1 hroom (by rw [hsize,hcs];omega)
   have he:=hrun.symm.trans hr
   injection he with e1 e2
   left
   exact ⟨by rw [e1];rfl,h3⟩
  ·have holds:∀ j u,xs[j]?=some u→w.cell? ((⟨g,0,none⟩:Addr).add j)=some u:=hown.cells (g:=g) rfl
   have hr:=run_append_grow (P:=P) w t ty e i z ht hi hz ⟨g,0,none⟩ n cap xs (by rw [hsize];exact hown.1) holds a m c news (by rw [hsize];omega) hnews (by omega) (by unfold maxLen at h63;omega) (growslice_fits (by omega) (by rw [hby];exact hbytes))
   have he:=hrun.symm.trans hr
   injection he with e1 e2
   right
   refine ⟨by rw [e1];rfl,?_⟩
   rw [e2]
   exact ⟨rfl,rfl,rfl,by simp,fun k hk _=>heap_alloc_old w.drew _ hk⟩
theorem wpList_append_move {P:Program} {w:World} {ops:Array Oper} {rest:List Oper} {o:Oper} {a:Act} {Q:Exit→Act→World→Prop} (hgd:o.guard=none) (s x:Operand) (t:TypeId)
  (ho:o.op=.call { callee:=.builtin .append,args:=#[s,x],argTypes:=#[t,t] })
  (base:Nat) (e:TypeId) (i:TypeInfo) (z:Value) (bytes:Nat) (ht:P.underlying t=some (.slice e)) (hi:P.info? e=some i) (hz:i.zero=some z)
  (hsize:i.size=1) (hby:i.bytes=bytes) (hzs:z.cells.size=1)
  (v:Value) (n:Nat) (xs:List Value) (hs:a.eval s=v) (hown:w.ownsRow base e 1 v n xs)
  (ad:Addr) (m c:Nat) (news:List Value) (hx:a.eval x=.slice (some ad) m c) (hl:news.length=m) (hm:0 < m) (hnews:∀ j u,news[j]?=some u→w.cell? (ad.add j)=some u) (h1:∀ u ∈ news,u.oneCell'=true)
  (h63:n + m≤maxLen) (hbytes:(n + m) * bytes≤140737488355328) (hbase:base≤w.heap.size)
  (h:∀ v' w',Hid (w'.ownsRow base e 1 v' (n + m) (xs ++ news))→Hid (Moved w w' v v')→wpList P ops Q rest (a.put o.dst v') w'):wpList P ops Q (o :: rest) a w:=by
 refine wpList_plain hgd fun K hK=>?_
 obtain ⟨v',w',hr,h2,h3⟩:=run_append_move (P:=P) w base t o.type e i z bytes ht hi hz hsize hby hzs v n xs hown ad m c news hl hm hnews h1 h63 hbytes hbase
 unfold Oper.wp execOp
 simp only [ho,resolve,invoke,builtin,Sem.run_bind,Sem.run_pure,Result.andThen_ok,List.map_toArray,List.map_cons,List.map_nil,hs,hx,hr]
 exact hK _ _ (h v' w' h2 h3)
theorem Chg.away {w w':World} {F F' G:List Nat} (h:Chg w w' F F') (hG:∀ k ∈ G,k < w.heap.size) (hd:∀ k ∈ G,k ∉ F):∀ k ∈ G,k ∉ F':=fun k hk hm=>by
 rcases h.new k hm with h | h
 ·exact hd k hk h
 ·have:=hG k hk;omega
theorem Chg.setNew {w w':World} {F F':List Nat} (h:Chg w w' F F') {a:Addr} (u:Value) (ha:w.heap.size≤a.block):Chg w (w'.setCell a u) F F':=
 ⟨h.os,h.tape,h.output,by have:=h.size;simp [World.setCell];exact this,fun k hk hn=>(Below.heap_setCell _ _ _ _ (by omega)).trans (h.block k hk hn),h.new⟩
end Go.Proofs.YtacaanhnlfpbhaaGreat
namespace Go.Proofs.YtacaanhnlfpbhaaGreat
open Go.RowKit Go.WideMaps
set_option linter.unusedVariables false
set_option linter.unusedSimpArgs false
abbrev dk (a b:Int):Value:=.agg #[.int .i64 a,.int .i64 b]
theorem law_of {P:Program} {k:TypeId} {fs:Array Field} (hu:P.underlying k=some (.struct fs)) (h1:P.keyTypeAt 2 k=true) (h2:P.tiled 2 k=true):KeyLaw P k:=deep_law (by decide:2 + 1≤10000) h1 h2 (by rw [hu])
theorem key108:Tryz.prog.keyTypeAt 2 185=true:=by kernel_rfl
theorem tiled108:Tryz.prog.tiled 2 185=true:=by kernel_rfl
theorem law108:KeyLaw Tryz.prog 185:=law_of Tryz.underlying185 key108 tiled108
theorem keyType108:Tryz.prog.keyType 185=true:=by kernel_rfl
theorem size_types:Tryz.prog.types.size=275 + 1:=by kernel_rfl
theorem cells108:Tryz.prog.cellsOf 185=2:=by kernel_rfl
theorem cells3:Tryz.prog.cellsOf 3=1:=by kernel_rfl
theorem keyOf_two {P : Program} {k e : TypeId} {f0 f1 : Field} {m : Nat} (hu : P.underlying k = some (.struct #[f0, f1])) (e0 : f0.type = e) (e1 : f1.type = e) (o0 : f0.offset = 0) (o1 : f1.offset = 1) (n0 : (f0.name != "_") = true) (n1 : (f1.name != "_") = true)
  (he:P.underlying e=some (.int .i64)) (hc:P.cellsOf k=2) (hce:P.cellsOf e=1) (hkt:P.keyType k=true) (hsz:P.types.size=m + 1) (a b:Int) (wa:(Lit.int .i64 a).wf=true) (wb:(Lit.int .i64 b).wf=true) :
  keyOf P k (dk a b)=some (.string (keyBytes [.int .i64 a,.int .i64 b])):=by
 unfold keyOf
 simp only [hu]
 rw [if_pos (by simp [hkt,Value.formed,hu,hc]),hsz]
 unfold Program.keyLits
 simp only [hu,Value.cells]
 rw [if_pos (by simp [hc,n0,n1])]
 simp [Program.keyLits,e0,e1,o0,o1,hce,he,wa,wb]
theorem key_dk (a b:Int) (wa:(Lit.int .i64 a).wf=true) (wb:(Lit.int .i64 b).wf=true):keyOf Tryz.prog 185 (dk a b)=some (.string (keyBytes [.int .i64 a,.int .i64 b])):=
 keyOf_two (m:=275) Tryz.underlying185 rfl rfl rfl rfl rfl rfl Tryz.underlying3 cells108 cells3 keyType108 size_types a b wa wb
theorem zero109 (w:World):(zeroValue 186).run Tryz.prog w=.ok (.agg #[]) w:=by kernel_rfl
def wf2 (x:Int × Int):Prop:=(Lit.int .i64 x.1).wf=true∧(Lit.int .i64 x.2).wf=true
def MP (w:World) (b:Nat) (D:List (Int × Int)):Prop:=∃ es clock,w.heap[b]?=some (.map es clock)∧es.toList.map (·.key)=D.map (fun x=>dk x.1 x.2)∧(∀ x ∈ es.toList,x.val=.agg #[])∧∀ x ∈ D,wf2 x
theorem MP.keys {D:List (Int × Int)} {es:List MapEntry} (h:es.map (·.key)=D.map (fun x=>dk x.1 x.2)) (hD:∀ x ∈ D,wf2 x):∀ e ∈ es,∃ l,keyOf Tryz.prog 185 e.key=some l:=by
 intro e he
 have:e.key ∈ D.map (fun x=>dk x.1 x.2):=by rw [← h];exact List.mem_map_of_mem he
 obtain ⟨x,hx,e1⟩:=List.mem_map.1 this
 rw [← e1]
 exact ⟨_,key_dk _ _ (hD x hx).1 (hD x hx).2⟩
theorem dk_inj {a b c d:Int} (h:dk a b=dk c d):a=c∧b=d:=by simpa using h
theorem MP.look {w:World} {b:Nat} {D:List (Int × Int)} (h:MP w b D) (a p:Int) (hw:wf2 (a,p)):(Instr.lookup 131 (.map (some b)) (dk a p) true).run Tryz.prog w=.ok (.tuple #[.agg #[],.bool (decide ((a,p) ∈ D))]) w:=by
 obtain ⟨es,clock,hb,hk,hv,hD⟩:=h
 have hkey:=key_dk a p hw.1 hw.2
 rcases law108.find w hkey es.toList (MP.keys hk hD) with ⟨h1,h2⟩ | ⟨j,e0,h1,h2,h3⟩
 ·have hn:decide ((a,p) ∈ D)=false:=by
   rw [decide_eq_false_iff_not]
   intro hm
   have:dk a p ∈ es.toList.map (·.key):=by rw [hk];exact List.mem_map.2 ⟨_,hm,rfl⟩
   obtain ⟨e,he,e1⟩:=List.mem_map.1 this
   exact h2 e he e1
  rw [hn]
  simp [Instr.lookup,run_underlying Tryz.underlying131,MapKept.run_getObj_map hb,law108.check w _ hkey,h1,zero109,Result.andThen]
 ·have hm:e0 ∈ es.toList:=List.mem_of_getElem? h2
  have hn:decide ((a,p) ∈ D)=true:=by
   rw [decide_eq_true_eq]
   have:e0.key ∈ D.map (fun x=>dk x.1 x.2):=by rw [← hk];exact List.mem_map_of_mem hm
   obtain ⟨x,hx,e1⟩:=List.mem_map.1 this
   rw [h3] at e1
   obtain ⟨rfl,rfl⟩:=dk_inj e1
   exact hx
  rw [hn]
  simp [Instr.lookup,run_underlying Tryz.underlying131,MapKept.run_getObj_map hb,law108.check w _ hkey,h1,hv e0 hm,Result.andThen]
def putB (w:World) (b:Nat) (o:Obj):World:={ w with heap:=w.heap.setIfInBounds b o }
theorem putB_size (w:World) (b:Nat) (o:Obj):(putB w b o).heap.size=w.heap.size:=by simp [putB]
theorem putB_other (w:World) {b k:Nat} (o:Obj) (h:k≠b):(putB w b o).heap[k]?=w.heap[k]?:=by
 simp only [putB]
 rw [Array.getElem?_setIfInBounds_ne (fun e=>h e.symm)]
theorem MP.put {w:World} {b:Nat} {D:List (Int × Int)} (h:MP w b D) (a p:Int) (hw:wf2 (a,p)) (hn:(a,p) ∉ D):∃ o,(Instr.mapUpdate 131 (.map (some b)) (dk a p) (.agg #[])).run Tryz.prog w=.ok () (putB w b o)∧MP (putB w b o) b (D ++ [(a,p)]):=by
 obtain ⟨es,clock,hb,hk,hv,hD⟩:=h
 have hkey:=key_dk a p hw.1 hw.2
 rcases law108.find w hkey es.toList (MP.keys hk hD) with ⟨h1,h2⟩ | ⟨j,e0,h1,h2,h3⟩
 ·refine ⟨Obj.map (es.push ⟨dk a p,.agg #[],clock⟩) (clock + 1),?_,es.push ⟨dk a p,.agg #[],clock⟩,clock + 1,?_,?_,?_,?_⟩
  ·simp [Instr.mapUpdate,run_underlying Tryz.underlying131,MapKept.run_getObj_map hb,law108.check w false hkey,h1,MapKept.run_setObj_map _ hb,Result.andThen,putB]
  ·have:=(Array.getElem?_eq_some_iff.1 hb).1
   simp [putB,this]
  ·simp [hk]
  ·intro x hx
   simp only [Array.toList_push,List.mem_append,List.mem_singleton] at hx
   rcases hx with hx | rfl
   ·exact hv x hx
   ·rfl
  ·intro x hx
   simp only [List.mem_append,List.mem_singleton] at hx
   rcases hx with hx | rfl
   ·exact hD x hx
   ·exact hw
 ·exfalso
  have hm:e0 ∈ es.toList:=List.mem_of_getElem? h2
  have:e0.key ∈ D.map (fun x=>dk x.1 x.2):=by rw [← hk];exact List.mem_map_of_mem hm
  obtain ⟨x,hx,e1⟩:=List.mem_map.1 this
  rw [h3] at e1
  obtain ⟨rfl,rfl⟩:=dk_inj e1
  exact hn hx
end Go.Proofs.YtacaanhnlfpbhaaGreat
namespace Go.Proofs.YtacaanhnlfpbhaaGreat
open Go.RowKit Go.Lib
set_option linter.unusedVariables false
set_option linter.unusedSimpArgs false
set_option maxHeartbeats 1000000 in
theorem right_long (L:List (Int × Int)) (ad:Option Addr) (n cap:Nat) (w:World) (hS:5000 < n) (hS2:n≤17592186044416) :
  Calls Tryz.prog 169 #[.slice ad n cap] w fun e w'=>e=.returned (.bool false)∧Below w.heap.size w w':=by
 go_enter Tryz.func169,Tryz.ntmps169
 go_wp2
 go_ret
 exact ⟨rfl,Below.refl _ _⟩
theorem right25 (L:List (Int × Int)) (ad:Option Addr) (n cap:Nat) (w:World) (hn:n=L.length) (hS2:n≤17592186044416) (hl:RowAt w.heap.size w (.slice ad n cap) L) :
  Calls Tryz.prog 169 #[.slice ad n cap] w fun e w'=>e=.returned (.bool (rightB L))∧Below w.heap.size w w':=by
 by_cases h:n≤5000
 ·have e:rightB L=rightFrom 0 L:=by unfold rightB;rw [← hn];simp [h]
  rw [e]
  exact right_short L ad n cap w hn h hl
 ·have e:rightB L=false:=by unfold rightB;rw [← hn];simp [h]
  rw [e]
  exact right_long L ad n cap w (by omega) hS2
def hasB (L:List (Int × Int)) (r:Int):Bool:=L.any fun g=>decide (g.1≤r) && decide (r≤g.2)
end Go.Proofs.YtacaanhnlfpbhaaGreat
namespace Go.Proofs.YtacaanhnlfpbhaaGreat
open Go.RowKit
set_option linter.unusedVariables false
set_option linter.unusedSimpArgs false
theorem below_drewN' {B:Nat} {a w:World} (h:Below B a w) (n:Nat):Below B a (w.drewN n):=h.trans ⟨rfl,rfl,rfl,Nat.le_refl _,fun _ _=>rfl⟩
theorem row_setC {w:World} {base e size n b c:Nat} {xs:List Value} (h:w.ownsRow base e size (.slice (some ⟨b,0,none⟩) n c) n xs) (j:Nat) (v:Value):(w.setCell ⟨b,j,none⟩ v).ownsRow base e size (.slice (some ⟨b,0,none⟩) n c) n (xs.set j v):=by
 obtain ⟨hl,hr⟩:=h
 rcases hr with ⟨he,_⟩ | ⟨g,cap,cur,he,hb,hgg,h1,h2,h3,h4⟩
 ·cases he
 ·simp only [Value.slice.injEq,Option.some.injEq,Addr.mk.injEq] at he
  obtain ⟨⟨rfl,_⟩,_,rfl⟩:=he
  refine ⟨by simp [hl],.inr ⟨b,c,cur.setIfInBounds j v,rfl,hb,Joins.block_setCell hgg _,h1,h2,by simpa using h3,?_⟩⟩
  simp only [Array.toList_setIfInBounds]
  rw [List.take_set,h4]
def inB (R:List (Int × Int)) (r:Int):Bool:=R.any fun x=>decide (x.1≤r) && decide (r≤x.2)
def hsB (R:List (Int × Int)) (r:Int):Bool:=rightB R && inB R r
theorem right_rise (L:List (Int × Int)):∀ (ls:Int) (k:Nat),rightFrom ls L=true→k + 1 < L.length→(L.getD k (0,0)).2 < (L.getD (k + 1) (0,0)).1∧(L.getD (k + 1) (0,0)).1≤(L.getD (k + 1) (0,0)).2:=by
 induction L with
 | nil=>intro ls k _ h;simp at h
 | cons a t ih =>
  intro ls k h hk
  simp only [rightFrom,Bool.and_eq_true] at h
  cases k with
  | zero =>
   cases t with
   | nil=>simp at hk
   | cons b t =>
    have h2:=h.2
    simp only [rightFrom,okG,Bool.and_eq_true,decide_eq_true_eq] at h2
    have:=h2.1.1.1.1.1
    have:=h2.1.1.1.1.2
    simp
    omega
  | succ k=>simpa using ih _ k h.2 (by simpa using hk)
theorem right_mono (L:List (Int × Int)) (ls:Int) (h:rightFrom ls L=true):∀ (d k:Nat),k + d < L.length→(L.getD k (0,0)).2≤(L.getD (k + d) (0,0)).2:=by
 intro d
 induction d with
 | zero=>intro k _;simp
 | succ d ih =>
  intro k hk
  have h1:=ih k (by omega)
  have h2:=right_rise L ls (k + d) h (by omega)
  have e:k + (d + 1)=k + d + 1:=by omega
  rw [e]
  omega
theorem right_lo (L:List (Int × Int)) (ls:Int) (h:rightFrom ls L=true) (a b:Nat) (hab:a < b) (hb:b < L.length):(L.getD a (0,0)).2 < (L.getD b (0,0)).1:=by
 obtain ⟨d,rfl⟩:=Nat.exists_eq_add_of_le (show a + 1≤b by omega)
 have h1:=right_mono L ls h d a (by omega)
 have h2:=right_rise L ls (a + d) h (by omega)
 have e:a + 1 + d=a + d + 1:=by omega
 rw [e]
 omega
end Go.Proofs.YtacaanhnlfpbhaaGreat
namespace Go.Proofs.YtacaanhnlfpbhaaGreat
open Go.RowKit Go.Lib
set_option linter.unusedVariables false
set_option linter.unusedSimpArgs false
theorem nan52 (a:Int) (w:World):Calls Tryz.prog 237 #[.int .i64 a] w fun e w'=>e=.returned (.bool false)∧w'=w:=by
 go_enter Tryz.func237,Tryz.ntmps237
 go_wp2
 go_ret
 exact ⟨ret_bool (by simp),rfl⟩
theorem cmp51 (a b:Int) (w:World):Calls Tryz.prog 218 #[.int .i64 a,.int .i64 b] w fun e w'=>e=.returned (.int .i64 (Lib.compareInt a b))∧w'=w:=by
 go_enter Tryz.func218,Tryz.ntmps218
 go_wp2_with (go_at_call 237;(with_reducible refine (nan52 _ _).mono ?_);rintro e w' ⟨rfl,rfl⟩)
 all_goals go_ret
 all_goals exact ⟨ret_int (by unfold Lib.compareInt;(repeat' split) <;> omega),rfl⟩
set_option maxHeartbeats 1000000 in
theorem closure50 (lo hi r:Int) (W:World):Calls Tryz.prog 228 #[.agg #[.int .i64 lo,.int .i64 hi],.int .i64 r] W fun e w'=>e=.returned (.int .i64 (Lib.compareInt hi r))∧Below W.heap.size W w':=by
 have hcon:=fun W'=>cmp51 hi r W'
 generalize Lib.compareInt hi r=c at hcon ⊢
 go_enter Tryz.func228,Tryz.ntmps228
 go_wp2_with (go_at_call 218;refine (hcon _).mono ?_;rintro e w' ⟨rfl,rfl⟩)
 go_ret
 exact ⟨rfl,(Below.refl _ _).alloc (Nat.le_refl _) _⟩
theorem cmp_ltY (a b:Int):Lib.compareInt a b < 0↔a < b:=by
 unfold Lib.compareInt
 by_cases h1:a < b
 ·simp [h1]
 ·by_cases h2:b < a <;> simp [h1,h2]
set_option maxHeartbeats 3000000 in
set_option maxRecDepth 1000000 in
theorem bs49 (L:List (Int × Int)) (ad:Option Addr) (n cap:Nat) (r:Int) (w:World) (hn:Hid (n=L.length)) (hl:Hid (RowAt w.heap.size w (.slice ad n cap) L)) (hS:n≤5000) :
  Calls Tryz.prog 216 #[.slice ad n cap,.int .i64 r,.func (.func 228) #[] #[]] w fun e w'=>∃ (i:Nat) (f:Bool),e=.returned (.tuple #[.int .i64 i,.bool f])∧Below w.heap.size w w'∧i≤n∧(i=0∨(L.getD (i - 1) (0,0)).2 < r)∧(i=n∨r≤(L.getD i (0,0)).2):=by
 go_enter Tryz.func216,Tryz.ntmps216
 go_wp2
 go_loopw [9,10] (fun a b wr=>∃ (i j:Nat),a=.int .i64 i∧b=.int .i64 j∧i≤j∧j≤n∧Below w.heap.size w wr∧Hid ((i=0∨(L.getD (i - 1) (0,0)).2 < r)∧(j=n∨r≤(L.getD j (0,0)).2)))
  (fun a b _=>(intOf b).toNat - (intOf a).toNat)
 case atStart=>exact ⟨0,n,rfl,rfl,by omega,by omega,Below.refl _ _,by exact ⟨.inl rfl,.inl rfl⟩⟩
 case round =>
  obtain ⟨i,j,rfl,rfl,hij,hjn,hbw,HR⟩:=hrel
  have hsz:=hbw.size
  by_cases hlt:i < j
  ·obtain ⟨ad',cap',he,h | ⟨b,off,rfl,hbN,hc0,hc1⟩⟩:=hl.out
   ·exact absurd h (by rw [← hn.out];omega)
   ·have hn':=hn.out
    simp only [Value.slice.injEq] at he
    obtain ⟨rfl,-,rfl⟩:=he
    have hm1:i≤(i + j) / 2:=by omega
    have hm2:(i + j) / 2 < j:=by omega
    have d0:=(hbw.cell (p:=⟨b,off + (i + j) / 2 * 2,none⟩) hbN).trans (hc0 ((i + j) / 2) (by omega))
    have d1:=(hbw.cell (p:=⟨b,off + (i + j) / 2 * 2 + 1,none⟩) hbN).trans (hc1 ((i + j) / 2) (by omega))
    generalize hg:L.getD ((i + j) / 2) (0,0)=g at d0 d1
    obtain ⟨lo,hi⟩:=g
    simp only at d0 d1
    have HG:Hid (L.getD ((i + j) / 2) (0,0)=(lo,hi)):=hg
    clear hg hc0 hc1 hn'
    have hcl:=closure50 lo hi r
    have hcmp:=cmp_ltY hi r
    generalize Lib.compareInt hi r=c at hcl hcmp
    by_cases hc:c < 0
    ·have HX:Hid (hi < r):=hcmp.1 hc
     clear hcmp
     go_wp2_with (go_at_call 228;refine (hcl _).mono ?_;rintro e w2 ⟨rfl,hb2⟩)
     go_roundw
     case rel=>exact ⟨(i + j) / 2 + 1,j,by go_num,rfl,by omega,by omega,hbw.trans (hb2.mono hsz),by exact ⟨.inr (by rw [Nat.add_sub_cancel,HG.out];exact HX.out),HR.out.2⟩⟩
     case measure=>simp [intOf];omega
    ·have HX:Hid (r≤hi):=by show r≤hi;have:=mt hcmp.2 hc;omega
     clear hcmp
     go_wp2_with (go_at_call 228;refine (hcl _).mono ?_;rintro e w2 ⟨rfl,hb2⟩)
     go_roundw
     case rel=>exact ⟨i,(i + j) / 2,rfl,by go_num,by omega,by omega,hbw.trans (hb2.mono hsz),by exact ⟨HR.out.1,.inr (by rw [HG.out];exact HX.out)⟩⟩
     case measure=>simp [intOf];omega
  ·obtain rfl:i=j:=by omega
   by_cases hin:i < n
   ·obtain ⟨ad',cap',he,h | ⟨b,off,rfl,hbN,hc0,hc1⟩⟩:=hl.out
    ·exact absurd h (by rw [← hn.out];omega)
    ·have hn':=hn.out
     simp only [Value.slice.injEq] at he
     obtain ⟨rfl,-,rfl⟩:=he
     have d0:=(hbw.cell (p:=⟨b,off + i * 2,none⟩) hbN).trans (hc0 i (by omega))
     have d1:=(hbw.cell (p:=⟨b,off + i * 2 + 1,none⟩) hbN).trans (hc1 i (by omega))
     generalize L.getD i (0,0)=g at d0 d1
     obtain ⟨lo,hi⟩:=g
     simp only at d0 d1
     clear hc0 hc1 hn'
     have hcl:=closure50 lo hi r
     generalize Lib.compareInt hi r=c at hcl
     go_wp2_with (go_at_call 228;refine (hcl _).mono ?_;rintro e w2 ⟨rfl,hb2⟩)
     go_ret2
     exact ⟨i,_,rfl,hbw.trans (hb2.mono hsz),by omega,HR.out.1,HR.out.2⟩
   ·go_wp2
    go_ret2
    exact ⟨i,_,rfl,hbw,by omega,HR.out.1,HR.out.2⟩
theorem has_searchY (L:List (Int × Int)) (r:Int) (i:Nat) (h:rightB L=true) (hi:i≤L.length) (h0:i=0∨(L.getD (i - 1) (0,0)).2 < r) (h1:i=L.length∨r≤(L.getD i (0,0)).2) :
  hasB L r=(decide (i < L.length) && decide ((L.getD i (0,0)).1≤r)):=by
 have hr:rightFrom 0 L=true:=by unfold rightB at h;rw [Bool.and_eq_true] at h;exact h.2
 have hge:∀ k (hk:k < L.length),L[k]=L.getD k (0,0):=fun k hk=>by simp [List.getD,hk]
 rw [Bool.eq_iff_iff]
 unfold hasB
 rw [List.any_eq_true]
 simp only [Bool.and_eq_true,decide_eq_true_eq]
 constructor
 ·rintro ⟨g,hg,ha,hb⟩
  obtain ⟨k,hk,rfl⟩:=List.getElem_of_mem hg
  rw [hge k hk] at ha hb
  have hki:¬ k < i:=fun hlt=>by
   rcases h0 with h0 | h0
   ·omega
   ·have:=right_mono L 0 hr (i - 1 - k) k (by omega)
    rw [show k + (i - 1 - k)=i - 1 by omega] at this
    omega
  have hik:¬ i < k:=fun hlt=>by
   rcases h1 with h1 | h1
   ·omega
   ·have:=right_lo L 0 hr i k hlt hk
    omega
  obtain rfl:k=i:=by omega
  exact ⟨hk,ha⟩
 ·rintro ⟨hk,ha⟩
  refine ⟨L[i],List.getElem_mem hk,?_⟩
  rw [hge i hk]
  rcases h1 with h1 | h1
  ·omega
  ·exact ⟨ha,h1⟩
set_option maxHeartbeats 2000000 in
set_option maxRecDepth 1000000 in
theorem has30 (L:List (Int × Int)) (ad:Option Addr) (n cap:Nat) (r:Int) (w:World) (hn:Hid (n=L.length)) (hS2:n≤17592186044416) (hl:Hid (RowAt w.heap.size w (.slice ad n cap) L)) :
  Calls Tryz.prog 183 #[.slice ad n cap,.int .i64 r] w fun e w'=>e=.returned (.bool (rightB L && hasB L r))∧Below w.heap.size w w':=by
 have hr1:=right25 L ad n cap w hn.out hS2 hl.out
 cases hr:rightB L
 ·rw [hr] at hr1
  clear hr
  go_enter Tryz.func183,Tryz.ntmps183
  go_wp2_with (go_at_call 169;refine hr1.mono ?_;rintro e w1 ⟨rfl,hb1⟩)
  go_ret
  exact ⟨rfl,hb1⟩
 ·rw [hr] at hr1
  have hlen:=rightB_len hr
  rw [← hn.out] at hlen
  have HRB:Hid (rightB L=true):=hr
  clear hr
  go_enter Tryz.func183,Tryz.ntmps183
  go_wp2_with fail
  refine hr1.mono ?_
  rintro e w1 ⟨rfl,hb1⟩
  have hs1:=hb1.size
  have hb:=bs49 L ad n cap r w1 hn (hl.out.below hb1 (Nat.le_refl _) hs1) hlen
  go_wp2_with fail
  refine hb.mono ?_
  rintro e w2 ⟨i,f,rfl,hb2,hin,h0,h1⟩
  have hbw:=hb1.trans (hb2.mono hs1)
  have HE:Hid (hasB L r=(decide (i < n) && decide ((L.getD i (0,0)).1≤r))):=by
   show hasB L r=_
   have:=has_searchY L r i HRB.out (by rw [← hn.out];exact hin) h0 (by rw [← hn.out];exact h1)
   rw [← hn.out] at this
   exact this
  clear h0 h1
  by_cases hlt:i < n
  ·obtain ⟨ad',cap',he,h | ⟨b,off,rfl,hbN,hc0,hc1⟩⟩:=hl.out
   ·exact absurd h (by rw [← hn.out];omega)
   ·have hn':=hn.out
    simp only [Value.slice.injEq] at he
    obtain ⟨rfl,-,rfl⟩:=he
    have d0:=(hbw.cell (p:=⟨b,off + i * 2,none⟩) hbN).trans (hc0 i (by omega))
    have d1:=(hbw.cell (p:=⟨b,off + i * 2 + 1,none⟩) hbN).trans (hc1 i (by omega))
    have hE:=HE.out
    generalize L.getD i (0,0)=g at d0 d1 hE
    obtain ⟨lo,hi⟩:=g
    simp only at d0 d1 hE
    have HE2:Hid ((true && hasB L r)=decide (lo≤r)):=by show _=_;rw [hE];simp [hlt]
    clear hE HE hc0 hc1 hn'
    go_wp2
    go_ret
    exact ⟨ret_bool HE2.out.symm,hbw⟩
  ·have HE2:Hid ((true && hasB L r)=false):=by show _=_;rw [HE.out];simp [hlt]
   go_wp2
   go_ret
   exact ⟨ret_bool HE2.out.symm,hbw⟩
end Go.Proofs.YtacaanhnlfpbhaaGreat
