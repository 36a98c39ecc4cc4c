/- PROVED: the law MeaningParses of layer 6 answers true for every two trees, text and place, and they read afterwards as they read before: the program's Parses of a tree answers the document's parses, or its error, asked twice with another question between; the tree and the text that were handed in stay as they were, with what lies behind their lists; asked again of the same lists with other things in them it answers what the document says of these; and what came out is its owner's: written over and grown, no list changes another.
   CONDITIONS: none but the form's own (each slice and string at most 2^47 - 4096 bytes). -/
import Derived.Test.YtacaanhnlfpbhaaGreatK01
import Derived.Test.YtacaanhnlfpbhaaGreatK04
import Derived.Test.YtacaanhnlfpbhaaGreatK42
import Derived.Test.YtacaanhnlfpbhaaGreatRows
import Derived.Deep.SlicePairs
import Derived.RowKit
import Derived.JoinedCond
import Derived.OpenShut
import Derived.SizedLaws
import Derived.Lib.SmallJoins
import Derived.Test.YtacaanhnlfpbhaaGreatK05
import Derived.Test.YtacaanhnlfpbhaaGreatProg
import Derived.WalkKit
import Derived.ProofKit
import Derived.BigQuiet
import Derived.WalkSmall
import Derived.Deep.QuietTactic
import Derived.Deep.RegionWith
import Derived.Laws.EntriesVeiled
import Derived.Deep.WholeRow
namespace Go.Proofs.YtacaanhnlfpbhaaGreat
open Go.ChangeShapes Go.WideShapes Go.ChangeAt Go.RowKit
set_option linter.unusedVariables false
set_option linter.unusedSimpArgs false
theorem cells28M:Tryz.prog.cellsOf 28=2:=by kernel_rfl
theorem cells26M:Tryz.prog.cellsOf 26=1:=by kernel_rfl
theorem open_textM {H:Type} {enc:TypeId × Value→H} {w:World} {base:Nat} {fuel:Nat} {cs:List Value} {x:DataW H × List MemPlace} (h:DataW.trod enc Tryz.prog w base (fun _=>true) true fuel 26 cs=some x) (hw:∀ n ∈ x.1.weights Tryz.prog 26,n≤reachBytes) :
  ∃ (l:List Int) (ad:Option Addr) (n cap:Nat),cs=[.slice ad n cap]∧Look.TextAt w.heap.size w ad n l∧n≤cap∧n≤17592186043904:=by
 rcases open_ints Tryz.underlying26 Tryz.underlying3 cells3a h with ⟨hcs,hx⟩ | ⟨a,len',cap',zs,hcs,_,hl,hm,hz,hx,hcell,hwz⟩
 ·exact ⟨[],none,0,0,hcs,⟨rfl,by omega,.inl rfl⟩,Nat.le_refl _,by omega⟩
 ·simp only [if_true] at hz
  subst hx
  have hb3:Tryz.prog.bytesOf 3=8:=by kernel_rfl
  have hs:=hw (((lits (H:=H) .i64 (zs.take len')).length + (lits (H:=H) .i64 (zs.drop len')).length) * Tryz.prog.bytesOf 3) (by simp [DataW.weights,Tryz.underlying26,lits])
  rw [hb3,(show reachBytes=140737488351232 by decide)] at hs
  simp only [lits,List.length_map,List.length_take,List.length_drop] at hs
  have htl:(zs.take len').length=len':=by rw [List.length_take];omega
  refine ⟨zs.take len',some a,len',cap',hcs,⟨htl.symm,by omega,?_⟩,by omega,by omega⟩
  rcases Nat.eq_zero_or_pos len' with h0 | h0
  ·exact .inl h0
  ·right
   obtain ⟨b,off,rfl,hc⟩:=ints_at hcell (by omega)
   refine ⟨b,off,rfl,lt_of_cell (hc 0 (by omega)),fun k hk=>?_⟩
   have hk':k < zs.length:=by omega
   rw [hc k hk']
   simp [List.getD_eq_getElem?_getD,List.getElem?_take_of_lt hk,List.getElem?_eq_getElem hk']
set_option maxRecDepth 100000 in
theorem asked_argM {H:Type} {enc:TypeId × Value→H} {base:Nat} {W:World} {v:Value} {d:DataW H} {p:List MemPlace} (hok:Value.okWide Tryz.prog W .any base 28 v) (h0:DataW.Trod enc Tryz.prog W 0 (fun _=>true) true 28 v d p) (hsz:∀ n ∈ d.weights Tryz.prog 28,n≤reachBytes) :
  ∃ (tad:Option Addr) (tn tc:Nat) (a:Int) (tx:List Int),v=.agg #[.slice tad tn tc,.int .i64 a]∧Look.TextAt W.heap.size W tad tn tx∧tn≤tc∧tn≤17592186043904:=by
 obtain ⟨cs,rfl,hs⟩:=okWide_struct Tryz.underlying28 hok
 obtain ⟨fuel,hf⟩:=h0
 obtain ⟨xs,n,hfu,hd,hl,hxl,hfs⟩:=DataW.trod_struct Tryz.underlying28 hf
 obtain ⟨L,hL⟩:∃ L,L=(Value.agg cs).cells.toList:=⟨_,rfl⟩
 have hL':cs.toList=L:=by rw [hL];rfl
 rw [← hL] at hl hfs
 rw [cells28M] at hl
 simp only [List.size_toArray,List.length_cons,List.length_nil] at hxl
 match xs,hxl,L,hl,hL' with
 | [y0,y1],_,[v0,v1],_,hL' =>
 have g0:=hfs 0 _ rfl
 have g1:=hfs 1 _ rfl
 simp [cells3a] at g1
 simp [cells26M] at g0
 have hd1:d=.agg ([y0,y1].map (·.1)):=congrArg Prod.fst hd
 have hw0:∀ n ∈ y0.1.weights Tryz.prog 26,n≤reachBytes:=fun n hn=>hsz n (by
  rw [hd1]
  simp only [DataW.weights,Tryz.underlying28]
  exact DataW.weights_mem_each (j:=0) (by simp) (by simp) n hn)
 obtain ⟨a1,e1,_,_⟩:=DataW.trod_int Tryz.underlying3 g1
 obtain ⟨tx,ad,n',c,e0,h1,h2,h3⟩:=open_textM g0 hw0
 simp only [List.cons.injEq,and_true] at e0 e1
 subst e0 e1
 refine ⟨ad,n',c,a1,tx,?_,h1,h2,h3⟩
 have:cs=[Value.slice ad n' c,.int .i64 a1].toArray:=by rw [← hL']
 rw [this]
set_option maxRecDepth 100000 in
theorem mparsesLifted (os:Os) (started:os.Started) (H:Type) (enc:TypeId × Value→H) :
  ReturnsInHanded {} Tryz.checked os 3 .any (Rows.meaningParsesSpec.pre6 enc Tryz.prog Tryz.f3 Rows.meaningParsesRow.domain false) (Rows.meaningParsesSpec.post enc Tryz.prog Tryz.f3 false true false false):=by
 refine returnsInHanded_of_change_sized (C:=Tryz.checked) ownB started (by kernel_rfl) Tryz.func3
  (ChangeSpec.witness6 (enc:=enc) (C:=Tryz.checked) false ⟨#[],#[.agg #[.int .i64 0,.slice none 0 0,.int .i64 0,.slice none 0 0,.int .i64 0,.int .i64 0,.bool false,.int .i64 0,.string ⟨#[]⟩],.agg #[.int .i64 0,.slice none 0 0,.int .i64 0,.slice none 0 0,.int .i64 0,.int .i64 0,.bool false,.int .i64 0,.string ⟨#[]⟩],.agg #[.slice none 0 0,.int .i64 0]],[]⟩ 8 (by kernel_rfl) (by kernel_rfl) (by kernel_rfl) (by kernel_rfl)) ?_
 intro W base args ds gs before hval0 hW hcnd0 hsz0 hholds
 have hval:∀ (j:Nat) t v,Tryz.f3.params[j]?=some t→args[j]?=some v→Value.okWide Tryz.prog W .any base t v:=hval0
 have hW':=hW
 obtain ⟨p,q,hA0,hV,rfl,hfz,hnd⟩:=hW
 have hA:DataW.TrodAll enc Tryz.prog W 0 (fun _=>true) true Tryz.f3.params.toList args.toList ds p:=hA0
 have hsz:∀ n ∈ DataW.weightsEach Tryz.prog (Tryz.f3.params.toList ++ Rows.meaningParsesSpec.plain.varTypes Tryz.prog) (ds ++ gs),n≤reachBytes:=fun n hn=>by simpa using List.all_eq_true.1 hsz0 n hn
 rw [Tryz.params3] at hA hval hsz
 obtain ⟨v0,vs0,d0,ds0,p0,q0,hargs,rfl,rfl,h0,r0⟩:=trodAll_cons hA
 obtain ⟨v1,vs1,d1,ds1,p1,q1,rfl,rfl,rfl,h1,r1⟩:=trodAll_cons r0
 obtain ⟨v2,vs2,d2,ds2,p2,q2,rfl,rfl,rfl,h2,r2⟩:=trodAll_cons r1
 obtain ⟨rfl,rfl,rfl⟩:=trodAll_nil r2
 obtain rfl:args=#[v0,v1,v2]:=by cases args;simp_all
 obtain ⟨rfl,rfl⟩:=trodVars_none hV
 have hlt0:∀ x ∈ p0,x.block < W.heap.size:=fun x hx=>by have:=hW'.lt x (by simp [hx]);simpa using this
 have hlt1:∀ x ∈ p1,x.block < W.heap.size:=fun x hx=>by have:=hW'.lt x (by simp [hx]);simpa using this
 have hlt2:∀ x ∈ p2,x.block < W.heap.size:=fun x hx=>by have:=hW'.lt x (by simp [hx]);simpa using this
 obtain ⟨N,t,rfl,hT,hS⟩:=node_argS (hval 0 25 v0 rfl rfl) h0 (fun n hn=>hsz n (DataW.weights_mem_each (j:=0) (by simp) (by simp) n hn))
 obtain ⟨N2,u,rfl,hT2⟩:=node_arg (hval 1 25 v1 rfl rfl) h1
 obtain ⟨ad,tn,tcap,at_,tx,rfl,hX,htc,htn⟩:=asked_argM (hval 2 28 v2 rfl rfl) h2 (fun n hn=>hsz n (DataW.weights_mem_each (j:=2) (by simp) (by simp) n hn))
 clear hA0 hval0
 refine (mparses3 hT hT2 hS hX htc htn).mono fun e W' ⟨he,hb⟩=>?_
 subst he
 exact ⟨_,rfl,_,_,_,[],p0 ++ (p1 ++ (p2 ++ [])),[],hW',trodAll_cons_mk (shut_bool Tryz.underlying4 _) trodAll_mk0,trodAll_cons_mk (Below.trod laidOut (by kernel_rfl) (of_decide_eq_true (by kernel_rfl)) h0 hb hlt0) (trodAll_cons_mk (Below.trod laidOut (by kernel_rfl) (of_decide_eq_true (by kernel_rfl)) h1 hb hlt1) (trodAll_cons_mk (Below.trod laidOut (by kernel_rfl) (of_decide_eq_true (by kernel_rfl)) h2 hb hlt2) trodAll_mk0)),rfl,hb.frame _,fun h=>by cases h⟩
theorem meaningParses_holds:Rows.MeaningParsesSaid:=
 OpenClaim.holds_of_wide 3 Tryz.f3 rfl rfl rfl rfl rfl rfl rfl ⟨rfl,rfl,rfl,rfl,rfl⟩ rfl rfl rfl rfl rfl (by kernel_rfl) Tryz.func3 (by kernel_rfl)
  (of_decide_eq_true (by kernel_rfl)) (by unfold Func.isWrapper;first | (rw [if_pos (by decide +kernel)];kernel_rfl) | (rw [if_neg (by decide +kernel)];exact ⟨rfl,rfl⟩))
  (fun os started H enc _=>mparsesLifted os started H enc)
end Go.Proofs.YtacaanhnlfpbhaaGreat
