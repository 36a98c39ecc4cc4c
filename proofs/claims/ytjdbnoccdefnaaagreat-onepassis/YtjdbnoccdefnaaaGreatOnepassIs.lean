/- PROVED: the law OnepassIs of layer 13 answers true for every two programs, and they read afterwards as they read before: Is tells of a program what the document says, asked again behind another one and of the same lists with other things in them; what is handed in stays, with what stands behind its lists.
   CONDITIONS: none but the form's own (each slice and string at most 2^47 - 4096 bytes). -/
import Derived.Test.YtjdbnoccdefnaaaGreatK56
import Derived.WalkKit
import Derived.ProofKit
import Derived.BigQuiet
import Derived.WalkSmall
import Derived.Deep.QuietTactic
import Derived.Deep.RegionWith
import Derived.Lib.SmallJoins
import Derived.Lib.MinMax
import Derived.Maps.AppendAt
import Derived.Laws.AppendOwnNone
import Derived.Lib.Small
import Derived.Deep.Cut
import Derived.Deep.CutRange
import Derived.Deep.RegionHeld3
import Derived.Laws.EntriesVeiled
import Derived.Deep.WholeRow
import Derived.Test.YtjdbnoccdefnaaaGreatRows
/- HELPERS: texts of ours put together. -/
namespace Go.Proofs.YtjdbnoccdefnaaaGreat
open Go.RowKit Go.Deep Go.ChangeShapes Go.WideShapes
set_option linter.unnecessarySimpa false
set_option linter.unusedVariables false
set_option linter.unusedSimpArgs false
theorem cells36:Tryz.prog.cellsOf 41 = 1:=by kernel_rfl
theorem cells22:Tryz.prog.cellsOf 22 = 1:=by kernel_rfl
theorem cells51:Tryz.prog.cellsOf 43 = 5:=by kernel_rfl
theorem cells24:Tryz.prog.cellsOf 24 = 3:=by kernel_rfl
theorem bytes49:Tryz.prog.bytesOf 50 = 16:=by kernel_rfl
theorem bytes51:Tryz.prog.bytesOf 43 = 56:=by kernel_rfl
theorem weightsAll_mem {H:Type} {P:Program} {e:TypeId}:∀ {l:List (DataW H)} {d:DataW H},d ∈ l → ∀ n ∈ d.weights P e,n ∈ DataW.weightsAll P e l
  | x :: l,d,hd,n,hn => by
    simp only [DataW.weightsAll,List.mem_append]
    rcases List.mem_cons.1 hd with rfl | h
    · exact .inl hn
    · exact .inr (weightsAll_mem h n hn)
theorem reach_eq:reachBytes = 140737488351232:=by decide
set_option maxRecDepth 100000
section
variable {H:Type} {enc:TypeId × Value → H} {w:World} {base:Nat} {spare:Nat → Bool} {held:Bool}
theorem ranges_small {fuel:Nat} {cs:List Value} {x:DataW H × List MemPlace} (h:DataW.trod enc Tryz.prog w base spare held fuel 41 cs = some x) (hw:∀ n ∈ x.1.weights Tryz.prog 41,n ≤ reachBytes) {ad:Option Addr} {n c:Nat} (hc:cs = [.slice ad n c]):n * 16 ≤ 140737488351232:=by
  rcases DataW.trod_slice Tryz.underlying41 h with ⟨e,_⟩ | ⟨a,len,cap,elems,rest,n',_,e,hx,_,_,_,hel,_⟩
  · rw [hc] at e
    simp at e
    omega
  · rw [hc] at e
    simp at e
    have:=hw ((elems.length + rest.length) * Tryz.prog.bytesOf 50) (by rw [hx];simp [DataW.weights,Tryz.underlying41])
    rw [bytes49,reach_eq] at this
    omega
theorem open_inst {fuel:Nat} {cs:List Value} {x:DataW H × List MemPlace} (h:DataW.trod enc Tryz.prog w base spare held fuel 43 cs = some x) (hwt:∀ n ∈ x.1.weights Tryz.prog 43,n ≤ reachBytes):∃ (N:Iv) (I:In),cs = Iv.cs N ∧ IM w w.heap.size N I:=by
  obtain ⟨xs,n,hf,rfl,hl,hxl,hfs⟩:=DataW.trod_struct Tryz.underlying43 h
  rw [cells51] at hl
  simp only [List.size_toArray,List.length_cons,List.length_nil] at hxl
  match xs,hxl,cs,hl with
  | [y0,y1,y2,y3,y4],_,[v0,v1,v2,v3,v4],_ =>
  have g0:=hfs 0 _ rfl
  have g1:=hfs 1 _ rfl
  have g2:=hfs 2 _ rfl
  have g3:=hfs 3 _ rfl
  have g4:=hfs 4 _ rfl
  simp [cells3a] at g0 g1 g2 g3
  simp [cells36] at g4
  have hw4:∀ n ∈ y4.1.weights Tryz.prog 41,n ≤ reachBytes:=fun n hn => hwt n (by
    simp only [DataW.weights,Tryz.underlying43]
    exact DataW.weights_mem_each (j:=4) (by simp) (by simp) n hn)
  obtain ⟨a0,e0,_,w0⟩:=DataW.trod_int Tryz.underlying3 g0
  obtain ⟨a1,e1,_,w1⟩:=DataW.trod_int Tryz.underlying3 g1
  obtain ⟨a2,e2,_,w2⟩:=DataW.trod_int Tryz.underlying3 g2
  obtain ⟨a3,e3,_,w3⟩:=DataW.trod_int Tryz.underlying3 g3
  obtain ⟨r1,r2,r3,R,e4,hr,hrc,hrm,hR,hRk⟩:=open_rng rgTy g4
  have hsm:=ranges_small g4 hw4 e4
  simp only [List.cons.injEq,and_true] at e0 e1 e2 e3 e4
  subst e0 e1 e2 e3 e4
  refine ⟨⟨a0,a1,a2,a3,r1,r2,r3⟩,⟨a0,a1,a2,a3,R⟩,rfl,⟨rfl,rfl,rfl,rfl,hr,hsm,?_⟩⟩
  exact R2.row (N:=⟨0,r1,r2,r3,0,none,0,0,0,0,false,0,⟨#[]⟩⟩) hR hr
theorem open_insts {fuel:Nat} {cs:List Value} {x:DataW H × List MemPlace} (h:DataW.trod enc Tryz.prog w base spare held fuel 22 cs = some x) (hwt:∀ n ∈ x.1.weights Tryz.prog 22,n ≤ reachBytes):∃ (ad:Option Addr) (n c:Nat) (l:List In),cs = [.slice ad n c] ∧ n ≤ c ∧ c ≤ maxLen ∧ n * 56 ≤ 140737488351232 ∧ PI w w.heap.size ad n l:=by
  rcases DataW.trod_slice Tryz.underlying22 h with ⟨e,_⟩ | ⟨a,len,cap,elems,rest,n',hn',e,hx0,hb,hlc,hcm,hel,hx,_,_⟩
  · exact ⟨none,0,0,[],e,Nat.le_refl _,by simp [maxLen],by omega,rfl,fun hp => absurd hp (by simp)⟩
  · rw [cells51] at hx
    have hw0:=hwt ((elems.length + rest.length) * Tryz.prog.bytesOf 43) (by rw [hx0];simp [DataW.weights,Tryz.underlying22])
    rw [bytes51,reach_eq] at hw0
    have each:∀ i,i < len → ∃ q:Iv × In,(∀ j,j < 5 → w.cell? (a.add (i * 5 + j)) = (Iv.cs q.1)[j]?) ∧ IM w w.heap.size q.1 q.2:=fun i hi => by
      have h1:=hx i hi
      rw [List.getElem?_eq_getElem (by omega)] at h1
      obtain ⟨cs',h2,h3⟩:=Option.bind_eq_some_iff.1 h1
      obtain ⟨N,I,rfl,ht⟩:=open_inst h3 (fun n hn => hwt n (by rw [hx0];simp only [DataW.weights,Tryz.underlying22];exact List.mem_cons_of_mem _ (List.mem_append_left _ (weightsAll_mem (List.mem_map.2 ⟨_,List.getElem_mem _,rfl⟩) n hn))))
      obtain ⟨_,_,hc⟩:=World.cells?_some h2
      exact ⟨(N,I),fun j hj => by have:=hc j hj;rwa [add_add] at this,ht⟩
    obtain ⟨q,hq⟩:=choose_lt each
    refine ⟨some a,len,cap,(List.range len).map fun i => (q i).2,e,hlc,hcm,by omega,by simp,fun hp => ?_⟩
    have hc0:=(hq 0 hp).1 0 (by omega)
    simp only [Iv.cs,List.getElem?_cons_zero] at hc0
    have hsp:a.spot = none:=by simpa [Addr.add] using World.cell?_spot hc0
    obtain ⟨b,o,sp⟩:=a
    simp only at hsp
    subst hsp
    refine ⟨b,o,fun i => (q i).1,rfl,World.block_lt_of_cell? _ _ hc0,fun i hi => ⟨?_,?_⟩⟩
    · simp only [List.length_map,List.length_range] at hi
      have h1:=(hq i hi).1
      simp only [add_plain,← Nat.add_assoc] at h1
      exact ⟨by simpa using h1 0 (by omega),by simpa using h1 1 (by omega),by simpa using h1 2 (by omega),by simpa using h1 3 (by omega),by simpa using h1 4 (by omega)⟩
    · simp only [List.length_map,List.length_range] at hi
      simpa using (hq i hi).2
theorem prog_arg {W:World} {v:Value} {d:DataW H} {p:List MemPlace} (hok:Value.okWide Tryz.prog W .any base 24 v) (h0:DataW.Trod enc Tryz.prog W 0 (fun _ => true) true 24 v d p) (hsz:∀ n ∈ d.weights Tryz.prog 24,n ≤ reachBytes) :
    ∃ (ad:Option Addr) (n c:Nat) (s k:Int) (l:List In),v = pv ad n c s k ∧ n ≤ c ∧ c ≤ maxLen ∧ n * 56 ≤ 140737488351232 ∧ PI W W.heap.size ad n l:=by
  obtain ⟨cs,rfl,hs⟩:=okWide_struct Tryz.underlying24 hok
  obtain ⟨fuel,hf⟩:=h0
  obtain ⟨xs,n,hfu,hd,hl,hxl,hfs⟩:=DataW.trod_struct Tryz.underlying24 hf
  obtain ⟨L,hL⟩:∃ L,L = (Value.agg cs).cells.toList:=⟨_,rfl⟩
  have hL':cs.toList = L:=by rw [hL];rfl
  rw [← hL] at hl hfs
  rw [cells24] at hl
  simp only [List.size_toArray,List.length_cons,List.length_nil] at hxl
  match xs,hxl,L,hl,hL' with
  | [y0,y1,y2],_,[v0,v1,v2],_,hL' =>
  have g0:=hfs 0 _ rfl
  have g1:=hfs 1 _ rfl
  have g2:=hfs 2 _ rfl
  simp [cells3a] at g1 g2
  simp [cells22] at g0
  have hd1:d = .agg ([y0,y1,y2].map (·.1)):=congrArg Prod.fst hd
  have hw0:∀ n ∈ y0.1.weights Tryz.prog 22,n ≤ reachBytes:=fun n hn => hsz n (by
    rw [hd1]
    simp only [DataW.weights,Tryz.underlying24]
    exact DataW.weights_mem_each (j:=0) (by simp) (by simp) n hn)
  obtain ⟨a1,e1,_,_⟩:=DataW.trod_int Tryz.underlying3 g1
  obtain ⟨a2,e2,_,_⟩:=DataW.trod_int Tryz.underlying3 g2
  obtain ⟨ad,n',c,l,e0,h1,h2,h3,h4⟩:=open_insts g0 hw0
  simp only [List.cons.injEq,and_true] at e0 e1 e2
  subst e0 e1 e2
  refine ⟨ad,n',c,a1,a2,l,?_,h1,h2,h3,h4⟩
  have:cs = [Value.slice ad n' c,.int .i64 a1,.int .i64 a2].toArray:=by rw [← hL']
  rw [this]
end
end Go.Proofs.YtjdbnoccdefnaaaGreat
namespace Go.Proofs.YtjdbnoccdefnaaaGreat
open Go.ChangeShapes Go.WideShapes Go.ChangeAt Go.RowKit
set_option linter.unusedVariables false
set_option linter.unusedSimpArgs false
set_option maxRecDepth 100000 in
theorem onepassIsLifted (os:Os) (started:os.Started) (H:Type) (enc:TypeId × Value → H) :
    ReturnsInHanded {} Tryz.checked os 3 .any (Rows.onepassIsSpec.pre6 enc Tryz.prog Tryz.f3 Rows.onepassIsRow.domain false) (Rows.onepassIsSpec.post enc Tryz.prog Tryz.f3 false true false false):=by
  refine returnsInHanded_of_change_sized (C:=Tryz.checked) ownB started (by kernel_rfl) Tryz.func3
    (ChangeSpec.witness6 (enc:=enc) (C:=Tryz.checked) false ⟨#[],#[.agg #[.slice none 0 0,.int .i64 0,.int .i64 0],.agg #[.slice none 0 0,.int .i64 0,.int .i64 0]],[]⟩ 8 (by kernel_rfl) (by kernel_rfl) (by kernel_rfl) (by kernel_rfl)) ?_
  intro W base args ds gs before hval0 hW hcnd0 hsz0 hholds
  have hval:∀ (j:Nat) t v,Tryz.f3.params[j]? = some t → args[j]? = some v → Value.okWide Tryz.prog W .any base t v:=hval0
  have hW':=hW
  obtain ⟨p,q,hA0,hV,rfl,hfz,hnd⟩:=hW
  have hA:DataW.TrodAll enc Tryz.prog W 0 (fun _ => true) true Tryz.f3.params.toList args.toList ds p:=hA0
  have hsz:∀ n ∈ DataW.weightsEach Tryz.prog (Tryz.f3.params.toList ++ Rows.onepassIsSpec.plain.varTypes Tryz.prog) (ds ++ gs),n ≤ reachBytes:=fun n hn => by simpa using List.all_eq_true.1 hsz0 n hn
  rw [Tryz.params3] at hA hval hsz
  obtain ⟨v0,vs0,d0,ds0,p0,q0,hargs,rfl,rfl,h0,r0⟩:=trodAll_cons hA
  obtain ⟨v1,vs1,d1,ds1,p1,q1,rfl,rfl,rfl,h1,r1⟩:=trodAll_cons r0
  obtain ⟨rfl,rfl,rfl⟩:=trodAll_nil r1
  obtain rfl:args = #[v0,v1]:=by cases args;simp_all
  obtain ⟨rfl,rfl⟩:=trodVars_none hV
  have hlt0:∀ x ∈ p0,x.block < W.heap.size:=fun x hx => by have:=hW'.lt x (by simp [hx]);simpa using this
  have hlt1:∀ x ∈ p1,x.block < W.heap.size:=fun x hx => by have:=hW'.lt x (by simp [hx]);simpa using this
  obtain ⟨ad,n,c,s,k,l,rfl,_,_,hn,hP⟩:=prog_arg (hval 0 24 v0 rfl rfl) h0 (fun n hn => hsz n (DataW.weights_mem_each (j:=0) (by simp) (by simp) n hn))
  obtain ⟨ad2,n2,c2,s2,k2,l2,rfl,_,_,hn2,hP2⟩:=prog_arg (hval 1 24 v1 rfl rfl) h1 (fun n hn => hsz n (DataW.weights_mem_each (j:=1) (by simp) (by simp) n hn))
  clear hA0 hval0
  refine (onepassIs3 hP hP2 hn).mono fun e W' ⟨he,hb⟩ => ?_
  subst he
  exact ⟨_,rfl,_,_,_,[],p0 ++ (p1 ++ []),[],hW',trodAll_cons_mk (shut_bool Tryz.underlying4 _) trodAll_mk0,trodAll_cons_mk (Below.trod laidOut (by kernel_rfl) (of_decide_eq_true (by kernel_rfl)) h0 hb hlt0) (trodAll_cons_mk (Below.trod laidOut (by kernel_rfl) (of_decide_eq_true (by kernel_rfl)) h1 hb hlt1) trodAll_mk0),rfl,hb.frame _,fun h => by cases h⟩
theorem onepassIs_holds:Rows.OnepassIsSaid:=
  OpenClaim.holds_of_wide 3 Tryz.f3 rfl rfl rfl rfl rfl rfl rfl ⟨rfl,rfl,rfl,rfl,rfl⟩ rfl rfl rfl rfl rfl (by kernel_rfl) Tryz.func3 (by kernel_rfl)
    (of_decide_eq_true (by kernel_rfl)) (by unfold Func.isWrapper;first | (rw [if_pos (by decide +kernel)];kernel_rfl) | (rw [if_neg (by decide +kernel)];exact ⟨rfl,rfl⟩))
    (fun os started H enc _ => onepassIsLifted os started H enc)
end Go.Proofs.YtjdbnoccdefnaaaGreat
