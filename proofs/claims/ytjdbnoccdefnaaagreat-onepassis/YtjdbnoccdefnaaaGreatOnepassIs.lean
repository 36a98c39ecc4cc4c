/- PROVED: the law OnepassIs of layer 13 answers true for every two programs, and they read afterwards as they read before: Is tells of a program what the document says, asked again behind another one and of the same lists with other things in them; what is handed in stays, with what stands behind its lists.
   CONDITIONS: none but the form's own (each slice and string at most 2^47 - 4096 bytes). -/
import Derived.Test.YtjdbnoccdefnaaaGreatRows
import Derived.Test.YtjdbnoccdefnaaaGreatK07
import Derived.Test.YtjdbnoccdefnaaaGreatK56
namespace Go.Proofs.YtjdbnoccdefnaaaGreat
open Go.ChangeShapes Go.WideShapes Go.ChangeAt Go.RowKit
set_option linter.unusedVariables false
set_option linter.unusedSimpArgs false
set_option maxRecDepth 100000 in
theorem onepassIsLifted (os:Os) (started:os.Started) (H:Type) (enc:TypeId × Value → H) :
    ReturnsInHanded {} Tryz.checked os 3 .any (Rows.onepassIsSpec.pre6 enc Tryz.prog Tryz.f3 Rows.onepassIsRow.domain false) (Rows.onepassIsSpec.post enc Tryz.prog Tryz.f3 false true false false):=by
  refine returnsInHanded_of_change_sized (C:=Tryz.checked) ownB started (by kernel_rfl) Tryz.func3
    (ChangeSpec.witness6 (enc:=enc) (C:=Tryz.checked) false ⟨#[],#[.agg #[.slice none 0 0,.int .i64 0,.int .i64 0],.agg #[.slice none 0 0,.int .i64 0,.int .i64 0]],[]⟩ 8 (by kernel_rfl) (by kernel_rfl) (by kernel_rfl) (by kernel_rfl)) ?_
  intro W base args ds gs before hval0 hW hcnd0 hsz0 hholds
  have hval:∀ (j:Nat) t v,Tryz.f3.params[j]? = some t → args[j]? = some v → Value.okWide Tryz.prog W .any base t v:=hval0
  have hW':=hW
  obtain ⟨p,q,hA0,hV,rfl,hfz,hnd⟩:=hW
  have hA:DataW.TrodAll enc Tryz.prog W 0 (fun _ => true) true Tryz.f3.params.toList args.toList ds p:=hA0
  have hsz:∀ n ∈ DataW.weightsEach Tryz.prog (Tryz.f3.params.toList ++ Rows.onepassIsSpec.plain.varTypes Tryz.prog) (ds ++ gs),n ≤ reachBytes:=fun n hn => by simpa using List.all_eq_true.1 hsz0 n hn
  rw [Tryz.params3] at hA hval hsz
  obtain ⟨v0,vs0,d0,ds0,p0,q0,hargs,rfl,rfl,h0,r0⟩:=trodAll_cons hA
  obtain ⟨v1,vs1,d1,ds1,p1,q1,rfl,rfl,rfl,h1,r1⟩:=trodAll_cons r0
  obtain ⟨rfl,rfl,rfl⟩:=trodAll_nil r1
  obtain rfl:args = #[v0,v1]:=by cases args;simp_all
  obtain ⟨rfl,rfl⟩:=trodVars_none hV
  have hlt0:∀ x ∈ p0,x.block < W.heap.size:=fun x hx => by have:=hW'.lt x (by simp [hx]);simpa using this
  have hlt1:∀ x ∈ p1,x.block < W.heap.size:=fun x hx => by have:=hW'.lt x (by simp [hx]);simpa using this
  obtain ⟨ad,n,c,s,k,l,rfl,_,_,hn,hP⟩:=prog_arg (hval 0 24 v0 rfl rfl) h0 (fun n hn => hsz n (DataW.weights_mem_each (j:=0) (by simp) (by simp) n hn))
  obtain ⟨ad2,n2,c2,s2,k2,l2,rfl,_,_,hn2,hP2⟩:=prog_arg (hval 1 24 v1 rfl rfl) h1 (fun n hn => hsz n (DataW.weights_mem_each (j:=1) (by simp) (by simp) n hn))
  clear hA0 hval0
  refine (onepassIs3 hP hP2 hn).mono fun e W' ⟨he,hb⟩ => ?_
  subst he
  exact ⟨_,rfl,_,_,_,[],p0 ++ (p1 ++ []),[],hW',trodAll_cons_mk (shut_bool Tryz.underlying4 _) trodAll_mk0,trodAll_cons_mk (Below.trod laidOut (by kernel_rfl) (of_decide_eq_true (by kernel_rfl)) h0 hb hlt0) (trodAll_cons_mk (Below.trod laidOut (by kernel_rfl) (of_decide_eq_true (by kernel_rfl)) h1 hb hlt1) trodAll_mk0),rfl,hb.frame _,fun h => by cases h⟩
theorem onepassIs_holds:Rows.OnepassIsSaid:=
  OpenClaim.holds_of_wide 3 Tryz.f3 rfl rfl rfl rfl rfl rfl rfl ⟨rfl,rfl,rfl,rfl,rfl⟩ rfl rfl rfl rfl rfl (by kernel_rfl) Tryz.func3 (by kernel_rfl)
    (of_decide_eq_true (by kernel_rfl)) (by unfold Func.isWrapper;first | (rw [if_pos (by decide +kernel)];kernel_rfl) | (rw [if_neg (by decide +kernel)];exact ⟨rfl,rfl⟩))
    (fun os started H enc _ => onepassIsLifted os started H enc)
end Go.Proofs.YtjdbnoccdefnaaaGreat
