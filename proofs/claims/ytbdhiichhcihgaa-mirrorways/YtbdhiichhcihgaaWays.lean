/- PROVED: the law MirrorWays of layer 8 answers true for every tree and text, and they read afterwards as they read before: of a text of at most twelve runes, wherever the document tells the parses of a tree, the mirror of the tree has parses from a place to another one of the text read backward just where the tree has some the other way round.
   CONDITIONS: none but the form's own (each slice and string at most 2^47 - 4096 bytes). -/
import Derived.Test.YtbdhiichhcihgaaK01
import Derived.Test.YtbdhiichhcihgaaK02
import Derived.Test.YtbdhiichhcihgaaK23
namespace Go.Proofs.Ytbdhiichhcihgaa
open Go.ChangeShapes Go.WideShapes Go.ChangeAt Go.RowKit
set_option linter.unusedVariables false
set_option linter.unusedSimpArgs false
set_option maxRecDepth 100000 in
theorem waysLifted (os:Os) (started:os.Started) (H:Type) (enc:TypeId × Value → H) :
  ReturnsInHanded {} Try.checked os 3 .any (Rows.mirrorWaysSpec.pre6 enc Try.prog Try.f3 Rows.mirrorWaysRow.domain false) (Rows.mirrorWaysSpec.post enc Try.prog Try.f3 false true false false):=by
 refine returnsInHanded_of_change_sized (C:=Try.checked) ownB started (by kernel_rfl) Try.func3
  (ChangeSpec.witness6 (enc:=enc) (C:=Try.checked) false ⟨#[],#[.agg #[.int .i64 0,.slice none 0 0,.int .i64 0,.slice none 0 0,.int .i64 0,.int .i64 0,.bool false,.int .i64 0,.string ⟨#[]⟩],.slice none 0 0],[]⟩ 8 (by kernel_rfl) (by kernel_rfl) (by kernel_rfl) (by kernel_rfl)) ?_
 intro W base args ds gs before hval0 hW hcnd0 hsz0 hholds
 have hval:∀ (j:Nat) t v,Try.f3.params[j]? = some t → args[j]? = some v → Value.okWide Try.prog W .any base t v:=hval0
 have hW':=hW
 obtain ⟨p,q,hA0,hV,rfl,hfz,hnd⟩:=hW
 have hA:DataW.TrodAll enc Try.prog W 0 (fun _ => true) true Try.f3.params.toList args.toList ds p:=hA0
 have hsz:∀ n ∈ DataW.weightsEach Try.prog (Try.f3.params.toList ++ Rows.mirrorWaysSpec.plain.varTypes Try.prog) (ds ++ gs),n ≤ reachBytes:=fun n hn => by simpa using List.all_eq_true.1 hsz0 n hn
 rw [Try.params3] at hA hval hsz
 obtain ⟨v0,vs0,d0,ds0,p0,q0,hargs,rfl,rfl,h0,r0⟩:=trodAll_cons hA
 obtain ⟨v1,vs1,d1,ds1,p1,q1,rfl,rfl,rfl,h1,r1⟩:=trodAll_cons r0
 obtain ⟨rfl,rfl,rfl⟩:=trodAll_nil r1
 obtain rfl:args = #[v0,v1]:=by cases args;simp_all
 obtain ⟨rfl,rfl⟩:=trodVars_none hV
 have hlt0:∀ x ∈ p0,x.block < W.heap.size:=fun x hx => by have:=hW'.lt x (by simp [hx]);simpa using this
 have hlt1:∀ x ∈ p1,x.block < W.heap.size:=fun x hx => by have:=hW'.lt x (by simp [hx]);simpa using this
 obtain ⟨N,t,rfl,hT,hS⟩:=node_argS (hval 0 25 v0 rfl rfl) h0 (fun n hn => hsz n (DataW.weights_mem_each (j:=0) (by simp) (by simp) n hn))
 obtain ⟨tx,ad,tn,tcap,rfl,htc,hX⟩:=text_arg (hval 1 26 v1 rfl rfl) h1 (fun n hn => hsz n (DataW.weights_mem_each (j:=1) (by simp) (by simp) n hn))
 clear hA0 hval0
 refine (ways3 hT hX htc).mono fun e W' ⟨he,hb⟩ => ?_
 subst he
 exact ⟨_,rfl,_,_,_,[],p0 ++ (p1 ++ []),[],hW',trodAll_cons_mk (shut_bool Try.underlying4 _) trodAll_mk0,trodAll_cons_mk (Below.trod laidOut (by kernel_rfl) (of_decide_eq_true (by kernel_rfl)) h0 hb hlt0) (trodAll_cons_mk (Below.trod laidOut (by kernel_rfl) (of_decide_eq_true (by kernel_rfl)) h1 hb hlt1) trodAll_mk0),rfl,hb.frame _,fun h => by cases h⟩
theorem mirrorWays_holds:Rows.MirrorWaysSaid:=
 OpenClaim.holds_of_wide 3 Try.f3 rfl rfl rfl rfl rfl rfl rfl ⟨rfl,rfl,rfl,rfl,rfl⟩ rfl rfl rfl rfl rfl (by kernel_rfl) Try.func3 (by kernel_rfl)
  (of_decide_eq_true (by kernel_rfl)) (by unfold Func.isWrapper;first | (rw [if_pos (by decide +kernel)];kernel_rfl) | (rw [if_neg (by decide +kernel)];exact ⟨rfl,rfl⟩))
  (fun os started H enc _ => waysLifted os started H enc)
end Go.Proofs.Ytbdhiichhcihgaa
