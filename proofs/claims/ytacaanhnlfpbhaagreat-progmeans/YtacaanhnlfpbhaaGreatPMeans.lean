/- PROVED: the law ProgMeans of layer 9 answers true for every tree and text, and they read afterwards as they read before: where Compile refuses nothing and the text has at most twenty runes, the tree's program may be, and from each place of the text the document's walk through the program finds the first parse that the document tells of the tree there, with its captures, or nothing where there is none.
   CONDITIONS: none but the form's own (each slice and string at most 2^47 - 4096 bytes). -/
import Derived.Test.YtacaanhnlfpbhaaGreatK01
import Derived.Test.YtacaanhnlfpbhaaGreatK13
import Derived.Test.YtacaanhnlfpbhaaGreatK52
namespace Go.Proofs.YtacaanhnlfpbhaaGreat
open Go.ChangeShapes Go.WideShapes Go.ChangeAt Go.RowKit
set_option linter.unusedVariables false
set_option linter.unusedSimpArgs false
set_option maxRecDepth 100000 in
theorem pmeansLifted (os:Os) (started:os.Started) (H:Type) (enc:TypeId × Value → H) :
  ReturnsInHanded {} Tryz.checked os 5 .any (Rows.progMeansSpec.pre6 enc Tryz.prog Tryz.f5 Rows.progMeansRow.domain false) (Rows.progMeansSpec.post enc Tryz.prog Tryz.f5 false true false false):=by
 refine returnsInHanded_of_change_sized (C:=Tryz.checked) ownB started (by kernel_rfl) Tryz.func5
  (ChangeSpec.witness6 (enc:=enc) (C:=Tryz.checked) false ⟨#[],#[.agg #[.int .i64 0,.slice none 0 0,.int .i64 0,.slice none 0 0,.int .i64 0,.int .i64 0,.bool false,.int .i64 0,.string ⟨#[]⟩],.slice none 0 0],[]⟩ 8 (by kernel_rfl) (by kernel_rfl) (by kernel_rfl) (by kernel_rfl)) ?_
 intro W base args ds gs before hval0 hW hcnd0 hsz0 hholds
 have hval:∀ (j:Nat) t v,Tryz.f5.params[j]? = some t → args[j]? = some v → Value.okWide Tryz.prog W .any base t v:=hval0
 have hW':=hW
 obtain ⟨p,q,hA0,hV,rfl,hfz,hnd⟩:=hW
 have hA:DataW.TrodAll enc Tryz.prog W 0 (fun _ => true) true Tryz.f5.params.toList args.toList ds p:=hA0
 have hsz:∀ n ∈ DataW.weightsEach Tryz.prog (Tryz.f5.params.toList ++ Rows.progMeansSpec.plain.varTypes Tryz.prog) (ds ++ gs),n ≤ reachBytes:=fun n hn => by simpa using List.all_eq_true.1 hsz0 n hn
 rw [Tryz.params5] at hA hval hsz
 obtain ⟨v0,vs0,d0,ds0,p0,q0,hargs,rfl,rfl,h0,r0⟩:=trodAll_cons hA
 obtain ⟨v1,vs1,d1,ds1,p1,q1,rfl,rfl,rfl,h1,r1⟩:=trodAll_cons r0
 obtain ⟨rfl,rfl,rfl⟩:=trodAll_nil r1
 obtain rfl:args = #[v0,v1]:=by cases args;simp_all
 obtain ⟨rfl,rfl⟩:=trodVars_none hV
 have hlt0:∀ x ∈ p0,x.block < W.heap.size:=fun x hx => by have:=hW'.lt x (by simp [hx]);simpa using this
 have hlt1:∀ x ∈ p1,x.block < W.heap.size:=fun x hx => by have:=hW'.lt x (by simp [hx]);simpa using this
 obtain ⟨N,t,rfl,hT,hS⟩:=node_argS (hval 0 25 v0 rfl rfl) h0 (fun n hn => hsz n (DataW.weights_mem_each (j:=0) (by simp) (by simp) n hn))
 obtain ⟨tx,ad,tn,tcap,rfl,htc,hX⟩:=text_arg (hval 1 26 v1 rfl rfl) h1 (fun n hn => hsz n (DataW.weights_mem_each (j:=1) (by simp) (by simp) n hn))
 clear hA0 hval0
 refine (pmeans5 hT hS hX htc).mono fun e W' ⟨he,hb⟩ => ?_
 subst he
 exact ⟨_,rfl,_,_,_,[],p0 ++ (p1 ++ []),[],hW',trodAll_cons_mk (shut_bool Tryz.underlying4 _) trodAll_mk0,trodAll_cons_mk (Below.trod laidOut (by kernel_rfl) (of_decide_eq_true (by kernel_rfl)) h0 hb hlt0) (trodAll_cons_mk (Below.trod laidOut (by kernel_rfl) (of_decide_eq_true (by kernel_rfl)) h1 hb hlt1) trodAll_mk0),rfl,hb.frame _,fun h => by cases h⟩
theorem progMeans_holds:Rows.ProgMeansSaid:=
 OpenClaim.holds_of_wide 5 Tryz.f5 rfl rfl rfl rfl rfl rfl rfl ⟨rfl,rfl,rfl,rfl,rfl⟩ rfl rfl rfl rfl rfl (by kernel_rfl) Tryz.func5 (by kernel_rfl)
  (of_decide_eq_true (by kernel_rfl)) (by unfold Func.isWrapper;first | (rw [if_pos (by decide +kernel)];kernel_rfl) | (rw [if_neg (by decide +kernel)];exact ⟨rfl,rfl⟩))
  (fun os started H enc _ => pmeansLifted os started H enc)
end Go.Proofs.YtacaanhnlfpbhaaGreat
