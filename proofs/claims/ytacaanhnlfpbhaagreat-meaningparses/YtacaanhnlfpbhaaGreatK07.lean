/- HELPERS: texts of ours put together. -/
import Derived.Test.YtacaanhnlfpbhaaGreatK04
import Derived.Test.YtacaanhnlfpbhaaGreatK01
import Derived.Test.YtacaanhnlfpbhaaGreatK05
import Derived.Test.YtacaanhnlfpbhaaGreatProg
import Derived.WalkKit
import Derived.ProofKit
import Derived.BigQuiet
import Derived.WalkSmall
import Derived.Deep.QuietTactic
import Derived.Deep.RegionWith
import Derived.Laws.EntriesVeiled
import Derived.Deep.WholeRow
import Derived.Test.YtacaanhnlfpbhaaGreatK03
import Derived.Test.YtacaanhnlfpbhaaGreatK06
import Derived.WalkLawsBesides
import Derived.Lib.LazyBuf
import Derived.Deep.Cut
import Derived.Laws.Rows
import Derived.Deep.MidRow
import Derived.Deep.OwnRows
namespace Go.Proofs.YtacaanhnlfpbhaaGreat
open Go.RowKit
set_option linter.unusedVariables false
set_option linter.unusedSimpArgs false
abbrev Rng:=List (Int × Int)
def encR (x:Int × Int):List Value:=[.int .i64 x.1,.int .i64 x.2]
def fl (L:List (Int × Int)):List Value:=L.flatMap encR
inductive Way where
 | through
 | once (n:Int) (d:Way)
 | noted (c:Nat) (d:Way)
 | runeOf (L:Rng) (d:Way)
 | ifHolds (a:Int) (d:Way)
 | inOrder (l:List Way)
 | again (b:Nat)
structure Sg where
 done:List (Int × Int)
 notes:List Int
 parses:List (Int × List Int)
def heldB (tx:List Int) (a:Int) (p:Nat):Bool:=bits .andNot .i64 a (Look.atN tx (p:Int)) == 0
inductive Ex (tx:List Int) (E:Nat→Way):Way→Nat→Sg→Sg→Prop
 | through (p:Nat) (s:Sg):Ex tx E .through p s { s with parses:=s.parses ++ [((p:Int),s.notes.set 1 (p:Int))] }
 | skip {n:Int} {d:Way} {p:Nat} {s:Sg} (h:(n,(p:Int)) ∈ s.done):Ex tx E (.once n d) p s s
 | once {n:Int} {d:Way} {p:Nat} {s s':Sg} (h:(n,(p:Int)) ∉ s.done) (hd:Ex tx E d p { s with done:=s.done ++ [(n,(p:Int))] } s'):Ex tx E (.once n d) p s s'
 | noted {c:Nat} {d:Way} {p:Nat} {s s':Sg} (hd:Ex tx E d p { s with notes:=s.notes.set c (p:Int) } s'):Ex tx E (.noted c d) p s { s' with notes:=s'.notes.set c (s.notes.getD c 0) }
 | over {L:Rng} {d:Way} {p:Nat} {s:Sg} (h:tx.length≤p):Ex tx E (.runeOf L d) p s s
 | other {L:Rng} {d:Way} {p:Nat} {s:Sg} (h:p < tx.length) (hr:(rightB L && hasB L (tx.getD p 0))=false):Ex tx E (.runeOf L d) p s s
 | rune {L:Rng} {d:Way} {p:Nat} {s s':Sg} (h:p < tx.length) (hr:(rightB L && hasB L (tx.getD p 0))=true) (hd:Ex tx E d (p + 1) s s'):Ex tx E (.runeOf L d) p s s'
 | fails {a:Int} {d:Way} {p:Nat} {s:Sg} (h:heldB tx a p=false):Ex tx E (.ifHolds a d) p s s
 | holds {a:Int} {d:Way} {p:Nat} {s s':Sg} (h:heldB tx a p=true) (hd:Ex tx E d p s s'):Ex tx E (.ifHolds a d) p s s'
 | inOrder {l:List Way} {p:Nat} (ss:Nat→Sg) (h:∀ i (hi:i < l.length),Ex tx E (l[i]'hi) p (ss i) (ss (i + 1))):Ex tx E (.inOrder l) p (ss 0) (ss l.length)
 | again {b p:Nat} {s s':Sg} (h:Ex tx E (E b) p s s'):Ex tx E (.again b) p s s'
def RowIn (w:World) (v:Value) (R:Rng) (G:List Nat):Prop:=(∃ ad cap,v=.slice ad 0 cap∧R=[]∧G=[]) ∨
 ∃ b off cap,v=.slice (some ⟨b,off,none⟩) R.length cap∧0 < R.length∧G=[b]∧(∀ k,k < R.length→w.cell? ⟨b,off + k * 2,none⟩=some (.int .i64 (R.getD k (0,0)).1))∧(∀ k,k < R.length→w.cell? ⟨b,off + k * 2 + 1,none⟩=some (.int .i64 (R.getD k (0,0)).2))
theorem RowIn.kept {w w':World} {v:Value} {R:Rng} {G:List Nat} (h:RowIn w v R G) (hk:∀ b ∈ G,w'.heap[b]?=w.heap[b]?):RowIn w' v R G:=by
 rcases h with h | ⟨b,off,cap,h1,h2,rfl,h3,h4⟩
 ·exact .inl h
 ·have e:∀ o,w'.cell? ⟨b,o,none⟩=w.cell? ⟨b,o,none⟩:=fun o=>by simp only [World.cell?,hk b (by simp)]
  exact .inr ⟨b,off,cap,h1,h2,rfl,fun k hk=>(e _).trans (h3 k hk),fun k hk=>(e _).trans (h4 k hk)⟩
theorem RowIn.low {w:World} {v:Value} {R:Rng} {G:List Nat} (h:RowIn w v R G):∀ k ∈ G,k < w.heap.size:=by
 rcases h with ⟨_,_,_,_,rfl⟩ | ⟨b,off,cap,h1,h2,rfl,h3,h4⟩
 ·intro k hk;cases hk
 ·intro k hk
  simp at hk
  subst hk
  exact World.block_lt_of_cell? _ _ (h3 0 h2)
theorem RowIn.at {w:World} {v:Value} {R:Rng} {G:List Nat} (h:RowIn w v R G) {M:Nat} (hM:w.heap.size≤M):RowAt M w v R:=by
 rcases h with ⟨ad,cap,rfl,rfl,_⟩ | ⟨b,off,cap,h1,h2,rfl,h3,h4⟩
 ·exact ⟨ad,cap,rfl,.inl rfl⟩
 ·exact ⟨_,cap,h1,.inr ⟨b,off,rfl,Nat.lt_of_lt_of_le (World.block_lt_of_cell? _ _ (h3 0 h2)) hM,h3,h4⟩⟩
theorem RowIn.form {w:World} {v:Value} {R:Rng} {G:List Nat} (h:RowIn w v R G):∃ s1 s3,v=.slice s1 R.length s3:=by
 rcases h with ⟨ad,cap,rfl,rfl,_⟩ | ⟨b,off,cap,h1,_⟩
 ·exact ⟨_,_,rfl⟩
 ·exact ⟨_,_,h1⟩
mutual
inductive Rep (g K:Nat) (L:Nat→Prop) (w:World):Value→Way→List Nat→Prop
 | through:Rep g K L w (.func (.func 79) #[pt g] #[]) .through []
 | once {b5 b2 b3:Nat} {v:Value} {d:Way} {F:List Nat} {n:Int} (h5:Bx w b5 3 (.int .i64 n)) (h2:Bx w b2 71 (pt g)) (h3:Bx w b3 133 v) (hn:0≤n∧n < 4611686018427387904) (hd:Rep g K L w v d F) :
   Rep g K L w (.func (.func 120) #[] #[pt b5,pt b2,pt b3]) (.once n d) (b5 :: b2 :: b3 :: F)
 | noted {b3 b4 b5 c:Nat} {v:Value} {d:Way} {F:List Nat} (h3:Bx w b3 71 (pt g)) (h4:Bx w b4 3 (.int .i64 (c:Int))) (h5:Bx w b5 133 v) (hc:c < K) (hd:Rep g K L w v d F) :
   Rep g K L w (.func (.func 187) #[] #[pt b3,pt b4,pt b5]) (.noted c d) (b3 :: b4 :: b5 :: F)
 | runeOf {b3 b4 b5:Nat} {v rv:Value} {d:Way} {F G:List Nat} {R:Rng} (h3:Bx w b3 71 (pt g)) (h4:Bx w b4 22 rv) (h5:Bx w b5 133 v) (hr:RowIn w rv R G) (hd:Rep g K L w v d F) :
   Rep g K L w (.func (.func 182) #[] #[pt b3,pt b4,pt b5]) (.runeOf R d) (b3 :: b4 :: b5 :: (G ++ F))
 | ifHolds {b4 b3 b5:Nat} {a:Int} {v:Value} {d:Way} {F:List Nat} (h4:Bx w b4 3 (.int .i64 a)) (h3:Bx w b3 71 (pt g)) (h5:Bx w b5 133 v) (hd:Rep g K L w v d F) :
   Rep g K L w (.func (.func 184) #[] #[pt b4,pt b3,pt b5]) (.ifHolds a d) (b4 :: b3 :: b5 :: F)
 | inOrder {b1 N0:Nat} {sv:Value} {l:List Way} {vs:List Value} {F:List Nat} (h1:Bx w b1 237 sv) (hs:w.ownsRow N0 133 1 sv l.length vs) (hl:Reps g K L w vs l F) :
   Rep g K L w (.func (.func 229) #[] #[pt b1]) (.inOrder l) (b1 :: (sv.ownBlock.toList ++ F))
 | again {b:Nat} (hb:L b):Rep g K L w (.func (.func 230) #[] #[pt b]) (.again b) []
inductive Reps (g K:Nat) (L:Nat→Prop) (w:World):List Value→List Way→List Nat→Prop
 | nil:Reps g K L w [] [] []
 | cons {v:Value} {vs:List Value} {d:Way} {l:List Way} {F G:List Nat} (h:Rep g K L w v d F) (hs:Reps g K L w vs l G):Reps g K L w (v :: vs) (d :: l) (F ++ G)
end
mutual
theorem Rep.kept {g K:Nat} {L:Nat→Prop} {w w':World} {v:Value} {d:Way} {F:List Nat} (h:Rep g K L w v d F) (hk:∀ k ∈ F,w'.heap[k]?=w.heap[k]?):Rep g K L w' v d F:=by
 cases h with
 | through=>exact .through
 | once h5 h2 h3 hn hd=>exact .once ((hk _ (by simp)).trans h5) ((hk _ (by simp)).trans h2) ((hk _ (by simp)).trans h3) hn (hd.kept fun k hkk=>hk k (by simp [hkk]))
 | noted h3 h4 h5 hc hd=>exact .noted ((hk _ (by simp)).trans h3) ((hk _ (by simp)).trans h4) ((hk _ (by simp)).trans h5) hc (hd.kept fun k hkk=>hk k (by simp [hkk]))
 | runeOf h3 h4 h5 hr hd=>exact .runeOf ((hk _ (by simp)).trans h3) ((hk _ (by simp)).trans h4) ((hk _ (by simp)).trans h5) (hr.kept fun b hb=>hk b (by simp [hb])) (hd.kept fun k hkk=>hk k (by simp [hkk]))
 | ifHolds h4 h3 h5 hd=>exact .ifHolds ((hk _ (by simp)).trans h4) ((hk _ (by simp)).trans h3) ((hk _ (by simp)).trans h5) (hd.kept fun k hkk=>hk k (by simp [hkk]))
 | inOrder h1 hs hl=>exact .inOrder ((hk _ (by simp)).trans h1) (row_kept hs fun b hb=>hk b (by simp [hb])) (hl.kept fun k hkk=>hk k (by simp [hkk]))
 | again hb=>exact .again hb
theorem Reps.kept {g K:Nat} {L:Nat→Prop} {w w':World} {v:List Value} {d:List Way} {F:List Nat} (h:Reps g K L w v d F) (hk:∀ k ∈ F,w'.heap[k]?=w.heap[k]?):Reps g K L w' v d F:=by
 cases h with
 | nil=>exact .nil
 | cons h hs=>exact .cons (h.kept fun k hkk=>hk k (by simp [hkk])) (hs.kept fun k hkk=>hk k (by simp [hkk]))
end
theorem bx_lt {w:World} {b:Nat} {t:TypeId} {v:Value} (h:Bx w b t v):b < w.heap.size:=(Array.getElem?_eq_some_iff.1 h).1
mutual
theorem Rep.low {g K:Nat} {L:Nat→Prop} {w:World} {v:Value} {d:Way} {F:List Nat} (h:Rep g K L w v d F):∀ k ∈ F,k < w.heap.size:=by
 cases h with
 | through=>intro k hk;cases hk
 | once h5 h2 h3 hn hd =>
  intro k hk
  simp only [List.mem_cons] at hk
  rcases hk with rfl | rfl | rfl | hk
  ·exact bx_lt h5
  ·exact bx_lt h2
  ·exact bx_lt h3
  ·exact hd.low k hk
 | noted h3 h4 h5 hc hd =>
  intro k hk
  simp only [List.mem_cons] at hk
  rcases hk with rfl | rfl | rfl | hk
  ·exact bx_lt h3
  ·exact bx_lt h4
  ·exact bx_lt h5
  ·exact hd.low k hk
 | runeOf h3 h4 h5 hr hd =>
  intro k hk
  simp only [List.mem_cons,List.mem_append] at hk
  rcases hk with rfl | rfl | rfl | hk | hk
  ·exact bx_lt h3
  ·exact bx_lt h4
  ·exact bx_lt h5
  ·exact hr.low k hk
  ·exact hd.low k hk
 | ifHolds h4 h3 h5 hd =>
  intro k hk
  simp only [List.mem_cons] at hk
  rcases hk with rfl | rfl | rfl | hk
  ·exact bx_lt h4
  ·exact bx_lt h3
  ·exact bx_lt h5
  ·exact hd.low k hk
 | inOrder h1 hs hl =>
  intro k hk
  simp only [List.mem_cons,List.mem_append,Option.mem_toList] at hk
  rcases hk with rfl | hk | hk
  ·exact bx_lt h1
  ·exact (hs.lt k hk).2
  ·exact hl.low k hk
 | again hb=>intro k hk;cases hk
theorem Reps.low {g K:Nat} {L:Nat→Prop} {w:World} {v:List Value} {d:List Way} {F:List Nat} (h:Reps g K L w v d F):∀ k ∈ F,k < w.heap.size:=by
 cases h with
 | nil=>intro k hk;cases hk
 | cons h hs =>
  intro k hk
  rcases List.mem_append.1 hk with hk | hk
  ·exact h.low k hk
  ·exact hs.low k hk
end
inductive PR (N:Nat) (w:World):List Value→List (Int × List Int)→List Nat→Prop
 | nil:PR N w [] [] []
 | cons {e:Int} {cp:List Int} {cv:Value} {cs:List Value} {l:List (Int × List Int)} {F:List Nat} (h:w.ownsRow N 3 1 cv cp.length (I64 cp)) (hl:PR N w cs l F) :
   PR N w (.int .i64 e :: cv :: cs) ((e,cp) :: l) (cv.ownBlock.toList ++ F)
theorem PR.kept {N:Nat} {w w':World} {cs:List Value} {l:List (Int × List Int)} {F:List Nat} (h:PR N w cs l F) (hk:∀ k ∈ F,w'.heap[k]?=w.heap[k]?):PR N w' cs l F:=by
 induction h with
 | nil=>exact .nil
 | cons h hl ih=>exact .cons (row_kept h fun b hb=>hk b (by simp [hb])) (ih fun k hkk=>hk k (by simp [hkk]))
theorem PR.low {N:Nat} {w:World} {cs:List Value} {l:List (Int × List Int)} {F:List Nat} (h:PR N w cs l F):∀ k ∈ F,N≤k∧k < w.heap.size:=by
 induction h with
 | nil=>intro k hk;cases hk
 | cons h hl ih =>
  intro k hk
  rcases List.mem_append.1 hk with hk | hk
  ·exact h.lt k (by simpa using hk)
  ·exact ih k hk
theorem PR.snoc {N:Nat} {w:World} {cs:List Value} {l:List (Int × List Int)} {F:List Nat} (h:PR N w cs l F) {e:Int} {cp:List Int} {cv:Value} (hc:w.ownsRow N 3 1 cv cp.length (I64 cp)):PR N w (cs ++ [.int .i64 e,cv]) (l ++ [(e,cp)]) (F ++ cv.ownBlock.toList):=by
 induction h with
 | nil=>simpa using PR.cons (e:=e) hc .nil
 | cons h hl ih=>rw [List.append_assoc];exact .cons h ih
structure Cx where
 tv:Value
 hv:Value
 wh:Value
 n:Int
 mb:Nat
 nb:Nat
 ncap:Nat
 K:Nat
def Cx.nv (C:Cx):Value:=.slice (some ⟨C.nb,0,none⟩) C.K C.ncap
structure WS (N:Nat) (w:World) (g:Nat) (C:Cx) (s:Sg) (B:List Nat):Prop where
 ex:∃ pv cs F,w.heap[g]?=some (.cells #[C.tv,C.hv,C.wh,.int .i64 C.n,.map (some C.mb),C.nv,pv] 135 (0,0))∧w.ownsRow N 57 2 pv s.parses.length cs∧PR N w cs s.parses F∧(C.nb ∉ F∧F.Nodup) ∧
  B=g :: C.mb :: C.nb :: (pv.ownBlock.toList ++ F)
 map:MP w C.mb s.done
 notes:w.ownsRow N 3 1 C.nv s.notes.length (I64 s.notes)
 len:s.notes.length=C.K
 two:2≤C.K
 few:C.K≤10000
 low:N≤g∧N≤C.mb
theorem bx1 {w:World} {b:Nat} {t:TypeId} {v:Value} (o:Obj) (h:Bx w b t v):(w.alloc o).cell? ⟨b,0,none⟩=some v:=Joins.cell_of_block ((heap_alloc_old w o (bx_lt h)).trans h) 0
theorem wf_two {n:Int} {p:Nat} (hn:0≤n∧n < 4611686018427387904) (hp:p < 4611686018427387904):wf2 (n,(p:Int)):=by
 constructor <;> simp [Lit.wf,IntKind.bits,IntKind.min,IntKind.max,IntKind.signed] <;> omega
theorem MP.same {w w':World} {b:Nat} {D:List (Int × Int)} (h:MP w b D) (hk:w'.heap[b]?=w.heap[b]?):MP w' b D:=by
 obtain ⟨es,c,h1,h2⟩:=h
 exact ⟨es,c,hk.trans h1,h2⟩
theorem MP.lt {w:World} {b:Nat} {D:List (Int × Int)} (h:MP w b D):b < w.heap.size:=by
 obtain ⟨es,c,h1,h2⟩:=h
 exact (Array.getElem?_eq_some_iff.1 h1).1
set_option maxHeartbeats 2000000 in
theorem skip70 (N g:Nat) (C:Cx) (s:Sg) (B:List Nat) (w:World) (hW:Hid (WS N w g C s B)) (b5 b2 b3:Nat) (v:Value) (n:Int) (p:Nat) (h5:Bx w b5 3 (.int .i64 n)) (h2:Bx w b2 71 (pt g)) (h3:Bx w b3 133 v)
  (hn:0≤n∧n < 4611686018427387904) (hp:p < 4611686018427387904) (hd:(n,(p:Int)) ∈ s.done) :
  Calls Tryz.prog 120 #[.int .i64 (p:Int),pt b5,pt b2,pt b3] w fun e w'=>e=.returned (.tuple #[])∧Below w.heap.size w w':=by
 obtain ⟨pv,cs,F,hg,_⟩:=hW.out.ex
 have hmp:=hW.out.map
 have hwf:wf2 (n,(p:Int)):=wf_two hn hp
 obtain ⟨W,hW1⟩:∃ W,W=w.alloc (.cells #[.int .i64 n,.int .i64 (p:Int)] 185):=⟨_,rfl⟩
 have hm4:W.cell? ⟨g,4,none⟩=some (.map (some C.mb)):=by rw [hW1];exact Joins.cell_of_block ((heap_alloc_old w _ (Array.getElem?_eq_some_iff.1 hg).1).trans hg) 4
 have c5:=bx0 h5
 have c2:W.cell? ⟨b2,0,none⟩=some (pt g):=by rw [hW1];exact bx1 _ h2
 go_enter Tryz.func120,Tryz.ntmps120
 go_wp2_with fail
 rw [← hW1]
 have hmW:MP W C.mb s.done:=MP.same hmp (by rw [hW1];exact heap_alloc_old w _ hmp.lt)
 have HL:(Instr.lookup 131 (.map (some C.mb)) (.agg #[.int .i64 n,.int .i64 (p:Int)]) true).run Tryz.prog W.drew=.ok (.tuple #[.agg #[],.bool true]) W.drew:=by
  rw [(MP.same (w':=W.drew) hmW rfl).look n (p:Int) hwf,decide_eq_true hd]
 have HL2:(Instr.lookup 131 (.map (some C.mb)) (.agg #[.int .i64 n,.int .i64 (p:Int)]) true).run Tryz.prog (W.alloc (.cells #[] 186)).drew=.ok (.tuple #[.agg #[],.bool true]) (W.alloc (.cells #[] 186)).drew:=by
  rw [(MP.same (w':=(W.alloc (.cells #[] 186)).drew) hmW (heap_alloc_old W _ hmW.lt)).look n (p:Int) hwf,decide_eq_true hd]
 have d0:W.cell? ⟨w.heap.size,0,none⟩=some (.int .i64 n):=by rw [hW1];simp
 have d1:W.cell? ⟨w.heap.size,1,none⟩=some (.int .i64 (p:Int)):=by rw [hW1];simp
 have hgl:g < W.heap.size:=by have:=(Array.getElem?_eq_some_iff.1 hg).1;rw [hW1];simp;omega
 have l2:b2 < W.heap.size:=by have:=bx_lt h2;rw [hW1];simp;omega
 have ld:w.heap.size < W.heap.size:=by rw [hW1];simp
 obtain ⟨db,hdb⟩:∃ db,db=w.heap.size:=⟨_,rfl⟩
 rw [← hdb] at d0 d1 ld ⊢
 have HW1:=hid hW1
 have HDB:=hid hdb
 clear hW1 hdb hmp hg hmW
 go_region
 all_goals
  go_wp2
  refine bodyPost_ret (results_none rfl _ _ _) rfl ?_
  refine ⟨rfl,?_⟩
  rw [HW1.out]
  exact (Joins.below_alloc1 w _).trans (Joins.below_le ((Joins.below_alloc1 _ _).drew) (by simp))
theorem mb_in {N:Nat} {w:World} {g:Nat} {C:Cx} {s:Sg} {B:List Nat} (h:WS N w g C s B):C.mb ∈ B:=by
 obtain ⟨pv,cs,F,_,_,_,_,rfl⟩:=h.ex
 simp
theorem WS.put_map {N:Nat} {w w':World} {g:Nat} {C:Cx} {s:Sg} {B:List Nat} {D:List (Int × Int)} (h:WS N w g C s B) (hk:∀ k,k < w.heap.size→k≠C.mb→w'.heap[k]?=w.heap[k]?) (hm:MP w' C.mb D):WS N w' g C { s with done:=D } B:=by
 obtain ⟨pv,cs,F,h1,h2,h3,h4,rfl⟩:=h.ex
 have hmb:∃ es cl,w.heap[C.mb]?=some (.map es cl):=by obtain ⟨es,cl,h,_⟩:=h.map;exact ⟨es,cl,h⟩
 obtain ⟨es,cl,hmb⟩:=hmb
 have hrow:∀ {base e size n:Nat} {v:Value} {xs:List Value},w.ownsRow base e size v n xs→w'.ownsRow base e size v n xs:=fun hr=>row_kept hr fun b hb=>hk b (hr.lt b hb).2 (fun e=>by
  subst e
  rcases hr.2 with ⟨rfl,_⟩ | ⟨b2,cap,cur,rfl,_,hgg,_⟩
  ·simp [Value.ownBlock] at hb
  ·simp [Value.ownBlock] at hb
   subst hb
   rw [hgg] at hmb
   cases hmb)
 have hPR:∀ {cs:List Value} {l:List (Int × List Int)} {F:List Nat},PR N w cs l F→PR N w' cs l F:=fun hp=>by
  induction hp with
  | nil=>exact .nil
  | cons h hl ih=>exact .cons (hrow h) ih
 refine ⟨⟨pv,cs,F,(hk g (Array.getElem?_eq_some_iff.1 h1).1 (fun e=>by subst e;rw [h1] at hmb;cases hmb)).trans h1,hrow h2,hPR h3,h4,rfl⟩,hm,hrow h.notes,h.len,h.two,h.few,h.low⟩
def CallsV (v:Value) (p:Nat) (w:World) (Q:Ending→World→Prop):Prop:=∃ f fi ca,v=.func (.func f) fi ca∧(∀ args w,(callFunc f args).run Tryz.prog w=.ok (.enter f args) w)∧Calls Tryz.prog f (fi.push (.int .i64 (p:Int)) ++ ca) w Q
set_option maxRecDepth 100000 in
set_option maxHeartbeats 2000000 in
theorem go70 (N g:Nat) (C:Cx) (s:Sg) (B:List Nat) (w:World) (hW:Hid (WS N w g C s B)) (b5 b2 b3:Nat) (v:Value) (n:Int) (p:Nat) (h5:Bx w b5 3 (.int .i64 n)) (h2:Bx w b2 71 (pt g)) (h3:Bx w b3 133 v)
  (hB2:b2 ∉ B) (hB3:b3 ∉ B) (hn:0≤n∧n < 4611686018427387904) (hp:p < 4611686018427387904) (hd:(n,(p:Int)) ∉ s.done) (R:World→Prop)
  (hQ:∀ w',WS N w' g C { s with done:=s.done ++ [(n,(p:Int))] } B→Chg w w' B B→CallsV v p w' fun e w2=>e=.returned (.tuple #[])∧R w2) :
  Calls Tryz.prog 120 #[.int .i64 (p:Int),pt b5,pt b2,pt b3] w fun e w2=>e=.returned (.tuple #[])∧R w2:=by
 obtain ⟨pv,cs,F,hg,_⟩:=hW.out.ex
 have hmp:=hW.out.map
 have hwf:wf2 (n,(p:Int)):=wf_two hn hp
 obtain ⟨W,hW1⟩:∃ W,W=w.alloc (.cells #[.int .i64 n,.int .i64 (p:Int)] 185):=⟨_,rfl⟩
 have hm4:W.cell? ⟨g,4,none⟩=some (.map (some C.mb)):=by rw [hW1];exact Joins.cell_of_block ((heap_alloc_old w _ (Array.getElem?_eq_some_iff.1 hg).1).trans hg) 4
 have c5:=bx0 h5
 have c2:W.cell? ⟨b2,0,none⟩=some (pt g):=by rw [hW1];exact bx1 _ h2
 have c3:W.cell? ⟨b3,0,none⟩=some v:=by rw [hW1];exact bx1 _ h3
 go_enter Tryz.func120,Tryz.ntmps120
 go_wp2_with fail
 rw [← hW1]
 have hmW:MP W C.mb s.done:=MP.same hmp (by rw [hW1];exact heap_alloc_old w _ hmp.lt)
 have HL:(Instr.lookup 131 (.map (some C.mb)) (.agg #[.int .i64 n,.int .i64 (p:Int)]) true).run Tryz.prog W.drew=.ok (.tuple #[.agg #[],.bool false]) W.drew:=by
  rw [(MP.same (w':=W.drew) hmW rfl).look n (p:Int) hwf,decide_eq_false hd]
 have HL2:(Instr.lookup 131 (.map (some C.mb)) (.agg #[.int .i64 n,.int .i64 (p:Int)]) true).run Tryz.prog (W.alloc (.cells #[] 186)).drew=.ok (.tuple #[.agg #[],.bool false]) (W.alloc (.cells #[] 186)).drew:=by
  rw [(MP.same (w':=(W.alloc (.cells #[] 186)).drew) hmW (heap_alloc_old W _ hmW.lt)).look n (p:Int) hwf,decide_eq_false hd]
 have d0:W.cell? ⟨w.heap.size,0,none⟩=some (.int .i64 n):=by rw [hW1];simp
 have d1:W.cell? ⟨w.heap.size,1,none⟩=some (.int .i64 (p:Int)):=by rw [hW1];simp
 have hgl:g < W.heap.size:=by have:=(Array.getElem?_eq_some_iff.1 hg).1;rw [hW1];simp;omega
 have l2:b2 < W.heap.size:=by have:=bx_lt h2;rw [hW1];simp;omega
 have l3:b3 < W.heap.size:=by have:=bx_lt h3;rw [hW1];simp;omega
 have ld:w.heap.size < W.heap.size:=by rw [hW1];simp
 obtain ⟨db,hdb⟩:∃ db,db=w.heap.size:=⟨_,rfl⟩
 rw [← hdb] at d0 d1 ld ⊢
 obtain ⟨X,hX⟩:∃ X,X=(W.alloc (.cells #[] 186)).drew:=⟨_,rfl⟩
 obtain ⟨o,hrun,hput⟩:=(MP.same (w':=X.drew) hmW (by rw [hX];exact heap_alloc_old W _ hmW.lt)).put n (p:Int) hwf hd
 have HU:(Instr.mapUpdate 131 (.map (some C.mb)) (.agg #[.int .i64 n,.int .i64 (p:Int)]) (.agg #[])).run Tryz.prog X.drew=.ok () (putB X.drew C.mb o):=hrun
 have bX:∀ k,k < W.heap.size→X.heap[k]?=W.heap[k]?:=fun k hk=>by rw [hX];exact heap_alloc_old W _ hk
 have bW:∀ k,k < w.heap.size→W.heap[k]?=w.heap[k]?:=fun k hk=>by rw [hW1];exact heap_alloc_old w _ hk
 have x2:X.cell? ⟨b2,0,none⟩=some (pt g):=bx0 (t:=71) ((bX _ l2).trans ((bW _ (bx_lt h2)).trans h2))
 have hgX:=(bX _ hgl).trans ((bW _ (Array.getElem?_eq_some_iff.1 hg).1).trans hg)
 have x4:X.cell? ⟨g,4,none⟩=some (.map (some C.mb)):=Joins.cell_of_block hgX 4
 have hdX:X.heap[db]?=some (.cells #[.int .i64 n,.int .i64 (p:Int)] 185 (0,0)):=(bX _ ld).trans (by rw [hW1,hdb];exact heap_alloc_new w _)
 have e0:X.cell? ⟨db,0,none⟩=some (.int .i64 n):=Joins.cell_of_block hdX 0
 have e1:X.cell? ⟨db,1,none⟩=some (.int .i64 (p:Int)):=Joins.cell_of_block hdX 1
 have hne3:b3≠C.mb:=fun e=>hB3 (by rw [e];exact mb_in hW.out)
 have hp3:Bx (putB X.drew C.mb o) b3 133 v:=(putB_other X.drew o hne3).trans ((bX _ l3).trans ((bW _ (bx_lt h3)).trans h3))
 have x3:(putB X.drew C.mb o).cell? ⟨b3,0,none⟩=some v:=bx0 hp3
 have HW1:=hid hW1
 have HDB:=hid hdb
 have HMW:=hid hmW
 have HX:=hid hX
 have HP:=hid hput
 have BX:=hid bX
 have BW:=hid bW
 clear hW1 hdb hmp hg hmW hrun hput hgX hdX hp3 bX bW
 have hgo:∀ k,k < w.heap.size→k≠C.mb→(putB X.drew C.mb o).heap[k]?=w.heap[k]?:=fun k hk hne=>(putB_other X.drew o hne).trans ((BX.out k (by have:=HDB.out;omega)).trans (BW.out k hk))
 have hCh:Chg w (putB X.drew C.mb o) B B:=by
  refine ⟨?_,?_,?_,?_,fun k hk hn2=>hgo k hk (fun e=>hn2 (by rw [e];exact mb_in hW.out)),fun k hk=>.inl hk⟩
  ·show X.os=w.os
   rw [HX.out,HW1.out];rfl
  ·show X.tape=w.tape
   rw [HX.out,HW1.out];rfl
  ·show X.output=w.output
   rw [HX.out,HW1.out];rfl
  ·rw [putB_size]
   show w.heap.size≤X.heap.size
   rw [HX.out,HW1.out];simp;omega
 have hWS:WS N (putB X.drew C.mb o) g C { s with done:=s.done ++ [(n,(p:Int))] } B:=hW.out.put_map hgo HP.out
 obtain ⟨f,fi,ca,rfl,hcf,hC⟩:=hQ (putB X.drew C.mb o) hWS hCh
 go_region
 all_goals
  rw [← hX]
  clear hX
  go_wp2_with fail
  go_region
  all_goals
   go_wp2_with ((with_reducible refine hC.mono ?_);rintro e w2 ⟨rfl,hR⟩)
   go_end0
   exact ⟨rfl,hR⟩
theorem row_set {w:World} {base e n b cap j:Nat} {u:Value} {xs:List Value} (h:w.ownsRow base e 1 (.slice (some ⟨b,0,none⟩) n cap) n xs) (hj:j < n):(w.setCell ⟨b,j,none⟩ u).ownsRow base e 1 (.slice (some ⟨b,0,none⟩) n cap) n (xs.set j u):=by
 refine ⟨by rw [List.length_set];exact h.1,.inr ?_⟩
 rcases h.2 with ⟨h,_⟩ | ⟨g,cap',cur,he,hb,hgg,h1,h2,h3,h4⟩
 ·cases h
 ·simp only [Value.slice.injEq,Option.some.injEq,Addr.mk.injEq] at he
  obtain ⟨⟨rfl,_⟩,_,rfl⟩:=he
  refine ⟨b,cap,cur.setIfInBounds j u,rfl,hb,Joins.block_setCell hgg u,h1,h2,by simpa using h3,?_⟩
  rw [← h4]
  simp only [Array.toList_setIfInBounds]
  rw [List.take_set]
theorem WS.blocks {N:Nat} {w:World} {g:Nat} {C:Cx} {s:Sg} {B:List Nat} (h:WS N w g C s B):g ∈ B∧C.mb ∈ B∧C.nb ∈ B:=by
 obtain ⟨pv,cs,F,_,_,_,_,rfl⟩:=h.ex
 simp
theorem WS.nblk {N:Nat} {w:World} {g:Nat} {C:Cx} {s:Sg} {B:List Nat} (h:WS N w g C s B):∃ cur,w.heap[C.nb]?=some (.cells cur 3 (0,0)):=by
 have h1:=h.notes
 rcases h1.2 with ⟨h2,_⟩ | ⟨b,cap',cur,he,hb,hgg,_⟩
 ·simp [Cx.nv] at h2
 ·simp only [Cx.nv,Value.slice.injEq,Option.some.injEq,Addr.mk.injEq] at he
  obtain ⟨⟨rfl,_⟩,_⟩:=he
  exact ⟨cur,hgg⟩
theorem WS.note {N:Nat} {w:World} {g:Nat} {C:Cx} {s:Sg} {B:List Nat} (h:WS N w g C s B) (c:Nat) (hc:c < C.K) (x:Int):WS N (w.setCell ⟨C.nb,c,none⟩ (.int .i64 x)) g C { s with notes:=s.notes.set c x } B:=by
 obtain ⟨pv,cs,F,h1,h2,h3,h4,rfl⟩:=h.ex
 obtain ⟨cur,hn⟩:=h.nblk
 obtain ⟨es,cl,hm,hm2⟩:=h.map
 have hkeep:∀ k,k≠C.nb→(w.setCell ⟨C.nb,c,none⟩ (.int .i64 x)).heap[k]?=w.heap[k]?:=fun k hk=>Below.heap_setCell _ _ _ _ hk
 have hrow:∀ {e size n:Nat} {v:Value} {xs:List Value},e≠3→w.ownsRow N e size v n xs→(w.setCell ⟨C.nb,c,none⟩ (.int .i64 x)).ownsRow N e size v n xs:=fun he hr=>own_setCell hr (fun e2=>own_ne hr hn he.symm e2)
 refine ⟨⟨pv,cs,F,?_,hrow (by decide) h2,h3.kept fun k hk=>hkeep k (fun e=>h4.1 (e ▸ hk)),h4,rfl⟩,⟨es,cl,(hkeep _ (fun e=>by rw [e,hn] at hm;cases hm)).trans hm,hm2⟩,?_,by simpa using h.len,h.two,h.few,h.low⟩
 ·exact (hkeep g (fun e=>by rw [e,hn] at h1;cases h1)).trans h1
 ·have hl:=h.len
  have:=row_set (u:=.int .i64 x) (j:=c) (b:=C.nb) (cap:=C.ncap) (n:=C.K) (by have:=h.notes;rw [hl] at this;exact this) hc
  rw [List.length_set,hl]
  rw [show I64 (s.notes.set c x)=(I64 s.notes).set c (.int .i64 x) by simp [I64,List.map_set]]
  exact this
theorem WS.read {N:Nat} {w:World} {g:Nat} {C:Cx} {s:Sg} {B:List Nat} (h:WS N w g C s B) (c:Nat) (hc:c < C.K):w.cell? ⟨C.nb,c,none⟩=some (.int .i64 (s.notes.getD c 0)):=by
 have hl:=h.len
 have hN:=h.notes
 rw [hl] at hN
 have hN2:w.ownsRow N 3 1 (.slice (some ⟨C.nb,0,none⟩) C.K C.ncap) C.K (I64 s.notes):=hN
 rw [hN2.cellAt c (by omega)]
 simp [I64,List.getD,List.getElem?_eq_getElem (show c < s.notes.length by omega)]
theorem WS.drew {N:Nat} {w:World} {g:Nat} {C:Cx} {s:Sg} {B:List Nat} (h:WS N w g C s B):WS N w.drew g C s B:=by
 obtain ⟨pv,cs,F,h1,h2,h3,h4,rfl⟩:=h.ex
 exact ⟨⟨pv,cs,F,h1,h2,h3.kept fun _ _=>rfl,h4,rfl⟩,h.map.same rfl,h.notes,h.len,h.two,h.few,h.low⟩
set_option maxRecDepth 100000 in
set_option maxHeartbeats 2000000 in
theorem noted95 (N g:Nat) (C:Cx) (s:Sg) (B:List Nat) (w:World) (hW:Hid (WS N w g C s B)) (b3 b4 b5 c:Nat) (v:Value) (p:Nat) (h3:Bx w b3 71 (pt g)) (h4:Bx w b4 3 (.int .i64 (c:Int))) (h5:Bx w b5 133 v)
  (hB3:b3 ∉ B) (hB4:b4 ∉ B) (hB5:b5 ∉ B) (hc:c < C.K) (s':Sg)
  (hQ:∀ w',WS N w' g C { s with notes:=s.notes.set c (p:Int) } B→Chg w w' B B→CallsV v p w' fun e w2=>e=.returned (.tuple #[])∧∃ B',WS N w2 g C s' B'∧Chg w' w2 B B') :
  Calls Tryz.prog 187 #[.int .i64 (p:Int),pt b3,pt b4,pt b5] w fun e w2=>e=.returned (.tuple #[])∧∃ B',WS N w2 g C { s' with notes:=s'.notes.set c (s.notes.getD c 0) } B'∧Chg w w2 B B':=by
 obtain ⟨pv,cs,F,hg,_⟩:=hW.out.ex
 have few:=hW.out.few
 have g5:w.cell? ⟨g,5,none⟩=some (.slice (some ⟨C.nb,0,none⟩) C.K C.ncap):=Joins.cell_of_block hg 5
 have c3:=bx0 h3
 have c4:=bx0 h4
 obtain ⟨old,hold⟩:∃ old,old=s.notes.getD c 0:=⟨_,rfl⟩
 have rd:=hW.out.read c hc
 rw [← hold] at rd ⊢
 obtain ⟨cur,hn⟩:=hW.out.nblk
 have uf:=Joins.unfrozen_of_block hn c
 have i1:(c:Int) < (C.K:Int):=by omega
 have HG:=hid hg
 have HWS:=hid hW.out
 have HQ:=hid hQ
 have HO:=hid hold
 have H3:=hid h3
 have H4:=hid h4
 have H5:=hid h5
 clear hg hn h3 h4 h5 hQ hW hold
 go_enter Tryz.func187,Tryz.ntmps187
 go_wp2_with fail
 go_region
 all_goals
  go_wp2_with fail
  go_region
  all_goals
   obtain ⟨X,hX⟩:∃ X,X=(w.setCell ⟨C.nb,c,none⟩ (.int .i64 (p:Int))).drew.drew:=⟨_,rfl⟩
   rw [← hX]
   have hXs:WS N X g C { s with notes:=s.notes.set c (p:Int) } B:=by rw [hX];exact (HWS.out.note c hc (p:Int)).drew.drew
   have hXc:Chg w X B B:=by rw [hX];exact (((Chg.refl w B).set (a:=⟨C.nb,c,none⟩) (.int .i64 (p:Int)) HWS.out.blocks.2.2).drew).drew
   have x5:X.cell? ⟨b5,0,none⟩=some v:=bx0 (t:=133) ((hXc.block b5 (bx_lt H5.out) hB5).trans H5.out)
   obtain ⟨f,fi,ca,rfl,hcf,hC⟩:=HQ.out X hXs hXc
   have HXs:=hid hXs
   have HXc:=hid hXc
   have HX:=hid hX
   clear hXs hXc hX
   go_wp2_with ((with_reducible refine hC.mono ?_);rintro e w2 ⟨rfl,B2,hW2,hC2⟩;clear hC;have HC:=hid (HXc.out.trans hC2);have HW2:=hid hW2;clear hW2 hC2)
   obtain ⟨pv2,cs2,F2,hg2,_⟩:=HW2.out.ex
   have y5:w2.cell? ⟨g,5,none⟩=some (.slice (some ⟨C.nb,0,none⟩) C.K C.ncap):=Joins.cell_of_block hg2 5
   have y3:=bx0 (t:=71) ((HC.out.block b3 (bx_lt H3.out) hB3).trans H3.out)
   have y4:=bx0 (t:=3) ((HC.out.block b4 (bx_lt H4.out) hB4).trans H4.out)
   obtain ⟨cur2,hn2⟩:=HW2.out.nblk
   have uf2:=Joins.unfrozen_of_block hn2 c
   have y6:=HW2.out.read c hc
   obtain ⟨old2,hold2⟩:∃ old2,old2=s'.notes.getD c 0:=⟨_,rfl⟩
   rw [← hold2] at y6
   clear hg2 hn2 hold2
   go_wp2_with fail
   go_region
   all_goals
    go_wp2
    go_end0
    exact ⟨rfl,B2,(HW2.out.note c hc old).drew,((HC.out.set (a:=⟨C.nb,c,none⟩) (.int .i64 old) HWS.out.blocks.2.2).drew)⟩
set_option maxRecDepth 100000 in
set_option maxHeartbeats 2000000 in
theorem again110 (b:Nat) (v:Value) (p:Nat) (w:World) (hb:Bx w b 133 v) (R:World→Prop) (hQ:CallsV v p w fun e w2=>e=.returned (.tuple #[])∧R w2) :
  Calls Tryz.prog 230 #[.int .i64 (p:Int),pt b] w fun e w2=>e=.returned (.tuple #[])∧R w2:=by
 have c0:=bx0 hb
 clear hb
 obtain ⟨f,fi,ca,rfl,hcf,hC⟩:=hQ
 go_enter Tryz.func230,Tryz.ntmps230
 go_wp2_with ((with_reducible refine hC.mono ?_);rintro e w2 ⟨rfl,hR⟩)
 go_end0
 exact ⟨rfl,hR⟩
theorem Reps.len {g K:Nat} {L:Nat→Prop} {w:World} {vs:List Value} {l:List Way} {F:List Nat} (h:Reps g K L w vs l F):vs.length=l.length:=by
 induction l generalizing vs F with
 | nil=>cases h;rfl
 | cons d l ih=>cases h with | cons h hs=>simp [ih hs]
theorem Reps.get {g K:Nat} {L:Nat→Prop} {w:World}:∀ {l:List Way} {vs:List Value} {F:List Nat},Reps g K L w vs l F→∀ (i:Nat) (hi:i < l.length),∃ v Fi,vs[i]?=some v∧Rep g K L w v (l[i]'hi) Fi∧∀ k ∈ Fi,k ∈ F:=by
 intro l
 induction l with
 | nil=>intro vs F h i hi;simp at hi
 | cons d l ih =>
  intro vs F h i hi
  cases h with
  | @cons v vs _ _ F1 G1 h1 h2 =>
   cases i with
   | zero=>exact ⟨v,F1,rfl,h1,fun k hk=>List.mem_append_left _ hk⟩
   | succ i =>
    obtain ⟨u,Fi,q1,q2,q3⟩:=ih h2 i (by simpa using hi)
    exact ⟨u,Fi,by simpa using q1,q2,fun k hk=>List.mem_append_right _ (q3 k hk)⟩
theorem row_cap2 {w:World} {base e n b cap:Nat} {xs:List Value} (h:w.ownsRow base e 1 (.slice (some ⟨b,0,none⟩) n cap) n xs):n≤cap:=by
 rcases h.2 with ⟨h,_⟩ | ⟨g,cap',cur,he,hb,hgg,h1,h2,h3,h4⟩
 ·cases h
 ·simp only [Value.slice.injEq,Option.some.injEq,Addr.mk.injEq] at he
  obtain ⟨⟨rfl,_⟩,_,rfl⟩:=he
  omega
set_option maxRecDepth 100000 in
set_option maxHeartbeats 2000000 in
theorem inOrder109 (N N0 g:Nat) (C:Cx) (ss:Nat→Sg) (B:List Nat) (w:World) (hW:Hid (WS N w g C (ss 0) B)) (b1 n:Nat) (sv:Value) (vs:List Value) (p:Nat) (h1:Bx w b1 237 sv) (hs:w.ownsRow N0 133 1 sv n vs)
  (hB1:b1 ∉ B) (hBs:∀ k,sv.ownBlock=some k→k ∉ B) (hvl:vs.length=n)
  (hQ:Hid (∀ i v w' B',i < n→vs[i]?=some v→WS N w' g C (ss i) B'→Chg w w' B B'→CallsV v p w' fun e w2=>e=.returned (.tuple #[])∧∃ B2,WS N w2 g C (ss (i + 1)) B2∧Chg w' w2 B' B2)) :
  Calls Tryz.prog 229 #[.int .i64 (p:Int),pt b1] w fun e w2=>e=.returned (.tuple #[])∧∃ B',WS N w2 g C (ss n) B'∧Chg w w2 B B':=by
 have c0:=bx0 h1
 have kn:n≤9223372036854775807:=by
  rcases hs.2 with ⟨_,h⟩ | ⟨g,cap,cur,he,h1,h2,h3,h4,h5,h6⟩
  ·omega
  ·unfold maxLen at h4
   omega
 obtain ⟨s1,s3,rfl⟩:∃ s1 s3,sv=.slice s1 n s3:=by
  rcases Joins.ownsRow_forms hs with ⟨rfl,h⟩ | ⟨b,cap,rfl⟩
  ·exact ⟨none,0,by rw [h]⟩
  ·exact ⟨_,_,rfl⟩
 have HS:=hid hs
 have HBs:=hid hBs
 have HVL:=hid hvl
 clear hs h1 hBs hvl
 go_enter Tryz.func229,Tryz.ntmps229
 go_wp2_with fail
 go_loopw [7] (fun x wq=>∃ i:Nat,x=.int .i64 (i:Int)∧i≤n∧Hid (∃ B',WS N wq g C (ss i) B'∧Chg w wq B B')) (fun x _=>n - (intOf x).toNat)
 case atStart=>exact ⟨0,rfl,by omega,by exact ⟨B,hW.out,Chg.refl w B⟩⟩
 case round =>
  obtain ⟨i,rfl,hi,HI⟩:=hrel
  obtain ⟨B',hWi,hCi⟩:=HI.out
  clear HI
  by_cases hil:i < n
  ·have b1:decide ((i:Int) < (n:Int))=true:=by simp;omega
   have b2:(i:Int) < (n:Int):=by omega
   obtain ⟨b,rfl⟩:∃ b,s1=some ⟨b,0,none⟩:=by
    rcases HS.out.2 with ⟨_,h⟩ | ⟨g,cap,cur,he,_⟩
    ·omega
    ·simp only [Value.slice.injEq] at he
     exact ⟨g,he.1⟩
   obtain ⟨v,hv⟩:∃ v,vs[i]?=some v:=⟨vs[i]'(by rw [HVL.out];exact hil),List.getElem?_eq_getElem _⟩
   have hrow:wr.ownsRow N0 133 1 (.slice (some ⟨b,0,none⟩) n s3) n vs:=hCi.row HS.out HBs.out
   have hcap:n≤s3:=row_cap2 hrow
   have n0:wr.cell? ⟨b,i,none⟩=some v:=(hrow.cellAt i (by omega)).trans hv
   obtain ⟨f,fi,ca,rfl,hcf,hC⟩:=hQ.out i v wr B' hil hv hWi hCi
   have ad1:IntKind.i64.wrap ((i:Int) + 1)=(i:Int) + 1:=by simp [IntKind.wrap,IntKind.bits,IntKind.signed];omega
   have HCi:=hid hCi
   clear hrow hWi hCi hv
   go_wp2_with ((with_reducible refine hC.mono ?_);rintro e w2 ⟨rfl,B2,hW2,hC2⟩;have HW2:=hid hW2;have HC2:=hid hC2;clear hC hW2 hC2)
   refine ⟨⟨i + 1,by push_cast;rfl,by omega,by exact ⟨B2,HW2.out,HCi.out.trans HC2.out⟩⟩,?_⟩
   simp [intOf]
   omega
  ·have b1:decide ((i:Int) < (n:Int))=false:=by simp;omega
   obtain rfl:i=n:=by omega
   have HE:Hid (∃ B',WS N wr g C (ss i) B'∧Chg w wr B B'):=⟨B',hWi,hCi⟩
   clear hWi hCi
   go_wp2
   go_end0
   exact ⟨rfl,HE.out⟩
def FRY (w:World) (b n:Nat) (f:Nat→Nv):Prop:=(∃ arr:Array Value,w.heap[b]?=some (.cells arr 25 (0,0))∧arr.size=n * 9)∧∀ i,i < n→N9 w b 0 i (f i)
theorem FRY.kept {w w':World} {b n:Nat} {f:Nat→Nv} (h:FRY w b n f) (hk:w'.heap[b]?=w.heap[b]?):FRY w' b n f:=by
 obtain ⟨⟨arr,h1,h2⟩,h3⟩:=h
 exact ⟨⟨arr,hk.trans h1,h2⟩,fun i hi=>(h3 i hi).kept hk⟩
theorem FRY.as {w:World} {b n:Nat} {f g:Nat→Nv} (h:FRY w b n f) (he:∀ i,i < n→f i=g i):FRY w b n g:=⟨h.1,fun i hi=>by rw [← he i hi];exact h.2 i hi⟩
theorem FRY.lt {w:World} {b n:Nat} {f:Nat→Nv} (h:FRY w b n f):b < w.heap.size:=by
 obtain ⟨⟨arr,h1,h2⟩,h3⟩:=h
 exact (Array.getElem?_eq_some_iff.1 h1).1
theorem FRY.there {w:World} {b n:Nat} {f:Nat→Nv} (h:FRY w b n f) {i:Nat} (hi:i < n):w.there b (i * 9) 9:=fun j hj=>by
 obtain ⟨⟨arr,h1,h2⟩,h3⟩:=h
 refine ⟨?_,Joins.unfrozen_of_block h1 _⟩
 rw [Joins.cell_of_block h1,Array.getElem?_eq_getElem (by omega)]
 rfl
theorem FRY.set {w:World} {b n:Nat} {f:Nat→Nv} (h:FRY w b n f) {i:Nat} (hi:i < n) (M:Nv):FRY (w.setCells b (i * 9) (Nv.cs M)) b n (fun j=>if j=i then M else f j):=by
 have ht:=h.there hi
 obtain ⟨⟨arr,h1,h2⟩,h3⟩:=h
 refine ⟨?_,fun j hj=>?_⟩
 ·obtain ⟨arr',g1,g2⟩:=block_setCells (Nv.cs M) (i * 9) w arr h1
  exact ⟨arr',g1,by omega⟩
 ·by_cases e:j=i
  ·subst e
   have hin:=World.cell?_setCells_in b (Nv.cs M) (j * 9) w (fun k hk=>(ht k (by simpa using hk)).1)
   simp only [if_pos]
   unfold N9
   simp only [Nat.zero_add]
   exact ⟨hin 0 (by simp),hin 1 (by simp),hin 2 (by simp),hin 3 (by simp),hin 4 (by simp),hin 5 (by simp),hin 6 (by simp),hin 7 (by simp),hin 8 (by simp)⟩
  ·have hout:∀ k,k < 9→(w.setCells b (i * 9) (Nv.cs M)).cell? ⟨b,0 + j * 9 + k,none⟩=w.cell? ⟨b,0 + j * 9 + k,none⟩:=fun k hk=>World.cell?_setCells_out b (Nv.cs M) (i * 9) w _ (fun _ _=>by simp only [List.length_cons,List.length_nil];omega)
   simp only [if_neg e]
   obtain ⟨n0,n1,n2,n3,n4,n5,n6,n7,n8⟩:=h3 j hj
   exact ⟨(hout 0 (by omega)).trans n0,(hout 1 (by omega)).trans n1,(hout 2 (by omega)).trans n2,(hout 3 (by omega)).trans n3,(hout 4 (by omega)).trans n4,(hout 5 (by omega)).trans n5,(hout 6 (by omega)).trans n6,(hout 7 (by omega)).trans n7,(hout 8 (by omega)).trans n8⟩
theorem FRY.made (w:World) (c:Nat):FRY (w.alloc (.cells (madeCells Z9.cells (c * 9)) 25)) w.heap.size c (fun _=>default):=by
 have hb:=heap_alloc_new w (.cells (madeCells Z9.cells (c * 9)) 25)
 refine ⟨⟨_,hb,size_madeCells _ _⟩,fun i hi=>?_⟩
 have hc:∀ k,k < 9→(w.alloc (.cells (madeCells Z9.cells (c * 9)) 25)).cell? ⟨w.heap.size,0 + i * 9 + k,none⟩=some (Z9.cells[k]!):=fun k hk=>by
  rw [Joins.cell_of_block hb]
  have h9:Z9.cells.size=9:=rfl
  simp only [madeCells,h9]
  rw [Array.getElem?_map,Array.getElem?_range,if_pos (by omega)]
  simp only [Option.map_some]
  rw [show (0 + i * 9 + k) % 9=k by omega]
 exact ⟨hc 0 (by omega),hc 1 (by omega),hc 2 (by omega),hc 3 (by omega),hc 4 (by omega),hc 5 (by omega),hc 6 (by omega),hc 7 (by omega),hc 8 (by omega)⟩
end Go.Proofs.YtacaanhnlfpbhaaGreat
