/- HELPERS: texts of ours put together. -/
import Derived.Test.YtjdbnoccdefnaaaGreatK50
import Derived.Test.YtjdbnoccdefnaaaGreatK51
namespace Go.Proofs.YtjdbnoccdefnaaaGreat
open Go.RowKit Go.Lk
set_option linter.unusedVariables false
set_option linter.unusedSimpArgs false
abbrev L4:List In:=[⟨3,1,0,0,[]⟩,⟨1,2,0,0,[(97,97)]⟩,⟨3,3,0,1,[]⟩,⟨5,0,0,0,[]⟩]
theorem may4:mayB L4 0 2 = true:=by kernel_rfl
abbrev F4 (q1:Option Addr) (q3:Nat):List Value:=[.int .i64 3,.int .i64 1,.int .i64 0,.int .i64 0,.slice none 0 0,.int .i64 1,.int .i64 2,.int .i64 0,.int .i64 0,.slice q1 1 q3,.int .i64 3,.int .i64 3,.int .i64 0,.int .i64 1,.slice none 0 0,.int .i64 5,.int .i64 0,.int .i64 0,.int .i64 0,.slice none 0 0]
abbrev N4 (q1:Option Addr) (q3:Nat):List Iv:=[⟨3,1,0,0,none,0,0⟩,⟨1,2,0,0,q1,1,q3⟩,⟨3,3,0,1,none,0,0⟩,⟨5,0,0,0,none,0,0⟩]
theorem pi4 {w:World} {base:Nat} {z1 q1:Option Addr} {c q3:Nat} (h:w.ownsRow base 43 5 (.slice z1 4 c) 4 (F4 q1 q3)) (hq:RowAt w.heap.size w (.slice q1 1 q3) [(97,97)]):PI w w.heap.size z1 4 L4:=by
  refine ⟨rfl,fun _ => ?_⟩
  rcases h.2 with ⟨_,h0⟩ | ⟨b,cap,cur,e,_⟩
  · omega
  · simp only [Value.slice.injEq] at e
    have hb:=(h.lt b (by rw [e.1];rfl)).2
    rw [e.1] at h
    have hF:F4 q1 q3 = (N4 q1 q3).flatMap Iv.cs:=by simp [F4,N4]
    refine ⟨b,0,fun i => (N4 q1 q3).getD i default,e.1,hb,fun i hi => ⟨?_,?_⟩⟩
    · have hi4:i < (N4 q1 q3).length:=by simpa using hi
      have f:∀ k,k < 5 → w.cell? ⟨b,i * 5 + k,none⟩ = (Iv.cs (N4 q1 q3)[i])[k]?:=fun k hk => by
        rw [h.cellAt (i * 5 + k) (by simp at hi;omega),hF,flat5 (N4 q1 q3) i k hi4 hk]
      have f0:=f 0 (by omega)
      rw [Nat.add_zero] at f0
      show I5 w b 0 i ((N4 q1 q3).getD i default)
      rw [show (N4 q1 q3).getD i default = (N4 q1 q3)[i] by simp only [List.getD_eq_getElem?_getD,List.getElem?_eq_getElem hi4,Option.getD_some]]
      unfold I5
      rw [Nat.zero_add]
      exact ⟨f0,f 1 (by omega),f 2 (by omega),f 3 (by omega),f 4 (by omega)⟩
    · have nil:∀ a b c d:Int,IM w w.heap.size ⟨a,b,c,d,none,0,0⟩ ⟨a,b,c,d,[]⟩:=fun a b c d => ⟨rfl,rfl,rfl,rfl,rfl,by show 0 * 16 ≤ _;omega,⟨none,0,rfl,.inl rfl⟩⟩
      match i,hi with
      | 0,_ => exact nil _ _ _ _
      | 1,_ => exact ⟨rfl,rfl,rfl,rfl,rfl,by show 1 * 16 ≤ _;omega,hq⟩
      | 2,_ => exact nil _ _ _ _
      | 3,_ => exact nil _ _ _ _
theorem three_new (w:World) (o o' o2:Obj):(((w.alloc o).alloc o').alloc o2).heap[w.heap.size]? = some o ∧ (((w.alloc o).alloc o').alloc o2).heap[w.heap.size + 1]? = some o' ∧ (((w.alloc o).alloc o').alloc o2).heap[w.heap.size + 1 + 1]? = some o2 ∧
    ∀ k,k < w.heap.size → (((w.alloc o).alloc o').alloc o2).heap[k]? = w.heap[k]?:=by
  have s1:(w.alloc o).heap.size = w.heap.size + 1:=by simp
  have s2:((w.alloc o).alloc o').heap.size = w.heap.size + 1 + 1:=by simp
  refine ⟨?_,?_,?_,fun k hk => ?_⟩
  · exact (heap_alloc_old _ _ (by omega)).trans ((heap_alloc_old _ _ (by omega)).trans (heap_alloc_new w o))
  · refine (heap_alloc_old _ _ (by omega)).trans ?_
    rw [← s1];exact heap_alloc_new _ _
  · rw [← s2];exact heap_alloc_new _ _
  · exact (heap_alloc_old _ _ (by omega)).trans ((heap_alloc_old _ _ (by omega)).trans (heap_alloc_old _ _ hk))
abbrev A4 (g:Nat):Array Value:=#[.int .i64 3,.int .i64 1,.int .i64 0,.int .i64 0,.slice none 0 0,.int .i64 1,.int .i64 2,.int .i64 0,.int .i64 0,.slice (some ⟨g,0,none⟩) 1 1,.int .i64 3,.int .i64 3,.int .i64 0,.int .i64 1,.slice none 0 0,.int .i64 5,.int .i64 0,.int .i64 0,.int .i64 0,.slice none 0 0]
set_option maxRecDepth 100000 in
set_option maxHeartbeats 8000000 in
theorem sample18 (w:World):Calls Tryz.prog 18 #[] w fun e w' => ∃ g,e = .returned (pv (some ⟨g,0,none⟩) 4 4 0 2) ∧ PI w' w'.heap.size (some ⟨g,0,none⟩) 4 L4 ∧ Below w.heap.size w w':=by
  go_enter Tryz.func18,Tryz.ntmps18
  go_wp2
  obtain ⟨U,hU⟩:∃ U,U = (((w.alloc (.cells #[.slice (some ⟨w.heap.size + 1 + 1,0,none⟩) 4 4,.int .i64 0,.int .i64 2] 24)).alloc (.cells #[.int .i64 97,.int .i64 97] 50)).alloc (.cells (A4 (w.heap.size + 1)) 43)):=⟨_,rfl⟩
  rw [← hU]
  obtain ⟨h0,h1,h2,h3⟩:=three_new w (.cells #[.slice (some ⟨w.heap.size + 1 + 1,0,none⟩) 4 4,.int .i64 0,.int .i64 2] 24) (.cells #[.int .i64 97,.int .i64 97] 50) (.cells (A4 (w.heap.size + 1)) 43)
  rw [← hU] at h0 h1 h2 h3
  refine bodyPost_ret (results_cell_row rfl _ _ w.heap.size 24 _ (0,0) _ rfl h0 Tryz.underlying24 rfl (by kernel_rfl)) rfl ?_
  have hb:Below w.heap.size w U:=⟨by rw [hU];rfl,by rw [hU];rfl,by rw [hU];rfl,by rw [hU];simp;omega,h3⟩
  have hrow:U.ownsRow 0 43 5 (.slice (some ⟨w.heap.size + 1 + 1,0,none⟩) 4 4) 4 (F4 (some ⟨w.heap.size + 1,0,none⟩) 1):=by
    have h4:=World.ownsRow_lit (base:=0) (e:=43) (size:=5) ((w.alloc (.cells #[.slice (some ⟨w.heap.size + 1 + 1,0,none⟩) 4 4,.int .i64 0,.int .i64 2] 24)).alloc (.cells #[.int .i64 97,.int .i64 97] 50)) (A4 (w.heap.size + 1)) 4 (Nat.zero_le _) (by unfold maxLen;omega) rfl
    rw [← hU] at h4
    rw [show ((w.alloc (.cells #[.slice (some ⟨w.heap.size + 1 + 1,0,none⟩) 4 4,.int .i64 0,.int .i64 2] 24)).alloc (.cells #[.int .i64 97,.int .i64 97] 50)).heap.size = w.heap.size + 1 + 1 by simp] at h4
    exact h4
  have hlt:w.heap.size + 1 < U.heap.size:=(Array.getElem?_eq_some_iff.1 h1).1
  have hr:RowAt U.heap.size U (.slice (some ⟨w.heap.size + 1,0,none⟩) 1 1) [(97,97)]:=
    ⟨some ⟨w.heap.size + 1,0,none⟩,1,rfl,.inr ⟨w.heap.size + 1,0,rfl,hlt,fun k hk => by have:k = 0:=(by simpa using hk);subst this;exact Joins.cell_of_block h1 0,fun k hk => by have:k = 0:=(by simpa using hk);subst this;exact Joins.cell_of_block h1 1⟩⟩
  exact ⟨w.heap.size + 1 + 1,rfl,pi4 hrow hr,hb⟩
theorem us4a:Us (pd L4).eps [0] [0,1]:=.cons (.cons .nil)
theorem us4b:Us (pd L4).eps [2] [2,3]:=.cons (.cons .nil)
theorem one4:IsP L4 0 2:=by
  refine ⟨may4,?_⟩
  have h:∀ i,Rch (pd L4) (nxI L4) 0 i → i = 0 ∨ i = 2:=fun i hi => by
    induction hi with
    | start => exact .inl rfl
    | @step i j o h1 h2 h3 h4 ih =>
      rcases ih with rfl | rfl
      · obtain rfl:=us4a.det h2
        simp at h3
        rcases h3 with rfl | rfl
        · exact absurd h4 (by decide)
        · exact .inr rfl
      · obtain rfl:=us4b.det h2
        simp at h3
        rcases h3 with rfl | rfl
        · exact absurd h4 (by decide)
        · exact absurd h4 (by decide)
  intro i hi
  rcases h i hi with rfl | rfl
  · exact ⟨_,us4a,by decide,by decide,by simp [pd,at0]⟩
  · exact ⟨_,us4b,by decide,by decide,by simp [pd,at0]⟩
abbrev L1:List In:=[⟨7,0,0,0,[]⟩]
theorem not1:¬ IsP L1 0 2:=fun h => by
  obtain ⟨o,h1,-⟩:=h.2 0 .start
  have:∀ (n:Nat) (o:List Nat),o.length ≤ n → ¬ Us (pd L1).eps [0] o:=fun n => by
    induction n with
    | zero => intro o hl hu;cases hu with | cons h => simp at hl
    | succ n ih =>
      intro o hl hu
      cases hu with
      | @cons _ _ o' h =>
        exact ih o' (by simpa using hl) h
  exact this _ o (Nat.le_refl _) h1
def S4:MS:=⟨none,[1,-1],true,[1,2],0,4⟩
theorem rn4:Rn L4 [98,97] 1 (some 0) (List.replicate 2 (-1)) (S00 2) S4:=by
  refine .step (b:=true) (s1:=⟨some 2,[1,-1],false,[],0,2⟩) (.cap rfl (.rune rfl (by decide) (by decide))) ?_
  refine .step (b:=false) (s1:=⟨none,[-1,-1],true,[1,2],0,4⟩) (.cap rfl (.mtch rfl)) ?_
  exact .done
theorem pi1 {w:World} {g:Nat} (h:w.heap[g]? = some (.cells #[.int .i64 7,.int .i64 0,.int .i64 0,.int .i64 0,.slice none 0 0] 43 (0,0))):PI w w.heap.size (some ⟨g,0,none⟩) 1 L1:=by
  refine ⟨rfl,fun _ => ⟨g,0,fun _ => ⟨7,0,0,0,none,0,0⟩,rfl,(Array.getElem?_eq_some_iff.1 h).1,fun i hi => ?_⟩⟩
  have:i = 0:=by simpa using hi
  subst this
  exact ⟨⟨Joins.cell_of_block h 0,Joins.cell_of_block h 1,Joins.cell_of_block h 2,Joins.cell_of_block h 3,Joins.cell_of_block h 4⟩,rfl,rfl,rfl,rfl,rfl,by show 0 * 16 ≤ _;omega,⟨none,0,rfl,.inl rfl⟩⟩
theorem awake_run {w2:World} {g:Nat} (hp:PI w2 w2.heap.size (some ⟨g,0,none⟩) 4 L4):Calls Tryz.prog 15 #[pv (some ⟨g,0,none⟩) 4 4 0 2,.slice (some ⟨w2.heap.size,0,none⟩) 2 2,.int .i64 1] (w2.alloc (.cells #[.int .i64 98,.int .i64 97] 3)) fun e w' => ∃ q,e = .returned (.tuple #[.agg #[.bool true,.slice (some ⟨q,0,none⟩) 2 2,.int .i64 0,.int .i64 4],.int .i64 0]) ∧ w'.cell? ⟨q,0,none⟩ = some (.int .i64 1) ∧ w'.cell? ⟨q,1,none⟩ = some (.int .i64 2) ∧ q < w'.heap.size ∧ Below w2.heap.size w2 w':=by
  have hb:=Joins.below_alloc1 w2 (.cells #[.int .i64 98,.int .i64 97] 3)
  have hn:(w2.alloc (.cells #[.int .i64 98,.int .i64 97] 3)).heap[w2.heap.size]? = some (.cells #[.int .i64 98,.int .i64 97] 3 (0,0)):=heap_alloc_new w2 _
  have hT:TxAt (w2.alloc (.cells #[.int .i64 98,.int .i64 97] 3)).heap.size (w2.alloc (.cells #[.int .i64 98,.int .i64 97] 3)) (some ⟨w2.heap.size,0,none⟩) 2 [98,97]:=⟨rfl,by omega,.inr ⟨w2.heap.size,0,rfl,(Array.getElem?_eq_some_iff.1 hn).1,fun k hk => by
    match k,hk with
    | 0,_ => exact Joins.cell_of_block hn 0
    | 1,_ => exact Joins.cell_of_block hn 1⟩⟩
  have hr:=run15_found (c:=4) (tc:=2) (K:=2) (a:=1) (s:=0) (k:=2) (hp.kept hb hb.size) hT (by omega) one4 (by omega) rfl rn4 (by decide)
  refine hr.mono ?_
  rintro e w' ⟨vf,rfl,h1,h2,-⟩
  obtain ⟨q,rfl,h3⟩:=h2 rfl
  refine ⟨q,rfl,?_,?_,(h3.lt q rfl).2,hb.trans (Joins.below_le h1 hb.size)⟩
  · exact h3.cellAt 0 (by omega)
  · exact h3.cellAt 1 (by omega)
set_option maxRecDepth 100000 in
set_option maxHeartbeats 8000000 in
theorem awake6 (w:World):Calls Tryz.prog 6 #[] w fun e w' => e = .returned (.bool true) ∧ Below w.heap.size w w':=by
  have HL:=fun W => sample18 W
  have HI:=fun (W:World) (g:Nat) (hp:PI W W.heap.size (some ⟨g,0,none⟩) 4 L4) => (is9 (c:=4) (s:=0) (k:=2) hp).mono (fun e w' h => by
    obtain ⟨b,h1,h2,h3⟩:=h
    have:b = true:=h3.2 one4
    subst this
    exact (⟨h1,h2⟩:e = .returned (.bool true) ∧ Below W.heap.size W w'))
  have HN:=fun (W:World) (g:Nat) (hp:PI W W.heap.size (some ⟨g,0,none⟩) 1 L1) => (is9 (c:=1) (s:=0) (k:=2) hp).mono (fun e w' h => by
    obtain ⟨b,h1,h2,h3⟩:=h
    have:b = false:=by
      cases b
      · rfl
      · exact absurd (h3.1 rfl) not1
    subst this
    exact (⟨h1,h2⟩:e = .returned (.bool false) ∧ Below W.heap.size W w'))
  go_enter Tryz.func6,Tryz.ntmps6
  go_upto_region 2 with (first
    | (go_at_call 18;(with_reducible refine (HL _).mono ?_);rintro e w2 ⟨g,rfl,hp,hb⟩;have HB:=hid hb;have D9:=HI _ _ hp;clear hp hb)
    | (go_at_call 9;(with_reducible refine D9.mono ?_);rintro e w3 ⟨rfl,hb⟩;have HB3:=hid (HB.out.trans (Joins.below_le hb HB.out.size));clear hb D9))
  have DN:=HN _ _ (pi1 (heap_alloc_new w3 (.cells #[.int .i64 7,.int .i64 0,.int .i64 0,.int .i64 0,.slice none 0 0] 43)))
  have hB4:Below w.heap.size w (w3.alloc (.cells #[.int .i64 7,.int .i64 0,.int .i64 0,.int .i64 0,.slice none 0 0] 43)):=HB3.out.alloc HB3.out.size _
  have HB4:=hid hB4
  clear hB4 HN HI
  go_upto_region 3 with (go_at_call 9;(with_reducible refine DN.mono ?_);rintro e w5 ⟨rfl,hb⟩;have HB5:=hid (HB4.out.trans (Joins.below_le hb HB4.out.size));clear hb DN)
  go_wp2_with (first
    | (go_at_call 18;(with_reducible refine (HL _).mono ?_);rintro e w6 ⟨g2,rfl,hp,hb⟩;have HB6:=hid (HB5.out.trans (Joins.below_le hb HB5.out.size));have HR:=awake_run hp;clear hp hb HL)
    | (go_at_call 15;(with_reducible refine HR.mono ?_);rintro e w7 ⟨q,rfl,q0,q1,hq,hb7⟩;have HB7:=hid hb7;clear hb7 HR)
    | go_in)
  all_goals go_ret
  all_goals refine ⟨rfl,HB6.out.trans (Joins.below_le ?_ HB6.out.size)⟩
  all_goals exact HB7.out.trans (Joins.below_le (Joins.below_alloc1 w7 _) HB7.out.size)
end Go.Proofs.YtjdbnoccdefnaaaGreat
