/- HELPERS: texts of ours put together. -/
import Derived.Test.YtjdbnoccdefnaaaGreatK08
import Derived.Test.YtjdbnoccdefnaaaGreatK05
import Derived.Test.YtjdbnoccdefnaaaGreatK06
import Derived.WalkKit
import Derived.BigQuiet
import Derived.WalkSmall
import Derived.Deep.QuietTactic
import Derived.Deep.RegionWith
import Derived.Test.YtjdbnoccdefnaaaGreatK01
import Derived.Laws.BitsLemmas
namespace Go.Proofs.YtjdbnoccdefnaaaGreat
open Go.RowKit
set_option linter.unusedVariables false
set_option linter.unusedSimpArgs false
def In.eps (I:In):List Nat:=if I.op = 2 then [I.x.toNat,I.y.toNat] else if I.op = 3 ∨ I.op = 4 ∨ I.op = 7 then [I.x.toNat] else []
def at0 (l:List In) (i:Nat):In:=l.getD i ⟨6,0,0,0,[]⟩
def apartR (A B:List (Int × Int)):Prop:=∀ a ∈ A,∀ b ∈ B,¬ (a.1 ≤ b.2 ∧ b.1 ≤ a.2)
def pd (l:List In):PD where
  eps i:=(at0 l i).eps
  rd i:=decide ((at0 l i).op = 1)
  mt i:=decide ((at0 l i).op = 5)
  ap i j:=apartR (at0 l i).R (at0 l j).R
  sym h a ha b hb:=fun e => h b hb a ha ⟨e.2,e.1⟩
def chI (l:List In) (i:Nat):Prop:=(at0 l i).op = 3 ∨ (at0 l i).op = 4 ∨ (at0 l i).op = 7
theorem at0_lt {l:List In} {i:Nat} (h:i < l.length):at0 l i = l[i]:=by simp [at0,List.getD_eq_getElem?_getD,List.getElem?_eq_getElem h]
theorem chI_eps {l:List In} {i:Nat} (h:chI l i):(pd l).eps i = [(at0 l i).x.toNat]:=by
  show (at0 l i).eps = _
  unfold In.eps
  unfold chI at h
  rw [if_neg (by omega),if_pos h]
theorem eps_lt {l:List In} {k:Int} (hF:∀ I ∈ l,Fit (l.length:Int) k I):∀ i,i < l.length → ∀ j ∈ (pd l).eps i,j < l.length:=by
  intro i hi j hj
  have hf:=hF _ (List.getElem_mem hi)
  change j ∈ (at0 l i).eps at hj
  rw [at0_lt hi] at hj
  obtain ⟨I,hI⟩:∃ I,I = l[i]:=⟨_,rfl⟩
  rw [← hI] at hf hj
  cases hf <;> simp [In.eps] at hj <;> omega
theorem follow_ok {w:World} {sb o n c:Nat} {ad:Option Addr} {l:List In} {k:Int} (hP:PI w w.heap.size ad n l) (hF:∀ I ∈ l,Fit (l.length:Int) k I) (hc:w.cell? ⟨sb,o,none⟩ = some (.slice ad n c)) (hn:n ≤ 20000) :
    ∀ (m:Nat) {i:Nat} {q:List Nat},q.length ≤ m → Us (pd l).eps [i] q → i < n → ∃ f,f < n ∧ Fo (pd l).eps (chI l) i f:=by
  intro m i q hm hu hi
  obtain ⟨f,hf⟩:=Fo.ex (ch:=chI l) (fun i h => ⟨_,chI_eps h⟩) m hm hu
  refine ⟨f,?_,hf⟩
  obtain ⟨c',q',rfl,h2,_,_⟩:=hf.us hu
  have h1:=hu.lt (N:=n) (by rw [hP.len];exact eps_lt hF) (fun j hj => by simp at hj;omega)
  exact h1 f (by have:=h2.mem f (by simp);simp [this])
set_option maxRecDepth 100000 in
set_option maxHeartbeats 4000000 in
theorem follow112 {w:World} {sb o n c:Nat} {ad:Option Addr} {l:List In} {k:Int} {i f:Nat} (hP:PI w w.heap.size ad n l) (hF:∀ I ∈ l,Fit (l.length:Int) k I) (hc:w.cell? ⟨sb,o,none⟩ = some (.slice ad n c)) (hn:n ≤ 20000) (hi:i < n) (hf:Fo (pd l).eps (chI l) i f) {q:List Nat} (hu:Us (pd l).eps [i] q) :
    Calls Tryz.prog 112 #[.pointer (some ⟨sb,o,none⟩),.int .i64 (i:Int)] w fun e w' => e = .returned (.int .i64 (f:Int)) ∧ ∃ m,w' = w.drewN m:=by
  have HP:=hid hP
  have HF:=hid hF
  have HL:=hid hP.len
  have HFo:=hid hf
  have HU:=hid hu
  clear hP hF hf hu
  go_enter Tryz.func112,Tryz.ntmps112
  go_wp2_with fail
  go_loopw [1] (fun y wq => ∃ (j:Nat),y = .int .i64 (j:Int) ∧ j < n ∧ Hid (Fo (pd l).eps (chI l) j f) ∧ Hid (Us (pd l).eps [j] ((pd l).clo j)) ∧ Hid (∃ m,wq = w.drewN m)) (fun y _ => ((pd l).clo (intOf y).toNat).length)
  case atStart => exact ⟨i,rfl,hi,HFo.out,by rw [PD.clo_eq HU.out];exact HU.out,⟨0,rfl⟩⟩
  case round =>
    clear HFo HU
    obtain ⟨j,rfl,hj,HFo,HU,HD⟩:=hrel
    obtain ⟨m,rfl⟩:=HD.out
    have hlt:j < l.length:=by have:=HL.out;omega
    obtain ⟨g,of,ND,rfl,hg,hcs⟩:=HP.out.mem (by omega)
    obtain ⟨m0,m1,m2,m3,m4⟩:=(hcs j hlt).1
    have hIM:=(hcs j hlt).2
    have hat:=at0_lt hlt
    have hfit:=HF.out _ (List.getElem_mem hlt)
    have e0:(ND j).op = (at0 l j).op:=by rw [hat];exact hIM.op
    have e1:(ND j).x = (at0 l j).x:=by rw [hat];exact hIM.x
    rw [e0] at m0
    rw [e1] at m1
    have hx0:chI l j → ∃ x:Nat,(at0 l j).x = (x:Int) ∧ x < n:=fun h => by
      have h1:=chI_eps h
      have h2:=eps_lt HF.out j hlt (at0 l j).x.toNat (by rw [h1];simp)
      refine ⟨(at0 l j).x.toNat,?_,by have:=HL.out;omega⟩
      unfold chI at h
      rw [hat] at h ⊢
      obtain ⟨I,hI⟩:∃ I,I = l[j]:=⟨_,rfl⟩
      rw [← hI] at hfit h ⊢
      cases hfit <;> simp at h ⊢ <;> omega
    obtain ⟨op,hop⟩:∃ op,op = (at0 l j).op:=⟨_,rfl⟩
    rw [← hop] at m0
    have hch:chI l j ↔ (op = 3 ∨ op = 4 ∨ op = 7):=by rw [hop];rfl
    have HX:=hid hx0
    have HCH:=hid hch
    have HM1:=hid m1
    clear hx0 hch hfit hcs e0 e1 hat hop hIM m1 m2 m3 m4
    have step:Hid (chI l j → ∃ x:Nat,(at0 l j).x = (x:Int) ∧ x < n ∧ Fo (pd l).eps (chI l) x f ∧ Us (pd l).eps [x] ((pd l).clo x) ∧ ((pd l).clo x).length < ((pd l).clo j).length):=fun h => by
      obtain ⟨x,hx,hxn⟩:=HX.out h
      have h1:=chI_eps h
      rw [hx] at h1
      simp only [Int.toNat_natCast] at h1
      have hu:=HU.out
      obtain ⟨o1,h2,h3⟩:=hu.one
      rw [h1] at h2
      refine ⟨x,hx,hxn,?_,by rw [PD.clo_eq h2];exact h2,by rw [h3,PD.clo_eq h2];simp⟩
      cases HFo.out with
      | stop h' => exact absurd h h'
      | go _ h4 h5 => rw [h1] at h4;cases h4;exact h5
    by_cases h3:op = 3 ∨ op = 4 ∨ op = 7
    · obtain ⟨x,hx,hxn,hf',hu',hl'⟩:=step.out (HCH.out.2 h3)
      have m1:=HM1.out
      rw [hx] at m1
      have HF':=hid hf'
      have HU':=hid hu'
      have HL':=hid hl'
      clear hf' hu' hl' hx step
      rcases h3 with rfl | rfl | rfl
      all_goals
        go_wp2
        exact ⟨⟨x,rfl,hxn,HF'.out,HU'.out,m,rfl⟩,by simpa [intOf] using HL'.out⟩
    · have hfj:f = j:=by
        cases HFo.out with
        | stop _ => rfl
        | go h' _ _ => exact absurd (HCH.out.1 h') h3
      subst hfj
      have b3:(op == 3) = false:=by simpa using fun e => h3 (.inl e)
      have b4:(op == 4) = false:=by simpa using fun e => h3 (.inr (.inl e))
      have b7:(op == 7) = false:=by simpa using fun e => h3 (.inr (.inr e))
      go_wp2
      all_goals go_ret
      all_goals exact ⟨rfl,_,rfl⟩
theorem u64_in (n:Nat) (h:n < 2 ^ 64):IntKind.u64.wrap (n:Int) = (n:Int):=by
  simp [IntKind.wrap,IntKind.bits,IntKind.signed]
  omega
theorem u64_in' (n:Int) (h0:0 ≤ n) (h:n < 2 ^ 64):IntKind.u64.wrap n = n:=by
  simp [IntKind.wrap,IntKind.bits,IntKind.signed]
  omega
theorem pow_lt (i:Nat):2 ^ (i % 64) < 2 ^ 64:=Nat.pow_lt_pow_right (by decide) (Nat.mod_lt _ (by decide))
set_option maxHeartbeats 1000000 in
theorem mark42 (i:Nat) (w:World) (hi:i < 1048576):Calls Tryz.prog 67 #[.int .i64 (i:Int)] w fun e w' => e = .returned (.int .u64 ((2 ^ (i % 64):Nat):Int)) ∧ w' = w:=by
  go_enter Tryz.func67,Tryz.ntmps67
  go_wp2
  go_ret
  have e:IntKind.u64.wrap (2 ^ (i % 64)) = ((2 ^ (i % 64):Nat):Int):=by
    have:=u64_in (2 ^ (i % 64)) (pow_lt i)
    simpa using this
  exact ⟨by rw [← e];rfl,rfl⟩
abbrev U64 (M:List Nat):List Value:=M.map (fun (x:Nat) => Value.int .u64 (x:Int))
theorem getD_in (M:List Nat) {j:Nat} (hj:j < M.length):M.getD j 0 = M[j]:=by simp [List.getD,hj]
theorem and_pow (a k:Nat):a &&& 2 ^ k = if a.testBit k then 2 ^ k else 0:=by
  apply Nat.eq_of_testBit_eq
  intro j
  rw [Nat.testBit_and,Nat.testBit_two_pow]
  by_cases hj:k = j
  · subst hj
    by_cases h:a.testBit k = true
    · simp [h,Nat.testBit_two_pow]
    · simp [h]
  · by_cases h:a.testBit k = true
    · simp [h,Nat.testBit_two_pow,hj]
    · simp [h,hj]
structure Marks (n:Nat) (M:List Nat) (l:List Int):Prop where
  len:M.length = (n + 63) / 64
  fits:∀ x ∈ M,x < 2 ^ 64
  bit:∀ i,i < n → (M.getD (i / 64) 0).testBit (i % 64) = decide ((i:Int) ∈ l)
  rng:∀ x ∈ l,0 ≤ x ∧ x < n
theorem Marks.get {n:Nat} {M:List Nat} {l:List Int} (h:Marks n M l) (j:Nat):M.getD j 0 < 2 ^ 64:=by
  by_cases hj:j < M.length
  · rw [getD_in M hj]
    exact h.fits _ (List.getElem_mem hj)
  · rw [show M.getD j 0 = 0 by simp [List.getD,List.getElem?_eq_none (Nat.le_of_not_lt hj)]]
    decide
theorem Marks.has {n i:Nat} {M:List Nat} {l:List Int} (h:Marks n M l) (hi:i < n) :
    (bits .and .u64 ((M.getD (i / 64) 0:Nat):Int) ((2 ^ (i % 64):Nat):Int) != 0) = decide ((i:Int) ∈ l):=by
  rw [(bits_nat .u64 64 (by decide) u64_in' _ _ (h.get _) (pow_lt i)).1,← h.bit i hi]
  rw [and_pow]
  have hp:0 < 2 ^ (i % 64):=Nat.pow_pos (by decide)
  by_cases hb:(M.getD (i / 64) 0).testBit (i % 64) = true
  · rw [if_pos hb,hb]
    have:((2 ^ (i % 64):Nat):Int) ≠ 0:=by omega
    exact bne_iff_ne.2 this
  · rw [if_neg hb]
    simp only [Bool.not_eq_true] at hb
    rw [hb]
    rfl
theorem Marks.add {n i:Nat} {M:List Nat} {l:List Int} (h:Marks n M l) (hi:i < n) :
    Marks n (M.set (i / 64) (M.getD (i / 64) 0 ||| 2 ^ (i % 64))) (l ++ [(i:Int)]):=by
  have hq:i / 64 < M.length:=by rw [h.len];omega
  refine ⟨by rw [List.length_set];exact h.len,fun x hx => ?_,fun k hk => ?_,fun x hx => ?_⟩
  · rcases List.mem_or_eq_of_mem_set hx with hx | rfl
    · exact h.fits x hx
    · exact Nat.or_lt_two_pow (h.get _) (pow_lt i)
  · have e:=h.bit k hk
    by_cases hkq:k / 64 = i / 64
    · rw [hkq,getD_in _ (by rw [List.length_set];exact hq),List.getElem_set_self,Nat.testBit_or,← hkq,e,Nat.testBit_two_pow]
      rw [Bool.eq_iff_iff]
      simp
      constructor
      · rintro (h | h)
        · exact .inl h
        · right;omega
      · rintro (h | h)
        · exact .inl h
        · right;omega
    · have hne:(k:Int) ≠ (i:Int):=fun h => hkq (by rw [show k = i by omega])
      rw [show (M.set (i / 64) (M.getD (i / 64) 0 ||| 2 ^ (i % 64))).getD (k / 64) 0 = M.getD (k / 64) 0 by
        simp [List.getD,List.getElem?_set,show ¬ i / 64 = k / 64 by omega],e]
      simp [hne]
  · rcases List.mem_append.1 hx with hx | hx
    · exact h.rng x hx
    · simp at hx;omega
theorem Marks.none (n:Nat):Marks n (List.replicate ((n + 63) / 64) 0) []:=by
  refine ⟨by simp,fun x hx => ?_,fun i hi => ?_,fun x hx => by cases hx⟩
  · rw [List.eq_of_mem_replicate hx];decide
  · have:(List.replicate ((n + 63) / 64) 0).getD (i / 64) 0 = 0:=by
      simp only [List.getD,List.getElem?_replicate]
      split <;> rfl
    rw [this]
    simp
theorem info68:(Tryz.prog.info? 103).map (fun i => (i.zero,i.size,i.bytes)) = some (some (.int .u64 0),1,8):=by kernel_rfl
def SetS (N:Nat) (w:World) (g:Nat) (F:List Nat) (n:Nat) (l:List Int):Prop:=
  ∃ b c ov M,w.heap[g]? = some (.cells #[.int .i64 (n:Int),.slice (some ⟨b,0,none⟩) ((n + 63) / 64) c,ov] 92 (0,0)) ∧ N ≤ g ∧ n ≤ 1048576 ∧ w.ownsRow N 103 1 (.slice (some ⟨b,0,none⟩) ((n + 63) / 64) c) ((n + 63) / 64) (U64 M) ∧ w.ownsRow N 3 1 ov l.length (I64 l) ∧ Marks n M l ∧ l.Nodup ∧ F = g :: b :: ov.ownBlock.toList
theorem SetS.low {N:Nat} {w:World} {g:Nat} {F:List Nat} {n:Nat} {l:List Int} (h:SetS N w g F n l):∀ k ∈ F,N ≤ k ∧ k < w.heap.size:=by
  obtain ⟨b,c,ov,M,h1,h2,_,h3,h4,_,_,rfl⟩:=h
  intro k hk
  simp only [List.mem_cons,Option.mem_toList] at hk
  rcases hk with rfl | rfl | hk
  · exact ⟨h2,(Array.getElem?_eq_some_iff.1 h1).1⟩
  · exact h3.lt k rfl
  · exact h4.lt k hk
theorem SetS.kept {N:Nat} {w w':World} {g:Nat} {F:List Nat} {n:Nat} {l:List Int} (h:SetS N w g F n l) (hk:∀ k ∈ F,w'.heap[k]? = w.heap[k]?):SetS N w' g F n l:=by
  obtain ⟨b,c,ov,M,h1,h2,hn,h3,h4,h5,h6,rfl⟩:=h
  exact ⟨b,c,ov,M,(hk g (by simp)).trans h1,h2,hn,row_kept h3 (fun k hk' => by simp [Value.ownBlock] at hk';subst hk';exact hk b (by simp)),row_kept h4 (fun k hk' => hk k (by simp [hk'])),h5,h6,rfl⟩
set_option maxHeartbeats 1000000 in
theorem isFor41 (N g:Nat) (F:List Nat) (n:Nat) (l:List Int) (i:Int) (w:World) (hS:Hid (SetS N w g F n l)) :
    Calls Tryz.prog 66 #[.pointer (some ⟨g,0,none⟩),.int .i64 i] w fun e w' => e = .returned (.bool (decide (0 ≤ i ∧ i < n))) ∧ w' = w:=by
  obtain ⟨b,c,ov,M,hg,_⟩:=hS.out
  have c0:=(Joins.cell_of_block hg 0)
  simp at c0
  clear hg
  by_cases h0:0 ≤ i
  · go_enter Tryz.func66,Tryz.ntmps66
    go_wp2
    go_ret
    exact ⟨ret_bool (by rw [Bool.eq_iff_iff];simp [h0]),rfl⟩
  · have h1:i < 0:=by omega
    go_enter Tryz.func66,Tryz.ntmps66
    go_wp2
    go_ret
    exact ⟨ret_bool (by rw [Bool.eq_iff_iff];simp;omega),rfl⟩
end Go.Proofs.YtjdbnoccdefnaaaGreat
