/- HELPERS: texts of ours put together. -/
import Derived.Test.YtjdbnoccdefnaaaGreatK17
import Derived.Shelf.SlSortCmp.WholeK
import Derived.Shelf.SlicesG.Cmp
import Derived.Shelf.SlGeneric
import Derived.Ground.SlsfProg
import Derived.Ground.SlgcProg
import Derived.Test.YtjdbnoccdefnaaaGreatProg
import Derived.WalkKit
import Derived.ProofKit
import Derived.BigQuiet
import Derived.Deep.QuietTactic
import Derived.Laws.BitsLemmas
import Derived.WalkSmall
import Derived.Lib.SmallJoins
namespace Go.Proofs.YtjdbnoccdefnaaaGreat
open Go.RowKit
set_option linter.unusedVariables false
set_option linter.unusedSimpArgs false
def cnt:List (Int × Int) → Int
  | [] => 0
  | r :: R => (r.2 - r.1 + 1) + cnt R
theorem cnt_app (A B:List (Int × Int)):cnt (A ++ B) = cnt A + cnt B:=by
  induction A with
  | nil => simp [cnt]
  | cons a A ih => simp [cnt,ih];omega
theorem cnt_take {R:List (Int × Int)} {i:Nat} (h:i < R.length):cnt (R.take (i + 1)) = cnt (R.take i) + (R[i].2 - R[i].1 + 1):=by
  rw [List.take_succ_eq_append_getElem h,cnt_app];simp [cnt]
theorem cnt_bound:∀ (R:List (Int × Int)),(∀ r ∈ R,0 ≤ r.1 ∧ r.1 ≤ 1114111 ∧ 0 ≤ r.2 ∧ r.2 ≤ 1114111) → -(1114112 * (R.length:Int)) ≤ cnt R ∧ cnt R ≤ 1114112 * (R.length:Int)
  | [],_ => by simp [cnt]
  | r :: R,h => by
    have h1:=cnt_bound R (fun x hx => h x (by simp [hx]))
    have h2:=h r (by simp)
    simp [cnt]
    omega
set_option maxRecDepth 100000 in
set_option maxHeartbeats 4000000 in
theorem runesIn113 {w:World} {ad:Option Addr} {n c:Nat} {R:List (Int × Int)} (hR:RowAt w.heap.size w (.slice ad n c) R) (hn:n = R.length) (h5:n ≤ 5000) (hr:∀ r ∈ R,0 ≤ r.1 ∧ r.1 ≤ 1114111 ∧ 0 ≤ r.2 ∧ r.2 ≤ 1114111) :
    Calls Tryz.prog 113 #[.slice ad n c] w fun e w' => e = .returned (.int .i64 (cnt R)) ∧ Below w.heap.size w w':=by
  have HR:=hid hR
  have HN:=hid hn
  have HRR:=hid hr
  clear hR hn hr
  go_enter Tryz.func113,Tryz.ntmps113
  go_wp2_with fail
  go_loopw [3,8] (fun x y wq => ∃ i:Nat,y = .int .i64 (i:Int) ∧ i ≤ n ∧ x = .int .i64 (cnt (R.take i)) ∧ Hid (Below w.heap.size w wq)) (fun _ y _ => n - (intOf y).toNat)
  case atStart => exact ⟨0,rfl,by omega,rfl,Below.refl _ _⟩
  case round =>
    obtain ⟨i,rfl,hi,rfl,HB⟩:=hrel
    by_cases hil:i < n
    · have b1:decide ((i:Int) < (n:Int)) = true:=by simp;omega
      have b2:(i:Int) < (n:Int):=by omega
      have ad1:IntKind.i64.wrap ((i:Int) + 1) = (i:Int) + 1:=by simp [IntKind.wrap,IntKind.bits,IntKind.signed];omega
      have hlt:i < R.length:=by have:=HN.out;omega
      obtain ⟨a',cap',he,h1⟩:=HR.out
      simp only [Value.slice.injEq] at he
      obtain ⟨rfl,hnl,rfl⟩:=he
      rcases h1 with h1 | ⟨b,off,rfl,hb,k0,k1⟩
      · omega
      have q0:=k0 i hlt
      have q1:=k1 i hlt
      have hg:R.getD i (0,0) = R[i]:=by simp [List.getD_eq_getElem?_getD,List.getElem?_eq_getElem hlt]
      rw [hg] at q0 q1
      have p0:=(HB.out.cell (p:=⟨b,off + i * 2,none⟩) hb).trans q0
      have p1:=(HB.out.cell (p:=⟨b,off + i * 2 + 1,none⟩) hb).trans q1
      have hc:=cnt_take hlt
      have hbd:=cnt_bound (R.take i) (fun x hx => HRR.out x (List.mem_of_mem_take hx))
      have hbr:=HRR.out _ (List.getElem_mem hlt)
      have hlt5:(R.take i).length ≤ 5000:=by rw [List.length_take];omega
      obtain ⟨lo,hlo⟩:∃ lo,R[i].1 = lo:=⟨_,rfl⟩
      obtain ⟨hh,hhi⟩:∃ hh,R[i].2 = hh:=⟨_,rfl⟩
      obtain ⟨cu,hcu⟩:∃ cu,cnt (R.take i) = cu:=⟨_,rfl⟩
      rw [hlo] at p0 hc hbr
      rw [hhi] at p1 hc hbr
      rw [hcu] at hc hbd ⊢
      have e1:IntKind.i64.wrap (hh - lo) = hh - lo:=by simp [IntKind.wrap,IntKind.bits,IntKind.signed];omega
      have e2:IntKind.i64.wrap (hh - lo + 1) = hh - lo + 1:=by simp [IntKind.wrap,IntKind.bits,IntKind.signed];omega
      have e3:IntKind.i64.wrap (cu + (hh - lo + 1)) = cu + (hh - lo + 1):=by simp [IntKind.wrap,IntKind.bits,IntKind.signed];omega
      have HCC:=hid hc
      clear hlo hhi hcu hc hbd hbr q0 q1 k0 k1 hg
      go_wp2
      exact ⟨⟨i + 1,by push_cast;rfl,by omega,by rw [HCC.out],HB.out.alloc HB.out.size _⟩,by simp [intOf];omega⟩
    · have b1:decide ((i:Int) < (n:Int)) = false:=by simp;omega
      have hin:i = n:=by omega
      subst hin
      go_wp2
      all_goals go_ret
      all_goals exact ⟨by rw [List.take_of_length_le (by rw [HN.out];exact Nat.le_refl _)];rfl,HB.out⟩
def Dj (a b:Int × Int):Prop:=¬ (a.1 ≤ b.2 ∧ b.1 ≤ a.2)
theorem Dj.symm {a b:Int × Int} (h:Dj a b):Dj b a:=fun e => h ⟨e.2,e.1⟩
theorem dj_iff {a b:Int × Int} (ha:a.1 ≤ a.2) (hb:b.1 ≤ b.2):Dj a b ↔ a.2 < b.1 ∨ b.2 < a.1:=by
  unfold Dj
  constructor
  · intro h
    by_cases h1:a.2 < b.1
    · exact .inl h1
    · exact .inr (by by_cases h2:b.2 < a.1;exact h2;exact absurd ⟨by omega,by omega⟩ h)
  · rintro (h | h) ⟨h1,h2⟩ <;> omega
def insR (a:Int × Int):List (Int × Int) → List (Int × Int)
  | [] => [a]
  | b :: l => if a.1 ≤ b.1 then a :: b :: l else b :: insR a l
theorem insR_perm (a:Int × Int):∀ l,(insR a l).Perm (a :: l)
  | [] => .refl _
  | b :: l => by
    unfold insR
    split
    · exact .refl _
    · exact ((insR_perm a l).cons b).trans (List.Perm.swap a b l)
theorem insR_mem {a x:Int × Int} {l:List (Int × Int)} (h:x ∈ insR a l):x = a ∨ x ∈ l:=by
  have:=(insR_perm a l).mem_iff.1 h
  simpa using this
theorem insR_sorted (a:Int × Int):∀ l:List (Int × Int),l.Pairwise (fun x y => x.1 ≤ y.1) → (insR a l).Pairwise (fun x y => x.1 ≤ y.1)
  | [],_ => by simp [insR]
  | b :: l,h => by
    unfold insR
    obtain ⟨h1,h2⟩:=List.pairwise_cons.1 h
    split
    · rename_i hle
      refine List.pairwise_cons.2 ⟨fun x hx => ?_,h⟩
      rcases List.mem_cons.1 hx with rfl | hx
      · exact hle
      · have:=h1 x hx;omega
    · refine List.pairwise_cons.2 ⟨fun x hx => ?_,insR_sorted a l h2⟩
      rcases insR_mem hx with rfl | hx
      · omega
      · exact h1 x hx
theorem ex_sorted:∀ l:List (Int × Int),∃ D:List (Int × Int),D.Perm l ∧ D.Pairwise (fun x y => x.1 ≤ y.1)
  | [] => ⟨[],.refl _,.nil⟩
  | a :: l => by
    obtain ⟨D,h1,h2⟩:=ex_sorted l
    exact ⟨insR a D,(insR_perm a D).trans (h1.cons a),insR_sorted a D h2⟩
theorem cnt_perm {A B:List (Int × Int)} (h:A.Perm B):cnt A = cnt B:=by
  induction h with
  | nil => rfl
  | cons x _ ih => simp [cnt,ih]
  | swap x y l => simp [cnt];omega
  | trans _ _ ih1 ih2 => rw [ih1,ih2]
abbrev Okr (r:Int × Int):Prop:=0 ≤ r.1 ∧ r.1 ≤ r.2 ∧ r.2 ≤ 1114111
theorem chain_of {D:List (Int × Int)} (hs:D.Pairwise (fun x y => x.1 ≤ y.1)) (hd:D.Pairwise Dj) (ho:∀ r ∈ D,Okr r):D.Pairwise (fun x y => x.2 < y.1):=by
  induction D with
  | nil => exact .nil
  | cons a D ih =>
    obtain ⟨h1,h2⟩:=List.pairwise_cons.1 hs
    obtain ⟨h3,h4⟩:=List.pairwise_cons.1 hd
    refine List.pairwise_cons.2 ⟨fun x hx => ?_,ih h2 h4 (fun r hr => ho r (by simp [hr]))⟩
    have ha:=ho a (by simp)
    have hx':=ho x (by simp [hx])
    have h5:=h1 x hx
    rcases (dj_iff ha.2.1 hx'.2.1).1 (h3 x hx) with h | h
    · exact h
    · omega
theorem chain_cnt:∀ (D:List (Int × Int)) (m:Int),D.Pairwise (fun x y => x.2 < y.1) → (∀ r ∈ D,Okr r ∧ m ≤ r.1) → m ≤ 1114112 → cnt D + m ≤ 1114112
  | [],m,_,_,hm => by simp [cnt];omega
  | r :: D,m,h,ho,hm => by
    obtain ⟨h1,h2⟩:=List.pairwise_cons.1 h
    have hr:=ho r (by simp)
    have:=chain_cnt D (r.2 + 1) h2 (fun x hx => ⟨(ho x (by simp [hx])).1,by have:=h1 x hx;omega⟩) (by omega)
    simp [cnt]
    omega
theorem cnt_apart {X:List (Int × Int)} (hd:X.Pairwise Dj) (ho:∀ r ∈ X,Okr r):cnt X ≤ 1114112:=by
  obtain ⟨D,h1,h2⟩:=ex_sorted X
  have h3:D.Pairwise Dj:=(h1.pairwise_iff Dj.symm).2 hd
  have h4:∀ r ∈ D,Okr r:=fun r hr => ho r (h1.mem_iff.1 hr)
  have:=chain_cnt D 0 (chain_of h2 h3 h4) (fun r hr => ⟨h4 r hr,(h4 r hr).1⟩) (by omega)
  rw [← cnt_perm h1];omega
theorem cnt_nonneg:∀ {X:List (Int × Int)},(∀ r ∈ X,Okr r) → 0 ≤ cnt X
  | [],_ => by simp [cnt]
  | r :: X,h => by
    have h1:=cnt_nonneg (X:=X) (fun x hx => h x (by simp [hx]))
    have h2:=h r (by simp)
    simp [cnt];omega
theorem chain_adj {D:List (Int × Int)} (hs:D.Pairwise (fun x y => x.1 ≤ y.1)) (ho:∀ r ∈ D,Okr r) (h:∀ i (hi:i + 1 < D.length),¬ D[i + 1].1 ≤ D[i].2):D.Pairwise Dj:=by
  induction D with
  | nil => exact .nil
  | cons a D ih =>
    obtain ⟨h1,h2⟩:=List.pairwise_cons.1 hs
    have hD:=ih h2 (fun r hr => ho r (by simp [hr])) (fun i hi => by have:=h (i + 1) (by simpa using hi);simpa using this)
    refine List.pairwise_cons.2 ⟨fun x hx => ?_,hD⟩
    cases D with
    | nil => cases hx
    | cons b D =>
      have h3:=h 0 (by simp)
      simp at h3
      have hb:=ho b (by simp)
      have ha:=ho a (by simp)
      have hx':=ho x (by simp [hx])
      refine (dj_iff ha.2.1 hx'.2.1).2 (.inl ?_)
      rcases List.mem_cons.1 hx with rfl | hx
      · omega
      · have:=(List.pairwise_cons.1 h2).1 x hx
        omega
theorem not_adj {D:List (Int × Int)} (hs:D.Pairwise (fun x y => x.1 ≤ y.1)) (ho:∀ r ∈ D,Okr r) {i:Nat} (hi:i + 1 < D.length) (h:D[i + 1].1 ≤ D[i].2):¬ D.Pairwise Dj:=by
  intro hd
  have h1:=List.pairwise_iff_getElem.1 hd i (i + 1) (by omega) hi (by omega)
  have h2:=List.pairwise_iff_getElem.1 hs i (i + 1) (by omega) hi (by omega)
  have h3:=ho _ (List.getElem_mem hi)
  exact h1 ⟨by omega,h⟩
theorem right_apart:∀ (R:List (Int × Int)) (m:Int),0 ≤ m → rightFrom m R = true → (∀ r ∈ R,Okr r ∧ m ≤ r.1) ∧ R.Pairwise Dj
  | [],m,_,_ => ⟨fun r h => (by cases h),.nil⟩
  | a :: R,m,hm,h => by
    simp only [rightFrom,Bool.and_eq_true] at h
    obtain ⟨h1,h2⟩:=h
    have hk:=h1
    simp [okG,dom] at hk
    obtain ⟨i1,i2⟩:=right_apart R (a.2 + 2) (by omega) h2
    refine ⟨fun r hr => ?_,List.pairwise_cons.2 ⟨fun r hr => ?_,i2⟩⟩
    · rcases List.mem_cons.1 hr with rfl | hr
      · exact ⟨⟨by omega,by omega,by omega⟩,by omega⟩
      · have:=i1 r hr
        exact ⟨this.1,by omega⟩
    · have:=i1 r hr
      exact fun e => by omega
theorem flat_apart {α:Type} (f:α → List (Int × Int)):∀ (L:List α),(∀ x ∈ L,(f x).Pairwise Dj) → ((L.flatMap f).Pairwise Dj ↔ L.Pairwise fun x y => apartR (f x) (f y))
  | [],_ => by simp
  | x :: L,h => by
    have ih:=flat_apart f L (fun y hy => h y (by simp [hy]))
    rw [List.flatMap_cons,List.pairwise_append,List.pairwise_cons,ih]
    constructor
    · rintro ⟨_,h2,h3⟩
      exact ⟨fun y hy a ha b hb => h3 a ha b (List.mem_flatMap.2 ⟨y,hy,hb⟩),h2⟩
    · rintro ⟨h1,h2⟩
      refine ⟨h x (by simp),h2,fun a ha b hb => ?_⟩
      obtain ⟨y,hy,hb⟩:=List.mem_flatMap.1 hb
      exact h1 y hy a ha b hb
end Go.Proofs.YtjdbnoccdefnaaaGreat
namespace Go.Proofs
open Go.Shelf
def Tryz.sortRng_ren:Go.Shelf.Ren:=⟨fun | 6 => 114 | 15 => 70 | 14 => 125 | 28 => 95 | 29 => 96 | 20 => 128 | 21 => 129 | 22 => 130 | 23 => 131 | 24 => 132 | 25 => 133 | 26 => 134 | 27 => 135 | 46 => 137 | 47 => 108 | 48 => 109 | 49 => 138 | 50 => 139 | 57 => 140 | n => n,fun | 22 => 41 | 24 => 50 | 25 => 151 | 3 => 3 | 39 => 96 | 0 => 0 | 53 => 113 | 55 => 103 | 4 => 4 | 46 => 124 | 45 => 123 | 50 => 118 | 5 => 5 | 9 => 9 | 66 => 142 | 70 => 146 | 76 => 153 | 77 => 154 | n => n,fun | n => n⟩
theorem Tryz.sortRng:Go.Proofs.SlLaysF0.n6 Tryz.prog Tryz.sortRng_ren:={
  mixed:=by kernel_rfl
  f6:=⟨Tryz.f114.name,by decide,Tryz.func114.trans (congrArg some (by kernel_rfl))⟩
  f14:=⟨Tryz.f125.name,by decide,Tryz.func125.trans (congrArg some (by kernel_rfl))⟩
  f15:=Tryz.func70.trans (congrArg some (by kernel_rfl))
  f20:=⟨Tryz.f128.name,by decide,Tryz.func128.trans (congrArg some (by kernel_rfl))⟩
  f21:=⟨Tryz.f129.name,by decide,Tryz.func129.trans (congrArg some (by kernel_rfl))⟩
  f22:=⟨Tryz.f130.name,by decide,Tryz.func130.trans (congrArg some (by kernel_rfl))⟩
  f23:=⟨Tryz.f131.name,by decide,Tryz.func131.trans (congrArg some (by kernel_rfl))⟩
  f24:=⟨Tryz.f132.name,by decide,Tryz.func132.trans (congrArg some (by kernel_rfl))⟩
  f25:=⟨Tryz.f133.name,by decide,Tryz.func133.trans (congrArg some (by kernel_rfl))⟩
  f26:=⟨Tryz.f134.name,by decide,Tryz.func134.trans (congrArg some (by kernel_rfl))⟩
  f27:=⟨Tryz.f135.name,by decide,Tryz.func135.trans (congrArg some (by kernel_rfl))⟩
  f28:=Tryz.func95.trans (congrArg some (by kernel_rfl))
  f29:=Tryz.func96.trans (congrArg some (by kernel_rfl))
  f46:=⟨Tryz.f137.name,by decide,Tryz.func137.trans (congrArg some (by kernel_rfl))⟩
  f47:=Tryz.func108.trans (congrArg some (by kernel_rfl))
  f48:=Tryz.func109.trans (congrArg some (by kernel_rfl))
  f49:=⟨Tryz.f138.name,by decide,Tryz.func138.trans (congrArg some (by kernel_rfl))⟩
  f50:=⟨Tryz.f139.name,by decide,Tryz.func139.trans (congrArg some (by kernel_rfl))⟩
  f57:=⟨Tryz.f140.name,by decide,Tryz.func140.trans (congrArg some (by kernel_rfl))⟩
  t0:=Tryz.underlying0
  a0:=Tryz.isAgg0
  z0:=Tryz.sizeOf0
  v0:=Tryz.zeroValue0
  t3:=Tryz.underlying3
  a3:=Tryz.isAgg3
  z3:=Tryz.sizeOf3
  v3:=Tryz.zeroValue3
  t4:=Tryz.underlying4
  a4:=Tryz.isAgg4
  z4:=Tryz.sizeOf4
  v4:=Tryz.zeroValue4
  t5:=Tryz.underlying5
  a5:=Tryz.isAgg5
  z5:=Tryz.sizeOf5
  v5:=Tryz.zeroValue5
  t9:=Tryz.underlying9
  a9:=Tryz.isAgg9
  z9:=Tryz.sizeOf9
  v9:=Tryz.zeroValue9
  t22:=Tryz.underlying41
  a22:=Tryz.isAgg41
  z22:=Tryz.sizeOf41
  v22:=Tryz.zeroValue41
  t25:=Tryz.underlying151
  a25:=Tryz.isAgg151
  z25:=Tryz.sizeOf151
  v25:=Tryz.zeroValue151
  t39:=Tryz.underlying96
  a39:=Tryz.isAgg96
  z39:=Tryz.sizeOf96
  v39:=Tryz.zeroValue96
  t45:=Tryz.underlying123
  a45:=Tryz.isAgg123
  z45:=Tryz.sizeOf123
  v45:=Tryz.zeroValue123
  t46:=Tryz.underlying124
  a46:=Tryz.isAgg124
  z46:=Tryz.sizeOf124
  v46:=Tryz.zeroValue124
  t50:=Tryz.underlying118
  a50:=Tryz.isAgg118
  z50:=Tryz.sizeOf118
  v50:=Tryz.zeroValue118
  t53:=Tryz.underlying113
  a53:=Tryz.isAgg113
  z53:=Tryz.sizeOf113
  v53:=Tryz.zeroValue113
  t55:=Tryz.underlying103
  a55:=Tryz.isAgg103
  z55:=Tryz.sizeOf103
  v55:=Tryz.zeroValue103
  t66:=Tryz.underlying142
  a66:=Tryz.isAgg142
  z66:=Tryz.sizeOf142
  v66:=Tryz.zeroValue142
  t70:=Tryz.underlying146
  a70:=Tryz.isAgg146
  z70:=Tryz.sizeOf146
  v70:=Tryz.zeroValue146
  t76:=Tryz.underlying153
  a76:=Tryz.isAgg153
  z76:=Tryz.sizeOf153
  v76:=Tryz.zeroValue153
  t77:=Tryz.underlying154
  a77:=Tryz.isAgg154
  z77:=Tryz.sizeOf154
  v77:=Tryz.zeroValue154 }
def Tryz.cmpInt_ren:Go.Shelf.Ren:=⟨fun | 5 => 83 | 7 => 104 | n => n,fun | 22 => 3 | 3 => 3 | 4 => 4 | n => n,fun | n => n⟩
theorem Tryz.cmpInt:Go.Proofs.SlLaysC2.n5 Tryz.prog Tryz.cmpInt_ren:={
  mixed:=by kernel_rfl
  f5:=⟨Tryz.f83.name,by decide,Tryz.func83.trans (congrArg some (by kernel_rfl))⟩
  f7:=⟨Tryz.f104.name,by decide,Tryz.func104.trans (congrArg some (by kernel_rfl))⟩
  t3:=Tryz.underlying3
  a3:=Tryz.isAgg3
  z3:=Tryz.sizeOf3
  v3:=Tryz.zeroValue3
  t4:=Tryz.underlying4
  a4:=Tryz.isAgg4
  z4:=Tryz.sizeOf4
  v4:=Tryz.zeroValue4
  t22:=Tryz.underlying3
  a22:=Tryz.isAgg3
  z22:=Tryz.sizeOf3
  v22:=Tryz.zeroValue3 }
end Go.Proofs
namespace Go.Proofs.YtjdbnoccdefnaaaGreat
open Go.Shelf Go.RowKit Go.Lib Go.Sort
set_option linter.unusedVariables false
set_option linter.unusedSimpArgs false
def encR (x:Int × Int):List Value:=[.int .i64 x.1,.int .i64 x.2]
def fl (L:List (Int × Int)):List Value:=L.flatMap encR
set_option maxHeartbeats 1000000 in
theorem closure58 (x y:Int × Int) (W:World):Calls Tryz.prog 115 #[.agg #[.int .i64 x.1,.int .i64 x.2],.agg #[.int .i64 y.1,.int .i64 y.2]] W fun e w' => e = .returned (.int .i64 (Lib.compareInt x.1 y.1)) ∧ ∃ q os',w' = grow (W.drewN q) os':=by
  have hcon:=fun W' => AnyG.cmp_Compare_int Tryz.cmpInt x.1 y.1 W'
  change ∀ W',Calls Tryz.prog 83 _ _ _ at hcon
  generalize Lib.compareInt x.1 y.1 = r at hcon ⊢
  go_enter Tryz.func115,Tryz.ntmps115
  go_wp2_with (go_at_call 83;refine (hcon _).mono ?_;rintro e w' ⟨rfl,rfl⟩)
  go_ret
  exact ⟨rfl,0,_,by rw [alloc_eq_grow,alloc_eq_grow,grow_grow];rfl⟩
theorem cmpLays58 (blk off size:Nat) (w:World):CmpLays Tryz.prog 115 #[] encR 2 (fun x y => Lib.compareInt x.1 y.1) blk off size w:=
  fun _ _ _ _ x y => closure58 x y _
theorem ltLo (x y:Int × Int):ltOf (fun x y:Int × Int => Lib.compareInt x.1 y.1) x y = decide (x.1 < y.1):=by
  unfold ltOf Lib.compareInt
  by_cases h1:x.1 < y.1
  · simp [h1]
  · by_cases h2:y.1 < x.1 <;> simp [h1,h2]
theorem swoLo:SWO (ltOf fun x y:Int × Int => Lib.compareInt x.1 y.1):=
  ⟨fun x => by rw [ltLo];simp,fun x y z h1 h2 => by rw [ltLo] at *;simp at *;omega,fun x y z h1 h2 => by rw [ltLo] at *;simp at *;omega⟩
set_option maxRecDepth 100000 in
theorem isAgg57:∀ w,(isAgg 50).run Tryz.prog w = .ok true w:=fun _ => rfl
set_option maxRecDepth 100000 in
theorem sizeOf57:∀ w,(Go.sizeOf 50).run Tryz.prog w = .ok 2 w:=fun _ => rfl
theorem sort57 (blk off cap:Nat) (d:Array (Int × Int)) (w:World) (hH:HoldsK encR 2 w blk off d) (hblk:blk < w.heap.size) (hsz:d.size < 4611686018427387904) :
    Calls Tryz.prog 114 #[.slice (some ⟨blk,off,none⟩) d.size cap,.func (.func 115) #[] #[]] w fun e w' => e = .returned (.tuple #[]) ∧ ∃ d' n os,PermIn 0 d.size d d' ∧ SortedIn (ltOf fun x y:Int × Int => Lib.compareInt x.1 y.1) 0 d.size d' ∧ w' = sortWorldK encR 2 w blk off n d' os:=by
  have eg:∀ args w,(callFunc 115 args).run Tryz.prog w = .ok (.enter 115 args) w:=enters_of Tryz.func115 (by kernel_rfl) rfl
  have hcon:=AnyQ.slices_SortFunc Tryz.sortRng 2 isAgg57 sizeOf57 encR (fun _ => rfl) (fun x v hv => by simp [encR] at hv;rcases hv with rfl | rfl <;> rfl) (fun x y => Lib.compareInt x.1 y.1) swoLo 115 #[] blk off cap d w eg (cmpLays58 blk off d.size w) hH hblk hsz
  exact hcon
theorem fl_getD (O:List (Int × Int)):∀ k,k < O.length → (fl O)[k * 2]? = some (.int .i64 (O.getD k (0,0)).1) ∧ (fl O)[k * 2 + 1]? = some (.int .i64 (O.getD k (0,0)).2):=by
  induction O with
  | nil => intro k h;simp at h
  | cons a t ih =>
    intro k h
    have hc:fl (a :: t) = .int .i64 a.1 :: .int .i64 a.2 :: fl t:=by simp [fl,encR]
    rw [hc]
    cases k with
    | zero => simp
    | succ k =>
      have:=ih k (by simpa using h)
      rw [show (k + 1) * 2 = k * 2 + 2 by omega,show k * 2 + 2 + 1 = k * 2 + 1 + 2 by omega]
      simpa using this
end Go.Proofs.YtjdbnoccdefnaaaGreat
