/- HELPERS: texts of ours put together. -/
import Derived.Test.YtjdbnoccdefnaaaGreatK32
import Derived.Test.YtjdbnoccdefnaaaGreatK28
namespace Go.Proofs.YtjdbnoccdefnaaaGreat
open Go.RowKit
set_option linter.unusedVariables false
set_option linter.unusedSimpArgs false
def IsP (l:List In) (s k:Int):Prop:=mayB l s k = true ∧ OneWay (pd l) (nxI l) s.toNat
set_option maxRecDepth 100000 in
set_option maxHeartbeats 4000000 in
theorem is9 {w:World} {ad:Option Addr} {n c:Nat} {l:List In} {s k:Int} (h:PI w w.heap.size ad n l) :
    Calls Tryz.prog 9 #[pv ad n c s k] w fun e w' => ∃ b,e = .returned (.bool b) ∧ Below w.heap.size w w' ∧ (b = true ↔ IsP l s k):=by
  obtain ⟨p,hp⟩:∃ p,p = w.heap.size:=⟨_,rfl⟩
  obtain ⟨W0,hW0⟩:∃ W0,W0 = w.alloc (.cells #[.slice ad n c,.int .i64 s,.int .i64 k] 24):=⟨_,rfl⟩
  have hbx:W0.heap[p]? = some (.cells #[.slice ad n c,.int .i64 s,.int .i64 k] 24 (0,0)):=by rw [hW0,hp];exact heap_alloc_new w _
  have hz0:W0.heap.size = p + 1:=by rw [hW0,hp];simp
  have hB0:Below p w W0:=by rw [hW0,hp];exact Joins.below_alloc1 w _
  have hP0:PI W0 W0.heap.size ad n l:=h.kept (by rw [← hp];exact hB0) (by omega)
  have c0:W0.cell? ⟨p,0,none⟩ = some (.slice ad n c):=Joins.cell_of_block hbx 0
  have c1:W0.cell? ⟨p,1,none⟩ = some (.int .i64 s):=Joins.cell_of_block hbx 1
  have c2:W0.cell? ⟨p,2,none⟩ = some (.int .i64 k):=Joins.cell_of_block hbx 2
  have D22:=check10 (c:=c) (s:=s) (k:=k) hP0
  have HB0:=hid hB0
  have HP0:=hid hP0
  have HPE:=hid hp
  have HN:=hid h.len
  have hpl:p < W0.heap.size:=by omega
  clear hbx hB0 hP0 h
  by_cases hm:mayB l s k = true
  · rw [if_pos hm] at D22
    obtain ⟨m1,m2,m3,-,-,m4⟩:=may_fit hm
    have HM:=hid hm
    have HM4:=hid m4
    have hnn:n ≤ 20000:=by have:=HN.out;omega
    have hsn:0 ≤ s ∧ s < (n:Int):=by have:=HN.out;omega
    clear hm m4 m1 m2 m3
    go_enter Tryz.func9,Tryz.ntmps9
    go_upto_region 1 with fail
    rw [← hW0,← hp]
    clear hW0 hp
    have D23:=fun W (hW:Below W0.heap.size W0 W) => oneWay23 (k:=k) (c:=c) (s:=s) (w:=W) (HP0.out.kept hW hW.size) HM4.out hnn hsn
    go_wp2_with (first
      | (go_at_call 22;(with_reducible refine D22.mono ?_);rintro e w2 ⟨rfl,z2⟩;have Z2:=hid z2;clear z2;have k0:=(Z2.out.cell (p:=⟨p,0,none⟩) hpl).trans c0;have k1:=(Z2.out.cell (p:=⟨p,1,none⟩) hpl).trans c1;have k2:=(Z2.out.cell (p:=⟨p,2,none⟩) hpl).trans c2)
      | (go_at_call 23;(with_reducible refine (D23 _ Z2.out).mono ?_);rintro e w3 ⟨b,rfl,z3,z4⟩;have Z3:=hid z3;have Z4:=hid z4;clear z3 z4)
      | go_in)
    all_goals go_ret
    exact ⟨b,rfl,by rw [← HPE.out];exact HB0.out.trans ((Z2.out.trans (Z3.out.mono Z2.out.size)).mono (by omega)),Z4.out.trans ⟨fun h => ⟨HM.out,h⟩,fun h => h.2⟩⟩
  · rw [if_neg hm] at D22
    have HM:=hid hm
    clear hm
    go_enter Tryz.func9,Tryz.ntmps9
    go_upto_region 1 with fail
    rw [← hW0,← hp]
    clear hW0 hp
    go_wp2_with (first
      | (go_at_call 22;(with_reducible refine D22.mono ?_);rintro e w2 ⟨rfl,z2⟩;have Z2:=hid z2;clear z2)
      | go_in)
    all_goals go_ret
    exact ⟨false,rfl,by rw [← HPE.out];exact HB0.out.trans (Z2.out.mono (by omega)),fun h => (by cases h),fun h => absurd h.1 HM.out⟩
end Go.Proofs.YtjdbnoccdefnaaaGreat
namespace Go.Proofs.YtjdbnoccdefnaaaGreat
set_option linter.unusedVariables false
set_option linter.unusedSimpArgs false
variable {eps:Nat → List Nat}
structure StK (eps:Nat → List Nat) (i:Nat) (out st:List Nat):Prop where
  ok:∀ o,Us eps [i] o ↔ ∃ r,o = out ++ r ∧ Us eps st.reverse r
  nd:out.Nodup
theorem StK.start (i:Nat):StK eps i [] [i]:=⟨fun o => by simp,.nil⟩
theorem StK.step {i n:Nat} {out st:List Nat} (h:StK eps i out (st ++ [n])) (hn:n ∉ out):StK eps i (out ++ [n]) (st ++ (eps n).reverse):=by
  refine ⟨fun o => ?_,List.nodup_append.2 ⟨h.nd,by simp,fun a ha b hb => by simp at hb;subst hb;exact fun e => hn (e ▸ ha)⟩⟩
  rw [h.ok o]
  simp only [List.reverse_append,List.reverse_cons,List.reverse_nil,List.nil_append,List.singleton_append,List.reverse_reverse]
  constructor
  · rintro ⟨r,rfl,hr⟩
    cases hr with
    | cons hr => exact ⟨_,by simp,hr⟩
  · rintro ⟨r,rfl,hr⟩
    exact ⟨n :: r,by simp,.cons hr⟩
theorem StK.twice {i n:Nat} {out st:List Nat} (h:StK eps i out (st ++ [n])) (hn:n ∈ out):∀ o,Us eps [i] o → ¬ o.Nodup:=fun o ho hd => by
  obtain ⟨r,rfl,hr⟩:=(h.ok o).1 ho
  simp only [List.reverse_append,List.reverse_cons,List.reverse_nil,List.nil_append,List.singleton_append] at hr
  cases hr with
  | cons hr => exact (List.nodup_append.1 hd).2.2 n hn n (by simp) rfl
theorem StK.done {i:Nat} {out:List Nat} (h:StK eps i out []):Us eps [i] out ∧ out.Nodup:=⟨(h.ok out).2 ⟨[],by simp,by simpa using Us.nil⟩,h.nd⟩
end Go.Proofs.YtjdbnoccdefnaaaGreat
