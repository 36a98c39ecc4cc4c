/- HELPERS: texts of ours put together. -/
import Derived.Test.YtjdbnoccdefnaaaGreatK20
import Derived.Deep.RegionLaw
namespace Go.Proofs.YtjdbnoccdefnaaaGreat
open Go.RowKit
set_option linter.unusedVariables false
set_option linter.unusedSimpArgs false
variable {N:Nat} {w:World} {sb o:Nat} {A:Array Value} {iv:Value} {n g of:Nat} {S:List Int} {R:List Nat} {G:List (Int × Int)} {m:Nat} {D:List Int} {mg:Nat} {Fm:List Nat} {vr vg vd:Value} {l:List In} {k:Int}
theorem row_empty {base e size n c:Nat} {a:Option Addr} {xs:List Value} (h:w.ownsRow base e size (.slice a n c) n xs):w.ownsRow base e size (.slice a 0 c) 0 [] ∧ (Value.slice a 0 c).ownBlock = (Value.slice a n c).ownBlock:=by
  refine ⟨⟨by simp,?_⟩,by cases a <;> rfl⟩
  rcases h.2 with ⟨e1,_⟩ | ⟨g,cap,cur,e1,hb,hg,hn,hm,hs,ht⟩
  · simp only [Value.slice.injEq] at e1
    obtain ⟨rfl,-,rfl⟩:=e1
    exact .inl ⟨rfl,rfl⟩
  · simp only [Value.slice.injEq] at e1
    obtain ⟨rfl,-,rfl⟩:=e1
    exact .inr ⟨g,c,cur,rfl,hb,hg,Nat.zero_le _,hm,hs,by simp⟩
theorem CV.reset {ra rg rd:Option Addr} {rn rc gn gc dn dc:Nat} (h:CV N w sb o A iv n g of [] R G m D mg Fm (.slice ra rn rc) (.slice rg gn gc) (.slice rd dn dc)) (h1:rn = R.length) (h2:gn = G.length) (h3:dn = D.length) :
    CV N ((((w.setCell ⟨sb,o + 2,none⟩ (.slice ra 0 rc)).setCell ⟨sb,o + 3,none⟩ (.slice rg 0 gc)).setCell ⟨sb,o + 5,none⟩ (.slice rd 0 dc)).setCell ⟨sb,o + 4,none⟩ (.int .i64 0)) sb o ((((A.setIfInBounds (o + 2) (.slice ra 0 rc)).setIfInBounds (o + 3) (.slice rg 0 gc)).setIfInBounds (o + 5) (.slice rd 0 dc)).setIfInBounds (o + 4) (.int .i64 0)) iv n g of [] [] [] 0 [] mg Fm (.slice ra 0 rc) (.slice rg 0 gc) (.slice rd 0 dc) ∧
    Chg w ((((w.setCell ⟨sb,o + 2,none⟩ (.slice ra 0 rc)).setCell ⟨sb,o + 3,none⟩ (.slice rg 0 gc)).setCell ⟨sb,o + 5,none⟩ (.slice rd 0 dc)).setCell ⟨sb,o + 4,none⟩ (.int .i64 0)) (FC sb Fm (.slice ra rn rc) (.slice rg gn gc) (.slice rd dn dc)) (FC sb Fm (.slice ra 0 rc) (.slice rg 0 gc) (.slice rd 0 dc)):=by
  subst h1 h2 h3
  have hs:=h.sz
  have hoo:=h.ho
  obtain ⟨e1,f1⟩:=row_empty h.rr
  obtain ⟨e2,f2⟩:=row_empty h.rg
  obtain ⟨e3,f3⟩:=row_empty h.rd
  obtain ⟨W,hW⟩:∃ W,W = ((((w.setCell ⟨sb,o + 2,none⟩ (.slice ra 0 rc)).setCell ⟨sb,o + 3,none⟩ (.slice rg 0 gc)).setCell ⟨sb,o + 5,none⟩ (.slice rd 0 dc)).setCell ⟨sb,o + 4,none⟩ (.int .i64 0)):=⟨_,rfl⟩
  have hk:∀ k,k ≠ sb → W.heap[k]? = w.heap[k]?:=fun k hk => by
    rw [hW]
    exact (Below.heap_setCell _ _ _ _ hk).trans ((Below.heap_setCell _ _ _ _ hk).trans ((Below.heap_setCell _ _ _ _ hk).trans (Below.heap_setCell _ _ _ _ hk)))
  have hbox:=Joins.block_setCell (i:=o + 4) (Joins.block_setCell (i:=o + 5) (Joins.block_setCell (i:=o + 3) (Joins.block_setCell (i:=o + 2) h.box (.slice ra 0 rc)) (.slice rg 0 gc)) (.slice rd 0 dc)) (.int .i64 0)
  rw [← hW] at hbox ⊢
  have hz:W.heap.size = w.heap.size:=by rw [hW];simp [World.setCell]
  have r1:=row_kept e1 (w':=W) (fun b hb => hk b (h.rr_ne b (f1 ▸ hb)).1)
  have r2:=row_kept e2 (w':=W) (fun b hb => hk b (h.rg_ne b (f2 ▸ hb)).1)
  have r3:=row_kept e3 (w':=W) (fun b hb => hk b (h.rd_ne b (f3 ▸ hb)))
  refine ⟨⟨hbox,by simpa using h.sz,h.ho,h.lo,?_,?_,?_,?_,?_,?_,h.set.kept (fun k hk' => hk k (fun e => h.sb_set (e ▸ hk'))),r1,r2,r3,fun b hb => h.ap b (by rw [← f3];exact hb)⟩,⟨by rw [hW];rfl,by rw [hW];rfl,by rw [hW];rfl,by omega,fun k _ hn => hk k (fun e => hn (by simp [e])),fun k hk => .inl (by
    simp only [List.mem_cons,List.mem_append,Option.mem_toList,Option.mem_def] at hk ⊢
    rw [f1,f2,f3] at hk
    exact hk)⟩⟩
  · simp only [Array.getElem?_setIfInBounds,Array.size_setIfInBounds];rw [if_neg (by omega),if_neg (by omega),if_neg (by omega),if_neg (by omega)];exact h.c0
  · simp only [Array.getElem?_setIfInBounds,Array.size_setIfInBounds];rw [if_neg (by omega),if_neg (by omega),if_neg (by omega),if_neg (by omega)];exact h.c1
  · simp only [Array.getElem?_setIfInBounds,Array.size_setIfInBounds];rw [if_neg (by omega),if_neg (by omega),if_neg (by omega),if_pos trivial,if_pos (by omega)]
  · simp only [Array.getElem?_setIfInBounds,Array.size_setIfInBounds];rw [if_neg (by omega),if_neg (by omega),if_pos trivial,if_pos (by omega)]
  · simp only [Array.getElem?_setIfInBounds,Array.size_setIfInBounds];rw [if_pos trivial,if_pos (by omega)];rfl
  · simp only [Array.getElem?_setIfInBounds,Array.size_setIfInBounds];rw [if_neg (by omega),if_pos trivial,if_pos (by omega)]
theorem reset_rest {A:Array Value} {o:Nat} (a b c d:Value):Rest A ((((A.setIfInBounds (o + 2) a).setIfInBounds (o + 3) b).setIfInBounds (o + 5) c).setIfInBounds (o + 4) d) o:=
  (((((Rest.refl A o).set (by omega) a).set (by omega) b).set (by omega) c).set (by omega) d)
theorem Ix_nodup {q:List Nat}:(Ix q).Nodup ↔ q.Nodup:=by
  unfold Ix
  rw [List.Nodup,List.pairwise_map]
  constructor
  · exact fun h => h.imp (fun h e => h (by rw [e]))
  · exact fun h => h.imp (fun h e => h (by omega))
theorem SetS.nodup {N:Nat} {w:World} {g:Nat} {F:List Nat} {n:Nat} {S:List Int} (h:SetS N w g F n S):S.Nodup:=by
  obtain ⟨_,_,_,_,_,_,_,_,_,_,hnd,_⟩:=h
  exact hnd
theorem take_snoc {Fr:List Nat} {i:Nat} (h:i < Fr.length):Fr.take (i + 1) = Fr.take i ++ [Fr[i]]:=List.take_succ_eq_append_getElem h
theorem row_no {l:List In} {Kl:List Int} {Fr:List Nat} {i:Nat} (hi:i < Fr.length) {q0 d0:List Nat} (h0:Uk (pd l).eps (KS Kl) (Fr.take i) q0 d0) (h:∀ q d,Uk (pd l).eps (KS Kl) [Fr[i]] q d → ¬ (Ix q0 ++ Ix q).Nodup):∀ q d,Uk (pd l).eps (KS Kl) Fr q d → ¬ q.Nodup:=by
  intro q d hq hn
  have e:Fr = Fr.take i ++ ([Fr[i]] ++ Fr.drop (i + 1)):=by
    rw [← List.append_assoc,← take_snoc hi,List.take_append_drop]
  obtain ⟨q1,d1,q2,d2,h1,h2,rfl,rfl⟩:=hq.split e
  obtain ⟨q3,d3,q4,d4,h3,h4,rfl,rfl⟩:=h2.split rfl
  obtain ⟨rfl,rfl⟩:=h0.det h1
  refine h q3 d3 h3 ?_
  have h5:(q0 ++ q3).Nodup:=by
    rw [← List.append_assoc] at hn
    exact (List.nodup_append.1 hn).1
  have:=Ix_nodup.2 h5
  simpa [Ix] using this
def GPost (N:Nat) (w:World) (sb o:Nat) (A:Array Value) (iv:Value) (n g of:Nat) (mg:Nat) (Fm:List Nat) (vr vg vd:Value) (l:List In) (Kl:List Int) (a:List Nat) (e:Ending) (w':World):Prop:=
  ∃ b A' S' R' G' m' D' Fm' vr' vg' vd',e = .returned (.bool b) ∧ CV N w' sb o A' iv n g of S' R' G' m' D' mg Fm' vr' vg' vd' ∧ Rest A A' o ∧ Chg w w' (FC sb Fm vr vg vd) (FC sb Fm' vr' vg' vd') ∧
    (b = true → ∃ q d,Uk (pd l).eps (KS Kl) a q d ∧ q.Nodup ∧ (pd l).PL q ∧ S' = Ix q ∧ R' = q.filter (pd l).rd ∧ m' = (q.filter (pd l).mt).length ∧ D' = Ix (d.map (fol l)) ∧ G'.Perm (R'.flatMap (Rg l)) ∧ G'.Pairwise (fun x y => x.1 ≤ y.1) ∧ G'.Pairwise Dj) ∧
    (b = false → ∀ q d,Uk (pd l).eps (KS Kl) a q d → ¬ (q.Nodup ∧ (pd l).PL q))
end Go.Proofs.YtjdbnoccdefnaaaGreat
