/- HELPERS: texts of ours put together. -/
import Derived.Test.YtjdbnoccdefnaaaGreatK15
import Derived.Lib.SmallJoins
namespace Go.Proofs.YtjdbnoccdefnaaaGreat
open Go.RowKit
set_option linter.unusedVariables false
set_option linter.unusedSimpArgs false
noncomputable def fol (l:List In) (i:Nat):Nat:=by
  classical exact if h:∃ f,Fo (pd l).eps (chI l) i f then h.choose else i
theorem fol_eq {l:List In} {i f:Nat} (h:Fo (pd l).eps (chI l) i f):fol l i = f:=by
  unfold fol
  have hx:∃ f,Fo (pd l).eps (chI l) i f:=⟨f,h⟩
  rw [dif_pos hx]
  exact hx.choose_spec.det h
abbrev KS (Kl:List Int) (i:Nat):Prop:=(i:Int) ∈ Kl
structure CE (N:Nat) (w:World) (ad:Option Addr) (n g of:Nat) (l:List In) (kg:Nat) (Fk:List Nat) (nk:Nat) (Kl:List Int):Prop where
  pi:PI w N ad n l
  at_:0 < n → ad = some ⟨g,of,none⟩
  ks:SetS N w kg Fk nk Kl
  n2:n ≤ 20000
theorem CE.kept {N:Nat} {w w':World} {ad:Option Addr} {n g of:Nat} {l:List In} {kg:Nat} {Fk:List Nat} {nk:Nat} {Kl:List Int} (h:CE N w ad n g of l kg Fk nk Kl) (hb:Below N w w') (hk:∀ k ∈ Fk,w'.heap[k]? = w.heap[k]?):CE N w' ad n g of l kg Fk nk Kl:=
  ⟨h.pi.kept hb (Nat.le_refl _),h.at_,h.ks.kept hk,h.n2⟩
def CPost (N:Nat) (w:World) (sb o:Nat) (A:Array Value) (iv:Value) (n g of:Nat) (S:List Int) (R:List Nat) (G:List (Int × Int)) (m:Nat) (D:List Int) (mg:Nat) (Fm:List Nat) (vr vg vd:Value) (l:List In) (Kl:List Int) (a:List Nat) (e:Ending) (w':World):Prop:=
  ∃ b A' S' R' m' D' Fm' vr' vd',e = .returned (.bool b) ∧ CV N w' sb o A' iv n g of S' R' G m' D' mg Fm' vr' vg vd' ∧ Rest A A' o ∧ Chg w w' (FC sb Fm vr vg vd) (FC sb Fm' vr' vg vd') ∧
    (b = true → ∃ q d,Uk (pd l).eps (KS Kl) a q d ∧ S' = S ++ Ix q ∧ R' = R ++ q.filter (pd l).rd ∧ m' = m + (q.filter (pd l).mt).length ∧ D' = D ++ Ix (d.map (fol l)) ∧ D'.length + S.length ≤ D.length + S'.length + a.length) ∧
    (b = false → ∀ q d,Uk (pd l).eps (KS Kl) a q d → ¬ (S ++ Ix q).Nodup)
theorem SetS.lt {N:Nat} {w:World} {g:Nat} {F:List Nat} {n:Nat} {S:List Int} {i:Nat} (h:SetS N w g F n S) (hi:i < n) (hn:(i:Int) ∉ S):S.length < n:=by
  have hm:=h.mem
  obtain ⟨_,_,_,_,_,_,_,_,_,_,hnd,_⟩:=h
  have h1:(S ++ [(i:Int)]).Nodup:=List.nodup_append.2 ⟨hnd,by simp,fun a ha b hb e => hn (by simp at hb;rw [← hb,← e];exact ha)⟩
  have h2:=nodup_len n (S ++ [(i:Int)]) h1 (fun x hx => by
    rcases List.mem_append.1 hx with hx | hx
    · exact hm x hx
    · simp at hx;omega)
  simp at h2;omega
theorem en112:Enters 112:=enter_of Tryz.func112 (by kernel_rfl) rfl
variable {l:List In} {k:Int} {N sb o n g of mg kg nk c:Nat} {ad:Option Addr} {Fk:List Nat} {Kl:List Int} {G:List (Int × Int)} {vg:Value}
theorem iparts {P:Program} {e:TypeId} {z:Value} {s b:Nat} (h:(P.info? e).map (fun i => (i.zero,i.size,i.bytes)) = some (some z,s,b)):∃ i,P.info? e = some i ∧ i.zero = some z ∧ i.size = s ∧ i.bytes = b:=by
  cases hp:P.info? e with
  | none => rw [hp] at h;simp at h
  | some i => rw [hp] at h;simp at h;exact ⟨i,rfl,h.1,h.2.1,h.2.2⟩
theorem lit1 {w:World} {b t:Nat} {x:Value} {fr:Nat × Nat} (h:w.heap[b]? = some (.cells #[x] t fr)):∀ j u,[x][j]? = some u → w.cell? ((⟨b,0,none⟩:Addr).add j) = some u:=fun j u hj => by
  rw [Addr.add_mid,Nat.zero_add,Joins.cell_of_block h]
  simpa using hj
theorem Below.draws (w:World) (B k:Nat):Below B w (w.drewN k):=⟨rfl,rfl,rfl,Nat.le_refl _,fun _ _ => rfl⟩
theorem Chg.draws {w w':World} {F F':List Nat} {k:Nat} (h:Chg (w.drewN k) w' F F'):Chg w w' F F':=⟨h.os,h.tape,h.output,h.size,h.block,h.new⟩
set_option maxRecDepth 100000 in
set_option maxHeartbeats 8000000 in
theorem come_door (hF:∀ I ∈ l,Fit (l.length:Int) k I) (hU:∀ i,KS Kl i → ∃ q,Us (pd l).eps [i] q) {w:World} {A:Array Value} {S:List Int} {R:List Nat} {m:Nat} {D:List Int} {Fm:List Nat} {vr vd:Value} {i:Nat}
    (hC:CV N w sb o A (.slice ad n c) n g of S R G m D mg Fm vr vg vd) (hE:CE N w ad n g of l kg Fk nk Kl) (hi:i < n) (hN:N ≤ w.heap.size) (hD:D.length + n + 1 ≤ 1000000 + S.length) (hk:KS Kl i) :
    Calls Tryz.prog 98 #[.pointer (some ⟨sb,o,none⟩),.int .i64 (i:Int),.pointer (some ⟨kg,0,none⟩)] w (CPost N w sb o A (.slice ad n c) n g of S R G m D mg Fm vr vg vd l Kl [i]):=by
  obtain ⟨q,hq⟩:=hU i hk
  have hP:=hE.pi.kept (Below.refl N w) hN
  obtain ⟨f,hfn,hf⟩:=follow_ok hP hF (sb:=sb) (o:=o) (c:=c) (by rw [hC.cell];exact hC.c0) hE.n2 q.length (Nat.le_refl _) hq hi
  have C48:=has12 N kg Fk nk Kl (i:Int) w hE.ks
  rw [decide_eq_true hk] at C48
  have hSl:S.length ≤ n:=hC.set.len.1
  have C112:∀ V:World,V.heap = w.heap → V.os = w.os → V.tape = w.tape → V.output = w.output → Calls Tryz.prog 112 #[.pointer (some ⟨sb,o,none⟩),.int .i64 (i:Int)] V fun e w' => e = .returned (.int .i64 (f:Int)) ∧ ∃ m,w' = V.drewN m:=fun V hv h1 h2 h3 =>
    follow112 (w:=V) (c:=c) (hP.kept (w':=V) ⟨h1,h2,h3,by rw [hv];exact Nat.le_refl _,fun b _ => by rw [hv]⟩ (by rw [hv];exact Nat.le_refl _)) hF (by have:=hC.cell o;unfold World.cell? at this ⊢;simp only [hv];rw [this];exact hC.c0) hE.n2 hi hf hq
  have hdr:∀ kd,CV N ((w.drewN kd).drew) sb o A (.slice ad n c) n g of S R G m D mg Fm vr vg vd:=fun kd => hC.kept (w':=(w.drewN kd).drew) (fun _ _ => rfl)
  have HC:=hid hC
  have HQ:=hid hq
  have HFO:=hid hf
  have HK:=hid hk
  have HDR:=hid hdr
  have HC112:=hid C112
  obtain ⟨dn,hdn⟩:∃ dn,D.length = dn:=⟨_,rfl⟩
  have HDN:=hid hdn
  have hD2:dn ≤ 1000000:=by omega
  obtain ⟨va,vc,rfl,-,-⟩:=row_shape hC.rd
  rw [hdn] at HDR HC ⊢
  clear hC hE hq hP hf hdr hk hU C112 hdn
  obtain ⟨i0,hi0,hz0,hz1,hz2⟩:=iparts info3
  go_enter Tryz.func98,Tryz.ntmps98
  go_upto_region 2 with (go_at_call 48;(with_reducible refine C48.mono ?_);rintro e w1 ⟨rfl,kd,rfl⟩;clear C48)
  have h5:(w.drewN kd).drew.cell? ⟨sb,o + 5,none⟩ = some (.slice va dn vc):=by rw [(HDR.out kd).cell];exact (HDR.out kd).c5
  refine wp_region_lexK [0,1,2,3,4,5,6] [7,8,9,10,11,12] 12 (fun V => V.cell? ⟨sb,o + 5,none⟩ = some (.slice va dn vc)) (by kernel_rfl) (by kernel_rfl) rfl (by kernel_rfl) (by kernel_rfl) (by exact h5) ?_
  simp only [opsAt,opsNo,List.getElem?_toArray,List.getElem?_cons_zero,List.getElem?_cons_succ]
  iterate 7
    refine lex_cons ?_ rfl (fun V hV => ?_) (fun _ _ _ h => h) ?_
    rotate_left
    · go_simp <;> with_reducible rfl
    simp only [Act.put,List.setIfInBounds_toArray,List.set_cons_zero,List.set_cons_succ]
  refine lex_nil (tailK_cons fun K1 hK1 => ?_)
  refine step_callG2 rfl 112 (.tmp 16) (.tmp 17) 111 3 rfl en112 ?_
  refine (HC112.out (w.drewN kd).drew rfl rfl rfl rfl).mono ?_
  rintro e w2 ⟨rfl,m2,rfl⟩
  refine .inl ⟨_,rfl,?_⟩
  refine hK1.out _ _ (fun _ => h5) (tailK_cons fun K2 hK2 => ?_)
  obtain ⟨V,hVd⟩:∃ V,V = ((w.drewN kd).drew).drewN m2:=⟨_,rfl⟩
  have hCV:CV N V sb o A (.slice ad n c) n g of S R G m D mg Fm vr vg (.slice va dn vc):=by rw [hVd];exact HC.out.kept (fun _ _ => rfl)
  have HVB:Hid (∀ {w':World} {F F':List Nat},Chg V w' F F' → Chg w w' F F'):=by
    intro w' F F' h
    rw [hVd] at h
    exact ⟨h.os,h.tape,h.output,h.size,h.block,h.new⟩
  have hNV:N ≤ V.heap.size:=by rw [hVd];exact hN
  rw [← hVd]
  have HCV:=hid hCV
  have h6:∀ ob,(V.alloc ob).cell? ⟨sb,o + 5,none⟩ = some (.slice va dn vc):=fun ob => (cell_eq (heap_alloc_old V ob hCV.sblt) _).trans (by rw [hCV.cell];exact hCV.c5)
  clear hVd hCV
  go_simp
  refine hK2.out _ _ (fun _ => h6 _) (tailK_cons fun K3 hK3 => ?_)
  have hrd:=HCV.out.rd
  rw [HDN.out] at hrd
  refine step_append_moveN rfl (.tmp 15) (.tmp 19) 30 rfl N 3 i0 (.int .i64 0) 1 8 Tryz.underlying30 hi0 hz0 hz1 hz2 rfl (by decide) (.slice va dn vc) dn (I64 D) (by simp [Act.eval,Act.put]) (hrd.alloc _) ⟨V.heap.size,0,none⟩ 1 1 [.int .i64 (f:Int)] (by simp [Act.eval,Act.put]) rfl (by decide) (by exact lit1 (heap_alloc_new V _)) (by simp [Value.oneCell']) (by unfold maxLen;omega) (by omega) (by simp;omega) ?_
  intro v5 w5 ho5 hm5
  have ho6:w5.ownsRow N 3 1 v5 (D ++ [(f:Int)]).length (I64 (D ++ [(f:Int)])):=by
    rw [List.length_append,HDN.out]
    simpa [I64] using ho5
  obtain ⟨C1,C2,k5,f5⟩:=HCV.out.setDoors hm5 ho6
  obtain ⟨ya,yc,rfl,-,-⟩:=row_shape ho5
  have HC1:=hid C1
  have HC2:=hid (HVB.out C2)
  clear C1 C2 ho5 ho6 hrd hm5
  refine hK3.out _ _ (fun _ => k5) (tailK_cons fun K4 hK4 => ?_)
  simp only [Act.put,List.setIfInBounds_toArray,List.set_cons_zero,List.set_cons_succ]
  go_simp
  refine hK4.out _ _ (fun _ => k5) (tailK_cons fun K5 hK5 => ?_)
  go_simp
  refine hK5.out _ _ (fun _ => k5) (tailK_cons fun K6 hK6 => ?_)
  go_simp
  refine hK6.out _ _ (fun h => absurd rfl h) (tailK_nil ?_)
  go_wp2
  all_goals go_ret
  all_goals refine ⟨true,_,S,R,m,_,Fm,vr,_,rfl,HC1.out,(Rest.refl A o).set (by omega) _,HC2.out,fun _ => ⟨[],[i],.door HK.out .nil,by simp,by simp,by simp,?_,by simp;omega⟩,fun h => by cases h⟩
  rw [show [i].map (fol l) = [f] by simp [fol_eq HFO.out]]
  rfl
end Go.Proofs.YtjdbnoccdefnaaaGreat
