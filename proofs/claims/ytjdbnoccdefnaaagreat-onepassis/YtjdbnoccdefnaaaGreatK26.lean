/- HELPERS: texts of ours put together. -/
import Derived.Test.YtjdbnoccdefnaaaGreatK25
import Derived.Test.YtjdbnoccdefnaaaGreatK15
namespace Go.Proofs.YtjdbnoccdefnaaaGreat
open Go.RowKit
set_option linter.unusedVariables false
set_option linter.unusedSimpArgs false
theorem chI_no (l:List In):∀ i,chI l i → (pd l).rd i = false ∧ (pd l).mt i = false:=fun i h => by
  unfold chI at h
  exact ⟨decide_eq_false (by omega),decide_eq_false (by omega)⟩
theorem fol_fo {l:List In} {Kl:List Int} (h:KI (pd l) (KS Kl)) {i:Nat} (hi:KS Kl i):Fo (pd l).eps (chI l) i (fol l i):=by
  obtain ⟨o,ho,-,-⟩:=h.pl i hi
  obtain ⟨f,hf⟩:=Fo.ex (ch:=chI l) (fun i h => ⟨_,chI_eps h⟩) o.length (Nat.le_refl _) ho
  rw [fol_eq hf]
  exact hf
theorem no_plain {l:List In} {Kl:List Int} (h:KI (pd l) (KS Kl)) {i:Nat} (hno:∀ q d,Uk (pd l).eps (KS Kl) [i] q d → ¬ (q.Nodup ∧ (pd l).PL q)):¬ (pd l).Pl i:=fun hp => by
  obtain ⟨o,ho,-,-⟩:=id hp
  obtain ⟨q,d,hk⟩:=Uk.of_full (K:=KS Kl) o.length (Nat.le_refl _) ho
  have h1:=(h.plain hk).1 hp
  exact hno q d hk ⟨h1.1,h1.2.1⟩
theorem by_doors {l:List In} {Kl:List Int} (h:KI (pd l) (KS Kl)) {i:Nat} {q d:List Nat} (hk:Uk (pd l).eps (KS Kl) [i] q d) (hn:q.Nodup) (hp:(pd l).PL q) :
    (pd l).Pl i ↔ ∃ q2,Us (pd l).eps (d.map (fol l)) q2 ∧ q2.Nodup ∧ (pd l).PL q2 ∧ (pd l).cross q q2:=by
  rw [h.plainF (chI_no l) hk (F:=fol l) (fun j hj => fol_fo h (hk.notK.2 j hj))]
  exact ⟨fun h => h.2.2,fun h => ⟨hn,hp,h⟩⟩
theorem by_none {l:List In} {Kl:List Int} (h:KI (pd l) (KS Kl)) {i:Nat} {q:List Nat} (hk:Uk (pd l).eps (KS Kl) [i] q []) (hn:q.Nodup) (hp:(pd l).PL q):(pd l).Pl i:=
  (by_doors h hk hn hp).2 ⟨[],.nil,List.nodup_nil,⟨by simp,.nil⟩,by have:=hp.1;exact ⟨by simpa using this,fun _ _ j hj => by cases hj⟩⟩
structure Sv (N:Nat) (w:World) (sb:Nat) (A:Array Value) (ad:Option Addr) (c n g of:Nat) (l:List In) (kg:Nat) (Fk:List Nat) (nk:Nat) (Kl:List Int) (S:List Int) (R:List Nat) (G:List (Int × Int)) (m:Nat) (D:List Int) (mg:Nat) (Fm:List Nat) (vr vg vd:Value)
    (S2:List Int) (R2:List Nat) (G2:List (Int × Int)) (m2:Nat) (D2:List Int) (mg2:Nat) (Fm2:List Nat) (vr2 vg2 vd2:Value) (vb:Value) (DD:List Int):Prop where
  near:CV N w sb 2 A (.slice ad n c) n g of S R G m D mg Fm vr vg vd
  far:CV N w sb 8 A (.slice ad n c) n g of S2 R2 G2 m2 D2 mg2 Fm2 vr2 vg2 vd2
  env:CE N w ad n g of l kg Fk nk Kl
  a1:A[1]? = some (.pointer (some ⟨kg,0,none⟩))
  a14:A[14]? = some vb
  rb:w.ownsRow N 3 1 vb DD.length (I64 DD)
  d1:∀ b ∈ FC sb Fm vr vg vd,b ≠ sb → b ∉ FC sb Fm2 vr2 vg2 vd2
  d2:∀ b,vb.ownBlock = some b → b ∉ FC sb Fm vr vg vd ∧ b ∉ FC sb Fm2 vr2 vg2 vd2
  d3:∀ b ∈ Fk,b ∉ FC sb Fm vr vg vd ∧ b ∉ FC sb Fm2 vr2 vg2 vd2 ∧ vb.ownBlock ≠ some b
variable {N:Nat} {w:World} {sb:Nat} {A:Array Value} {ad:Option Addr} {c n g of:Nat} {l:List In} {kg:Nat} {Fk:List Nat} {nk:Nat} {Kl:List Int} {S:List Int} {R:List Nat} {G:List (Int × Int)} {m:Nat} {D:List Int} {mg:Nat} {Fm:List Nat} {vr vg vd:Value}
  {S2:List Int} {R2:List Nat} {G2:List (Int × Int)} {m2:Nat} {D2:List Int} {mg2:Nat} {Fm2:List Nat} {vr2 vg2 vd2:Value} {vb:Value} {DD:List Int} {k:Int}
theorem Sv.near_turned {w':World} {A':Array Value} {S':List Int} {R':List Nat} {G':List (Int × Int)} {m':Nat} {D':List Int} {Fm':List Nat} {vr' vg' vd':Value} (hN:N ≤ w.heap.size)
    (h:Sv N w sb A ad c n g of l kg Fk nk Kl S R G m D mg Fm vr vg vd S2 R2 G2 m2 D2 mg2 Fm2 vr2 vg2 vd2 vb DD)
    (h1:CV N w' sb 2 A' (.slice ad n c) n g of S' R' G' m' D' mg Fm' vr' vg' vd') (h2:Rest A A' 2) (h3:Chg w w' (FC sb Fm vr vg vd) (FC sb Fm' vr' vg' vd')) :
    Sv N w' sb A' ad c n g of l kg Fk nk Kl S' R' G' m' D' mg Fm' vr' vg' vd' S2 R2 G2 m2 D2 mg2 Fm2 vr2 vg2 vd2 vb DD:=by
  have hB:Below N w w':=h3.below hN (fun k hk => (h.near.low k hk).1)
  have hf:∀ b ∈ FC sb Fm2 vr2 vg2 vd2,b ≠ sb → b ∉ FC sb Fm vr vg vd:=fun b hb hne hm => h.d1 b hm hne hb
  refine ⟨h1,h.far.other h1.box h2.1 (fun j hj => h2.2 _ (.inr (by omega))) (fun b hb hne => h3.block b (h.far.low b hb).2 (hf b hb hne)),h.env.kept hB (fun b hb => h3.block b (h.env.ks.low b hb).2 (h.d3 b hb).1),(h2.2 1 (.inl (by omega))).trans h.a1,(h2.2 14 (.inr (by omega))).trans h.a14,row_kept h.rb (fun b hb => h3.block b (h.rb.lt b hb).2 (h.d2 b hb).1),fun b hb hne hm => ?_,fun b hb => ⟨fun hm => ?_,(h.d2 b hb).2⟩,fun b hb => ⟨fun hm => ?_,(h.d3 b hb).2⟩⟩
  · rcases h3.new b hb with h4 | h4
    · exact h.d1 b h4 hne hm
    · have:=(h.far.low b hm).2;omega
  · rcases h3.new b hm with h4 | h4
    · exact (h.d2 b hb).1 h4
    · have:=(h.rb.lt b hb).2;omega
  · rcases h3.new b hm with h4 | h4
    · exact (h.d3 b hb).1 h4
    · have:=(h.env.ks.low b hb).2;omega
theorem Sv.far_turned {w':World} {A':Array Value} {S':List Int} {R':List Nat} {G':List (Int × Int)} {m':Nat} {D':List Int} {Fm':List Nat} {vr' vg' vd' vb':Value} {DD':List Int} (hN:N ≤ w.heap.size)
    (h:Sv N w sb A ad c n g of l kg Fk nk Kl S R G m D mg Fm vr vg vd S2 R2 G2 m2 D2 mg2 Fm2 vr2 vg2 vd2 vb DD)
    (h1:CV N w' sb 8 A' (.slice ad n c) n g of S' R' G' m' D' mg2 Fm' vr' vg' vd') (hs:A'.size = A.size) (h2:∀ j,j < 8 → A'[j]? = A[j]?) (h3:Chg w w' (FC sb Fm2 vr2 vg2 vd2 ++ vb.ownBlock.toList) (FC sb Fm' vr' vg' vd' ++ vb'.ownBlock.toList))
    (h4:A'[14]? = some vb') (h5:w'.ownsRow N 3 1 vb' DD'.length (I64 DD')) (h6:∀ b,vb'.ownBlock = some b → b ∉ FC sb Fm' vr' vg' vd') :
    Sv N w' sb A' ad c n g of l kg Fk nk Kl S R G m D mg Fm vr vg vd S' R' G' m' D' mg2 Fm' vr' vg' vd' vb' DD':=by
  have hlow:∀ b ∈ FC sb Fm2 vr2 vg2 vd2 ++ vb.ownBlock.toList,N ≤ b ∧ b < w.heap.size:=fun b hb => by
    rcases List.mem_append.1 hb with hb | hb
    · exact h.far.low b hb
    · exact h.rb.lt b (by simpa using hb)
  have hB:Below N w w':=h3.below hN (fun k hk => (hlow k hk).1)
  have hn:∀ b ∈ FC sb Fm vr vg vd,b ≠ sb → b ∉ FC sb Fm2 vr2 vg2 vd2 ++ vb.ownBlock.toList:=fun b hb hne hm => by
    rcases List.mem_append.1 hm with hm | hm
    · exact h.d1 b hb hne hm
    · exact (h.d2 b (by simpa using hm)).1 hb
  have hk:∀ b ∈ Fk,b ∉ FC sb Fm2 vr2 vg2 vd2 ++ vb.ownBlock.toList:=fun b hb hm => by
    rcases List.mem_append.1 hm with hm | hm
    · exact (h.d3 b hb).2.1 hm
    · exact (h.d3 b hb).2.2 (by simpa using hm)
  have hnew:∀ b,b < w.heap.size → b ∉ FC sb Fm2 vr2 vg2 vd2 ++ vb.ownBlock.toList → b ∉ FC sb Fm' vr' vg' vd' ++ vb'.ownBlock.toList:=fun b hb hm hm2 => by
    rcases h3.new b hm2 with h7 | h7
    · exact hm h7
    · omega
  refine ⟨h.near.other h1.box hs (fun j hj => h2 _ (by omega)) (fun b hb hne => h3.block b (h.near.low b hb).2 (hn b hb hne)),h1,h.env.kept hB (fun b hb => h3.block b (h.env.ks.low b hb).2 (hk b hb)),(h2 1 (by omega)).trans h.a1,h4,h5,fun b hb hne hm => ?_,fun b hb => ⟨fun hm => ?_,h6 b hb⟩,fun b hb => ⟨(h.d3 b hb).1,fun hm => ?_,fun e => ?_⟩⟩
  · exact hnew b (h.near.low b hb).2 (hn b hb hne) (List.mem_append_left _ hm)
  · by_cases hne:b = sb
    · exact h6 b hb (by rw [hne];simp)
    · exact hnew b (h.near.low b hm).2 (hn b hm hne) (List.mem_append_right _ (by simpa using hb))
  · exact hnew b (h.env.ks.low b hb).2 (hk b hb) (List.mem_append_left _ hm)
  · exact hnew b (h.env.ks.low b hb).2 (hk b hb) (List.mem_append_right _ (by simpa using e))
end Go.Proofs.YtjdbnoccdefnaaaGreat
namespace Go.Proofs.YtjdbnoccdefnaaaGreat
open Go.RowKit
set_option linter.unusedVariables false
set_option linter.unusedSimpArgs false
variable {N:Nat} {w:World} {sb:Nat} {A:Array Value} {ad:Option Addr} {c n g of:Nat} {l:List In} {kg:Nat} {Fk:List Nat} {nk:Nat} {Kl:List Int} {S:List Int} {R:List Nat} {G:List (Int × Int)} {m:Nat} {D:List Int} {mg:Nat} {Fm:List Nat} {vr vg vd:Value}
  {S2:List Int} {R2:List Nat} {G2:List (Int × Int)} {m2:Nat} {D2:List Int} {mg2:Nat} {Fm2:List Nat} {vr2 vg2 vd2:Value} {vb:Value} {DD:List Int} {k:Int}
abbrev Fs (sb:Nat) (Fm:List Nat) (vr vg vd:Value) (Fm2:List Nat) (vr2 vg2 vd2 vb:Value):List Nat:=FC sb Fm vr vg vd ++ (FC sb Fm2 vr2 vg2 vd2 ++ vb.ownBlock.toList)
def FarOK (l:List In) (DD:List Int) (S2:List Int) (R2:List Nat) (G2:List (Int × Int)) (m2:Nat):Prop:=∃ q2 ds,DD = Ix ds ∧ Us (pd l).eps ds q2 ∧ Gat l q2 S2 R2 G2 m2
def NPost (N:Nat) (w:World) (sb:Nat) (A:Array Value) (ad:Option Addr) (c n g of:Nat) (l:List In) (kg:Nat) (Fk:List Nat) (nk:Nat) (Kl:List Int) (mg:Nat) (Fm:List Nat) (vr vg vd:Value)
    (S2:List Int) (R2:List Nat) (G2:List (Int × Int)) (m2:Nat) (D2:List Int) (mg2:Nat) (Fm2:List Nat) (vr2 vg2 vd2:Value) (vb:Value) (DD:List Int) (i:Nat) (e:Ending) (w':World):Prop:=
  ∃ b A' S' R' G' m' D' Fm' vr' vg' vd',e = .returned (.bool b) ∧ Sv N w' sb A' ad c n g of l kg Fk nk Kl S' R' G' m' D' mg Fm' vr' vg' vd' S2 R2 G2 m2 D2 mg2 Fm2 vr2 vg2 vd2 vb DD ∧ A'[0]? = A[0]? ∧ Chg w w' (FC sb Fm vr vg vd) (FC sb Fm' vr' vg' vd') ∧
    (b = true → ∃ q d,Uk (pd l).eps (KS Kl) [i] q d ∧ Gat l q S' R' G' m' ∧ D' = Ix (d.map (fol l))) ∧ (b = false → ¬ (pd l).Pl i)
theorem gatherNear {i cp:Nat} {V:World} {t:TypeId} (hF:∀ I ∈ l,Fit (l.length:Int) k I) (hK:KI (pd l) (KS Kl)) (hN:N ≤ w.heap.size) (hi:i < n)
    (h:Sv N w sb A ad c n g of l kg Fk nk Kl S R G m D mg Fm vr vg vd S2 R2 G2 m2 D2 mg2 Fm2 vr2 vg2 vd2 vb DD)
    (hV:Below w.heap.size w V) (hb:V.heap[w.heap.size]? = some (.cells #[.int .i64 (i:Int)] t (0,0))) :
    Calls Tryz.prog 71 #[.pointer (some ⟨sb,2,none⟩),.slice (some ⟨w.heap.size,0,none⟩) 1 cp,.pointer (some ⟨kg,0,none⟩)] V (NPost N w sb A ad c n g of l kg Fk nk Kl mg Fm vr vg vd S2 R2 G2 m2 D2 mg2 Fm2 vr2 vg2 vd2 vb DD i):=by
  have hBN:Below N w V:=hV.mono hN
  have hC:=h.near.kept (w':=V) (fun b hb => hV.block b (h.near.low b hb).2)
  have hE:CE N V ad n g of l kg Fk nk Kl:=h.env.kept hBN (fun b hb => hV.block b (h.env.ks.low b hb).2)
  have hsv:Sv N V sb A ad c n g of l kg Fk nk Kl S R G m D mg Fm vr vg vd S2 R2 G2 m2 D2 mg2 Fm2 vr2 vg2 vd2 vb DD:=
    ⟨hC,h.far.kept (fun b hb => hV.block b (h.far.low b hb).2),hE,h.a1,h.a14,row_kept h.rb (fun b hb => hV.block b (h.rb.lt b hb).2),h.d1,h.d2,h.d3⟩
  have hNV:N ≤ V.heap.size:=Nat.le_trans hN hV.size
  have hG:=gather71 (k:=k) (fn:=1) (fc:=cp) (fa:=some ⟨w.heap.size,0,none⟩) (Kl:=Kl) (Fr:=[i]) hF (fun j hj => by
    obtain ⟨o,ho,-,-⟩:=hK.pl j hj
    exact ⟨o,ho⟩) hC hE (fun b hb => (h.d3 b hb).1) hNV rfl (fun _ => ⟨w.heap.size,0,rfl,(Array.getElem?_eq_some_iff.1 hb).1,fun hm => by have:=(h.near.low _ hm).2;omega,fun j hj => by
      have e:j = 0:=by simp at hj;omega
      subst e
      exact (Joins.cell_of_block hb 0)⟩) (fun j hj => by simp at hj;omega) (by omega)
  refine hG.mono ?_
  rintro e w' ⟨b,A',S',R',G',m',D',Fm',vr',vg',vd',rfl,h1,h2,h3,h4,h5⟩
  refine ⟨b,A',S',R',G',m',D',Fm',vr',vg',vd',rfl,hsv.near_turned hNV h1 h2 h3,h2.2 0 (.inl (by omega)),⟨h3.os.trans hV.os,h3.tape.trans hV.tape,h3.output.trans hV.output,Nat.le_trans hV.size h3.size,fun b hb hn => (h3.block b (Nat.lt_of_lt_of_le hb hV.size) hn).trans (hV.block b hb),fun b hb => (h3.new b hb).imp id (fun h => Nat.le_trans hV.size h)⟩,fun hb => ?_,fun hb => no_plain hK (h5 hb)⟩
  obtain ⟨q,d,u1,u2,u3,u4,u5,u6,u7,u8,u9,u10⟩:=h4 hb
  have hlt:=(u1.lt (N:=n) (by rw [h.env.pi.len];exact eps_lt hF) (fun j hj => by simp at hj;omega)).1
  exact ⟨q,d,u1,⟨u4,u5,u6,u8,u9,u10,u2,u3,fun j hj => by rw [← h.env.pi.len];exact hlt j hj⟩,u7⟩
end Go.Proofs.YtjdbnoccdefnaaaGreat
namespace Go.Proofs.YtjdbnoccdefnaaaGreat
open Go.RowKit
set_option linter.unusedVariables false
set_option linter.unusedSimpArgs false
variable {N:Nat} {w:World} {sb:Nat} {A:Array Value} {ad:Option Addr} {c n g of:Nat} {l:List In} {kg:Nat} {Fk:List Nat} {nk:Nat} {Kl:List Int} {S:List Int} {R:List Nat} {G:List (Int × Int)} {m:Nat} {D:List Int} {mg:Nat} {Fm:List Nat} {vr vg vd:Value}
  {S2:List Int} {R2:List Nat} {G2:List (Int × Int)} {m2:Nat} {D2:List Int} {mg2:Nat} {Fm2:List Nat} {vr2 vg2 vd2:Value} {vb:Value} {DD:List Int} {k:Int}
def QPost (N:Nat) (w:World) (sb:Nat) (A:Array Value) (ad:Option Addr) (c n g of:Nat) (l:List In) (kg:Nat) (Fk:List Nat) (nk:Nat) (Kl:List Int) (S:List Int) (R:List Nat) (G:List (Int × Int)) (m:Nat) (D:List Int) (mg:Nat) (Fm:List Nat) (vr vg vd:Value)
    (mg2:Nat) (Fm2:List Nat) (vr2 vg2 vd2:Value) (vb:Value) (dd:List Nat) (e:Ending) (w':World):Prop:=
  ∃ b A' S2' R2' G2' m2' D2' Fm2' vr2' vg2' vd2' vb',e = .returned (.bool b) ∧ Sv N w' sb A' ad c n g of l kg Fk nk Kl S R G m D mg Fm vr vg vd S2' R2' G2' m2' D2' mg2 Fm2' vr2' vg2' vd2' vb' (Ix dd) ∧ A'[0]? = A[0]? ∧
    Chg w w' (FC sb Fm2 vr2 vg2 vd2 ++ vb.ownBlock.toList) (FC sb Fm2' vr2' vg2' vd2' ++ vb'.ownBlock.toList) ∧
    (b = true → ∃ q,Us (pd l).eps dd q ∧ Gat l q S2' R2' G2' m2') ∧ (b = false → ∀ q,Us (pd l).eps dd q → ¬ (q.Nodup ∧ (pd l).PL q))
theorem openNear {da:Option Addr} {dn dc:Nat} {dd:List Nat} (hF:∀ I ∈ l,Fit (l.length:Int) k I) (hN:N ≤ w.heap.size) (hD:D = Ix dd) (hdn:dn = D.length)
    (h:Sv N w sb A ad c n g of l kg Fk nk Kl S R G m D mg Fm vr vg (.slice da dn dc) S2 R2 G2 m2 D2 mg2 Fm2 vr2 vg2 vd2 vb DD) (hfar:FarOK l DD S2 R2 G2 m2) (hd0:0 < dn) (hdl:dn ≤ 900000) (hdi:∀ i ∈ dd,i < n) :
    Calls Tryz.prog 74 #[.pointer (some ⟨sb,0,none⟩),.slice da dn dc] w (QPost N w sb A ad c n g of l kg Fk nk Kl S R G m D mg Fm vr vg (.slice da dn dc) mg2 Fm2 vr2 vg2 vd2 vb dd):=by
  have hrd:=h.near.rd
  rw [← hdn,hD] at hrd
  have hO:=open74 (k:=k) (dd:=dd) hF h.env.n2 hN h.far h.env.pi h.env.at_ h.a14 h.rb (fun b hb => (h.d2 b hb).2) hrd (fun b hb => by
    have hm:b ∈ FC sb Fm vr vg (.slice da dn dc):=by
      simp only [List.mem_cons,List.mem_append,Option.mem_toList,Option.mem_def]
      exact .inr (.inr (.inr (.inr hb)))
    exact ⟨h.d1 b hm (h.near.rd_ne b hb),fun e => (h.d2 b e).1 hm⟩) hd0 hdl hdi hfar
  refine hO.mono ?_
  rintro e w' ⟨b,A',S',R',G',m',D',Fm',vr',vg',vd',vb',rfl,h1,h2,h3,h4,h5,h6,h7,h8,h9⟩
  exact ⟨b,A',S',R',G',m',D',Fm',vr',vg',vd',vb',rfl,h.far_turned hN h1 h2 h3 h4 h5 (by simpa [Ix] using h6) h7,h3 0 (by omega),h4,h8,h9⟩
theorem Chg.app {w w':World} {F F':List Nat} (h:Chg w w' F F') (T:List Nat):Chg w w' (F ++ T) (F' ++ T):=
  ⟨h.os,h.tape,h.output,h.size,fun b hb hn => h.block b hb (fun hm => hn (List.mem_append_left _ hm)),fun b hb => by
    rcases List.mem_append.1 hb with hb | hb
    · exact (h.new b hb).imp (fun h => List.mem_append_left _ h) id
    · exact .inl (List.mem_append_right _ hb)⟩
theorem Chg.pre {w w':World} {F F':List Nat} (h:Chg w w' F F') (T:List Nat):Chg w w' (T ++ F) (T ++ F'):=
  ⟨h.os,h.tape,h.output,h.size,fun b hb hn => h.block b hb (fun hm => hn (List.mem_append_right _ hm)),fun b hb => by
    rcases List.mem_append.1 hb with hb | hb
    · exact .inl (List.mem_append_left _ hb)
    · exact (h.new b hb).imp (fun h => List.mem_append_right _ h) id⟩
end Go.Proofs.YtjdbnoccdefnaaaGreat
namespace Go.Proofs.YtjdbnoccdefnaaaGreat
open Go Go.RowKit
set_option linter.unusedVariables false
variable {P:Program} {ops:Array Oper} {Q:Exit → Act → World → Prop} {md:Region.Mode} {S:World → Prop} {L:Nat}
theorem wpAnyX_one {f i:Nat} {o:Oper} {listed:Array Bool} {a:Act} {w:World} (hr:Region.ready md ops listed = [i]) (hi:ops[i]? = some o) (h1:stepX P md ops Q S L f listed i o a w):wpAnyX P md ops Q S L (f + 1) listed a w:=by
  refine ⟨fun h => absurd (hr.symm.trans h) (by simp),fun k hk => ?_⟩
  rw [hr] at hk
  obtain rfl:k = i:=by simpa using hk
  exact stepX_op hi h1
end Go.Proofs.YtjdbnoccdefnaaaGreat
