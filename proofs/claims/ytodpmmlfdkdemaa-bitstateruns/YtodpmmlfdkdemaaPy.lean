/- HELPERS: all threads of a row visited. -/
import Derived.Test.YtodpmmlfdkdemaaPx
namespace Go.Proofs.Ytodpmmlfdkdemaa
open Go.RowKit Go.Lk
set_option linter.unusedVariables false
set_option linter.unusedSimpArgs false
theorem vall_take_succ {A : Nat → Ac} {j f : Nat} {T : List Th} {s : Vst} {x : Nat} (hx : x < T.length) : vall A j f (T.take (x + 1)) s = vis A j f T[x].1 T[x].2 (vall A j f (T.take x) s) := by
  rw [List.take_succ_eq_append_getElem hx, vall_append]
  rfl
/-- what lies aside while a place is visited: the row of threads -/
structure NI (w : World) (N : Nat) (M : Mv) (E1 : List En) (T : List Th) (F : List Nat) : Prop where
  row : RW w N M.K M.z1 M.n1 M.c1 E1
  k1 : M.k1 = T.length
  kl : T.length ≤ E1.length
  el : E1.length ≤ 20000
  th : (E1.take T.length).map En.th = T
  d : ∀ k ∈ RWF M.z1 M.n1 M.c1 E1, k ∉ F
theorem NI.next {w w' : World} {N : Nat} {M M' : Mv} {E1 : List En} {T : List Th} {F F' : List Nat} (h : NI w N M E1 T F) (hc : Chg w w' F F') (hM : M'.core = M.core) : NI w' N M' E1 T F' := by
  have e1 : M'.z1 = M.z1 := by have := congrArg Mv.z1 hM; exact this
  have e2 : M'.n1 = M.n1 := by have := congrArg Mv.n1 hM; exact this
  have e3 : M'.c1 = M.c1 := by have := congrArg Mv.c1 hM; exact this
  have e4 : M'.k1 = M.k1 := by have := congrArg Mv.k1 hM; exact this
  have e5 := core_K hM
  refine ⟨?_, by rw [e4]; exact h.k1, h.kl, h.el, h.th, ?_⟩
  · rw [e1, e2, e3, e5]
    exact h.row.kept (fun k hk => hc.block k (h.row.low k hk).2 (h.d k hk))
  · rw [e1, e2, e3]
    exact hc.away (fun k hk => (h.row.low k hk).2) h.d
theorem NI.get {w : World} {N : Nat} {M : Mv} {E1 : List En} {T : List Th} {F : List Nat} (h : NI w N M E1 T F) {x : Nat} (hx : x < T.length) : ∃ zb eb, M.z1 = some ⟨zb, 0, none⟩ ∧ zb < w.heap.size ∧ w.cell? ⟨zb, x * 2, none⟩ = some (.int .i64 (T[x].1 : Int)) ∧ w.cell? ⟨zb, x * 2 + 1, none⟩ = some (.slice (some ⟨eb, 0, none⟩) M.K M.K) ∧ w.ownsRow N 3 1 (.slice (some ⟨eb, 0, none⟩) M.K M.K) M.K (I64 T[x].2) ∧ eb ∉ F := by
  have hx1 : x < E1.length := by have := h.kl; omega
  have hlen := h.row.len
  obtain ⟨zb, hz⟩ : ∃ zb, M.z1 = some ⟨zb, 0, none⟩ := by
    rcases h.row.row.2 with ⟨_, e⟩ | ⟨g, cap, cur, e, _⟩
    · omega
    · simp only [Value.slice.injEq] at e; exact ⟨g, e.1⟩
  have hrz := h.row.row
  rw [hz] at hrz
  have k0 := (hrz.cellAt (x * 2) (by omega)).trans (by simpa using cellsE_get M.K E1 x hx1 0 (by omega))
  have k1 := (hrz.cellAt (x * 2 + 1) (by omega)).trans (cellsE_get M.K E1 x hx1 1 (by omega))
  simp only [En.cs, List.getElem?_cons_zero, List.getElem?_cons_succ] at k0 k1
  have ht : T[x] = E1[x].th := by
    have h2 := h.th
    have h3 : T[x]? = ((E1.take T.length).map En.th)[x]? := by rw [h2]
    rw [List.getElem?_eq_getElem hx] at h3
    simpa [hx, hx1] using h3
  rw [ht]
  have hmem : E1[x] ∈ E1 := List.getElem_mem hx1
  exact ⟨zb, E1[x].b, hz, (hrz.lt zb rfl).2, k0, k1, h.row.caps _ hmem, h.d _ (by simp only [RWF, List.mem_append, List.mem_map]; exact .inr ⟨_, hmem, rfl⟩)⟩
set_option maxRecDepth 100000 in
set_option maxHeartbeats 4000000 in
theorem each33 {K N b : Nat} {l : List In} {tx : List Int} {S : Int} {w : World} {M : Mv} {s : Vst} {E E1 : List En} {sF fb : List Nat} {T : List Th} (hmay : mayB l S (K : Int) = true) (h : VI w N b l tx M s E sF fb) (hK : M.K = K) (ho : s.over = false) (hi : Inv l.length K s) (hn : NI w N M E1 T (VF b M E sF fb)) (hT : ∀ t ∈ T, t.1 < l.length ∧ t.2.length = K) :
    Calls Try.prog 35 #[.pointer (some ⟨b, 7, none⟩), .func (.func 33) #[.pointer (some ⟨b, 0, none⟩)] #[]] w (VP N b l tx w M E sF fb (vall (act l tx M.j) M.j (l.length + 1) T s)) := by
  have hkT := hn.k1
  have hkl := hn.kl
  have hel := hn.el
  have hlen := hn.row.len
  have hc1 : M.n1 ≤ M.c1 := by
    obtain ⟨_, _, e, h1, _⟩ := row_shape hn.row.row
    simp only [Value.slice.injEq] at e
    obtain ⟨_, _, rfl⟩ := e
    exact h1
  have c7 := h.mb.c 7
  have c8 := h.mb.c 8
  simp at c7 c8
  rw [hkT] at c8
  have HV := hid h
  have HN := hid hn
  have HOV := hid ho
  have HIV := hid hi
  have HTT := hid hT
  have HK := hid hK
  have HAI : Hid (∀ k, k < l.length → (act l tx M.j k).ok l.length) := fun k hk => act_ok hmay M.j k hk
  have HVIS := hid (visit31 (N := N) (b := b) (tx := tx) hmay (l.length + 1))
  have i1 : (T.length : Int) ≤ (M.c1 : Int) := by omega
  have i0 : (0 : Int) ≤ (T.length : Int) := by omega
  generalize hsv : vall (act l tx M.j) M.j (l.length + 1) T s = sv
  have HSV := hid hsv
  clear h hn ho hi hT hsv hkT hK
  obtain ⟨z1, hz1⟩ : ∃ z1, z1 = M.z1 := ⟨_, rfl⟩
  rw [← hz1] at c7
  have HZ1 := hid hz1
  clear hz1
  obtain ⟨nt, hnt⟩ : ∃ nt, nt = T.length := ⟨_, rfl⟩
  rw [← hnt] at c8 i1 i0 hkl
  have HNT := hid hnt
  have hnt20 : nt ≤ 20000 := by omega
  clear hnt hlen hel
  go_enter Try.func35, Try.ntmps35
  go_upto_region 1 with fail
  go_quiet (fail)
  obtain ⟨W0, hW0⟩ : ∃ W0, W0 = w.drewN nq := ⟨_, rfl⟩
  rw [← hW0]
  have e0 : Hid (Eqw w W0) := by rw [hW0]; exact Eqw.drewN w nq
  clear hW0 c7 c8 i1 i0
  go_wp2_with fail
  go_loopw [17] (fun y wq => ∃ x : Nat, y = .int .i64 (x : Int) ∧ x ≤ nt ∧ Hid (∃ Mq Eq sFq fbq, VI wq N b l tx Mq (vall (act l tx M.j) M.j (l.length + 1) (T.take x) s) Eq sFq fbq ∧ Mq.core = M.core ∧ Chg w wq (VF b M E sF fb) (VF b Mq Eq sFq fbq)) ∧ Hid ((vall (act l tx M.j) M.j (l.length + 1) (T.take x) s).over = false)) (fun y _ => nt - (intOf y).toNat)
  case atStart => exact ⟨0, rfl, by omega, by exact ⟨M, E, sF, fb, HV.out.kept (e0.out.below N) (fun k _ => e0.out.blk k), rfl, e0.out.chg (Chg.refl _ _)⟩, HOV.out⟩
  case round =>
    obtain ⟨x, rfl, hx, HQ, HO⟩ := hrel
    obtain ⟨Mq, Eq, sFq, fbq, hvq, hMq, hcq⟩ := HQ.out
    by_cases hxl : x < nt
    · have b1 : decide ((x : Int) < (nt : Int)) = true := by simp; omega
      have b2 : (x : Int) < (nt : Int) := by omega
      have a1 : IntKind.i64.wrap ((x : Int) + 1) = (x : Int) + 1 := by rw [wrap_ok _ (by omega) (by omega)]
      have hxT : x < T.length := by have := HNT.out; omega
      have hnq := HN.out.next hcq hMq
      obtain ⟨zb, eb, hz, hzl, k0, k1, hcap, hebn⟩ := hnq.get hxT
      have hKq := (core_K hMq).trans HK.out
      have hjq := core_j hMq
      rw [hKq] at k1 hcap
      have hzz : z1 = some ⟨zb, 0, none⟩ := by
        have e1 : Mq.z1 = M.z1 := by have := congrArg Mv.z1 hMq; exact this
        rw [HZ1.out, ← e1]; exact hz
      subst hzz
      have htx := HTT.out T[x] (List.getElem_mem hxT)
      have hinv : Inv l.length K (vall (act l tx M.j) M.j (l.length + 1) (T.take x) s) := vall_inv HAI.out _ _ (fun t ht => HTT.out t (List.mem_of_mem_take ht)) HIV.out
      have hsucc : vall (act l tx M.j) M.j (l.length + 1) (T.take (x + 1)) s = vis (act l tx M.j) M.j (l.length + 1) T[x].1 T[x].2 (vall (act l tx M.j) M.j (l.length + 1) (T.take x) s) := vall_take_succ hxT
      have hgrow : vall (act l tx M.j) M.j (l.length + 1) T s = vall (act l tx M.j) M.j (l.length + 1) (T.drop (x + 1)) (vall (act l tx M.j) M.j (l.length + 1) (T.take (x + 1)) s) := by rw [← vall_append, List.take_append_drop]
      rw [HSV.out] at hgrow
      have HGW := hid hgrow
      generalize hsx : vall (act l tx M.j) M.j (l.length + 1) (T.take x) s = sx at hvq HO hinv hsucc
      generalize hs1 : vall (act l tx M.j) M.j (l.length + 1) (T.take (x + 1)) s = s1 at hsucc HGW ⊢
      obtain ⟨V, hV⟩ : ∃ V, V = wr.alloc (.cells #[.int .i64 (T[x].1 : Int), .slice (some ⟨eb, 0, none⟩) K K] 110) := ⟨_, rfl⟩
      have hbV : Below wr.heap.size wr V := by rw [hV]; exact Joins.below_alloc1 wr _
      have hvV : VI V N b l tx Mq sx Eq sFq fbq := hvq.kept (hbV.mono hvq.nw) (fun k hk => hbV.block k (hvq.low k hk).2)
      have hcV : Chg w V (VF b M E sF fb) (VF b Mq Eq sFq fbq) := hcq.trans (Chg.of_below hbV)
      have hVC : VC K N b l tx V Mq sx Eq sFq fbq T[x].1 T[x].2 eb K := ⟨hvV, hKq, HO.out, hinv, htx.1, row_kept hcap (fun k hk => hbV.block k (hcap.lt k hk).2), hebn⟩
      have HI := HVIS.out T[x].1 T[x].2 sx V Mq Eq sFq fbq eb K hVC (by omega)
      rw [hjq, ← hsucc] at HI
      rw [hV] at HI hcV
      have HCV := hid hcV
      have HMQ := hid hMq
      generalize hti : T[x].1 = ti at HI k0 HCV
      have HS1 := hid hs1
      clear hsx hs1 hsucc hgrow hvq hcq hnq hcap hebn hvV hcV hVC hinv HQ HO hjq hKq htx hz hMq hV hbV hti
      cases ho1 : s1.over
      · have HO1 := hid ho1
        clear ho1
        go_wp2_with (go_at_call 33; (with_reducible refine HI.mono ?_); rintro e w3 ⟨he, M', E', sF', fb', hv', hM', hc'⟩; rw [HO1.out] at he; subst he; have HV2 := hid hv'; have HM2 := hid hM'; have HC2 := hid hc'; clear hv' hM' hc' HI)
        refine ⟨⟨x + 1, by push_cast; rfl, by omega, ?_, ?_⟩, by simp [intOf]; omega⟩
        · show ∃ Mq Eq sFq fbq, _
          rw [HS1.out]
          exact ⟨M', E', sF', fb', HV2.out, HM2.out.trans HMQ.out, HCV.out.trans HC2.out⟩
        · show _ = _
          rw [HS1.out]
          exact HO1.out
      · have HO1 := hid ho1
        have hsv : sv = s1 := by rw [HGW.out, vall_over _ HO1.out]
        subst hsv
        clear ho1
        go_wp2_with (go_at_call 33; (with_reducible refine HI.mono ?_); rintro e w3 ⟨he, M', E', sF', fb', hv', hM', hc'⟩; rw [HO1.out] at he; subst he; have HV2 := hid hv'; have HM2 := hid hM'; have HC2 := hid hc'; clear hv' hM' hc' HI)
        go_ret
        exact ⟨ret_bool (by rw [HO1.out]; rfl), M', E', sF', fb', HV2.out, HM2.out.trans HMQ.out, HCV.out.trans HC2.out⟩
    · have b1 : decide ((x : Int) < (nt : Int)) = false := by simp; omega
      have hxe : x = T.length := by have := HNT.out; omega
      have htk : T.take x = T := by rw [hxe]; exact List.take_length
      rw [htk, HSV.out] at hvq HO
      have HVQ := hid hvq
      have HMQ := hid hMq
      have HCQ := hid hcq
      clear hvq hMq hcq HQ htk hxe
      go_wp2
      go_ret
      exact ⟨ret_bool (by rw [HO.out]; rfl), Mq, Eq, sFq, fbq, HVQ.out, HMQ.out, HCQ.out⟩
end Go.Proofs.Ytodpmmlfdkdemaa
