/- HELPERS: the machine from place to place. -/
import Derived.Test.YtodpmmlfdkdemaaPy
namespace Go.Proofs.Ytodpmmlfdkdemaa
open Go.RowKit Go.Lk
set_option linter.unusedVariables false
set_option linter.unusedSimpArgs false
/-- the machine between two places -/
structure GI (w : World) (N b K : Nat) (l : List In) (tx : List Int) (M : Mv) (T : List Th) (fd : Fd) (E1 E2 : List En) (sF fb : List Nat) : Prop where
  mb : MB w b M
  nb : N ≤ b
  nw : N ≤ w.heap.size
  pi : PI w N M.ad M.n l
  tt : TextAt N w M.tad M.tn tx
  hj : M.j ≤ M.tn
  hK : M.K = K
  set : ∃ m, SetS N w M.sb sF l.length m
  now : RW w N K M.z1 M.n1 M.c1 E1
  k1 : M.k1 = T.length
  kl : T.length ≤ E1.length
  el : E1.length ≤ 20000
  th : (E1.take T.length).map En.th = T
  nxt : RW w N K M.z2 M.n2 M.c2 E2
  e2 : E2.length ≤ 20000
  fd : FD w N K M fb fd
  un : w.ownsRow N 3 1 (.slice (some ⟨M.ub, 0, none⟩) K M.uc) K (I64 (List.replicate K (-1)))
  x1 : ∀ k ∈ sF, k ≠ b ∧ k ∉ RWF M.z2 M.n2 M.c2 E2 ∧ k ∉ fb ∧ k ∉ RWF M.z1 M.n1 M.c1 E1 ∧ k ≠ M.ub
  x2 : ∀ k ∈ fb, k ≠ b ∧ k ∉ RWF M.z2 M.n2 M.c2 E2 ∧ k ∉ RWF M.z1 M.n1 M.c1 E1 ∧ k ≠ M.ub
  x3 : ∀ k ∈ RWF M.z1 M.n1 M.c1 E1, k ∉ RWF M.z2 M.n2 M.c2 E2 ∧ k ≠ M.ub
  x4 : M.ub ∉ RWF M.z2 M.n2 M.c2 E2
theorem rw_ne {w : World} {N K n c b : Nat} {z : Option Addr} {E : List En} {M : Mv} (h : RW w N K z n c E) (hm : MB w b M) : ∀ k ∈ RWF z n c E, k ≠ b := by
  intro k hk e
  subst e
  simp only [RWF, zF, List.mem_append, Option.mem_toList, List.mem_map] at hk
  rcases hk with h' | ⟨e, he, h'⟩
  · exact own_ne h.row hm (by decide) h'
  · exact own_ne (h.caps e he) hm (by decide) (by rw [← h']; rfl)
/-- a place is entered -/
structure EI (w : World) (N b K : Nat) (l : List In) (tx : List Int) (M : Mv) (T : List Th) (s : Vst) (E1 E2 : List En) (sF fb : List Nat) : Prop where
  vi : VI w N b l tx M s E2 sF fb
  hK : M.K = K
  ni : NI w N M E1 T (VF b M E2 sF fb)
  un : w.ownsRow N 3 1 (.slice (some ⟨M.ub, 0, none⟩) K M.uc) K (I64 (List.replicate K (-1)))
  ux : M.ub ∉ VF b M E2 sF fb
  u1 : M.ub ∉ RWF M.z1 M.n1 M.c1 E1
theorem EI.next {w w' : World} {N b K : Nat} {l : List In} {tx : List Int} {M M' : Mv} {T : List Th} {s s' : Vst} {E1 E2 E2' : List En} {sF fb sF' fb' : List Nat} (h : EI w N b K l tx M T s E1 E2 sF fb) (hv : VI w' N b l tx M' s' E2' sF' fb') (hM : M'.core = M.core) (hc : Chg w w' (VF b M E2 sF fb) (VF b M' E2' sF' fb')) : EI w' N b K l tx M' T s' E1 E2' sF' fb' := by
  have e1 : M'.ub = M.ub := by have := congrArg Mv.ub hM; exact this
  have e2 : M'.uc = M.uc := by have := congrArg Mv.uc hM; exact this
  have e3 : M'.z1 = M.z1 := by have := congrArg Mv.z1 hM; exact this
  have e4 : M'.n1 = M.n1 := by have := congrArg Mv.n1 hM; exact this
  have e5 : M'.c1 = M.c1 := by have := congrArg Mv.c1 hM; exact this
  have hul := (h.un.lt M.ub rfl).2
  refine ⟨hv, (core_K hM).trans h.hK, h.ni.next hc hM, ?_, ?_, ?_⟩
  · rw [e1, e2]
    exact row_kept h.un (fun k hk => by simp [Value.ownBlock] at hk; subst hk; exact hc.block _ hul h.ux)
  · rw [e1]
    intro hm
    rcases hc.new _ hm with h' | h'
    · exact h.ux h'
    · omega
  · rw [e1, e3, e4, e5]; exact h.u1
set_option maxRecDepth 100000 in
set_option maxHeartbeats 4000000 in
theorem enter32 {w : World} {N b K : Nat} {l : List In} {tx : List Int} {M : Mv} {T : List Th} {fd : Fd} {E1 E2 : List En} {sF fb : List Nat} (h : GI w N b K l tx M T fd E1 E2 sF fb) :
    Calls Try.prog 34 #[.pointer (some ⟨b, 0, none⟩)] w fun e w' => e = .returned (.tuple #[]) ∧ EI w' N b K l tx { M with bits := 0, k2 := 0 } T (newV fd) E1 E2 sF fb ∧ Below N w w' := by
  obtain ⟨m, hset⟩ := h.set
  have HC := clear16 N M.sb sF l.length m w hset
  have c5 := h.mb.c 5
  simp at c5
  have HH := hid h
  have HS := hid hset
  clear h hset
  generalize hMN : ({ M with bits := 0, k2 := 0 } : Mv) = MN
  have HMN := hid hMN
  clear hMN
  generalize hsb : M.sb = sb at c5 HC
  have HSB := hid hsb
  clear hsb
  go_enter Try.func34, Try.ntmps34
  go_upto_region 2 with (go_at_call 64; (with_reducible refine HC.mono ?_); rintro e w2 ⟨rfl, hs2, hc2⟩; have hm2 := HH.out.mb.kept (hc2.block b HH.out.mb.lt (fun hm => (HH.out.x1 b hm).1 rfl)); have d6 := hm2.c 6; have u6 := hm2.u 6; simp at d6; have HM2 := hid hm2; have HS2 := hid hs2; have HC2 := hid hc2; clear hm2 hs2 hc2 HC c5)
  have hm3 := HM2.out.upd 6 (.int .i64 0) { M with bits := 0 } rfl
  have HD := drop51 b (w2.setCell ⟨b, 6, none⟩ (.int .i64 0)) (by rw [hm3.c 10]; rfl) (hm3.u 10)
  have hm4 := hm3.upd 10 (.int .i64 0) { M with bits := 0, k2 := 0 } rfl
  have HM4 := hid hm4
  clear hm3 hm4
  go_wp2_with (go_at_call 65; (with_reducible refine HD.mono ?_); rintro e w3 ⟨rfl, hw3⟩; have HW3 := hid hw3; clear hw3 HD)
  go_end0
  have h0 := HH.out
  have hw3 := HW3.out
  have hMN := HMN.out
  subst hMN
  have hne : ∀ k, k ≠ b → w3.heap[k]? = w2.heap[k]? := fun k hk => by rw [hw3]; exact (Below.heap_setCell _ _ _ _ hk).trans (Below.heap_setCell _ _ _ _ hk)
  have hch : Chg w w3 (b :: sF) (b :: sF) := by
    rw [hw3]
    exact ((HC2.out.wide (fun k hk => by simp [hk]) (fun k hk => .inr hk)).set (a := ⟨b, 6, none⟩) _ (by simp)).set (a := ⟨b, 10, none⟩) _ (by simp)
  obtain ⟨m', hset'⟩ := h0.set
  have hbel : Below N w w3 := hch.below h0.nw (fun k hk => by
    simp at hk
    rcases hk with rfl | hk
    · exact h0.nb
    · exact (hset'.low k hk).1)
  have hold : ∀ k, k < w.heap.size → k ≠ b → k ∉ sF → w3.heap[k]? = w.heap[k]? := fun k hk h1 h2 => hch.block k hk (by simp [h1, h2])
  have hset3 : SetS N w3 M.sb sF l.length [] := by
    rw [HSB.out]
    exact HS2.out.kept (fun k hk => hne k (h0.x1 k hk).1)
  have hr2 := rw_ne h0.nxt h0.mb
  have hr1 := rw_ne h0.now h0.mb
  have hub : M.ub ≠ b := fun e => own_ne h0.un h0.mb (by decide) (by rw [e]; rfl)
  have hubl := (h0.un.lt M.ub rfl).2
  have hfk : FD w3 N K { M with bits := 0, k2 := 0 } fb fd := by
    have := h0.fd.kept (w' := w3) (fun k hk => hold k (h0.fd.low k hk).2 (h0.x2 k hk).1 (fun hm => (h0.x1 k hm).2.2.1 hk))
    cases fd with
    | none => exact this
    | some y => exact this
  have hnx : RW w3 N K M.z2 M.n2 M.c2 E2 := h0.nxt.kept (fun k hk => hold k (h0.nxt.low k hk).2 (hr2 k hk) (fun hm => (h0.x1 k hm).2.1 hk))
  have hnw : RW w3 N K M.z1 M.n1 M.c1 E1 := h0.now.kept (fun k hk => hold k (h0.now.low k hk).2 (hr1 k hk) (fun hm => (h0.x1 k hm).2.2.2.1 hk))
  refine ⟨rfl, ⟨⟨?_, h0.nb, Nat.le_trans h0.nw hbel.size, h0.pi.kept hbel (Nat.le_refl _), h0.tt.below hbel, h0.hj, hset3, ?_, rfl, by simp [newV], h0.e2, by simp [newV], ?_, .inl rfl, fun k hk => ⟨(h0.x1 k hk).1, (h0.x1 k hk).2.1, (h0.x1 k hk).2.2.1⟩, fun k hk => ⟨(h0.x2 k hk).1, (h0.x2 k hk).2.1⟩⟩, h0.hK, ⟨?_, h0.k1, h0.kl, h0.el, h0.th, fun k hk hm => ?_⟩, ?_, ?_, fun hm => (h0.x3 _ hm).2 rfl⟩, hbel⟩
  · rw [hw3]; exact HM4.out
  · show RW w3 N M.K M.z2 M.n2 M.c2 E2
    rw [h0.hK]; exact hnx
  · show FD w3 N M.K _ fb fd
    rw [h0.hK]; exact hfk
  · show RW w3 N M.K M.z1 M.n1 M.c1 E1
    rw [h0.hK]; exact hnw
  · simp only [VF, List.mem_cons, List.mem_append] at hm
    rcases hm with hm | hm | hm | hm
    · exact hr1 k hk hm
    · exact (h0.x1 k hm).2.2.2.1 hk
    · exact (h0.x3 k hk).1 hm
    · exact (h0.x2 k hm).2.2.1 hk
  · exact row_kept h0.un (fun k hk => by simp [Value.ownBlock] at hk; subst hk; exact hold _ hubl hub (fun hm => (h0.x1 _ hm).2.2.2.2 rfl))
  · simp only [VF, List.mem_cons, List.mem_append]
    rintro (hm | hm | hm | hm)
    · exact hub hm
    · exact (h0.x1 _ hm).2.2.2.2 rfl
    · exact h0.x4 hm
    · exact (h0.x2 _ hm).2.2.2 rfl
end Go.Proofs.Ytodpmmlfdkdemaa
