/- HELPERS: what a visit finds in memory. -/
import Derived.Test.YtodpmmlfdkdemaaPf
namespace Go.Proofs.Ytodpmmlfdkdemaa
open Go.RowKit Go.Lk
set_option linter.unusedVariables false
set_option linter.unusedSimpArgs false
theorem Chg.wide {w w' : World} {F F' G G' : List Nat} (h : Chg w w' F F') (h1 : ∀ k ∈ F, k ∈ G) (h2 : ∀ k ∈ G', k ∈ F' ∨ k ∈ G) : Chg w w' G G' :=
  ⟨h.os, h.tape, h.output, h.size, fun k hk hn => h.block k hk (fun hm => hn (h1 k hm)), fun k hk => by
    rcases h2 k hk with h' | h'
    · exact (h.new k h').imp (h1 k) id
    · exact .inl h'⟩
def ints (l : List Nat) : List Int := l.map fun (k : Nat) => (k : Int)
theorem mem_ints {l : List Nat} {i : Nat} : (i : Int) ∈ ints l ↔ i ∈ l := by
  unfold ints
  rw [List.mem_map]
  constructor
  · rintro ⟨a, ha, e⟩
    have : a = i := by omega
    exact this ▸ ha
  · exact fun h => ⟨i, h, rfl⟩
theorem ints_snoc (l : List Nat) (i : Nat) : ints (l ++ [i]) = ints l ++ [(i : Int)] := by simp [ints]
theorem ints_len (l : List Nat) : (ints l).length = l.length := by simp [ints]
/-- the blocks that a visit may write to -/
def VF (b : Nat) (M : Mv) (E : List En) (sF fb : List Nat) : List Nat := b :: (sF ++ (RWF M.z2 M.n2 M.c2 E ++ fb))
/-- the machine while a place is visited -/
structure VI (w : World) (N b : Nat) (l : List In) (tx : List Int) (M : Mv) (s : Vst) (E : List En) (sF fb : List Nat) : Prop where
  mb : MB w b M
  nb : N ≤ b
  nw : N ≤ w.heap.size
  pi : PI w N M.ad M.n l
  tt : TextAt N w M.tad M.tn tx
  hj : M.j ≤ M.tn
  set : SetS N w M.sb sF l.length (ints s.met)
  row : RW w N M.K M.z2 M.n2 M.c2 E
  k2 : M.k2 = s.next.length
  kl : s.next.length ≤ E.length
  el : E.length ≤ 20000
  nx : (E.take s.next.length).map En.th = s.next
  fd : FD w N M.K M fb s.found
  bt : M.bits = 0 ∨ M.bits = atP tx M.j
  d1 : ∀ k ∈ sF, k ≠ b ∧ k ∉ RWF M.z2 M.n2 M.c2 E ∧ k ∉ fb
  d2 : ∀ k ∈ fb, k ≠ b ∧ k ∉ RWF M.z2 M.n2 M.c2 E
theorem FD.kept {w w' : World} {N K : Nat} {M : Mv} {fb : List Nat} {fd : Fd} (h : FD w N K M fb fd) (hk : ∀ k ∈ fb, w'.heap[k]? = w.heap[k]?) : FD w' N K M fb fd := by
  cases fd with
  | none => exact h
  | some y =>
    obtain ⟨g, h1, h2, h3, h4, h5, h6, h7⟩ := h
    exact ⟨g, h1, h2, h3, h4, h5, h6, row_kept h7 (fun k hk' => hk k (by simp [Value.ownBlock] at hk'; subst hk'; simp [h6]))⟩
theorem FD.low {w : World} {N K : Nat} {M : Mv} {fb : List Nat} {fd : Fd} (h : FD w N K M fb fd) : ∀ k ∈ fb, N ≤ k ∧ k < w.heap.size := by
  cases fd with
  | none => obtain ⟨_, _, _, _, _, h⟩ := h; rw [h]; simp
  | some y =>
    obtain ⟨g, h1, h2, h3, h4, h5, h6, h7⟩ := h
    rw [h6]
    intro k hk
    simp at hk
    subst hk
    exact h7.lt _ rfl
theorem FD.ok {w : World} {N K : Nat} {M : Mv} {fb : List Nat} {fd : Fd} (h : FD w N K M fb fd) : M.fok = fd.isSome := by
  cases fd with
  | none => exact h.1
  | some y => obtain ⟨g, h1, _⟩ := h; exact h1
section
variable {w w' : World} {N b : Nat} {l : List In} {tx : List Int} {M : Mv} {s : Vst} {E : List En} {sF fb : List Nat}
theorem VI.low (h : VI w N b l tx M s E sF fb) : ∀ k ∈ VF b M E sF fb, N ≤ k ∧ k < w.heap.size := by
  intro k hk
  simp only [VF, List.mem_cons, List.mem_append] at hk
  rcases hk with rfl | hk | hk | hk
  · exact ⟨h.nb, h.mb.lt⟩
  · exact h.set.low k hk
  · exact h.row.low k hk
  · exact h.fd.low k hk
theorem VI.rb (h : VI w N b l tx M s E sF fb) : b ∉ RWF M.z2 M.n2 M.c2 E := by
  simp only [RWF, zF, List.mem_append, Option.mem_toList, List.mem_map]
  rintro (h' | ⟨e, he, h'⟩)
  · exact own_ne h.row.row h.mb (by decide) h'
  · exact own_ne (h.row.caps e he) h.mb (by decide) (by rw [← h']; rfl)
theorem VI.kept (h : VI w N b l tx M s E sF fb) (hb : Below N w w') (hk : ∀ k ∈ VF b M E sF fb, w'.heap[k]? = w.heap[k]?) : VI w' N b l tx M s E sF fb :=
  ⟨h.mb.kept (hk b (by simp [VF])), h.nb, Nat.le_trans h.nw hb.size, h.pi.kept hb (Nat.le_refl _), h.tt.below hb, h.hj, h.set.kept (fun k hk' => hk k (by simp [VF, hk'])), h.row.kept (fun k hk' => hk k (by simp [VF, hk'])), h.k2, h.kl, h.el, h.nx, h.fd.kept (fun k hk' => hk k (by simp [VF, hk'])), h.bt, h.d1, h.d2⟩
/-- an instruction is met -/
theorem VI.add (h : VI w N b l tx M s E sF fb) {sF' : List Nat} {i : Nat} (hs : SetS N w' M.sb sF' l.length (ints s.met ++ [(i : Int)])) (hc : Chg w w' sF sF') : VI w' N b l tx M (s.mark i) E sF' fb ∧ Chg w w' (VF b M E sF fb) (VF b M E sF' fb) := by
  have hlow := h.low
  have hbel : Below N w w' := hc.below h.nw (fun k hk => (h.set.low k hk).1)
  have hne : ∀ k, k < w.heap.size → k ∉ sF → w'.heap[k]? = w.heap[k]? := hc.block
  refine ⟨⟨h.mb.kept (hne b h.mb.lt (fun hm => (h.d1 b hm).1 rfl)), h.nb, Nat.le_trans h.nw hbel.size, h.pi.kept hbel (Nat.le_refl _), h.tt.below hbel, h.hj, ?_, h.row.kept (fun k hk => hne k (h.row.low k hk).2 (fun hm => (h.d1 k hm).2.1 hk)), h.k2, h.kl, h.el, h.nx, h.fd.kept (fun k hk => hne k (h.fd.low k hk).2 (fun hm => (h.d1 k hm).2.2 hk)), h.bt, fun k hk => ?_, h.d2⟩, hc.wide (fun k hk => by simp [VF, hk]) (fun k hk => ?_)⟩
  · simp only [Vst.mark, ints_snoc]; exact hs
  · rcases hc.new k hk with h' | h'
    · exact h.d1 k h'
    · exact ⟨fun e => by have := h.mb.lt; omega, fun e => by have := (h.row.low k e).2; omega, fun e => by have := (h.fd.low k e).2; omega⟩
  · simp only [VF, List.mem_cons, List.mem_append] at hk ⊢
    rcases hk with hk | hk | hk | hk
    · exact .inr (.inl hk)
    · exact .inl hk
    · exact .inr (.inr (.inr (.inl hk)))
    · exact .inr (.inr (.inr (.inr hk)))
/-- nothing but the set has turned, and it is as it was -/
theorem VI.again (h : VI w N b l tx M s E sF fb) (hs : SetS N w' M.sb sF l.length (ints s.met)) (hc : Chg w w' sF sF) : VI w' N b l tx M s E sF fb ∧ Chg w w' (VF b M E sF fb) (VF b M E sF fb) := by
  have hbel : Below N w w' := hc.below h.nw (fun k hk => (h.set.low k hk).1)
  have hne : ∀ k, k < w.heap.size → k ∉ sF → w'.heap[k]? = w.heap[k]? := hc.block
  exact ⟨⟨h.mb.kept (hne b h.mb.lt (fun hm => (h.d1 b hm).1 rfl)), h.nb, Nat.le_trans h.nw hbel.size, h.pi.kept hbel (Nat.le_refl _), h.tt.below hbel, h.hj, hs, h.row.kept (fun k hk => hne k (h.row.low k hk).2 (fun hm => (h.d1 k hm).2.1 hk)), h.k2, h.kl, h.el, h.nx, h.fd.kept (fun k hk => hne k (h.fd.low k hk).2 (fun hm => (h.d1 k hm).2.2 hk)), h.bt, h.d1, h.d2⟩, hc.wide (fun k hk => by simp [VF, hk]) (fun k hk => .inr hk)⟩
/-- the bits are there now -/
theorem VI.bits (h : VI w N b l tx M s E sF fb) (hm : MB w' b { M with bits := atP tx M.j }) (hc : Chg w w' [b] [b]) : VI w' N b l tx { M with bits := atP tx M.j } s E sF fb ∧ Chg w w' (VF b M E sF fb) (VF b { M with bits := atP tx M.j } E sF fb) := by
  have hbel : Below N w w' := hc.below h.nw (fun k hk => by simp at hk; subst hk; exact h.nb)
  have hne : ∀ k, k < w.heap.size → k ≠ b → w'.heap[k]? = w.heap[k]? := fun k hk hn => hc.block k hk (by simpa using hn)
  refine ⟨⟨hm, h.nb, Nat.le_trans h.nw hbel.size, h.pi.kept hbel (Nat.le_refl _), h.tt.below hbel, h.hj, h.set.kept (fun k hk => hne k (h.set.low k hk).2 (h.d1 k hk).1), h.row.kept (fun k hk => hne k (h.row.low k hk).2 (fun e => h.rb (e ▸ hk))), h.k2, h.kl, h.el, h.nx, ?_, .inr rfl, h.d1, h.d2⟩, hc.wide (fun k hk => by simp at hk; simp [VF, hk]) (fun k hk => .inr hk)⟩
  have := h.fd.kept (w' := w') (fun k hk => hne k (h.fd.low k hk).2 (h.d2 k hk).1)
  cases hfd : s.found with
  | none => rw [hfd] at this; exact this
  | some y => rw [hfd] at this; exact this
/-- a thread was put -/
theorem VI.put (h : VI w N b l tx M s E sF fb) {y1 : Option Addr} {y2 y3 : Nat} {E' : List En} {x : Nat} {c : List Int} (g1 : M.k2 + 1 ≤ E'.length) (g2 : E'.length ≤ 20000) (g3 : (E'.take (M.k2 + 1)).map En.th = (E.take M.k2).map En.th ++ [(x, c)])
    (hm : MB w' b { M with z2 := y1, n2 := y2, c2 := y3, k2 := M.k2 + 1 }) (hr : RW w' N M.K y1 y2 y3 E') (hc : Chg w w' (b :: RWF M.z2 M.n2 M.c2 E) (b :: RWF y1 y2 y3 E')) :
    VI w' N b l tx { M with z2 := y1, n2 := y2, c2 := y3, k2 := M.k2 + 1 } { s with next := s.next ++ [(x, c)] } E' sF fb ∧ Chg w w' (VF b M E sF fb) (VF b { M with z2 := y1, n2 := y2, c2 := y3, k2 := M.k2 + 1 } E' sF fb) := by
  have hbel : Below N w w' := hc.below h.nw (fun k hk => by
    simp only [List.mem_cons] at hk
    rcases hk with rfl | hk
    · exact h.nb
    · exact (h.row.low k hk).1)
  have hne : ∀ k, k < w.heap.size → k ≠ b → k ∉ RWF M.z2 M.n2 M.c2 E → w'.heap[k]? = w.heap[k]? := fun k hk hn hn2 => hc.block k hk (by simp [hn, hn2])
  have hk2 := h.k2
  have haway : ∀ k, k < w.heap.size → k ≠ b → k ∉ RWF M.z2 M.n2 M.c2 E → k ∉ RWF y1 y2 y3 E' := fun k hk hn hn2 hm' => by
    rcases hc.new k (by simp [hm']) with h' | h'
    · simp at h'; rcases h' with h' | h'
      · exact hn h'
      · exact hn2 h'
    · omega
  refine ⟨⟨hm, h.nb, Nat.le_trans h.nw hbel.size, h.pi.kept hbel (Nat.le_refl _), h.tt.below hbel, h.hj, h.set.kept (fun k hk => hne k (h.set.low k hk).2 (h.d1 k hk).1 (h.d1 k hk).2.1), hr, by simp [hk2], by simp; omega, g2, ?_, ?_, h.bt, fun k hk => ⟨(h.d1 k hk).1, haway k (h.set.low k hk).2 (h.d1 k hk).1 (h.d1 k hk).2.1, (h.d1 k hk).2.2⟩, fun k hk => ⟨(h.d2 k hk).1, haway k (h.fd.low k hk).2 (h.d2 k hk).1 (h.d2 k hk).2⟩⟩, hc.wide (fun k hk => ?_) (fun k hk => ?_)⟩
  · simp only [List.length_append, List.length_singleton]
    rw [← hk2, g3, hk2, h.nx]
  · have := h.fd.kept (w' := w') (fun k hk => hne k (h.fd.low k hk).2 (h.d2 k hk).1 (h.d2 k hk).2)
    cases hfd : s.found with
    | none => rw [hfd] at this; exact this
    | some y => rw [hfd] at this; exact this
  · simp only [List.mem_cons, VF, List.mem_append] at hk ⊢
    rcases hk with hk | hk
    · exact .inl hk
    · exact .inr (.inr (.inl hk))
  · simp only [VF, List.mem_cons, List.mem_append] at hk ⊢
    rcases hk with hk | hk | hk | hk
    · exact .inl (.inl hk)
    · exact .inr (.inr (.inl hk))
    · exact .inl (.inr hk)
    · exact .inr (.inr (.inr (.inr hk)))
/-- a match was met -/
theorem VI.fit (h : VI w N b l tx M s E sF fb) {g : Nat} {a : Int} {c : List Int} (hm : MB w' b { M with fok := true, f1 := some ⟨g, 0, none⟩, f2 := M.K, f3 := M.K, fw := a }) (hr : w'.ownsRow N 3 1 (.slice (some ⟨g, 0, none⟩) M.K M.K) M.K (I64 c)) (hc : Chg w w' (b :: fb) [b, g]) :
    VI w' N b l tx { M with fok := true, f1 := some ⟨g, 0, none⟩, f2 := M.K, f3 := M.K, fw := a } { s with found := some (a, c), over := true } E sF [g] ∧ Chg w w' (VF b M E sF fb) (VF b { M with fok := true, f1 := some ⟨g, 0, none⟩, f2 := M.K, f3 := M.K, fw := a } E sF [g]) := by
  have hbel : Below N w w' := hc.below h.nw (fun k hk => by
    simp only [List.mem_cons] at hk
    rcases hk with rfl | hk
    · exact h.nb
    · exact (h.fd.low k hk).1)
  have hne : ∀ k, k < w.heap.size → k ≠ b → k ∉ fb → w'.heap[k]? = w.heap[k]? := fun k hk hn hn2 => hc.block k hk (by simp [hn, hn2])
  have hgb : g ≠ b := fun e => own_ne hr hm (by decide) (by rw [e]; rfl)
  have hg : g ∈ fb ∨ w.heap.size ≤ g := by
    rcases hc.new g (by simp) with h' | h'
    · simp at h'; rcases h' with h' | h'
      · exact absurd h' hgb
      · exact .inl h'
    · exact .inr h'
  have hrf : ∀ k ∈ RWF M.z2 M.n2 M.c2 E, k ≠ b ∧ k ∉ fb := fun k hk => ⟨fun e => h.rb (e ▸ hk), fun hm' => (h.d2 k hm').2 hk⟩
  refine ⟨⟨hm, h.nb, Nat.le_trans h.nw hbel.size, h.pi.kept hbel (Nat.le_refl _), h.tt.below hbel, h.hj, h.set.kept (fun k hk => hne k (h.set.low k hk).2 (h.d1 k hk).1 (h.d1 k hk).2.2), h.row.kept (fun k hk => hne k (h.row.low k hk).2 (hrf k hk).1 (hrf k hk).2), h.k2, h.kl, h.el, h.nx, ⟨g, rfl, rfl, rfl, rfl, rfl, rfl, hr⟩, h.bt, fun k hk => ⟨(h.d1 k hk).1, (h.d1 k hk).2.1, ?_⟩, fun k hk => ?_⟩, hc.wide (fun k hk => ?_) (fun k hk => ?_)⟩
  · simp only [List.mem_singleton]
    rintro rfl
    rcases hg with h' | h'
    · exact (h.d1 k hk).2.2 h'
    · have := (h.set.low k hk).2; omega
  · simp only [List.mem_singleton] at hk
    subst hk
    refine ⟨hgb, fun hm' => ?_⟩
    rcases hg with h' | h'
    · exact (h.d2 k h').2 hm'
    · have := (h.row.low k hm').2; omega
  · simp only [List.mem_cons, VF, List.mem_append] at hk ⊢
    rcases hk with hk | hk
    · exact .inl hk
    · exact .inr (.inr (.inr hk))
  · simp only [VF, List.mem_cons, List.mem_append] at hk ⊢
    rcases hk with hk | hk | hk | hk
    · exact .inl (.inl hk)
    · exact .inr (.inr (.inl hk))
    · exact .inr (.inr (.inr (.inl hk)))
    · exact .inl (.inr (.inl (by simpa using hk)))
end
end Go.Proofs.Ytodpmmlfdkdemaa
