/- HELPERS: the stacks' methods, told of all six stacks. Made by tools/genmi.py. -/
import Derived.Test.YtlidhjcciglinaaSy
namespace Go.Proofs.Ytlidhjcciglinaa
open Go.RowKit
set_option linter.unusedVariables false
set_option linter.unusedSimpArgs false
theorem i64_snoc (A : List Int) (x : Int) : I64 (A ++ [x]) = I64 A ++ [.int .i64 x] := by simp
theorem tx_snoc (A : List Int) (x : Int) : TX (A ++ [x]) = TX A ++ [.string (textOf x)] := by simp [TX]
theorem m_pushI {N : Nat} {w wr : World} {G : Gs} {own : Nat → Nat} {L : Nat → List Int} {M : Nat → Nat} (h : Mi N w wr G own L M) (c g o : Nat) (hc : c < 4) (hg : cb G c = g) (ho : co c = o) (A : List Int) (m : Nat) (hA : L c = A) (hm : M c = m) (x : Int) (hl : A.length < 5864062014805) :
    Calls Try.prog 22 #[.pointer (some ⟨g, o, none⟩), .int .i64 x] wr fun e w' => e = .returned (.tuple #[]) ∧ ∃ own', Mi N w w' G own' (updF L c (A ++ [x])) (updF M c (max m (A.length + 1))) ∧ Kp wr w' own own' := by
  subst hg ho
  obtain ⟨v, hs, hn⟩ := h.int c hc
  rw [hA, hm] at hs
  refine (pushI N _ _ v _ _ x wr hs h.sz (by simpa using hl)).mono ?_
  rintro e w1 ⟨rfl, v', k1, k2⟩
  rw [← i64_snoc, List.length_map] at k1
  exact ⟨rfl, hn w1 v' _ _ k1 k2⟩
theorem m_popI_none {N : Nat} {w wr : World} {G : Gs} {own : Nat → Nat} {L : Nat → List Int} {M : Nat → Nat} (h : Mi N w wr G own L M) (c g o : Nat) (hc : c < 4) (hg : cb G c = g) (ho : co c = o) (hA : L c = []) :
    Calls Try.prog 27 #[.pointer (some ⟨g, o, none⟩)] wr fun e w' => e = .returned (.tuple #[.int .i64 0, .bool false]) ∧ w' = wr := by
  subst hg ho
  obtain ⟨v, hs, hn⟩ := h.int c hc
  rw [hA] at hs
  exact popI_none N _ _ v _ wr hs
theorem m_popI {N : Nat} {w wr : World} {G : Gs} {own : Nat → Nat} {L : Nat → List Int} {M : Nat → Nat} (h : Mi N w wr G own L M) (c g o : Nat) (hc : c < 4) (hg : cb G c = g) (ho : co c = o) (A : List Int) (m : Nat) (x : Int) (hA : L c = A ++ [x]) (hm : M c = m) :
    Calls Try.prog 27 #[.pointer (some ⟨g, o, none⟩)] wr fun e w' => e = .returned (.tuple #[.int .i64 x, .bool true]) ∧ ∃ own', Mi N w w' G own' (updF L c A) (updF M c m) ∧ Kp wr w' own own' := by
  subst hg ho
  obtain ⟨v, hs, hn⟩ := h.int c hc
  rw [hA, hm, i64_snoc] at hs
  refine (popI N _ _ v _ _ x wr hs).mono ?_
  rintro e w1 ⟨rfl, v', k1, k2⟩
  exact ⟨rfl, hn w1 v' _ _ k1 k2⟩
theorem m_lenI {N : Nat} {w wr : World} {G : Gs} {own : Nat → Nat} {L : Nat → List Int} {M : Nat → Nat} (h : Mi N w wr G own L M) (c g o : Nat) (hc : c < 4) (hg : cb G c = g) (ho : co c = o) (A : List Int) (hA : L c = A) :
    Calls Try.prog 31 #[.pointer (some ⟨g, o, none⟩)] wr fun e w' => e = .returned (.int .i64 (A.length : Int)) ∧ w' = wr := by
  subst hg ho
  obtain ⟨v, hs, hn⟩ := h.int c hc
  rw [hA] at hs
  have := lenI N _ _ v _ _ wr hs
  rw [List.length_map] at this
  exact this
theorem m_mostI {N : Nat} {w wr : World} {G : Gs} {own : Nat → Nat} {L : Nat → List Int} {M : Nat → Nat} (h : Mi N w wr G own L M) (c g o : Nat) (hc : c < 4) (hg : cb G c = g) (ho : co c = o) (m : Nat) (hm : M c = m) :
    Calls Try.prog 37 #[.pointer (some ⟨g, o, none⟩)] wr fun e w' => e = .returned (.int .i64 (m : Int)) ∧ w' = wr := by
  subst hg ho
  obtain ⟨v, hs, hn⟩ := h.int c hc
  rw [hm] at hs
  exact mostI N _ _ v _ _ wr hs
theorem m_clearI {N : Nat} {w wr : World} {G : Gs} {own : Nat → Nat} {L : Nat → List Int} {M : Nat → Nat} (h : Mi N w wr G own L M) (c g o : Nat) (hc : c < 4) (hg : cb G c = g) (ho : co c = o) :
    Calls Try.prog 33 #[.pointer (some ⟨g, o, none⟩)] wr fun e w' => e = .returned (.tuple #[]) ∧ ∃ own', Mi N w w' G own' (updF L c []) (updF M c 0) ∧ Kp wr w' own own' := by
  subst hg ho
  obtain ⟨v, hs, hn⟩ := h.int c hc
  refine (clearI N _ _ v _ _ wr hs).mono ?_
  rintro e w1 ⟨rfl, v', k1, k2⟩
  exact ⟨rfl, hn w1 v' [] 0 k1 k2⟩
theorem m_pushR {N : Nat} {w wr : World} {G : Gs} {own : Nat → Nat} {L : Nat → List Int} {M : Nat → Nat} (h : Mi N w wr G own L M) (c g o : Nat) (hc : c < 4) (hg : cb G c = g) (ho : co c = o) (A : List Int) (m : Nat) (hA : L c = A) (hm : M c = m) (x : Int) (hl : A.length < 5864062014805) :
    Calls Try.prog 23 #[.pointer (some ⟨g, o, none⟩), .int .i64 x] wr fun e w' => e = .returned (.tuple #[]) ∧ ∃ own', Mi N w w' G own' (updF L c (A ++ [x])) (updF M c (max m (A.length + 1))) ∧ Kp wr w' own own' := by
  subst hg ho
  obtain ⟨v, hs, hn⟩ := h.int c hc
  rw [hA, hm] at hs
  refine (pushR N _ _ v _ _ x wr hs h.sz (by simpa using hl)).mono ?_
  rintro e w1 ⟨rfl, v', k1, k2⟩
  rw [← i64_snoc, List.length_map] at k1
  exact ⟨rfl, hn w1 v' _ _ k1 k2⟩
theorem m_popR_none {N : Nat} {w wr : World} {G : Gs} {own : Nat → Nat} {L : Nat → List Int} {M : Nat → Nat} (h : Mi N w wr G own L M) (c g o : Nat) (hc : c < 4) (hg : cb G c = g) (ho : co c = o) (hA : L c = []) :
    Calls Try.prog 28 #[.pointer (some ⟨g, o, none⟩)] wr fun e w' => e = .returned (.tuple #[.int .i64 0, .bool false]) ∧ w' = wr := by
  subst hg ho
  obtain ⟨v, hs, hn⟩ := h.int c hc
  rw [hA] at hs
  exact popR_none N _ _ v _ wr hs
theorem m_popR {N : Nat} {w wr : World} {G : Gs} {own : Nat → Nat} {L : Nat → List Int} {M : Nat → Nat} (h : Mi N w wr G own L M) (c g o : Nat) (hc : c < 4) (hg : cb G c = g) (ho : co c = o) (A : List Int) (m : Nat) (x : Int) (hA : L c = A ++ [x]) (hm : M c = m) :
    Calls Try.prog 28 #[.pointer (some ⟨g, o, none⟩)] wr fun e w' => e = .returned (.tuple #[.int .i64 x, .bool true]) ∧ ∃ own', Mi N w w' G own' (updF L c A) (updF M c m) ∧ Kp wr w' own own' := by
  subst hg ho
  obtain ⟨v, hs, hn⟩ := h.int c hc
  rw [hA, hm, i64_snoc] at hs
  refine (popR N _ _ v _ _ x wr hs).mono ?_
  rintro e w1 ⟨rfl, v', k1, k2⟩
  exact ⟨rfl, hn w1 v' _ _ k1 k2⟩
theorem m_lenR {N : Nat} {w wr : World} {G : Gs} {own : Nat → Nat} {L : Nat → List Int} {M : Nat → Nat} (h : Mi N w wr G own L M) (c g o : Nat) (hc : c < 4) (hg : cb G c = g) (ho : co c = o) (A : List Int) (hA : L c = A) :
    Calls Try.prog 32 #[.pointer (some ⟨g, o, none⟩)] wr fun e w' => e = .returned (.int .i64 (A.length : Int)) ∧ w' = wr := by
  subst hg ho
  obtain ⟨v, hs, hn⟩ := h.int c hc
  rw [hA] at hs
  have := lenR N _ _ v _ _ wr hs
  rw [List.length_map] at this
  exact this
theorem m_mostR {N : Nat} {w wr : World} {G : Gs} {own : Nat → Nat} {L : Nat → List Int} {M : Nat → Nat} (h : Mi N w wr G own L M) (c g o : Nat) (hc : c < 4) (hg : cb G c = g) (ho : co c = o) (m : Nat) (hm : M c = m) :
    Calls Try.prog 38 #[.pointer (some ⟨g, o, none⟩)] wr fun e w' => e = .returned (.int .i64 (m : Int)) ∧ w' = wr := by
  subst hg ho
  obtain ⟨v, hs, hn⟩ := h.int c hc
  rw [hm] at hs
  exact mostR N _ _ v _ _ wr hs
theorem m_clearR {N : Nat} {w wr : World} {G : Gs} {own : Nat → Nat} {L : Nat → List Int} {M : Nat → Nat} (h : Mi N w wr G own L M) (c g o : Nat) (hc : c < 4) (hg : cb G c = g) (ho : co c = o) :
    Calls Try.prog 34 #[.pointer (some ⟨g, o, none⟩)] wr fun e w' => e = .returned (.tuple #[]) ∧ ∃ own', Mi N w w' G own' (updF L c []) (updF M c 0) ∧ Kp wr w' own own' := by
  subst hg ho
  obtain ⟨v, hs, hn⟩ := h.int c hc
  refine (clearR N _ _ v _ _ wr hs).mono ?_
  rintro e w1 ⟨rfl, v', k1, k2⟩
  exact ⟨rfl, hn w1 v' [] 0 k1 k2⟩
theorem m_pushT {N : Nat} {w wr : World} {G : Gs} {own : Nat → Nat} {L : Nat → List Int} {M : Nat → Nat} (h : Mi N w wr G own L M) (g : Nat) (hg : G.t = g) (A : List Int) (m : Nat) (hA : L 4 = A) (hm : M 4 = m) (x : Int) (hl : A.length < 5864062014805) :
    Calls Try.prog 24 #[.pointer (some ⟨g, 0, none⟩), .string (textOf x)] wr fun e w' => e = .returned (.tuple #[]) ∧ ∃ own', Mi N w w' G own' (updF L 4 (A ++ [x])) (updF M 4 (max m (A.length + 1))) ∧ Kp wr w' own own' := by
  subst hg
  obtain ⟨v, hs, hn⟩ := h.text
  rw [hA, hm] at hs
  refine (pushT N _ _ v _ _ (textOf x) wr hs h.sz (by simpa [TX] using hl)).mono ?_
  rintro e w1 ⟨rfl, v', k1, k2⟩
  rw [← tx_snoc] at k1
  simp only [TX, List.length_map] at k1
  exact ⟨rfl, hn w1 v' _ _ k1 k2⟩
theorem m_popT_none {N : Nat} {w wr : World} {G : Gs} {own : Nat → Nat} {L : Nat → List Int} {M : Nat → Nat} (h : Mi N w wr G own L M) (g : Nat) (hg : G.t = g) (hA : L 4 = []) :
    Calls Try.prog 29 #[.pointer (some ⟨g, 0, none⟩)] wr fun e w' => e = .returned (.tuple #[.string ⟨#[]⟩, .bool false]) ∧ w' = wr := by
  subst hg
  obtain ⟨v, hs, hn⟩ := h.text
  rw [hA] at hs
  exact popT_none N _ _ v _ wr hs
theorem m_popT {N : Nat} {w wr : World} {G : Gs} {own : Nat → Nat} {L : Nat → List Int} {M : Nat → Nat} (h : Mi N w wr G own L M) (g : Nat) (hg : G.t = g) (A : List Int) (m : Nat) (x : Int) (hA : L 4 = A ++ [x]) (hm : M 4 = m) :
    Calls Try.prog 29 #[.pointer (some ⟨g, 0, none⟩)] wr fun e w' => e = .returned (.tuple #[.string (textOf x), .bool true]) ∧ ∃ own', Mi N w w' G own' (updF L 4 A) (updF M 4 m) ∧ Kp wr w' own own' := by
  subst hg
  obtain ⟨v, hs, hn⟩ := h.text
  rw [hA, hm, tx_snoc] at hs
  refine (popT N _ _ v _ _ (textOf x) wr hs).mono ?_
  rintro e w1 ⟨rfl, v', k1, k2⟩
  exact ⟨rfl, hn w1 v' _ _ k1 k2⟩
theorem m_mostT {N : Nat} {w wr : World} {G : Gs} {own : Nat → Nat} {L : Nat → List Int} {M : Nat → Nat} (h : Mi N w wr G own L M) (g : Nat) (hg : G.t = g) (m : Nat) (hm : M 4 = m) :
    Calls Try.prog 39 #[.pointer (some ⟨g, 0, none⟩)] wr fun e w' => e = .returned (.int .i64 (m : Int)) ∧ w' = wr := by
  subst hg
  obtain ⟨v, hs, hn⟩ := h.text
  rw [hm] at hs
  exact mostT N _ _ v _ _ wr hs
theorem m_clearT {N : Nat} {w wr : World} {G : Gs} {own : Nat → Nat} {L : Nat → List Int} {M : Nat → Nat} (h : Mi N w wr G own L M) (g : Nat) (hg : G.t = g) :
    Calls Try.prog 35 #[.pointer (some ⟨g, 0, none⟩)] wr fun e w' => e = .returned (.tuple #[]) ∧ ∃ own', Mi N w w' G own' (updF L 4 []) (updF M 4 0) ∧ Kp wr w' own own' := by
  subst hg
  obtain ⟨v, hs, hn⟩ := h.text
  refine (clearT N _ _ v _ _ wr hs).mono ?_
  rintro e w1 ⟨rfl, v', k1, k2⟩
  exact ⟨rfl, hn w1 v' [] 0 k1 k2⟩
theorem m_pushL {N : Nat} {w wr : World} {G : Gs} {own : Nat → Nat} {L : Nat → List Int} {M : Nat → Nat} (h : Mi N w wr G own L M) (g : Nat) (hg : G.l = g) (A : List Int) (m : Nat) (hA : L 5 = A) (hm : M 5 = m) (x : Int) (b : Nat) (hb : own b = 20) (hc : wr.cell? ⟨b, 0, none⟩ = some (.int .i64 x)) (hl : A.length < 5864062014805) :
    Calls Try.prog 26 #[.pointer (some ⟨g, 0, none⟩), .slice (some ⟨b, 0, none⟩) 2 2] wr fun e w' => e = .returned (.tuple #[]) ∧ ∃ own', Mi N w w' G own' (updF L 5 (A ++ [x])) (updF M 5 (max m (A.length + 1))) ∧ Kp wr w' own own' := by
  subst hg
  obtain ⟨v, xs, hs, hlb, hn⟩ := h.list
  rw [hA] at hlb
  rw [hm] at hs
  refine (pushL N _ _ v xs _ (some ⟨b, 0, none⟩) 2 2 wr hs h.sz (by rw [hlb.1]; exact hl)).mono ?_
  rintro e w1 ⟨rfl, v', k1, k2⟩
  rw [hlb.1] at k1
  refine ⟨rfl, hn w1 v' _ (A ++ [x]) _ k1 k2 (fun own' hk => ?_)⟩
  have hlt : b < wr.heap.size := World.block_lt_of_cell? wr _ hc
  exact (hlb.keep hk.1 hk.2).push b x ((hk.mark (by omega) hlt).trans hb) (Nat.lt_of_lt_of_le hlt hk.1) (hk.cell (by omega) hc)
theorem m_popL_none {N : Nat} {w wr : World} {G : Gs} {own : Nat → Nat} {L : Nat → List Int} {M : Nat → Nat} (h : Mi N w wr G own L M) (g : Nat) (hg : G.l = g) (hA : L 5 = []) :
    Calls Try.prog 30 #[.pointer (some ⟨g, 0, none⟩)] wr fun e w' => e = .returned (.tuple #[.slice none 0 0, .bool false]) ∧ w' = wr := by
  subst hg
  obtain ⟨v, xs, hs, hlb, hn⟩ := h.list
  rw [hA] at hlb
  obtain rfl : xs = [] := List.eq_nil_of_length_eq_zero (by rw [hlb.1]; rfl)
  exact popL_none N _ _ v _ wr hs
theorem m_popL {N : Nat} {w wr : World} {G : Gs} {own : Nat → Nat} {L : Nat → List Int} {M : Nat → Nat} (h : Mi N w wr G own L M) (g : Nat) (hg : G.l = g) (A : List Int) (m : Nat) (x : Int) (hA : L 5 = A ++ [x]) (hm : M 5 = m) :
    Calls Try.prog 30 #[.pointer (some ⟨g, 0, none⟩)] wr fun e w' => ∃ b, e = .returned (.tuple #[.slice (some ⟨b, 0, none⟩) 2 2, .bool true]) ∧ w'.cell? ⟨b, 0, none⟩ = some (.int .i64 x) ∧ ∃ own', Mi N w w' G own' (updF L 5 A) (updF M 5 m) ∧ own' b = 20 ∧ Kp wr w' own own' := by
  subst hg
  obtain ⟨v, xs, hs, hlb, hn⟩ := h.list
  rw [hA] at hlb
  obtain ⟨ys, b, rfl, hb, hbl, hbc, hlb2⟩ := hlb.pop
  rw [hm] at hs
  refine (popL N _ _ v ys _ (some ⟨b, 0, none⟩) 2 2 wr hs).mono ?_
  rintro e w1 ⟨rfl, v', k1, k2⟩
  obtain ⟨own', hM, hk⟩ := hn w1 v' ys A _ k1 k2 (fun own' hk => hlb2.keep hk.1 hk.2)
  exact ⟨b, rfl, hk.cell (by omega) hbc, own', hM, (hk.mark (by omega) hbl).trans hb, hk⟩
theorem m_lenL {N : Nat} {w wr : World} {G : Gs} {own : Nat → Nat} {L : Nat → List Int} {M : Nat → Nat} (h : Mi N w wr G own L M) (g : Nat) (hg : G.l = g) (A : List Int) (hA : L 5 = A) :
    Calls Try.prog 40 #[.pointer (some ⟨g, 0, none⟩)] wr fun e w' => e = .returned (.int .i64 (A.length : Int)) ∧ w' = wr := by
  subst hg
  obtain ⟨v, xs, hs, hlb, hn⟩ := h.list
  rw [hA] at hlb
  rw [← hlb.1]
  exact lenL N _ _ v _ _ wr hs
theorem m_clearL {N : Nat} {w wr : World} {G : Gs} {own : Nat → Nat} {L : Nat → List Int} {M : Nat → Nat} (h : Mi N w wr G own L M) (g : Nat) (hg : G.l = g) :
    Calls Try.prog 36 #[.pointer (some ⟨g, 0, none⟩)] wr fun e w' => e = .returned (.tuple #[]) ∧ ∃ own', Mi N w w' G own' (updF L 5 []) (updF M 5 0) ∧ Kp wr w' own own' := by
  subst hg
  obtain ⟨v, xs, hs, hlb, hn⟩ := h.list
  refine (clearL N _ _ v _ _ wr hs).mono ?_
  rintro e w1 ⟨rfl, v', k1, k2⟩
  exact ⟨rfl, hn w1 v' [] [] 0 k1 k2 (fun own' hk => ⟨rfl, fun j u hu => by simp at hu⟩)⟩
theorem stk_zero (N : Nat) (w : World) (E : TypeId) (g o : Nat) (hN : N ≤ g) (h0 : w.cell? ⟨g, o, none⟩ = some (.slice none 0 0)) (h1 : w.cell? ⟨g, o + 1, none⟩ = some (.int .i64 0)) (f : ∀ j, w.frozen? ⟨g, j, none⟩ = false) : Stk N w E g o (.slice none 0 0) [] 0 :=
  ⟨h0, h1, f _, f _, by simp [Value.ownBlock], hN, World.ownsRow_nil _ _ _ _⟩
theorem Mi.init (w : World) : ∃ own, Mi w.heap.size w ((((w.alloc (.cells #[.slice none 0 0, .int .i64 0, .slice none 0 0, .int .i64 0] 42)).alloc (.cells #[.slice none 0 0, .int .i64 0, .slice none 0 0, .int .i64 0] 45)).alloc (.cells #[.slice none 0 0, .int .i64 0] 48)).alloc (.cells #[.slice none 0 0, .int .i64 0] 50))
    ⟨w.heap.size, w.heap.size + 1, w.heap.size + 1 + 1, w.heap.size + 1 + 1 + 1⟩ own (LL [] []) (MM 0 0) := by
  generalize hW : ((((w.alloc (.cells #[.slice none 0 0, .int .i64 0, .slice none 0 0, .int .i64 0] 42)).alloc (.cells #[.slice none 0 0, .int .i64 0, .slice none 0 0, .int .i64 0] 45)).alloc (.cells #[.slice none 0 0, .int .i64 0] 48)).alloc (.cells #[.slice none 0 0, .int .i64 0] 50)) = W
  have b0 : W.heap[w.heap.size]? = some (.cells #[.slice none 0 0, .int .i64 0, .slice none 0 0, .int .i64 0] 42 (0, 0)) := by
    rw [← hW, heap_alloc_old _ _ (by simp; omega), heap_alloc_old _ _ (by simp; omega), heap_alloc_old _ _ (by simp)]
    exact heap_alloc_new _ _
  have b1 : W.heap[w.heap.size + 1]? = some (.cells #[.slice none 0 0, .int .i64 0, .slice none 0 0, .int .i64 0] 45 (0, 0)) := by
    rw [← hW, heap_alloc_old _ _ (by simp), heap_alloc_old _ _ (by simp)]
    have := heap_alloc_new (w.alloc (.cells #[.slice none 0 0, .int .i64 0, .slice none 0 0, .int .i64 0] 42)) (.cells #[.slice none 0 0, .int .i64 0, .slice none 0 0, .int .i64 0] 45)
    simpa using this
  have b2 : W.heap[w.heap.size + 1 + 1]? = some (.cells #[.slice none 0 0, .int .i64 0] 48 (0, 0)) := by
    rw [← hW, heap_alloc_old _ _ (by simp)]
    have := heap_alloc_new ((w.alloc (.cells #[.slice none 0 0, .int .i64 0, .slice none 0 0, .int .i64 0] 42)).alloc (.cells #[.slice none 0 0, .int .i64 0, .slice none 0 0, .int .i64 0] 45)) (.cells #[.slice none 0 0, .int .i64 0] 48)
    simpa using this
  have b3 : W.heap[w.heap.size + 1 + 1 + 1]? = some (.cells #[.slice none 0 0, .int .i64 0] 50 (0, 0)) := by
    rw [← hW]
    have := heap_alloc_new (((w.alloc (.cells #[.slice none 0 0, .int .i64 0, .slice none 0 0, .int .i64 0] 42)).alloc (.cells #[.slice none 0 0, .int .i64 0, .slice none 0 0, .int .i64 0] 45)).alloc (.cells #[.slice none 0 0, .int .i64 0] 48)) (.cells #[.slice none 0 0, .int .i64 0] 50)
    simpa using this
  have hB : Below w.heap.size w W := by
    rw [← hW]
    exact ((((Below.refl _ _).alloc (Nat.le_refl _) _).alloc (by simp) _).alloc (by simp; omega) _).alloc (by simp; omega) _
  have s0 : Stk w.heap.size W 3 w.heap.size 0 (.slice none 0 0) [] 0 := stk_zero _ _ _ _ _ (Nat.le_refl _) ((Joins.cell_of_block b0 0).trans rfl) ((Joins.cell_of_block b0 1).trans rfl) (Joins.unfrozen_of_block b0)
  have s1 : Stk w.heap.size W 3 w.heap.size 2 (.slice none 0 0) [] 0 := stk_zero _ _ _ _ _ (Nat.le_refl _) ((Joins.cell_of_block b0 2).trans rfl) ((Joins.cell_of_block b0 3).trans rfl) (Joins.unfrozen_of_block b0)
  have s2 : Stk w.heap.size W 3 (w.heap.size + 1) 0 (.slice none 0 0) [] 0 := stk_zero _ _ _ _ _ (by omega) ((Joins.cell_of_block b1 0).trans rfl) ((Joins.cell_of_block b1 1).trans rfl) (Joins.unfrozen_of_block b1)
  have s3 : Stk w.heap.size W 3 (w.heap.size + 1) 2 (.slice none 0 0) [] 0 := stk_zero _ _ _ _ _ (by omega) ((Joins.cell_of_block b1 2).trans rfl) ((Joins.cell_of_block b1 3).trans rfl) (Joins.unfrozen_of_block b1)
  have s4 : Stk w.heap.size W 9 (w.heap.size + 1 + 1) 0 (.slice none 0 0) [] 0 := stk_zero _ _ _ _ _ (by omega) ((Joins.cell_of_block b2 0).trans rfl) ((Joins.cell_of_block b2 1).trans rfl) (Joins.unfrozen_of_block b2)
  have s5 : Stk w.heap.size W 35 (w.heap.size + 1 + 1 + 1) 0 (.slice none 0 0) [] 0 := stk_zero _ _ _ _ _ (by omega) ((Joins.cell_of_block b3 0).trans rfl) ((Joins.cell_of_block b3 1).trans rfl) (Joins.unfrozen_of_block b3)
  refine ⟨fun b => if b = w.heap.size then 11 else if b = w.heap.size + 1 then 12 else if b = w.heap.size + 1 + 1 then 13 else 14, ⟨⟨fun _ => ⟨.slice none 0 0, [], 0⟩, ⟨?_, ?_, fun c _ b hb => by simp [Value.ownBlock] at hb, hB⟩, ?_, rfl, ⟨rfl, fun j u hu => by simp at hu⟩, ?_⟩, hB.size⟩⟩
  · exact six _ s0 s1 s2 s3 s4 s5
  · refine six _ ?_ ?_ ?_ ?_ ?_ ?_
    all_goals simp [cb, tb, show ¬ (w.heap.size + 1 + 1 + 1 = w.heap.size) by omega, show ¬ (w.heap.size + 1 + 1 = w.heap.size) by omega]
  · intro c hc
    have : c = 0 ∨ c = 1 ∨ c = 2 ∨ c = 3 := by omega
    rcases this with rfl | rfl | rfl | rfl <;> rfl
  · refine six _ rfl rfl rfl rfl rfl rfl
end Go.Proofs.Ytlidhjcciglinaa
