/- HELPERS: two sets and a list beside them. -/
import Derived.Test.YtlidhjcciglinaaTu
namespace Go.Proofs.Ytlidhjcciglinaa
open Go.RowKit
set_option linter.unusedVariables false
set_option linter.unusedSimpArgs false
theorem nodup_len : ∀ (n : Nat) (l : List Int), l.Nodup → (∀ x ∈ l, 0 ≤ x ∧ x < n) → l.length ≤ n
  | 0, l, _, h => by
    cases l with
    | nil => simp
    | cons x r => have := h x (by simp); omega
  | n + 1, l, hn, h => by
    have h2 := nodup_len n (l.erase (n : Int)) (hn.erase _) (fun x hx => by
      rw [hn.mem_erase_iff] at hx
      have := h x hx.2
      have := hx.1
      omega)
    have := List.length_erase (l := l) (a := (n : Int))
    split at this <;> omega
theorem SetS.len {N : Nat} {w : World} {g : Nat} {F : List Nat} {n : Nat} {l : List Int} (h : SetS N w g F n l) : l.length ≤ n ∧ n ≤ 1048576 := by
  obtain ⟨b, c, ov, M, h1, h2, hn, h3, h4, h5, h6, rfl⟩ := h
  exact ⟨nodup_len n l h6 h5.rng, hn⟩
theorem SetS.mono {N N' : Nat} {w : World} {g : Nat} {F : List Nat} {n : Nat} {l : List Int} (h : SetS N' w g F n l) (hN : N ≤ N') : SetS N w g F n l := by
  obtain ⟨b, c, ov, M, h1, h2, hn, h3, h4, h5, h6, rfl⟩ := h
  exact ⟨b, c, ov, M, h1, by omega, hn, Joins.ownsRow_le h3 hN, Joins.ownsRow_le h4 hN, h5, h6, rfl⟩
/-- is it one that Add takes? -/
def fresh (n : Nat) (l : List Int) (x : Int) : Prop := 0 ≤ x ∧ x < n ∧ x ∉ l
theorem has12 (N g : Nat) (F : List Nat) (n : Nat) (l : List Int) (i : Int) (w : World) (hS : Hid (SetS N w g F n l)) :
    Calls Try.prog 12 #[.pointer (some ⟨g, 0, none⟩), .int .i64 i] w fun e w' => e = .returned (.bool (decide (i ∈ l))) ∧ ∃ k, w' = w.drewN k := by
  by_cases hi : 0 ≤ i ∧ i < n
  · have := has12_in N g F n l i.toNat w hS (by omega)
    rw [show ((i.toNat : Nat) : Int) = i by omega] at this
    exact this
  · have hd : decide (i ∈ l) = false := by
      have := hS.out.mem i
      simp
      exact fun h => hi (this h)
    rw [hd]
    exact has12_out N g F n l i w hS hi
theorem add10 (N g : Nat) (F : List Nat) (n : Nat) (l : List Int) (i : Int) (w : World) (hS : Hid (SetS N w g F n l)) (hi : fresh n l i) (hN : N ≤ w.heap.size) :
    Calls Try.prog 10 #[.pointer (some ⟨g, 0, none⟩), .int .i64 i] w fun e w' => e = .returned (.bool true) ∧ ∃ F', SetS N w' g F' n (l ++ [i]) ∧ Chg w w' F F' := by
  have hl := hS.out.len
  have := add10_yes N g F n l i.toNat w hS (by have := hi.1; have := hi.2.1; omega) (by rw [show ((i.toNat : Nat) : Int) = i by have := hi.1; omega]; exact hi.2.2) (by omega) hN
  rw [show ((i.toNat : Nat) : Int) = i by have := hi.1; omega] at this
  exact this
/-- two sets and a list, none of which has to do with the others -/
structure Tri (N : Nat) (w wr : World) (g u : Nat) (v : Value) (k : Nat) (A B L : List Int) (F G : List Nat) : Prop where
  s : SetS N wr g F k A
  t : SetS N wr u G k B
  row : wr.ownsRow N 3 1 v L.length (I64 L)
  apart : ∀ b ∈ F, b ∉ G
  offF : ∀ b, v.ownBlock = some b → b ∉ F
  offG : ∀ b, v.ownBlock = some b → b ∉ G
  below : Below N w wr
theorem Tri.sz {N : Nat} {w wr : World} {g u : Nat} {v : Value} {k : Nat} {A B L : List Int} {F G : List Nat} (h : Tri N w wr g u v k A B L F G) (hN : N = w.heap.size) : N ≤ wr.heap.size := by rw [hN]; exact h.below.size
theorem Tri.one {N : Nat} {w wr w1 : World} {g u : Nat} {v : Value} {k : Nat} {A A' B L : List Int} {F F' G : List Nat} (h : Tri N w wr g u v k A B L F G) (hN : N ≤ wr.heap.size)
    (hs : SetS N w1 g F' k A') (hc : Chg wr w1 F F') : Tri N w w1 g u v k A' B L F' G where
  s := hs
  t := h.t.kept (fun b hb => hc.block b (h.t.low b hb).2 (fun hf => h.apart b hf hb))
  row := hc.row h.row h.offF
  apart := fun b hb hg => by
    rcases hc.new b hb with hf | hf
    · exact h.apart b hf hg
    · have := (h.t.low b hg).2; omega
  offF := fun b hb hf => by
    rcases hc.new b hf with hf | hf
    · exact h.offF b hb hf
    · have := (h.row.lt b hb).2; omega
  offG := h.offG
  below := h.below.trans (hc.below hN (fun k hk => (h.s.low k hk).1))
theorem Tri.two {N : Nat} {w wr w1 : World} {g u : Nat} {v : Value} {k : Nat} {A B B' L : List Int} {F G G' : List Nat} (h : Tri N w wr g u v k A B L F G) (hN : N ≤ wr.heap.size)
    (hs : SetS N w1 u G' k B') (hc : Chg wr w1 G G') : Tri N w w1 g u v k A B' L F G' where
  s := h.s.kept (fun b hb => hc.block b (h.s.low b hb).2 (fun hf => h.apart b hb hf))
  t := hs
  row := hc.row h.row h.offG
  apart := fun b hb hg => by
    rcases hc.new b hg with hf | hf
    · exact h.apart b hb hf
    · have := (h.s.low b hb).2; omega
  offF := h.offF
  offG := fun b hb hf => by
    rcases hc.new b hf with hf | hf
    · exact h.offG b hb hf
    · have := (h.row.lt b hb).2; omega
  below := h.below.trans (hc.below hN (fun k hk => (h.t.low k hk).1))
theorem Tri.app {N : Nat} {w wr w1 : World} {g u : Nat} {v v' : Value} {k : Nat} {A B L : List Int} {F G : List Nat} {x : Int} (h : Tri N w wr g u v k A B L F G) (hN : N ≤ wr.heap.size)
    (ho : w1.ownsRow N 3 1 v' (L.length + 1) (I64 L ++ [.int .i64 x])) (hm : Moved (wr.alloc (.cells #[.int .i64 x] 3)) w1 v v') : Tri N w w1 g u v' k A B (L ++ [x]) F G := by
  have hc := chg_moved hm []
  simp only [List.nil_append] at hc
  refine ⟨h.s.kept (fun b hb => hc.block b (h.s.low b hb).2 (fun hf => h.offF b (by simpa using hf) hb)), h.t.kept (fun b hb => hc.block b (h.t.low b hb).2 (fun hf => h.offG b (by simpa using hf) hb)), ?_, h.apart, fun b hb hf => ?_, fun b hb hf => ?_, h.below.trans (hc.below hN (fun k hk => (h.row.lt k (by simpa using hk)).1))⟩
  · rw [List.length_append, show I64 (L ++ [x]) = I64 L ++ [.int .i64 x] by simp]
    exact ho
  · rcases hc.new b (by simp [hb]) with hk | hk
    · exact h.offF b (by simpa using hk) hf
    · have := (h.s.low b hf).2; omega
  · rcases hc.new b (by simp [hb]) with hk | hk
    · exact h.offG b (by simpa using hk) hf
    · have := (h.t.low b hf).2; omega
theorem Tri.next {N : Nat} {w wr w1 : World} {g u : Nat} {v : Value} {k : Nat} {A B L : List Int} {F G : List Nat} (h : Tri N w wr g u v k A B L F G) (hN : N ≤ wr.heap.size) (hb : Below wr.heap.size wr w1) : Tri N w w1 g u v k A B L F G :=
  h.one hN (h.s.kept (fun b hk => hb.block b (h.s.low b hk).2)) (Chg.of_below hb)
end Go.Proofs.Ytlidhjcciglinaa
