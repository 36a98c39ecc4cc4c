/- HELPERS: the walk of SparseTurned. -/
import Derived.Test.YtlidhjcciglinaaSh
namespace Go.Proofs.Ytlidhjcciglinaa
open Go.RowKit
set_option linter.unusedVariables false
set_option linter.unusedSimpArgs false
/-- a list that came in -/
def TextAt (N : Nat) (w : World) (ad : Option Addr) (n : Nat) (l : List Int) : Prop :=
  n = l.length ∧ n ≤ 17592186043904 ∧ (n = 0 ∨ ∃ b off, ad = some ⟨b, off, none⟩ ∧ b < N ∧ ∀ k, k < n → w.cell? ⟨b, off + k, none⟩ = some (.int .i64 (l.getD k 0)))
theorem TextAt.below {N : Nat} {w w' : World} {ad : Option Addr} {n : Nat} {l : List Int} (h : TextAt N w ad n l) (hb : Below N w w') : TextAt N w' ad n l := by
  obtain ⟨h1, h2, h | ⟨b, off, ha, hbN, hc⟩⟩ := h
  · exact ⟨h1, h2, .inl h⟩
  · exact ⟨h1, h2, .inr ⟨b, off, ha, hbN, fun k hk => (hb.cell (p := ⟨b, off + k, none⟩) hbN).trans (hc k hk)⟩⟩
theorem TextAt.at {N : Nat} {w : World} {ad : Option Addr} {n : Nat} {l : List Int} (h : TextAt N w ad n l) (k : Nat) (hk : k < n) : ∃ b off, ad = some ⟨b, off, none⟩ ∧ b < N ∧ w.cell? ⟨b, off + k, none⟩ = some (.int .i64 (l.getD k 0)) := by
  obtain ⟨h1, h2, h | ⟨b, off, ha, hbN, hc⟩⟩ := h
  · omega
  · exact ⟨b, off, ha, hbN, hc k hk⟩
/-- the stack, and beside it the list of what is in it -/
def Two (N : Nat) (w wr : World) (g : Nat) (v : Value) (L : List Int) (m : Nat) : Prop := ∃ F, StkI N wr g F L m ∧ wr.ownsRow N 3 1 v L.length (I64 L) ∧ (∀ b, v.ownBlock = some b → b ∉ F) ∧ Below N w wr
theorem and_three (y : Int) : ∃ t : Nat, t ≤ 3 ∧ bits .and .i64 y 3 = (t : Int) := by
  have h : bits .and .i64 y 3 = IntKind.i64.wrap (((BitVec.ofInt 64 y &&& BitVec.ofInt 64 3).toNat : Nat) : Int) := rfl
  have h3 : (BitVec.ofInt 64 y &&& BitVec.ofInt 64 3).toNat ≤ 3 := by
    rw [BitVec.toNat_and]
    exact Nat.and_le_right
  refine ⟨_, h3, ?_⟩
  rw [h]
  exact IntWalk.i64_in _ ⟨by omega, by omega⟩
theorem Two.pushed {N : Nat} {w wr w1 : World} {g : Nat} {v : Value} {L : List Int} {m : Nat} {F F' : List Nat} {x : Int} (hN : N ≤ wr.heap.size)
    (hS : StkI N wr g F L m) (ho : wr.ownsRow N 3 1 v L.length (I64 L)) (hd : ∀ b, v.ownBlock = some b → b ∉ F) (hB : Below N w wr)
    (hS1 : StkI N w1 g F' (L ++ [x]) (max m (L.length + 1))) (hc : Chg wr w1 F F') :
    w1.ownsRow N 3 1 v L.length (I64 L) ∧ (∀ b, v.ownBlock = some b → b ∉ F') ∧ Below N w w1 :=
  ⟨hc.row ho hd, fun b hb hm => by
    rcases hc.new b hm with h | h
    · exact hd b hb h
    · have := (ho.lt b hb).2; omega, hB.trans (hc.below hN (fun k hk => (hS.low k hk).1))⟩
theorem Two.app {N : Nat} {w w1 w2 : World} {g : Nat} {v v' : Value} {L : List Int} {m : Nat} {F' : List Nat} {x : Int} (hN : N ≤ w1.heap.size)
    (hS1 : StkI N w1 g F' (L ++ [x]) m) (ho : w1.ownsRow N 3 1 v L.length (I64 L)) (hd : ∀ b, v.ownBlock = some b → b ∉ F') (hB : Below N w w1)
    (ho2 : w2.ownsRow N 3 1 v' (L.length + 1) (I64 L ++ [.int .i64 x])) (hm : Moved (w1.alloc (.cells #[.int .i64 x] 3)) w2 v v') :
    Two N w w2 g v' (L ++ [x]) m := by
  have hc := chg_moved hm []
  simp only [List.nil_append] at hc
  refine ⟨F', hS1.kept (fun k hk => hc.block k (hS1.low k hk).2 (fun h => ?_)), ?_, fun b hb hm2 => ?_, hB.trans (hc.below hN (fun k hk => (ho.lt k (by simpa using hk)).1))⟩
  · exact hd k (by simpa using h) hk
  · rw [List.length_append, show I64 (L ++ [x]) = I64 L ++ [.int .i64 x] by simp]
    exact ho2
  · rcases hc.new b (by simp [hb]) with h | h
    · exact hd b (by simpa using h) hm2
    · have := (hS1.low b hm2).2; omega
theorem Two.popped {N : Nat} {w wr w1 : World} {g : Nat} {b cap : Nat} {L : List Int} {m : Nat} {F : List Nat} {x : Int} (hN : N ≤ wr.heap.size)
    (hS : StkI N wr g F (L ++ [x]) m) (ho : wr.ownsRow N 3 1 (.slice (some ⟨b, 0, none⟩) (L.length + 1) cap) (L.length + 1) (I64 L ++ [.int .i64 x])) (hd : b ∉ F) (hB : Below N w wr)
    (hS1 : StkI N w1 g F L m) (hc : Chg wr w1 F F) :
    Two N w w1 g (.slice (some ⟨b, 0, none⟩) L.length cap) L m ∧ w1.cell? ⟨b, L.length, none⟩ = some (.int .i64 x) := by
  have ho1 := hc.row ho (fun k hk => by simp [Value.ownBlock] at hk; subst hk; exact hd)
  refine ⟨⟨F, hS1, row_dropped ho1, fun k hk => by simp [Value.ownBlock] at hk; subst hk; exact hd, hB.trans (hc.below hN (fun k hk => (hS.low k hk).1))⟩, ?_⟩
  rw [ho1.cellAt L.length (by omega)]
  simp
theorem list_end (L : List Int) : L = [] ∨ ∃ L' x, L = L' ++ [x] := by
  rcases List.eq_nil_or_concat L with h | ⟨l, x, h⟩
  · exact .inl h
  · exact .inr ⟨l, x, by simpa using h⟩
end Go.Proofs.Ytlidhjcciglinaa
