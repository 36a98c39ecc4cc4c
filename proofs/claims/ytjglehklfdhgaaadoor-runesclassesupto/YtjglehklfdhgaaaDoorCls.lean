/- HELPERS: the contract of the sort of ranges. -/
import Derived.Test.YtjglehklfdhgaaaDoorShelf
import Derived.Test.YtjglehklfdhgaaaDoorCut
namespace Go.Proofs.YtjglehklfdhgaaaDoor
open Go.Shelf Go.RowKit Go.Lib Go.Sort Go.Mx
set_option linter.unusedVariables false
set_option linter.unusedSimpArgs false
/-- a range's two cells -/
def encR (x : Int × Int) : List Value := [.int .i64 x.1, .int .i64 x.2]
def fl (L : List (Int × Int)) : List Value := L.flatMap encR
theorem fl_append (A B : List (Int × Int)) : fl (A ++ B) = fl A ++ fl B := by simp [fl]
theorem fl_len (A : List (Int × Int)) : (fl A).length = A.length * 2 := by induction A <;> simp_all [fl, encR] <;> omega
theorem info57 : (Tryd.prog.info? 57).map (fun i => (i.zero, i.size, i.bytes)) = some (some (.agg #[.int .i64 0, .int .i64 0]), 2, 16) := by kernel_rfl
set_option maxHeartbeats 1000000 in
theorem closure58 (x y : Int × Int) (W : World) : Calls Tryd.prog 58 #[.agg #[.int .i64 x.1, .int .i64 x.2], .agg #[.int .i64 y.1, .int .i64 y.2]] W fun e w' => e = .returned (.int .i64 (Lib.compareInt x.1 y.1)) ∧ ∃ q os', w' = grow (W.drewN q) os' := by
  have hcon := fun W' => AnyG.cmp_Compare_int Tryd.cmpInt x.1 y.1 W'
  change ∀ W', Calls Tryd.prog 51 _ _ _ at hcon
  generalize Lib.compareInt x.1 y.1 = r at hcon ⊢
  go_enter Tryd.func58, Tryd.ntmps58
  go_wp2_with (go_at_call 51; refine (hcon _).mono ?_; rintro e w' ⟨rfl, rfl⟩)
  go_ret
  exact ⟨rfl, 0, _, by rw [alloc_eq_grow, alloc_eq_grow, grow_grow]; rfl⟩
theorem cmpLays58 (blk off size : Nat) (w : World) : CmpLays Tryd.prog 58 #[] encR 2 (fun x y => Lib.compareInt x.1 y.1) blk off size w :=
  fun _ _ _ _ x y => closure58 x y _
theorem ltLo (x y : Int × Int) : ltOf (fun x y : Int × Int => Lib.compareInt x.1 y.1) x y = decide (x.1 < y.1) := by
  unfold ltOf Lib.compareInt
  by_cases h1 : x.1 < y.1
  · simp [h1]
  · by_cases h2 : y.1 < x.1 <;> simp [h1, h2]
theorem swoLo : SWO (ltOf fun x y : Int × Int => Lib.compareInt x.1 y.1) :=
  ⟨fun x => by rw [ltLo]; simp, fun x y z h1 h2 => by rw [ltLo] at *; simp at *; omega, fun x y z h1 h2 => by rw [ltLo] at *; simp at *; omega⟩
theorem isAgg57 : ∀ w, (isAgg 57).run Tryd.prog w = .ok true w := fun _ => rfl
theorem sizeOf57 : ∀ w, (Go.sizeOf 57).run Tryd.prog w = .ok 2 w := fun _ => rfl
/-- slices.SortFunc, at whatever length -/
theorem sort57 (blk off cap : Nat) (d : Array (Int × Int)) (w : World) (hH : HoldsK encR 2 w blk off d) (hblk : blk < w.heap.size) (hsz : d.size < 4611686018427387904) :
    Calls Tryd.prog 57 #[.slice (some ⟨blk, off, none⟩) d.size cap, .func (.func 58) #[] #[]] w fun e w' => e = .returned (.tuple #[]) ∧ ∃ d' n os, PermIn 0 d.size d d' ∧ SortedIn (ltOf fun x y : Int × Int => Lib.compareInt x.1 y.1) 0 d.size d' ∧ w' = sortWorldK encR 2 w blk off n d' os := by
  have eg : ∀ args w, (callFunc 58 args).run Tryd.prog w = .ok (.enter 58 args) w := enters_of Tryd.func58 (by kernel_rfl) rfl
  have hcon := AnyQ.slices_SortFunc Tryd.sortRng 2 isAgg57 sizeOf57 encR (fun _ => rfl) (fun x v hv => by simp [encR] at hv; rcases hv with rfl | rfl <;> rfl) (fun x y => Lib.compareInt x.1 y.1) swoLo 58 #[] blk off cap d w eg (cmpLays58 blk off d.size w) hH hblk hsz
  exact hcon
end Go.Proofs.YtjglehklfdhgaaaDoor
