/- HELPERS: texts of ours put together. -/
import Derived.Test.YtjdbnoccdefnaaaGreatK40
namespace Go.Proofs.YtjdbnoccdefnaaaGreat.Look
open Go.RowKit
set_option linter.unusedVariables false
set_option linter.unusedSimpArgs false
def edgeB (l:List Int) (p:Nat):Bool:=waB l p != wbB l p
def Box (w:World) (g:Nat) (v:Value) (p:Int) (w':World):Prop:=Below w.heap.size w w' ∧ w'.cell? ⟨g,0,none⟩ = some v ∧ w'.cell? ⟨g,1,none⟩ = some (.int .i64 p) ∧ g < w'.heap.size
theorem Box.below {w:World} {g:Nat} {v:Value} {p:Int} {w1 w2:World} (h:Box w g v p w1) (hb:Below w1.heap.size w1 w2):Box w g v p w2:=
  ⟨h.1.trans (hb.mono h.1.size),(hb.cell (p:=⟨g,0,none⟩) h.2.2.2).trans h.2.1,(hb.cell (p:=⟨g,1,none⟩) h.2.2.2).trans h.2.2.1,Nat.lt_of_lt_of_le h.2.2.2 hb.size⟩
theorem Box.new (w:World) (v:Value) (p:Int):Box w w.heap.size v p (w.alloc (.cells #[v,.int .i64 p] 136)):=by
  refine ⟨(Below.refl _ _).alloc (Nat.le_refl _) _,?_,?_,by simp⟩
  · rw [World.cell?_alloc_at _ _ _ _ rfl];rfl
  · rw [World.cell?_alloc_at _ _ _ _ rfl];rfl
theorem Box.drew {w:World} {g:Nat} {v:Value} {p:Int} {w1:World} (h:Box w g v p w1):Box w g v p w1.drew:=
  ⟨h.1.trans ⟨rfl,rfl,rfl,Nat.le_refl _,fun _ _ => rfl⟩,h.2.1,h.2.2.1,h.2.2.2⟩
set_option maxHeartbeats 1000000 in
theorem edge23 (ad:Option Addr) (n cap p:Nat) (l:List Int) (w:World) (hT:Hid (TxAt w.heap.size w ad n l)) (hp:p ≤ n):Calls Tryz.prog 122 #[.agg #[.slice ad n cap,.int .i64 p]] w fun e w' => e = .returned (.bool (edgeB l p)) ∧ Below w.heap.size w w':=by
  have h1:=fun w' (hb:Box w w.heap.size (.slice ad n cap) p w') => (wa25 ad n cap p l w' ((hT.out.below hb.1).mono hb.1.size) hp).mono fun e w'' h => (⟨h.1,hb.below h.2⟩:_ ∧ Box w w.heap.size (.slice ad n cap) p w'')
  have h2:=fun w' (hb:Box w w.heap.size (.slice ad n cap) p w') => (wb26 ad n cap p l w' ((hT.out.below hb.1).mono hb.1.size) hp).mono fun e w'' h => (⟨h.1,hb.below h.2⟩:_ ∧ Box w w.heap.size (.slice ad n cap) p w'')
  have hB0:=(Box.new w (.slice ad n cap) p).drew
  have he:edgeB l p = (waB l p != wbB l p):=rfl
  generalize edgeB l p = E at he ⊢
  generalize waB l p = A at he h1
  generalize wbB l p = B at he h2
  subst he
  go_enter Tryz.func122,Tryz.ntmps122
  go_wp2
  go_region_with (first
    | (go_at_call 126;refine (h1 _ (by assumption)).mono ?_;rintro e w' ⟨rfl,hB⟩;obtain ⟨hb,c0,c1,hg⟩:=id hB)
    | (go_at_call 127;refine (h2 _ (by assumption)).mono ?_;rintro e w' ⟨rfl,hB⟩;obtain ⟨hb,c0,c1,hg⟩:=id hB))
  all_goals go_wp2
  all_goals go_ret
  all_goals exact ⟨rfl,by assumption⟩
set_option maxHeartbeats 1000000 in
theorem noedge24 (ad:Option Addr) (n cap p:Nat) (l:List Int) (w:World) (hT:Hid (TxAt w.heap.size w ad n l)) (hp:p ≤ n):Calls Tryz.prog 123 #[.agg #[.slice ad n cap,.int .i64 p]] w fun e w' => e = .returned (.bool (!edgeB l p)) ∧ Below w.heap.size w w':=by
  have h1:=fun w' (hb:Box w w.heap.size (.slice ad n cap) p w') => (edge23 ad n cap p l w' ((hT.out.below hb.1).mono hb.1.size) hp).mono fun e w'' h => (⟨h.1,hb.below h.2⟩:_ ∧ Box w w.heap.size (.slice ad n cap) p w'')
  have hB0:=(Box.new w (.slice ad n cap) p)
  generalize edgeB l p = E at h1
  go_enter Tryz.func123,Tryz.ntmps123
  go_wp2_with (go_at_call 122;refine (h1 _ (by assumption)).mono ?_;rintro e w' ⟨rfl,hB⟩)
  go_ret
  exact ⟨rfl,hB.1⟩
def bI (b:Bool) (x:Int):Int:=if b then x else 0
def sumB (b1 b2 b3 b4 b5:Bool):Nat → Int
  | 0 => 0
  | 1 => bI b1 1
  | 2 => bI b1 1 + bI b2 2
  | 3 => bI b1 1 + bI b2 2 + bI b3 4
  | 4 => bI b1 1 + bI b2 2 + bI b3 4 + bI b4 8
  | 5 => bI b1 1 + bI b2 2 + bI b3 4 + bI b4 8 + bI b5 16
  | _ => bI b1 1 + bI b2 2 + bI b3 4 + bI b4 8 + bI b5 16 + bI (!b5) 32
def atP (l:List Int) (p:Nat):Int:=sumB (begB p) (endB l p) (blB l p) (elB l p) (edgeB l p) 6
def atN (l:List Int) (p:Int):Int:=if p < 0 ∨ (l.length:Int) < p then 0 else atP l p.toNat
theorem or_row (b1 b2 b3 b4 b5:Bool) :
    bits .or .i64 (sumB b1 b2 b3 b4 b5 0) 1 = sumB true b2 b3 b4 b5 1 ∧
    bits .or .i64 (sumB b1 b2 b3 b4 b5 1) 2 = sumB b1 true b3 b4 b5 2 ∧
    bits .or .i64 (sumB b1 b2 b3 b4 b5 2) 4 = sumB b1 b2 true b4 b5 3 ∧
    bits .or .i64 (sumB b1 b2 b3 b4 b5 3) 8 = sumB b1 b2 b3 true b5 4 ∧
    bits .or .i64 (sumB b1 b2 b3 b4 b5 4) 16 = sumB b1 b2 b3 b4 true 5 ∧
    bits .or .i64 (sumB b1 b2 b3 b4 false 5) 32 = sumB b1 b2 b3 b4 false 6:=by
  cases b1 <;> cases b2 <;> cases b3 <;> cases b4 <;> cases b5 <;> decide +kernel
set_option maxRecDepth 100000 in
theorem ix0 (w:World):(Instr.index 140 (.agg rowsV) (.int .i64 0)).run Tryz.prog w = .ok (.agg #[.int .i64 1,.int .i64 2,.func (.func 118) #[] #[]]) w:=rfl
set_option maxRecDepth 100000 in
theorem ix1 (w:World):(Instr.index 140 (.agg rowsV) (.int .i64 1)).run Tryz.prog w = .ok (.agg #[.int .i64 2,.int .i64 1,.func (.func 119) #[] #[]]) w:=rfl
set_option maxRecDepth 100000 in
theorem ix2 (w:World):(Instr.index 140 (.agg rowsV) (.int .i64 2)).run Tryz.prog w = .ok (.agg #[.int .i64 4,.int .i64 8,.func (.func 120) #[] #[]]) w:=rfl
set_option maxRecDepth 100000 in
theorem ix3 (w:World):(Instr.index 140 (.agg rowsV) (.int .i64 3)).run Tryz.prog w = .ok (.agg #[.int .i64 8,.int .i64 4,.func (.func 121) #[] #[]]) w:=rfl
set_option maxRecDepth 100000 in
theorem ix4 (w:World):(Instr.index 140 (.agg rowsV) (.int .i64 4)).run Tryz.prog w = .ok (.agg #[.int .i64 16,.int .i64 16,.func (.func 122) #[] #[]]) w:=rfl
set_option maxRecDepth 100000 in
theorem ix5 (w:World):(Instr.index 140 (.agg rowsV) (.int .i64 5)).run Tryz.prog w = .ok (.agg #[.int .i64 32,.int .i64 32,.func (.func 123) #[] #[]]) w:=rfl
set_option maxHeartbeats 1000000 in
theorem at_in (l:List Int) (ad:Option Addr) (n cap p:Nat) (w:World) (hT:Hid (TxAt w.heap.size w ad n l)) (hp:p ≤ n) (hm:n ≤ 35184372088832) :
    Calls Tryz.prog 79 #[.slice ad n cap,.int .i64 p] w fun e w' => e = .returned (.int .i64 (atP l p)) ∧ Below w.heap.size w w':=by
  have k0:=fun w' (hb:Box w w.heap.size (.slice ad n cap) p w') => (beg19 ad n cap p w').mono fun e w'' h => (⟨h.1,hb.below h.2,h.2⟩:_ ∧ Box w w.heap.size (.slice ad n cap) p w'' ∧ Below w'.heap.size w' w'')
  have k1:=fun w' (hb:Box w w.heap.size (.slice ad n cap) p w') => (end20 ad n cap p l w' hT.out.1).mono fun e w'' h => (⟨h.1,hb.below h.2,h.2⟩:_ ∧ Box w w.heap.size (.slice ad n cap) p w'' ∧ Below w'.heap.size w' w'')
  have k2:=fun w' (hb:Box w w.heap.size (.slice ad n cap) p w') => (bl21 ad n cap p l w' ((hT.out.below hb.1).mono hb.1.size) hp).mono fun e w'' h => (⟨h.1,hb.below h.2,h.2⟩:_ ∧ Box w w.heap.size (.slice ad n cap) p w'' ∧ Below w'.heap.size w' w'')
  have k3:=fun w' (hb:Box w w.heap.size (.slice ad n cap) p w') => (el22 ad n cap p l w' ((hT.out.below hb.1).mono hb.1.size) hp).mono fun e w'' h => (⟨h.1,hb.below h.2,h.2⟩:_ ∧ Box w w.heap.size (.slice ad n cap) p w'' ∧ Below w'.heap.size w' w'')
  have k4:=fun w' (hb:Box w w.heap.size (.slice ad n cap) p w') => (edge23 ad n cap p l w' ((hT.out.below hb.1).mono hb.1.size) hp).mono fun e w'' h => (⟨h.1,hb.below h.2,h.2⟩:_ ∧ Box w w.heap.size (.slice ad n cap) p w'' ∧ Below w'.heap.size w' w'')
  have k5:=fun w' (hb:Box w w.heap.size (.slice ad n cap) p w') => (noedge24 ad n cap p l w' ((hT.out.below hb.1).mono hb.1.size) hp).mono fun e w'' h => (⟨h.1,hb.below h.2,h.2⟩:_ ∧ Box w w.heap.size (.slice ad n cap) p w'' ∧ Below w'.heap.size w' w'')
  have hB0:=(Box.new w (.slice ad n cap) p)
  have he:atP l p = sumB (begB p) (endB l p) (blB l p) (elB l p) (edgeB l p) 6:=rfl
  generalize atP l p = E at he ⊢
  generalize begB p = b1 at he k0
  generalize endB l p = b2 at he k1
  generalize blB l p = b3 at he k2
  generalize elB l p = b4 at he k3
  generalize edgeB l p = b5 at he k4 k5
  subst he
  have hrows:=rows17
  go_enter Tryz.func79,Tryz.ntmps79
  go_wp2_with (go_at_call 103;refine (hrows _).mono ?_;rintro e w' ⟨rfl,rfl⟩)
  go_loopw [6,21] (fun bt i wr => ∃ (k:Nat),k ≤ 6 ∧ i = .int .i64 k ∧ bt = .int .i64 (sumB b1 b2 b3 b4 b5 k) ∧ Box w w.heap.size (.slice ad n cap) p wr) (fun _ i _ => 6 - (intOf i).toNat)
  case atStart => exact ⟨0,by omega,rfl,rfl,hB0.below ((Below.refl _ _).alloc (Nat.le_refl _) _)⟩
  case round =>
    obtain ⟨k,hk,rfl,rfl,hB⟩:=hrel
    by_cases hlt:k < 6
    · have hk6:k = 0 ∨ k = 1 ∨ k = 2 ∨ k = 3 ∨ k = 4 ∨ k = 5:=by omega
      rcases hk6 with rfl | rfl | rfl | rfl | rfl | rfl
      · obtain ⟨hb,c0,c1,hg⟩:=id hB
        have hix:=ix0
        have hor:=(or_row b1 b2 b3 b4 b5).1
        cases b1
        · go_wp2_with (go_at_call 118;refine (k0 _ (by exact hB.below ((Below.refl _ _).alloc (Nat.le_refl _) _))).mono ?_;rintro e w' ⟨rfl,hB2,hb2⟩;have r0:w'.cell? ⟨wr.heap.size,0,none⟩ = some (.int .i64 1):=(hb2.cell (p:=⟨wr.heap.size,0,none⟩) (by simp)).trans (by rw [World.cell?_alloc_at _ _ _ _ rfl];rfl))
          go_roundw
          case rel => exact ⟨1,by omega,by go_num,by simp [sumB,bI],hB2⟩
          case measure => simp [intOf]
        · go_wp2_with (go_at_call 118;refine (k0 _ (by exact hB.below ((Below.refl _ _).alloc (Nat.le_refl _) _))).mono ?_;rintro e w' ⟨rfl,hB2,hb2⟩;have r0:w'.cell? ⟨wr.heap.size,0,none⟩ = some (.int .i64 1):=(hb2.cell (p:=⟨wr.heap.size,0,none⟩) (by simp)).trans (by rw [World.cell?_alloc_at _ _ _ _ rfl];rfl))
          go_roundw
          case rel => exact ⟨1,by omega,by go_num,by first | rfl | exact congrArg _ hor,hB2⟩
          case measure => simp [intOf]
      · obtain ⟨hb,c0,c1,hg⟩:=id hB
        have hix:=ix1
        have hor:=(or_row b1 b2 b3 b4 b5).2.1
        cases b2
        · go_wp2_with (go_at_call 119;refine (k1 _ (by exact hB.below ((Below.refl _ _).alloc (Nat.le_refl _) _))).mono ?_;rintro e w' ⟨rfl,hB2,hb2⟩;have r0:w'.cell? ⟨wr.heap.size,0,none⟩ = some (.int .i64 2):=(hb2.cell (p:=⟨wr.heap.size,0,none⟩) (by simp)).trans (by rw [World.cell?_alloc_at _ _ _ _ rfl];rfl))
          go_roundw
          case rel => exact ⟨2,by omega,by go_num,by simp [sumB,bI],hB2⟩
          case measure => simp [intOf]
        · go_wp2_with (go_at_call 119;refine (k1 _ (by exact hB.below ((Below.refl _ _).alloc (Nat.le_refl _) _))).mono ?_;rintro e w' ⟨rfl,hB2,hb2⟩;have r0:w'.cell? ⟨wr.heap.size,0,none⟩ = some (.int .i64 2):=(hb2.cell (p:=⟨wr.heap.size,0,none⟩) (by simp)).trans (by rw [World.cell?_alloc_at _ _ _ _ rfl];rfl))
          go_roundw
          case rel => exact ⟨2,by omega,by go_num,by first | rfl | exact congrArg _ hor,hB2⟩
          case measure => simp [intOf]
      · obtain ⟨hb,c0,c1,hg⟩:=id hB
        have hix:=ix2
        have hor:=(or_row b1 b2 b3 b4 b5).2.2.1
        cases b3
        · go_wp2_with (go_at_call 120;refine (k2 _ (by exact hB.below ((Below.refl _ _).alloc (Nat.le_refl _) _))).mono ?_;rintro e w' ⟨rfl,hB2,hb2⟩;have r0:w'.cell? ⟨wr.heap.size,0,none⟩ = some (.int .i64 4):=(hb2.cell (p:=⟨wr.heap.size,0,none⟩) (by simp)).trans (by rw [World.cell?_alloc_at _ _ _ _ rfl];rfl))
          go_roundw
          case rel => exact ⟨3,by omega,by go_num,by simp [sumB,bI],hB2⟩
          case measure => simp [intOf]
        · go_wp2_with (go_at_call 120;refine (k2 _ (by exact hB.below ((Below.refl _ _).alloc (Nat.le_refl _) _))).mono ?_;rintro e w' ⟨rfl,hB2,hb2⟩;have r0:w'.cell? ⟨wr.heap.size,0,none⟩ = some (.int .i64 4):=(hb2.cell (p:=⟨wr.heap.size,0,none⟩) (by simp)).trans (by rw [World.cell?_alloc_at _ _ _ _ rfl];rfl))
          go_roundw
          case rel => exact ⟨3,by omega,by go_num,by first | rfl | exact congrArg _ hor,hB2⟩
          case measure => simp [intOf]
      · obtain ⟨hb,c0,c1,hg⟩:=id hB
        have hix:=ix3
        have hor:=(or_row b1 b2 b3 b4 b5).2.2.2.1
        cases b4
        · go_wp2_with (go_at_call 121;refine (k3 _ (by exact hB.below ((Below.refl _ _).alloc (Nat.le_refl _) _))).mono ?_;rintro e w' ⟨rfl,hB2,hb2⟩;have r0:w'.cell? ⟨wr.heap.size,0,none⟩ = some (.int .i64 8):=(hb2.cell (p:=⟨wr.heap.size,0,none⟩) (by simp)).trans (by rw [World.cell?_alloc_at _ _ _ _ rfl];rfl))
          go_roundw
          case rel => exact ⟨4,by omega,by go_num,by simp [sumB,bI],hB2⟩
          case measure => simp [intOf]
        · go_wp2_with (go_at_call 121;refine (k3 _ (by exact hB.below ((Below.refl _ _).alloc (Nat.le_refl _) _))).mono ?_;rintro e w' ⟨rfl,hB2,hb2⟩;have r0:w'.cell? ⟨wr.heap.size,0,none⟩ = some (.int .i64 8):=(hb2.cell (p:=⟨wr.heap.size,0,none⟩) (by simp)).trans (by rw [World.cell?_alloc_at _ _ _ _ rfl];rfl))
          go_roundw
          case rel => exact ⟨4,by omega,by go_num,by first | rfl | exact congrArg _ hor,hB2⟩
          case measure => simp [intOf]
      · obtain ⟨hb,c0,c1,hg⟩:=id hB
        have hix:=ix4
        have hor:=(or_row b1 b2 b3 b4 b5).2.2.2.2.1
        cases b5
        · go_wp2_with (go_at_call 122;refine (k4 _ (by exact hB.below ((Below.refl _ _).alloc (Nat.le_refl _) _))).mono ?_;rintro e w' ⟨rfl,hB2,hb2⟩;have r0:w'.cell? ⟨wr.heap.size,0,none⟩ = some (.int .i64 16):=(hb2.cell (p:=⟨wr.heap.size,0,none⟩) (by simp)).trans (by rw [World.cell?_alloc_at _ _ _ _ rfl];rfl))
          go_roundw
          case rel => exact ⟨5,by omega,by go_num,by simp [sumB,bI],hB2⟩
          case measure => simp [intOf]
        · go_wp2_with (go_at_call 122;refine (k4 _ (by exact hB.below ((Below.refl _ _).alloc (Nat.le_refl _) _))).mono ?_;rintro e w' ⟨rfl,hB2,hb2⟩;have r0:w'.cell? ⟨wr.heap.size,0,none⟩ = some (.int .i64 16):=(hb2.cell (p:=⟨wr.heap.size,0,none⟩) (by simp)).trans (by rw [World.cell?_alloc_at _ _ _ _ rfl];rfl))
          go_roundw
          case rel => exact ⟨5,by omega,by go_num,by first | rfl | exact congrArg _ hor,hB2⟩
          case measure => simp [intOf]
      · obtain ⟨hb,c0,c1,hg⟩:=id hB
        have hix:=ix5
        have hor:=(or_row b1 b2 b3 b4 b5).2.2.2.2.2
        cases b5
        · go_wp2_with (go_at_call 123;refine (k5 _ (by exact hB.below ((Below.refl _ _).alloc (Nat.le_refl _) _))).mono ?_;rintro e w' ⟨rfl,hB2,hb2⟩;have r0:w'.cell? ⟨wr.heap.size,0,none⟩ = some (.int .i64 32):=(hb2.cell (p:=⟨wr.heap.size,0,none⟩) (by simp)).trans (by rw [World.cell?_alloc_at _ _ _ _ rfl];rfl))
          go_roundw
          case rel => exact ⟨6,by omega,by go_num,by first | rfl | exact congrArg _ hor,hB2⟩
          case measure => simp [intOf]
        · go_wp2_with (go_at_call 123;refine (k5 _ (by exact hB.below ((Below.refl _ _).alloc (Nat.le_refl _) _))).mono ?_;rintro e w' ⟨rfl,hB2,hb2⟩;have r0:w'.cell? ⟨wr.heap.size,0,none⟩ = some (.int .i64 32):=(hb2.cell (p:=⟨wr.heap.size,0,none⟩) (by simp)).trans (by rw [World.cell?_alloc_at _ _ _ _ rfl];rfl))
          go_roundw
          case rel => exact ⟨6,by omega,by go_num,by simp [sumB,bI],hB2⟩
          case measure => simp [intOf]
    · obtain rfl:k = 6:=by omega
      go_wp2
      go_ret
      exact ⟨rfl,hB.1⟩
set_option maxHeartbeats 1000000 in
theorem at_out (l:List Int) (ad:Option Addr) (n cap:Nat) (p:Int) (w:World) (hp:p < 0 ∨ (n:Int) < p) :
    Calls Tryz.prog 79 #[.slice ad n cap,.int .i64 p] w fun e w' => e = .returned (.int .i64 0) ∧ Below w.heap.size w w':=by
  rcases hp with hp | hp
  · go_enter Tryz.func79,Tryz.ntmps79
    go_wp2
    go_ret
    exact ⟨rfl,Below.refl _ _⟩
  · by_cases h0:p < 0
    · go_enter Tryz.func79,Tryz.ntmps79
      go_wp2
      go_ret
      exact ⟨rfl,Below.refl _ _⟩
    · go_enter Tryz.func79,Tryz.ntmps79
      go_wp2
      go_ret
      exact ⟨rfl,Below.refl _ _⟩
theorem at10 (l:List Int) (ad:Option Addr) (n cap:Nat) (p:Int) (w:World) (hT:TxAt w.heap.size w ad n l) :
    Calls Tryz.prog 79 #[.slice ad n cap,.int .i64 p] w fun e w' => e = .returned (.int .i64 (atN l p)) ∧ Below w.heap.size w w':=by
  have hn:=hT.1
  by_cases h:p < 0 ∨ (l.length:Int) < p
  · rw [show atN l p = 0 by unfold atN;rw [if_pos h]]
    exact at_out l ad n cap p w (by rw [hn];exact h)
  · obtain ⟨q,rfl⟩:=Int.eq_ofNat_of_zero_le (show 0 ≤ p by omega)
    rw [show atN l (q:Int) = atP l q by unfold atN;rw [if_neg h];rfl]
    exact at_in l ad n cap q w hT (by omega) hT.2.1
end Go.Proofs.YtjdbnoccdefnaaaGreat.Look
