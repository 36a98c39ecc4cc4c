/- HELPERS: texts of ours put together. -/
import Derived.Test.YtacaanhnlfpbhaaGreatK04
import Derived.Test.YtacaanhnlfpbhaaGreatK02
import Derived.Test.YtacaanhnlfpbhaaGreatK01
import Derived.Test.YtacaanhnlfpbhaaGreatK03
import Derived.Laws.EntriesVeiled
import Derived.WalkSmall
import Derived.BigQuiet
import Derived.Deep.QuietTactic
import Derived.Deep.RegionWith
import Derived.Deep.WholeRow
import Derived.Deep.SlicePairs
import Derived.RowKit
import Derived.Deep.Cut
import Derived.Deep.CutRange
namespace Go.Proofs.YtacaanhnlfpbhaaGreat.Look
open Go.RowKit
set_option linter.unusedVariables false
set_option linter.unusedSimpArgs false
def edgeB (l:List Int) (p:Nat):Bool:=waB l p != wbB l p
def Box (w:World) (g:Nat) (v:Value) (p:Int) (w':World):Prop:=Below w.heap.size w w'∧w'.cell? ⟨g,0,none⟩=some v∧w'.cell? ⟨g,1,none⟩=some (.int .i64 p)∧g < w'.heap.size
theorem Box.below {w:World} {g:Nat} {v:Value} {p:Int} {w1 w2:World} (h:Box w g v p w1) (hb:Below w1.heap.size w1 w2):Box w g v p w2:=
 ⟨h.1.trans (hb.mono h.1.size),(hb.cell (p:=⟨g,0,none⟩) h.2.2.2).trans h.2.1,(hb.cell (p:=⟨g,1,none⟩) h.2.2.2).trans h.2.2.1,Nat.lt_of_lt_of_le h.2.2.2 hb.size⟩
theorem Box.new (w:World) (v:Value) (p:Int):Box w w.heap.size v p (w.alloc (.cells #[v,.int .i64 p] 169)):=by
 refine ⟨(Below.refl _ _).alloc (Nat.le_refl _) _,?_,?_,by simp⟩
 ·rw [World.cell?_alloc_at _ _ _ _ rfl];rfl
 ·rw [World.cell?_alloc_at _ _ _ _ rfl];rfl
theorem Box.drew {w:World} {g:Nat} {v:Value} {p:Int} {w1:World} (h:Box w g v p w1):Box w g v p w1.drew:=
 ⟨h.1.trans ⟨rfl,rfl,rfl,Nat.le_refl _,fun _ _=>rfl⟩,h.2.1,h.2.2.1,h.2.2.2⟩
set_option maxHeartbeats 1000000 in
theorem edge23 (ad:Option Addr) (n cap p:Nat) (l:List Int) (w:World) (hT:Hid (TextAt w.heap.size w ad n l)) (hp:p≤n):Calls Tryz.prog 178 #[.agg #[.slice ad n cap,.int .i64 p]] w fun e w'=>e=.returned (.bool (edgeB l p))∧Below w.heap.size w w':=by
 have h1:=fun w' (hb:Box w w.heap.size (.slice ad n cap) p w')=>(wa25 ad n cap p l w' ((hT.out.below hb.1).mono hb.1.size) hp).mono fun e w'' h=>(⟨h.1,hb.below h.2⟩:_∧Box w w.heap.size (.slice ad n cap) p w'')
 have h2:=fun w' (hb:Box w w.heap.size (.slice ad n cap) p w')=>(wb26 ad n cap p l w' ((hT.out.below hb.1).mono hb.1.size) hp).mono fun e w'' h=>(⟨h.1,hb.below h.2⟩:_∧Box w w.heap.size (.slice ad n cap) p w'')
 have hB0:=(Box.new w (.slice ad n cap) p).drew
 have he:edgeB l p=(waB l p != wbB l p):=rfl
 generalize edgeB l p=E at he ⊢
 generalize waB l p=A at he h1
 generalize wbB l p=B at he h2
 subst he
 go_enter Tryz.func178,Tryz.ntmps178
 go_wp2
 go_region_with (first
  | (go_at_call 226;refine (h1 _ (by assumption)).mono ?_;rintro e w' ⟨rfl,hB⟩;obtain ⟨hb,c0,c1,hg⟩:=id hB)
  | (go_at_call 227;refine (h2 _ (by assumption)).mono ?_;rintro e w' ⟨rfl,hB⟩;obtain ⟨hb,c0,c1,hg⟩:=id hB))
 all_goals go_wp2
 all_goals go_ret
 all_goals exact ⟨rfl,by assumption⟩
set_option maxHeartbeats 1000000 in
theorem noedge24 (ad:Option Addr) (n cap p:Nat) (l:List Int) (w:World) (hT:Hid (TextAt w.heap.size w ad n l)) (hp:p≤n):Calls Tryz.prog 179 #[.agg #[.slice ad n cap,.int .i64 p]] w fun e w'=>e=.returned (.bool (!edgeB l p))∧Below w.heap.size w w':=by
 have h1:=fun w' (hb:Box w w.heap.size (.slice ad n cap) p w')=>(edge23 ad n cap p l w' ((hT.out.below hb.1).mono hb.1.size) hp).mono fun e w'' h=>(⟨h.1,hb.below h.2⟩:_∧Box w w.heap.size (.slice ad n cap) p w'')
 have hB0:=(Box.new w (.slice ad n cap) p)
 generalize edgeB l p=E at h1
 go_enter Tryz.func179,Tryz.ntmps179
 go_wp2_with (go_at_call 178;refine (h1 _ (by assumption)).mono ?_;rintro e w' ⟨rfl,hB⟩)
 go_ret
 exact ⟨rfl,hB.1⟩
def bI (b:Bool) (x:Int):Int:=if b then x else 0
def sumB (b1 b2 b3 b4 b5:Bool):Nat→Int
 | 0=>0
 | 1=>bI b1 1
 | 2=>bI b1 1 + bI b2 2
 | 3=>bI b1 1 + bI b2 2 + bI b3 4
 | 4=>bI b1 1 + bI b2 2 + bI b3 4 + bI b4 8
 | 5=>bI b1 1 + bI b2 2 + bI b3 4 + bI b4 8 + bI b5 16
 | _=>bI b1 1 + bI b2 2 + bI b3 4 + bI b4 8 + bI b5 16 + bI (!b5) 32
def atP (l:List Int) (p:Nat):Int:=sumB (begB p) (endB l p) (blB l p) (elB l p) (edgeB l p) 6
def atN (l:List Int) (p:Int):Int:=if p < 0∨(l.length:Int) < p then 0 else atP l p.toNat
theorem or_row (b1 b2 b3 b4 b5:Bool) :
  bits .or .i64 (sumB b1 b2 b3 b4 b5 0) 1=sumB true b2 b3 b4 b5 1 ∧
  bits .or .i64 (sumB b1 b2 b3 b4 b5 1) 2=sumB b1 true b3 b4 b5 2 ∧
  bits .or .i64 (sumB b1 b2 b3 b4 b5 2) 4=sumB b1 b2 true b4 b5 3 ∧
  bits .or .i64 (sumB b1 b2 b3 b4 b5 3) 8=sumB b1 b2 b3 true b5 4 ∧
  bits .or .i64 (sumB b1 b2 b3 b4 b5 4) 16=sumB b1 b2 b3 b4 true 5 ∧
  bits .or .i64 (sumB b1 b2 b3 b4 false 5) 32=sumB b1 b2 b3 b4 false 6:=by
 cases b1 <;> cases b2 <;> cases b3 <;> cases b4 <;> cases b5 <;> decide +kernel
set_option maxRecDepth 100000 in
theorem ix0 (w:World):(Instr.index 173 (.agg rowsV) (.int .i64 0)).run Tryz.prog w=.ok (.agg #[.int .i64 1,.int .i64 2,.func (.func 174) #[] #[]]) w:=rfl
set_option maxRecDepth 100000 in
theorem ix1 (w:World):(Instr.index 173 (.agg rowsV) (.int .i64 1)).run Tryz.prog w=.ok (.agg #[.int .i64 2,.int .i64 1,.func (.func 175) #[] #[]]) w:=rfl
set_option maxRecDepth 100000 in
theorem ix2 (w:World):(Instr.index 173 (.agg rowsV) (.int .i64 2)).run Tryz.prog w=.ok (.agg #[.int .i64 4,.int .i64 8,.func (.func 176) #[] #[]]) w:=rfl
set_option maxRecDepth 100000 in
theorem ix3 (w:World):(Instr.index 173 (.agg rowsV) (.int .i64 3)).run Tryz.prog w=.ok (.agg #[.int .i64 8,.int .i64 4,.func (.func 177) #[] #[]]) w:=rfl
set_option maxRecDepth 100000 in
theorem ix4 (w:World):(Instr.index 173 (.agg rowsV) (.int .i64 4)).run Tryz.prog w=.ok (.agg #[.int .i64 16,.int .i64 16,.func (.func 178) #[] #[]]) w:=rfl
set_option maxRecDepth 100000 in
theorem ix5 (w:World):(Instr.index 173 (.agg rowsV) (.int .i64 5)).run Tryz.prog w=.ok (.agg #[.int .i64 32,.int .i64 32,.func (.func 179) #[] #[]]) w:=rfl
set_option maxHeartbeats 1000000 in
theorem at_in (l:List Int) (ad:Option Addr) (n cap p:Nat) (w:World) (hT:Hid (TextAt w.heap.size w ad n l)) (hp:p≤n) (hm:n≤35184372088832) :
  Calls Tryz.prog 74 #[.slice ad n cap,.int .i64 p] w fun e w'=>e=.returned (.int .i64 (atP l p))∧Below w.heap.size w w':=by
 have k0:=fun w' (hb:Box w w.heap.size (.slice ad n cap) p w')=>(beg19 ad n cap p w').mono fun e w'' h=>(⟨h.1,hb.below h.2,h.2⟩:_∧Box w w.heap.size (.slice ad n cap) p w''∧Below w'.heap.size w' w'')
 have k1:=fun w' (hb:Box w w.heap.size (.slice ad n cap) p w')=>(end20 ad n cap p l w' hT.out.1).mono fun e w'' h=>(⟨h.1,hb.below h.2,h.2⟩:_∧Box w w.heap.size (.slice ad n cap) p w''∧Below w'.heap.size w' w'')
 have k2:=fun w' (hb:Box w w.heap.size (.slice ad n cap) p w')=>(bl21 ad n cap p l w' ((hT.out.below hb.1).mono hb.1.size) hp).mono fun e w'' h=>(⟨h.1,hb.below h.2,h.2⟩:_∧Box w w.heap.size (.slice ad n cap) p w''∧Below w'.heap.size w' w'')
 have k3:=fun w' (hb:Box w w.heap.size (.slice ad n cap) p w')=>(el22 ad n cap p l w' ((hT.out.below hb.1).mono hb.1.size) hp).mono fun e w'' h=>(⟨h.1,hb.below h.2,h.2⟩:_∧Box w w.heap.size (.slice ad n cap) p w''∧Below w'.heap.size w' w'')
 have k4:=fun w' (hb:Box w w.heap.size (.slice ad n cap) p w')=>(edge23 ad n cap p l w' ((hT.out.below hb.1).mono hb.1.size) hp).mono fun e w'' h=>(⟨h.1,hb.below h.2,h.2⟩:_∧Box w w.heap.size (.slice ad n cap) p w''∧Below w'.heap.size w' w'')
 have k5:=fun w' (hb:Box w w.heap.size (.slice ad n cap) p w')=>(noedge24 ad n cap p l w' ((hT.out.below hb.1).mono hb.1.size) hp).mono fun e w'' h=>(⟨h.1,hb.below h.2,h.2⟩:_∧Box w w.heap.size (.slice ad n cap) p w''∧Below w'.heap.size w' w'')
 have hB0:=(Box.new w (.slice ad n cap) p)
 have he:atP l p=sumB (begB p) (endB l p) (blB l p) (elB l p) (edgeB l p) 6:=rfl
 generalize atP l p=E at he ⊢
 generalize begB p=b1 at he k0
 generalize endB l p=b2 at he k1
 generalize blB l p=b3 at he k2
 generalize elB l p=b4 at he k3
 generalize edgeB l p=b5 at he k4 k5
 subst he
 have hrows:=rows17
 go_enter Tryz.func74,Tryz.ntmps74
 go_wp2_with (go_at_call 112;refine (hrows _).mono ?_;rintro e w' ⟨rfl,rfl⟩)
 go_loopw [6,21] (fun bt i wr=>∃ (k:Nat),k≤6∧i=.int .i64 k∧bt=.int .i64 (sumB b1 b2 b3 b4 b5 k)∧Box w w.heap.size (.slice ad n cap) p wr) (fun _ i _=>6 - (intOf i).toNat)
 case atStart=>exact ⟨0,by omega,rfl,rfl,hB0.below ((Below.refl _ _).alloc (Nat.le_refl _) _)⟩
 case round =>
  obtain ⟨k,hk,rfl,rfl,hB⟩:=hrel
  by_cases hlt:k < 6
  ·have hk6:k=0∨k=1∨k=2∨k=3∨k=4∨k=5:=by omega
   rcases hk6 with rfl | rfl | rfl | rfl | rfl | rfl
   ·obtain ⟨hb,c0,c1,hg⟩:=id hB
    have hix:=ix0
    have hor:=(or_row b1 b2 b3 b4 b5).1
    cases b1
    ·go_wp2_with (go_at_call 174;refine (k0 _ (by exact hB.below ((Below.refl _ _).alloc (Nat.le_refl _) _))).mono ?_;rintro e w' ⟨rfl,hB2,hb2⟩;have r0:w'.cell? ⟨wr.heap.size,0,none⟩=some (.int .i64 1):=(hb2.cell (p:=⟨wr.heap.size,0,none⟩) (by simp)).trans (by rw [World.cell?_alloc_at _ _ _ _ rfl];rfl))
     go_roundw
     case rel=>exact ⟨1,by omega,by go_num,by simp [sumB,bI],hB2⟩
     case measure=>simp [intOf]
    ·go_wp2_with (go_at_call 174;refine (k0 _ (by exact hB.below ((Below.refl _ _).alloc (Nat.le_refl _) _))).mono ?_;rintro e w' ⟨rfl,hB2,hb2⟩;have r0:w'.cell? ⟨wr.heap.size,0,none⟩=some (.int .i64 1):=(hb2.cell (p:=⟨wr.heap.size,0,none⟩) (by simp)).trans (by rw [World.cell?_alloc_at _ _ _ _ rfl];rfl))
     go_roundw
     case rel=>exact ⟨1,by omega,by go_num,by first | rfl | exact congrArg _ hor,hB2⟩
     case measure=>simp [intOf]
   ·obtain ⟨hb,c0,c1,hg⟩:=id hB
    have hix:=ix1
    have hor:=(or_row b1 b2 b3 b4 b5).2.1
    cases b2
    ·go_wp2_with (go_at_call 175;refine (k1 _ (by exact hB.below ((Below.refl _ _).alloc (Nat.le_refl _) _))).mono ?_;rintro e w' ⟨rfl,hB2,hb2⟩;have r0:w'.cell? ⟨wr.heap.size,0,none⟩=some (.int .i64 2):=(hb2.cell (p:=⟨wr.heap.size,0,none⟩) (by simp)).trans (by rw [World.cell?_alloc_at _ _ _ _ rfl];rfl))
     go_roundw
     case rel=>exact ⟨2,by omega,by go_num,by simp [sumB,bI],hB2⟩
     case measure=>simp [intOf]
    ·go_wp2_with (go_at_call 175;refine (k1 _ (by exact hB.below ((Below.refl _ _).alloc (Nat.le_refl _) _))).mono ?_;rintro e w' ⟨rfl,hB2,hb2⟩;have r0:w'.cell? ⟨wr.heap.size,0,none⟩=some (.int .i64 2):=(hb2.cell (p:=⟨wr.heap.size,0,none⟩) (by simp)).trans (by rw [World.cell?_alloc_at _ _ _ _ rfl];rfl))
     go_roundw
     case rel=>exact ⟨2,by omega,by go_num,by first | rfl | exact congrArg _ hor,hB2⟩
     case measure=>simp [intOf]
   ·obtain ⟨hb,c0,c1,hg⟩:=id hB
    have hix:=ix2
    have hor:=(or_row b1 b2 b3 b4 b5).2.2.1
    cases b3
    ·go_wp2_with (go_at_call 176;refine (k2 _ (by exact hB.below ((Below.refl _ _).alloc (Nat.le_refl _) _))).mono ?_;rintro e w' ⟨rfl,hB2,hb2⟩;have r0:w'.cell? ⟨wr.heap.size,0,none⟩=some (.int .i64 4):=(hb2.cell (p:=⟨wr.heap.size,0,none⟩) (by simp)).trans (by rw [World.cell?_alloc_at _ _ _ _ rfl];rfl))
     go_roundw
     case rel=>exact ⟨3,by omega,by go_num,by simp [sumB,bI],hB2⟩
     case measure=>simp [intOf]
    ·go_wp2_with (go_at_call 176;refine (k2 _ (by exact hB.below ((Below.refl _ _).alloc (Nat.le_refl _) _))).mono ?_;rintro e w' ⟨rfl,hB2,hb2⟩;have r0:w'.cell? ⟨wr.heap.size,0,none⟩=some (.int .i64 4):=(hb2.cell (p:=⟨wr.heap.size,0,none⟩) (by simp)).trans (by rw [World.cell?_alloc_at _ _ _ _ rfl];rfl))
     go_roundw
     case rel=>exact ⟨3,by omega,by go_num,by first | rfl | exact congrArg _ hor,hB2⟩
     case measure=>simp [intOf]
   ·obtain ⟨hb,c0,c1,hg⟩:=id hB
    have hix:=ix3
    have hor:=(or_row b1 b2 b3 b4 b5).2.2.2.1
    cases b4
    ·go_wp2_with (go_at_call 177;refine (k3 _ (by exact hB.below ((Below.refl _ _).alloc (Nat.le_refl _) _))).mono ?_;rintro e w' ⟨rfl,hB2,hb2⟩;have r0:w'.cell? ⟨wr.heap.size,0,none⟩=some (.int .i64 8):=(hb2.cell (p:=⟨wr.heap.size,0,none⟩) (by simp)).trans (by rw [World.cell?_alloc_at _ _ _ _ rfl];rfl))
     go_roundw
     case rel=>exact ⟨4,by omega,by go_num,by simp [sumB,bI],hB2⟩
     case measure=>simp [intOf]
    ·go_wp2_with (go_at_call 177;refine (k3 _ (by exact hB.below ((Below.refl _ _).alloc (Nat.le_refl _) _))).mono ?_;rintro e w' ⟨rfl,hB2,hb2⟩;have r0:w'.cell? ⟨wr.heap.size,0,none⟩=some (.int .i64 8):=(hb2.cell (p:=⟨wr.heap.size,0,none⟩) (by simp)).trans (by rw [World.cell?_alloc_at _ _ _ _ rfl];rfl))
     go_roundw
     case rel=>exact ⟨4,by omega,by go_num,by first | rfl | exact congrArg _ hor,hB2⟩
     case measure=>simp [intOf]
   ·obtain ⟨hb,c0,c1,hg⟩:=id hB
    have hix:=ix4
    have hor:=(or_row b1 b2 b3 b4 b5).2.2.2.2.1
    cases b5
    ·go_wp2_with (go_at_call 178;refine (k4 _ (by exact hB.below ((Below.refl _ _).alloc (Nat.le_refl _) _))).mono ?_;rintro e w' ⟨rfl,hB2,hb2⟩;have r0:w'.cell? ⟨wr.heap.size,0,none⟩=some (.int .i64 16):=(hb2.cell (p:=⟨wr.heap.size,0,none⟩) (by simp)).trans (by rw [World.cell?_alloc_at _ _ _ _ rfl];rfl))
     go_roundw
     case rel=>exact ⟨5,by omega,by go_num,by simp [sumB,bI],hB2⟩
     case measure=>simp [intOf]
    ·go_wp2_with (go_at_call 178;refine (k4 _ (by exact hB.below ((Below.refl _ _).alloc (Nat.le_refl _) _))).mono ?_;rintro e w' ⟨rfl,hB2,hb2⟩;have r0:w'.cell? ⟨wr.heap.size,0,none⟩=some (.int .i64 16):=(hb2.cell (p:=⟨wr.heap.size,0,none⟩) (by simp)).trans (by rw [World.cell?_alloc_at _ _ _ _ rfl];rfl))
     go_roundw
     case rel=>exact ⟨5,by omega,by go_num,by first | rfl | exact congrArg _ hor,hB2⟩
     case measure=>simp [intOf]
   ·obtain ⟨hb,c0,c1,hg⟩:=id hB
    have hix:=ix5
    have hor:=(or_row b1 b2 b3 b4 b5).2.2.2.2.2
    cases b5
    ·go_wp2_with (go_at_call 179;refine (k5 _ (by exact hB.below ((Below.refl _ _).alloc (Nat.le_refl _) _))).mono ?_;rintro e w' ⟨rfl,hB2,hb2⟩;have r0:w'.cell? ⟨wr.heap.size,0,none⟩=some (.int .i64 32):=(hb2.cell (p:=⟨wr.heap.size,0,none⟩) (by simp)).trans (by rw [World.cell?_alloc_at _ _ _ _ rfl];rfl))
     go_roundw
     case rel=>exact ⟨6,by omega,by go_num,by first | rfl | exact congrArg _ hor,hB2⟩
     case measure=>simp [intOf]
    ·go_wp2_with (go_at_call 179;refine (k5 _ (by exact hB.below ((Below.refl _ _).alloc (Nat.le_refl _) _))).mono ?_;rintro e w' ⟨rfl,hB2,hb2⟩;have r0:w'.cell? ⟨wr.heap.size,0,none⟩=some (.int .i64 32):=(hb2.cell (p:=⟨wr.heap.size,0,none⟩) (by simp)).trans (by rw [World.cell?_alloc_at _ _ _ _ rfl];rfl))
     go_roundw
     case rel=>exact ⟨6,by omega,by go_num,by simp [sumB,bI],hB2⟩
     case measure=>simp [intOf]
  ·obtain rfl:k=6:=by omega
   go_wp2
   go_ret
   exact ⟨rfl,hB.1⟩
set_option maxHeartbeats 1000000 in
theorem at_out (l:List Int) (ad:Option Addr) (n cap:Nat) (p:Int) (w:World) (hp:p < 0∨(n:Int) < p) :
  Calls Tryz.prog 74 #[.slice ad n cap,.int .i64 p] w fun e w'=>e=.returned (.int .i64 0)∧Below w.heap.size w w':=by
 rcases hp with hp | hp
 ·go_enter Tryz.func74,Tryz.ntmps74
  go_wp2
  go_ret
  exact ⟨rfl,Below.refl _ _⟩
 ·by_cases h0:p < 0
  ·go_enter Tryz.func74,Tryz.ntmps74
   go_wp2
   go_ret
   exact ⟨rfl,Below.refl _ _⟩
  ·go_enter Tryz.func74,Tryz.ntmps74
   go_wp2
   go_ret
   exact ⟨rfl,Below.refl _ _⟩
theorem at10 (l:List Int) (ad:Option Addr) (n cap:Nat) (p:Int) (w:World) (hT:TextAt w.heap.size w ad n l) :
  Calls Tryz.prog 74 #[.slice ad n cap,.int .i64 p] w fun e w'=>e=.returned (.int .i64 (atN l p))∧Below w.heap.size w w':=by
 have hn:=hT.1
 by_cases h:p < 0∨(l.length:Int) < p
 ·rw [show atN l p=0 by unfold atN;rw [if_pos h]]
  exact at_out l ad n cap p w (by rw [hn];exact h)
 ·obtain ⟨q,rfl⟩:=Int.eq_ofNat_of_zero_le (show 0≤p by omega)
  rw [show atN l (q:Int)=atP l q by unfold atN;rw [if_neg h];rfl]
  exact at_in l ad n cap q w hT (by omega) hT.2.1
end Go.Proofs.YtacaanhnlfpbhaaGreat.Look
namespace Go.Proofs.YtacaanhnlfpbhaaGreat
open Go.RowKit
set_option linter.unusedVariables false
set_option linter.unusedSimpArgs false
def wordR (r:Int):Bool:=decide (48≤r∧r≤57∨65≤r∧r≤90∨97≤r∧r≤122∨r=95)
def TextAt (N:Nat) (w:World) (ad:Option Addr) (n:Nat) (l:List Int):Prop:=
 n=l.length∧n≤35184372088832∧(n=0∨∃ b off,ad=some ⟨b,off,none⟩∧b < N∧∀ k,k < n→w.cell? ⟨b,off + k,none⟩=some (.int .i64 (l.getD k 0)))
theorem TextAt.below {N:Nat} {w w':World} {ad:Option Addr} {n:Nat} {l:List Int} (h:TextAt N w ad n l) (hb:Below N w w'):TextAt N w' ad n l:=by
 obtain ⟨h1,h2,h | ⟨b,off,ha,hbN,hc⟩⟩:=h
 ·exact ⟨h1,h2,.inl h⟩
 ·exact ⟨h1,h2,.inr ⟨b,off,ha,hbN,fun k hk=>(hb.cell (p:=⟨b,off + k,none⟩) hbN).trans (hc k hk)⟩⟩
theorem TextAt.mono {N M:Nat} {w:World} {ad:Option Addr} {n:Nat} {l:List Int} (h:TextAt N w ad n l) (hNM:N≤M):TextAt M w ad n l:=by
 obtain ⟨h1,h2,h | ⟨b,off,ha,hbN,hc⟩⟩:=h
 ·exact ⟨h1,h2,.inl h⟩
 ·exact ⟨h1,h2,.inr ⟨b,off,ha,by omega,hc⟩⟩
def begB (p:Nat):Bool:=decide (p=0)
def endB (l:List Int) (p:Nat):Bool:=decide (p=l.length)
def blB (l:List Int) (p:Nat):Bool:=decide (p=0) || decide (l.getD (p - 1) 0=10)
def elB (l:List Int) (p:Nat):Bool:=decide (p=l.length) || decide (l.getD p 0=10)
def waB (l:List Int) (p:Nat):Bool:=decide (0 < p) && wordR (l.getD (p - 1) 0)
def wbB (l:List Int) (p:Nat):Bool:=decide (p < l.length) && wordR (l.getD p 0)
def edgeB (l:List Int) (p:Nat):Bool:=waB l p != wbB l p
def bI (b:Bool) (x:Int):Int:=if b then x else 0
def sumB (b1 b2 b3 b4 b5:Bool):Nat→Int
 | 0=>0
 | 1=>bI b1 1
 | 2=>bI b1 1 + bI b2 2
 | 3=>bI b1 1 + bI b2 2 + bI b3 4
 | 4=>bI b1 1 + bI b2 2 + bI b3 4 + bI b4 8
 | 5=>bI b1 1 + bI b2 2 + bI b3 4 + bI b4 8 + bI b5 16
 | _=>bI b1 1 + bI b2 2 + bI b3 4 + bI b4 8 + bI b5 16 + bI (!b5) 32
def atP (l:List Int) (p:Nat):Int:=sumB (begB p) (endB l p) (blB l p) (elB l p) (edgeB l p) 6
def atN (l:List Int) (p:Int):Int:=if p < 0∨(l.length:Int) < p then 0 else atP l p.toNat
set_option maxRecDepth 100000 in
set_option maxHeartbeats 4000000 in
theorem bareE (N:Nv) (w:World):Calls Tryz.prog 147 #[N.v,.bool false,.bool false,.bool false,.bool false,.bool false] w fun e w'=>e=.returned (.bool (bareB N.r2 N.a2 N.s2 N.a4 N.a5 N.a6 N.a7 N.a8 false false false false false))∧Below w.heap.size w w':=by
 obtain ⟨k,r1,r2,r3,a2,s1,s2,s3,a4,a5,a6,a7,a8⟩:=N
 go_enter Tryz.func147,Tryz.ntmps147
 go_wp2
 all_goals go_ret
 all_goals exact ⟨ret_bool (by simp_all [bareB]),Joins.below_alloc1 w _⟩
set_option maxRecDepth 100000 in
set_option maxHeartbeats 4000000 in
theorem bareC (N:Nv) (w:World):Calls Tryz.prog 147 #[N.v,.bool true,.bool false,.bool false,.bool false,.bool false] w fun e w'=>e=.returned (.bool (bareB N.r2 N.a2 N.s2 N.a4 N.a5 N.a6 N.a7 N.a8 true false false false false))∧Below w.heap.size w w':=by
 obtain ⟨k,r1,r2,r3,a2,s1,s2,s3,a4,a5,a6,a7,a8⟩:=N
 go_enter Tryz.func147,Tryz.ntmps147
 go_wp2
 all_goals go_ret
 all_goals exact ⟨ret_bool (by simp_all [bareB]),Joins.below_alloc1 w _⟩
set_option maxRecDepth 100000 in
set_option maxHeartbeats 4000000 in
theorem bareA (N:Nv) (w:World):Calls Tryz.prog 147 #[N.v,.bool false,.bool true,.bool false,.bool false,.bool false] w fun e w'=>e=.returned (.bool (bareB N.r2 N.a2 N.s2 N.a4 N.a5 N.a6 N.a7 N.a8 false true false false false))∧Below w.heap.size w w':=by
 obtain ⟨k,r1,r2,r3,a2,s1,s2,s3,a4,a5,a6,a7,a8⟩:=N
 go_enter Tryz.func147,Tryz.ntmps147
 go_wp2
 all_goals go_ret
 all_goals exact ⟨ret_bool (by simp_all [bareB]),Joins.below_alloc1 w _⟩
set_option maxRecDepth 100000 in
set_option maxHeartbeats 4000000 in
theorem bareS (N:Nv) (w:World):Calls Tryz.prog 147 #[N.v,.bool false,.bool false,.bool true,.bool false,.bool false] w fun e w'=>e=.returned (.bool (bareB N.r2 N.a2 N.s2 N.a4 N.a5 N.a6 N.a7 N.a8 false false true false false))∧Below w.heap.size w w':=by
 obtain ⟨k,r1,r2,r3,a2,s1,s2,s3,a4,a5,a6,a7,a8⟩:=N
 go_enter Tryz.func147,Tryz.ntmps147
 go_wp2
 all_goals go_ret
 all_goals exact ⟨ret_bool (by simp_all [bareB]),Joins.below_alloc1 w _⟩
set_option maxRecDepth 100000 in
set_option maxHeartbeats 4000000 in
theorem bareR (N:Nv) (w:World):Calls Tryz.prog 147 #[N.v,.bool false,.bool false,.bool true,.bool true,.bool false] w fun e w'=>e=.returned (.bool (bareB N.r2 N.a2 N.s2 N.a4 N.a5 N.a6 N.a7 N.a8 false false true true false))∧Below w.heap.size w w':=by
 obtain ⟨k,r1,r2,r3,a2,s1,s2,s3,a4,a5,a6,a7,a8⟩:=N
 go_enter Tryz.func147,Tryz.ntmps147
 go_wp2
 all_goals go_ret
 all_goals exact ⟨ret_bool (by simp_all [bareB]),Joins.below_alloc1 w _⟩
set_option maxRecDepth 100000 in
set_option maxHeartbeats 4000000 in
theorem bareG (N:Nv) (w:World):Calls Tryz.prog 147 #[N.v,.bool false,.bool false,.bool true,.bool false,.bool true] w fun e w'=>e=.returned (.bool (bareB N.r2 N.a2 N.s2 N.a4 N.a5 N.a6 N.a7 N.a8 false false true false true))∧Below w.heap.size w w':=by
 obtain ⟨k,r1,r2,r3,a2,s1,s2,s3,a4,a5,a6,a7,a8⟩:=N
 go_enter Tryz.func147,Tryz.ntmps147
 go_wp2
 all_goals go_ret
 all_goals exact ⟨ret_bool (by simp_all [bareB]),Joins.below_alloc1 w _⟩
theorem assertion74 (n:Int) (w:World):Calls Tryz.prog 148 #[.int .i64 n] w fun e w'=>e=.returned (.bool (assertB n))∧w'=w:=by
 go_enter Tryz.func148,Tryz.ntmps148
 go_wp2
 all_goals go_ret
 all_goals exact ⟨ret_bool (by simp_all [assertB]),rfl⟩
set_option maxRecDepth 100000 in
set_option maxHeartbeats 4000000 in
theorem name75s (s:ByteArray) (w:World) (h1:1≤s.size) (h2:s.size≤32):Calls Tryz.prog 149 #[.string s] w fun e w'=>e=.returned (.bool (nameB s))∧w'=w:=by
 have b1:decide ((s.size:Int) < 1)=false:=by simp;omega
 have b2:decide ((s.size:Int) > 32)=false:=by simp;omega
 have b2':decide (32 < (s.size:Int))=false:=by simp;omega
 obtain ⟨r,hr⟩:∃ r,r=nameB s:=⟨_,rfl⟩
 rw [← hr]
 have HR:=hid' hr
 clear hr
 go_enter Tryz.func149,Tryz.ntmps149
 go_wp2_with fail
 go_loopw [3] (fun y wq=>∃ i:Nat,y=.int .i64 (i:Int)∧i≤s.size∧Hid (∀ j,j < i→okAt s j=true)∧wq=w) (fun y _=>s.size - (intOf y).toNat)
 case atStart=>exact ⟨0,rfl,by omega,fun j hj=>by omega,rfl⟩
 case round =>
  obtain ⟨i,rfl,hi,HJ,rfl⟩:=hrel
  by_cases hil:i < s.size
  ·have b1:decide ((i:Int) < (s.size:Int))=true:=by simp;omega
   have b2:(i:Int) < (s.size:Int):=by omega
   have ad1:IntKind.i64.wrap ((i:Int) + 1)=(i:Int) + 1:=by simp [IntKind.wrap,IntKind.bits,IntKind.signed];omega
   have HC:Hid (∀ (c:Int),c=(s[i].toNat:Int)→okC c i=true→∀ j,j < i + 1→okAt s j=true):=fun c hc h j hj=>by
    by_cases e:j=i
    ·subst e;rw [okAt_eq hil,← hc];exact h
    ·exact HJ.out j (by omega)
   have HD:Hid (∀ (c:Int),c=(s[i].toNat:Int)→okC c i=false→r=false):=fun c hc h=>by rw [HR.out];exact name_false i hil (by rw [← hc];exact h)
   go_wp2
   all_goals first
    | (refine ⟨⟨i + 1,by push_cast;rfl,by omega,HC.out _ rfl (by simp_all [okC] <;> omega),by trivial⟩,?_⟩;(simp [intOf];omega))
    | (go_ret;refine ⟨ret_bool ?_,rfl⟩;exact (HD.out _ rfl (by simp_all [okC] <;> omega)).symm)
  ·have b1:decide ((i:Int) < (s.size:Int))=false:=by simp;omega
   have e:r=true:=by rw [HR.out];exact name_true h1 h2 fun j hj=>HJ.out j (by omega)
   subst e
   go_wp2
   go_ret
   exact ⟨rfl,rfl⟩
theorem name75 (s:ByteArray) (w:World) (hs:s.size≤9223372036854775807):Calls Tryz.prog 149 #[.string s] w fun e w'=>e=.returned (.bool (nameB s))∧w'=w:=by
 by_cases h:1≤s.size∧s.size≤32
 ·exact name75s s w h.1 h.2
 ·rw [name_long h]
  by_cases h1:1≤s.size
  ·have b1:decide ((s.size:Int) < 1)=false:=by simp;omega
   have b2:decide ((s.size:Int) > 32)=true:=by simp;omega
   have b2':decide (32 < (s.size:Int))=true:=by simp;omega
   go_enter Tryz.func149,Tryz.ntmps149
   go_wp2
   go_ret
   exact ⟨rfl,rfl⟩
  ·have b1:decide ((s.size:Int) < 1)=true:=by simp;omega
   go_enter Tryz.func149,Tryz.ntmps149
   go_wp2
   go_ret
   exact ⟨rfl,rfl⟩
theorem dom_bd {r:Int} (h:dom r=true):0≤r∧r < 1114112:=by simp [dom] at h;omega
theorem dom99 (r:Int) (w:World):Calls Tryz.prog 146 #[.int .i64 r] w fun e w'=>e=.returned (.bool (dom r))∧w'=w:=by
 go_enter Tryz.func146,Tryz.ntmps146
 go_wp2
 all_goals go_ret
 all_goals exact ⟨ret_bool (by rw [Bool.eq_iff_iff];simp [dom];omega),rfl⟩
theorem ok_of {ls gl gh ph:Int} {k:Nat} (h8:(!dom gl || !dom gh || decide (gh < gl) || gapB (gl,gh))=false) (hls:k=0∧ls=0∨0 < k∧ls=ph + 2)
  (h10:(decide (0 < k) && decide (gl < ph + 2) && !(decide (gl=57344) && decide (ph=55295)))=false):okG ls (gl,gh)=true:=by
 simp only [Bool.or_eq_false_iff,Bool.not_eq_false',decide_eq_false_iff_not] at h8
 obtain ⟨⟨⟨h1,h2⟩,h3⟩,h4⟩:=h8
 have hl:ls≤gl:=by
  rcases hls with ⟨_,rfl⟩ | ⟨hk,rfl⟩
  ·exact (dom_bd h1).1
  ·rw [decide_eq_true hk] at h10
   by_cases h:gl < ph + 2
   ·rw [decide_eq_true h] at h10
    simp at h10
    omega
   ·omega
 simp only [okG,h1,h2,h4,decide_eq_true hl,decide_eq_true (show gl≤gh by omega)]
 rfl
theorem bad_8 {ls gl gh:Int} (h8:(!dom gl || !dom gh || decide (gh < gl) || gapB (gl,gh))=true):okG ls (gl,gh)=false:=by
 cases h:okG ls (gl,gh)
 ·rfl
 ·simp only [okG,Bool.and_eq_true,decide_eq_true_eq,Bool.not_eq_true'] at h
  obtain ⟨⟨⟨⟨h0,h1⟩,h2⟩,h3⟩,h4⟩:=h
  rw [h2,h3,h4,decide_eq_false (show ¬ gh < gl by omega)] at h8
  exact absurd h8 (by decide)
theorem bad_10 {ls gl gh ph:Int} {k:Nat} (hls:k=0∧ls=0∨0 < k∧ls=ph + 2)
  (h10:(decide (0 < k) && decide (gl < ph + 2) && !(decide (gl=57344) && decide (ph=55295)))=true):okG ls (gl,gh)=false:=by
 simp only [Bool.and_eq_true,decide_eq_true_eq] at h10
 have:¬ ls≤gl:=by omega
 simp only [okG,decide_eq_false this,Bool.false_and]
set_option maxHeartbeats 8000000 in
set_option maxRecDepth 1000000 in
theorem rright_short (L:List (Int × Int)) (ad:Option Addr) (n cap:Nat) (w:World) (hn:Hid (L.length=n)) (hS:n≤5000) (hl:Hid (RowAt w.heap.size w (.slice ad n cap) L)) :
  Calls Tryz.prog 100 #[.slice ad n cap] w fun e w'=>e=.returned (.bool (rightFrom 0 L))∧Below w.heap.size w w':=by
 go_enter Tryz.func100,Tryz.ntmps100
 go_wp2
 go_loopw [3] (fun i wr=>∃ (k:Nat) (ls ph:Int),k≤n∧i=.int .i64 k∧Below w.heap.size w wr∧Hid (rightFrom 0 L=rightFrom ls (L.drop k))∧Hid (0 < k→ph=(L.getD (k - 1) (0,0)).2∧0≤ph∧ph≤1114111)∧Hid (k=0∧ls=0∨0 < k∧ls=ph + 2)) (fun i _=>n - (intOf i).toNat)
 case atStart=>exact ⟨0,0,0,by omega,rfl,Below.refl _ _,by exact rfl,fun h=>by omega,by exact .inl ⟨rfl,rfl⟩⟩
 case round =>
  obtain ⟨k,ls,ph,hk,rfl,hbw,HK,HP,HL⟩:=hrel
  have hsz:=hbw.size
  by_cases hlt:k < n
  ·obtain ⟨ad',cap',he,h | ⟨b,off,rfl,hbN,hc0,hc1⟩⟩:=hl.out
   ·exact absurd h (by rw [hn.out];omega)
   ·simp only [Value.slice.injEq] at he
    obtain ⟨rfl,-,rfl⟩:=he
    have hn':=hn.out
    have HC0:Hid (w.cell? ⟨b,off + k * 2,none⟩=some (.int .i64 (L.getD k (0,0)).1)):=hc0 k (by omega)
    have HC1:Hid (w.cell? ⟨b,off + k * 2 + 1,none⟩=some (.int .i64 (L.getD k (0,0)).2)):=hc1 k (by omega)
    have HC2:Hid (0 < k→w.cell? ⟨b,off + (k - 1) * 2 + 1,none⟩=some (.int .i64 ph)):=fun h=>by rw [(HP.out h).1];exact hc1 (k - 1) (by omega)
    have HPB:Hid (0 < k→0≤ph∧ph≤1114111):=fun h=>(HP.out h).2
    have HR:Hid (rightFrom 0 L=(okG ls (L.getD k (0,0)) && rightFrom ((L.getD k (0,0)).2 + 2) (L.drop (k + 1)))):=by
     show _=_
     rw [HK.out,drop_consR L k (by omega)]
     rfl
    have HG:Hid ((L.getD (k + 1 - 1) (0,0)).2=(L.getD k (0,0)).2):=by rw [Nat.add_sub_cancel];exact rfl
    have hgk:∃ g,L.getD k (0,0)=g:=⟨_,rfl⟩
    obtain ⟨⟨gl,gh⟩,hgk⟩:=hgk
    rw [hgk] at HC0 HC1 HR HG
    clear hgk hc0 hc1 hn' HK HP
    have HB8:Hid (∃ B,B=(!dom gl || !dom gh || decide (gh < gl) || gapB (gl,gh))):=⟨_,rfl⟩
    obtain ⟨B8,hB8⟩:=HB8.out
    have HB8:Hid (B8=(!dom gl || !dom gh || decide (gh < gl) || gapB (gl,gh))):=hB8
    have d0:=(hbw.cell (p:=⟨b,off + k * 2,none⟩) hbN).trans HC0.out
    have d1:=(hbw.cell (p:=⟨b,off + k * 2 + 1,none⟩) hbN).trans HC1.out
    have hkn:(k:Int) < (n:Int):=by omega
    have hdl:=dom99 gl
    have hdh:=dom99 gh
    generalize dom gl=e3 at hdl hB8
    generalize dom gh=e4 at hdh hB8
    have HB8':Hid (B8=(!e3 || !e4 || decide (gh < gl) || gapB (gl,gh))):=hB8
    simp only at d0 d1
    clear hB8
    go_wp2_with (first | (go_at_call_of 146 (Value.int .i64 gl);refine (hdl _).mono ?_;rintro e w' ⟨rfl,rfl⟩) | (go_at_call 146;refine (hdh _).mono ?_;rintro e w' ⟨rfl,rfl⟩))
    go_cut [61] from 9 to 96 (fun s wx=>s=.bool B8∧Below w.heap.size w wx)
    case first =>
     cases e3
     ·go_quiet (fail)
      go_wp2
      go_meet
      exact ⟨by rw [HB8'.out];rfl,below_drewN' hbw _⟩
     ·cases e4
      ·go_quiet (fail)
       go_wp2
       go_meet
       exact ⟨by rw [HB8'.out];rfl,below_drewN' hbw _⟩
      ·by_cases h1:gh < gl
       ·have x0:decide (gl > gh)=true:=decide_eq_true h1
        have x0':decide (gh < gl)=true:=decide_eq_true h1
        go_quiet (fail)
        go_wp2
        go_meet
        exact ⟨by rw [HB8'.out,x0'];rfl,below_drewN' hbw _⟩
       ·have x0:decide (gl > gh)=false:=decide_eq_false h1
        have x0':decide (gh < gl)=false:=decide_eq_false h1
        by_cases h2:gl≤55295
        ·have y1:decide (gl≤55295)=true:=decide_eq_true h2
         by_cases h3:57344≤gh
         ·have y2:decide (gh ≥ 57344)=true:=decide_eq_true h3
          have y2':decide (57344≤gh)=true:=decide_eq_true h3
          have hg:Hid (gapB (gl,gh)=true):=by show _=_;simp [gapB];omega
          go_quiet (fail)
          go_wp2
          go_meet
          exact ⟨by rw [HB8'.out,hg.out,x0'];rfl,below_drewN' hbw _⟩
         ·have y2:decide (gh ≥ 57344)=false:=decide_eq_false h3
          have y2':decide (57344≤gh)=false:=decide_eq_false h3
          have hg:Hid (gapB (gl,gh)=false):=by show _=_;simp [gapB];omega
          go_quiet (fail)
          go_wp2
          go_meet
          exact ⟨by rw [HB8'.out,hg.out,x0'];rfl,below_drewN' hbw _⟩
        ·have y1:decide (gl≤55295)=false:=decide_eq_false h2
         have hg:Hid (gapB (gl,gh)=false):=by show _=_;simp [gapB];omega
         go_quiet (fail)
         go_wp2
         go_meet
         exact ⟨by rw [HB8'.out,hg.out,x0'];rfl,below_drewN' hbw _⟩
    clear hdl hdh HB8' d0 d1 hbw hsz
    obtain ⟨w2,hw2⟩:∃ w2,w2=wc:=⟨_,rfl⟩
    rw [← hw2] at hcut ⊢
    clear hw2 wc
    obtain ⟨rfl,hb2⟩:=hcut
    cases B8
    ·have h8:(!dom gl || !dom gh || decide (gh < gl) || gapB (gl,gh))=false:=HB8.out.symm
     have hdg:dom gl=true∧dom gh=true:=by
      simp only [Bool.or_eq_false_iff,Bool.not_eq_false'] at h8
      exact ⟨h8.1.1.1,h8.1.1.2⟩
     have hgl:=dom_bd hdg.1
     have hgh:=dom_bd hdg.2
     have H8:Hid ((!dom gl || !dom gh || decide (gh < gl) || gapB (gl,gh))=false):=h8
     clear h8 hdg HB8
     obtain ⟨B10,hB10⟩:∃ B,B=(decide (0 < k) && decide (gl < ph + 2) && !(decide (gl=57344) && decide (ph=55295))):=⟨_,rfl⟩
     have HB10:Hid (B10=(decide (0 < k) && decide (gl < ph + 2) && !(decide (gl=57344) && decide (ph=55295)))):=hB10
     clear hB10
     have d0:=(hb2.cell (p:=⟨b,off + k * 2,none⟩) hbN).trans HC0.out
     have d1:=(hb2.cell (p:=⟨b,off + k * 2 + 1,none⟩) hbN).trans HC1.out
     go_wp2_with fail
     go_cut [96] from 9 to 96 (fun s wx=>s=.bool B10∧Below w.heap.size w wx)
     case first =>
      by_cases hk0:0 < k
      ·have x1:decide ((k:Int) > 0)=true:=decide_eq_true (by omega)
       have x1':decide (0 < (k:Int))=true:=decide_eq_true (by omega)
       have z1:decide (0 < k)=true:=decide_eq_true hk0
       have d2:=(hb2.cell (p:=⟨b,off + (k - 1) * 2 + 1,none⟩) hbN).trans (HC2.out hk0)
       obtain ⟨hp0,hp1⟩:=HPB.out hk0
       have hwr:IntKind.i64.wrap ((k:Int) - 1)=(k:Int) - 1:=IntWalk.i64_in _ ⟨by omega,by omega⟩
       have hwp:IntKind.i64.wrap (ph + 2)=ph + 2:=IntWalk.i64_in _ ⟨by omega,by omega⟩
       have hk1:((k:Int) - 1).toNat=k - 1:=by omega
       have hk6:(1:Int)≤(k:Int):=by omega
       have hk2:(0:Int)≤(k:Int) - 1:=by omega
       have hk3:(k:Int) - 1 < (n:Int):=by omega
       by_cases h5:gl < ph + 2
       ·have x2:decide (gl < ph + 2)=true:=decide_eq_true h5
        by_cases h6:gl=57344
        ·subst h6
         have x3':decide ((57344:Int)=57344)=true:=by simp
         have x5:(57344:Int) < ph + 2:=h5
         by_cases h7:ph=55295
         ·omega
         ·have x4:(ph == 55295)=false:=by simp [h7]
          have x4':decide (ph=55295)=false:=decide_eq_false h7
          go_quiet (fail)
          go_wp2
          go_meet
          exact ⟨by rw [HB10.out,z1,x2,x3',x4'];rfl,below_drewN' hb2 _⟩
        ·have x3:(gl == 57344)=false:=by simp [h6]
         have x3':decide (gl=57344)=false:=decide_eq_false h6
         go_quiet (fail)
         go_wp2
         go_meet
         exact ⟨by rw [HB10.out,z1,x2,x3'];rfl,below_drewN' hb2 _⟩
       ·have x2:decide (gl < ph + 2)=false:=decide_eq_false h5
        go_quiet (fail)
        go_wp2
        go_meet
        exact ⟨by rw [HB10.out,z1,x2];rfl,below_drewN' hb2 _⟩
      ·have x1:decide ((k:Int) > 0)=false:=decide_eq_false (by omega)
       have x1':decide (0 < (k:Int))=false:=decide_eq_false (by omega)
       have z1:decide (0 < k)=false:=decide_eq_false hk0
       go_quiet (fail)
       go_wp2
       go_meet
       exact ⟨by rw [HB10.out,z1];rfl,below_drewN' hb2 _⟩
     clear d0 d1
     obtain ⟨w3,hw3⟩:∃ w3,w3=wc:=⟨_,rfl⟩
     rw [← hw3] at hcut ⊢
     clear hw3 wc
     obtain ⟨rfl,hb3⟩:=hcut
     cases B10
     ·have HE:Hid (rightFrom 0 L=rightFrom (gh + 2) (L.drop (k + 1))):=by
       show _=_
       rw [HR.out,ok_of H8.out HL.out HB10.out.symm]
       rfl
      clear HR HB10 H8 HC0 HC1 HC2 HPB
      go_wp2
      go_roundw
      case rel=>exact ⟨k + 1,gh + 2,gh,by omega,by go_num,hb3,HE,by exact fun _=>⟨HG.out.symm,by omega,by omega⟩,by exact .inr ⟨by omega,rfl⟩⟩
      case measure=>simp [intOf];omega
     ·have HE:Hid (rightFrom 0 L=false):=by
       show _=_
       rw [HR.out,bad_10 HL.out HB10.out.symm]
       rfl
      clear HR HB10 H8 HC0 HC1 HC2 HPB HG HL
      go_wp2
      go_ret
      exact ⟨ret_bool HE.out.symm,hb3⟩
    ·have HE:Hid (rightFrom 0 L=false):=by
      show _=_
      rw [HR.out,bad_8 HB8.out.symm]
      rfl
     clear HR HB8 HC0 HC1 HC2 HPB HG HL
     go_wp2
     go_ret
     exact ⟨ret_bool HE.out.symm,hb2⟩
  ·have HA:Hid (rightFrom 0 L=true):=by
    show _=_
    rw [HK.out,List.drop_of_length_le (by rw [hn.out];omega)]
    rfl
   clear HK HP HL
   go_wp2
   go_ret
   exact ⟨ret_bool HA.out.symm,hbw⟩
set_option maxHeartbeats 1000000 in
theorem rright33 (L:List (Int × Int)) (ad:Option Addr) (n cap:Nat) (w:World) (hn:Hid (L.length=n)) (hS:n≤9223372036854775807) (hl:Hid (RowAt w.heap.size w (.slice ad n cap) L)) :
  Calls Tryz.prog 100 #[.slice ad n cap] w fun e w'=>e=.returned (.bool (rightB L))∧Below w.heap.size w w':=by
 by_cases h50:5000 < n
 ·have HBD:Hid (rightB L=false):=by show _=_;unfold rightB;rw [hn.out];simp;omega
  go_enter Tryz.func100,Tryz.ntmps100
  go_wp2
  go_ret
  exact ⟨by rw [HBD.out];rfl,Below.refl _ _⟩
 ·have hRB:rightB L=rightFrom 0 L:=by unfold rightB;rw [hn.out,decide_eq_true (show n≤5000 by omega)];rfl
  rw [hRB]
  exact rright_short L ad n cap w hn (by omega) hl
end Go.Proofs.YtacaanhnlfpbhaaGreat
