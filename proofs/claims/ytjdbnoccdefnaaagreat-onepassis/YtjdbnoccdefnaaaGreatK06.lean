/- HELPERS: texts of ours put together. -/
import Derived.Test.YtjdbnoccdefnaaaGreatK03
import Derived.Laws.EntriesVeiled
import Derived.Test.YtjdbnoccdefnaaaGreatK05
import Derived.Test.YtjdbnoccdefnaaaGreatK04
import Derived.Test.YtjdbnoccdefnaaaGreatK01
import Derived.Deep.SlicePairs
import Derived.RowKit
import Derived.Test.YtjdbnoccdefnaaaGreatProg
import Derived.WalkKit
import Derived.ProofKit
import Derived.BigQuiet
import Derived.WalkSmall
import Derived.Deep.QuietTactic
import Derived.Deep.RegionWith
import Derived.Lib.SmallJoins
import Derived.Lib.MinMax
import Derived.Maps.AppendAt
import Derived.Laws.AppendOwnNone
import Derived.Test.YtjdbnoccdefnaaaGreatK02
import Derived.Lib.Small
import Derived.Deep.Cut
import Derived.Deep.CutRange
import Derived.Deep.RegionHeld3
import Derived.Deep.WholeRow
namespace Go.Proofs.YtjdbnoccdefnaaaGreat
open Go.RowKit
set_option linter.unusedVariables false
set_option linter.unusedSimpArgs false
theorem two_new (w:World) (o:Obj) (c:Array Value) (t:TypeId):((w.alloc o).alloc (.cells c t)).heap[w.heap.size + 1]? = some (.cells c t (0,0)):=by
  have e:(w.alloc o).heap.size = w.heap.size + 1:=by simp
  rw [← e]
  exact heap_alloc_new _ _
theorem below_two' (w:World) (o o':Obj):Below w.heap.size w ((w.alloc o).alloc o'):=(Joins.below_alloc1 w o).trans (Joins.below_le (Joins.below_alloc1 _ o') (by simp))
theorem hid {p:Prop} (h:p):Hid p:=h
theorem row_kept {w w':World} {base e size n:Nat} {v:Value} {xs:List Value} (h:w.ownsRow base e size v n xs) (hk:∀ b,v.ownBlock = some b → w'.heap[b]? = w.heap[b]?):w'.ownsRow base e size v n xs:=by
  refine ⟨h.1,?_⟩
  rcases h.2 with hn | ⟨g,cap,cur,rfl,hb,hgg,rest⟩
  · exact .inl hn
  · exact .inr ⟨g,cap,cur,rfl,hb,(hk g rfl).trans hgg,rest⟩
theorem Chg.trans {w w1 w2:World} {F F' F2:List Nat} (h:Chg w w1 F F') (h2:Chg w1 w2 F' F2):Chg w w2 F F2:=by
  refine ⟨h2.os.trans h.os,h2.tape.trans h.tape,h2.output.trans h.output,Nat.le_trans h.size h2.size,fun k hk hn => ?_,fun k hk => ?_⟩
  · refine (h2.block k (Nat.lt_of_lt_of_le hk h.size) (fun hm => ?_)).trans (h.block k hk hn)
    rcases h.new k hm with h3 | h3
    · exact hn h3
    · omega
  · rcases h2.new k hk with h3 | h3
    · exact h.new k h3
    · right;have:=h.size;omega
theorem Chg.refl (w:World) (F:List Nat):Chg w w F F:=⟨rfl,rfl,rfl,Nat.le_refl _,fun _ _ _ => rfl,fun _ h => .inl h⟩
theorem Chg.alloc {w w':World} {F F':List Nat} (h:Chg w w' F F') (o:Obj):Chg w (w'.alloc o) F F':=
  ⟨h.os,h.tape,h.output,by have:=h.size;simp;omega,fun k hk hn => (heap_alloc_old w' o (by have:=h.size;omega)).trans (h.block k hk hn),h.new⟩
def wordR (r:Int):Bool:=decide (48 ≤ r ∧ r ≤ 57 ∨ 65 ≤ r ∧ r ≤ 90 ∨ 97 ≤ r ∧ r ≤ 122 ∨ r = 95)
theorem word79 (r:Int) (w:World):Calls Tryz.prog 40 #[.int .i64 r] w fun e w' => e = .returned (.bool (wordR r)) ∧ w' = w:=by
  go_enter Tryz.func40,Tryz.ntmps40
  go_wp2
  all_goals go_ret
  all_goals exact ⟨ret_bool (by rw [Bool.eq_iff_iff];simp [wordR];omega),rfl⟩
def TxAt (N:Nat) (w:World) (ad:Option Addr) (n:Nat) (l:List Int):Prop:=
  n = l.length ∧ n ≤ 35184372088832 ∧ (n = 0 ∨ ∃ b off,ad = some ⟨b,off,none⟩ ∧ b < N ∧ ∀ k,k < n → w.cell? ⟨b,off + k,none⟩ = some (.int .i64 (l.getD k 0)))
theorem TxAt.below {N:Nat} {w w':World} {ad:Option Addr} {n:Nat} {l:List Int} (h:TxAt N w ad n l) (hb:Below N w w'):TxAt N w' ad n l:=by
  obtain ⟨h1,h2,h | ⟨b,off,ha,hbN,hc⟩⟩:=h
  · exact ⟨h1,h2,.inl h⟩
  · exact ⟨h1,h2,.inr ⟨b,off,ha,hbN,fun k hk => (hb.cell (p:=⟨b,off + k,none⟩) hbN).trans (hc k hk)⟩⟩
theorem TxAt.mono {N M:Nat} {w:World} {ad:Option Addr} {n:Nat} {l:List Int} (h:TxAt N w ad n l) (hNM:N ≤ M):TxAt M w ad n l:=by
  obtain ⟨h1,h2,h | ⟨b,off,ha,hbN,hc⟩⟩:=h
  · exact ⟨h1,h2,.inl h⟩
  · exact ⟨h1,h2,.inr ⟨b,off,ha,by omega,hc⟩⟩
def begB (p:Nat):Bool:=decide (p = 0)
def endB (l:List Int) (p:Nat):Bool:=decide (p = l.length)
def blB (l:List Int) (p:Nat):Bool:=decide (p = 0) || decide (l.getD (p - 1) 0 = 10)
def elB (l:List Int) (p:Nat):Bool:=decide (p = l.length) || decide (l.getD p 0 = 10)
def waB (l:List Int) (p:Nat):Bool:=decide (0 < p) && wordR (l.getD (p - 1) 0)
def wbB (l:List Int) (p:Nat):Bool:=decide (p < l.length) && wordR (l.getD p 0)
def edgeB (l:List Int) (p:Nat):Bool:=waB l p != wbB l p
def bI (b:Bool) (x:Int):Int:=if b then x else 0
def sumB (b1 b2 b3 b4 b5:Bool):Nat → Int
  | 0 => 0
  | 1 => bI b1 1
  | 2 => bI b1 1 + bI b2 2
  | 3 => bI b1 1 + bI b2 2 + bI b3 4
  | 4 => bI b1 1 + bI b2 2 + bI b3 4 + bI b4 8
  | 5 => bI b1 1 + bI b2 2 + bI b3 4 + bI b4 8 + bI b5 16
  | _ => bI b1 1 + bI b2 2 + bI b3 4 + bI b4 8 + bI b5 16 + bI (!b5) 32
def atP (l:List Int) (p:Nat):Int:=sumB (begB p) (endB l p) (blB l p) (elB l p) (edgeB l p) 6
def atN (l:List Int) (p:Int):Int:=if p < 0 ∨ (l.length:Int) < p then 0 else atP l p.toNat
theorem atP_mid (l:List Int) (p:Nat) (h0:0 < p) (h1:p < l.length) :
    atP l p = bI (decide (l.getD (p - 1) 0 = 10)) 4 + bI (decide (l.getD p 0 = 10)) 8 + (if wordR (l.getD (p - 1) 0) != wordR (l.getD p 0) then 16 else 32):=by
  have e1:begB p = false:=by unfold begB;simp;omega
  have e2:endB l p = false:=by unfold endB;simp;omega
  have e3:blB l p = decide (l.getD (p - 1) 0 = 10):=by unfold blB;simp [show ¬ p = 0 by omega]
  have e4:elB l p = decide (l.getD p 0 = 10):=by unfold elB;simp [show ¬ p = l.length by omega]
  have e5:edgeB l p = (wordR (l.getD (p - 1) 0) != wordR (l.getD p 0)):=by unfold edgeB waB wbB;simp [h0,h1]
  unfold atP sumB
  rw [e1,e2,e3,e4,e5]
  cases wordR (l.getD (p - 1) 0) != wordR (l.getD p 0) <;> simp [bI]
theorem atP_first (l:List Int) (h1:0 < l.length):atP l 0 = 5 + bI (decide (l.getD 0 0 = 10)) 8 + (if wordR (l.getD 0 0) then 16 else 32):=by
  have e1:begB 0 = true:=by unfold begB;simp
  have e2:endB l 0 = false:=by unfold endB;simp;omega
  have e3:blB l 0 = true:=by unfold blB;simp
  have e4:elB l 0 = decide (l.getD 0 0 = 10):=by unfold elB;simp [show ¬ 0 = l.length by omega]
  have e5:edgeB l 0 = wordR (l.getD 0 0):=by unfold edgeB waB wbB;simp [h1]
  unfold atP sumB
  rw [e1,e2,e3,e4,e5]
  cases wordR (l.getD 0 0) <;> cases decide (l.getD 0 0 = 10) <;> simp [bI]
theorem atP_last (l:List Int) (h1:0 < l.length):atP l l.length = 10 + bI (decide (l.getD (l.length - 1) 0 = 10)) 4 + (if wordR (l.getD (l.length - 1) 0) then 16 else 32):=by
  have e1:begB l.length = false:=by unfold begB;simp;intro h;rw [h] at h1;simp at h1
  have e2:endB l l.length = true:=by unfold endB;simp
  have e3:blB l l.length = decide (l.getD (l.length - 1) 0 = 10):=by unfold blB;simp [show ¬ l.length = 0 by omega]
  have e4:elB l l.length = true:=by unfold elB;simp
  have e5:edgeB l l.length = wordR (l.getD (l.length - 1) 0):=by unfold edgeB waB wbB;simp [h1]
  unfold atP sumB
  rw [e1,e2,e3,e4,e5]
  cases wordR (l.getD (l.length - 1) 0) <;> cases decide (l.getD (l.length - 1) 0 = 10) <;> simp [bI]
theorem atP_none:atP [] 0 = 47:=by decide +kernel
set_option maxHeartbeats 2000000 in
theorem ref_none (ad:Option Addr) (cap:Nat) (w:World) :
    Calls Tryz.prog 26 #[.slice ad 0 cap,.int .i64 0] w fun e w' => e = .returned (.int .i64 47) ∧ w' = w:=by
  go_enter Tryz.func26,Tryz.ntmps26
  go_wp2
  go_ret
  exact ⟨rfl,rfl⟩
set_option maxHeartbeats 2000000 in
theorem ref_first (b off n cap:Nat) (w:World) (hn:0 < n) (hm:n ≤ 35184372088832) (y A:Int) (W:Bool) (d0:w.cell? ⟨b,off,none⟩ = some (.int .i64 y)) (hw:∀ w,Calls Tryz.prog 40 #[.int .i64 y] w fun e w' => e = .returned (.bool W) ∧ w' = w)
    (HA:Hid (A = 5 + bI (decide (y = 10)) 8 + (if W then 16 else 32))) :
    Calls Tryz.prog 26 #[.slice (some ⟨b,off,none⟩) n cap,.int .i64 0] w fun e w' => e = .returned (.int .i64 A) ∧ w' = w:=by
  by_cases hy:y = 10
  · cases W
    · have hA:A = 45:=by rw [HA.out];simp [bI,hy]
      rw [hA]
      clear HA hA
      subst hy
      go_enter Tryz.func26,Tryz.ntmps26
      go_wp2_with (go_at_call 40;refine (hw _).mono ?_;rintro e w' ⟨rfl,rfl⟩)
      go_ret
      exact ⟨rfl,rfl⟩
    · have hA:A = 29:=by rw [HA.out];simp [bI,hy]
      rw [hA]
      clear HA hA
      subst hy
      go_enter Tryz.func26,Tryz.ntmps26
      go_wp2_with (go_at_call 40;refine (hw _).mono ?_;rintro e w' ⟨rfl,rfl⟩)
      go_ret
      exact ⟨rfl,rfl⟩
  · have hy1:(y == 10) = false:=by simp [hy]
    cases W
    · have hA:A = 37:=by rw [HA.out];simp [bI,hy]
      rw [hA]
      clear HA hA hy
      go_enter Tryz.func26,Tryz.ntmps26
      go_wp2_with (go_at_call 40;refine (hw _).mono ?_;rintro e w' ⟨rfl,rfl⟩)
      go_ret
      exact ⟨rfl,rfl⟩
    · have hA:A = 21:=by rw [HA.out];simp [bI,hy]
      rw [hA]
      clear HA hA hy
      go_enter Tryz.func26,Tryz.ntmps26
      go_wp2_with (go_at_call 40;refine (hw _).mono ?_;rintro e w' ⟨rfl,rfl⟩)
      go_ret
      exact ⟨rfl,rfl⟩
set_option maxHeartbeats 2000000 in
theorem ref_last (b off p cap:Nat) (w:World) (hn:0 < p) (hm:p ≤ 35184372088832) (y A:Int) (W:Bool) (d0:w.cell? ⟨b,off + (p - 1),none⟩ = some (.int .i64 y)) (hw:∀ w,Calls Tryz.prog 40 #[.int .i64 y] w fun e w' => e = .returned (.bool W) ∧ w' = w)
    (HA:Hid (A = 10 + bI (decide (y = 10)) 4 + (if W then 16 else 32))) :
    Calls Tryz.prog 26 #[.slice (some ⟨b,off,none⟩) p cap,.int .i64 p] w fun e w' => e = .returned (.int .i64 A) ∧ w' = w:=by
  have hp0:((p:Int) == 0) = false:=by simp;omega
  by_cases hy:y = 10
  · cases W
    · have hA:A = 46:=by rw [HA.out];simp [bI,hy]
      rw [hA]
      clear HA hA
      subst hy
      go_enter Tryz.func26,Tryz.ntmps26
      go_wp2_with (go_at_call 40;refine (hw _).mono ?_;rintro e w' ⟨rfl,rfl⟩)
      go_ret
      exact ⟨rfl,rfl⟩
    · have hA:A = 30:=by rw [HA.out];simp [bI,hy]
      rw [hA]
      clear HA hA
      subst hy
      go_enter Tryz.func26,Tryz.ntmps26
      go_wp2_with (go_at_call 40;refine (hw _).mono ?_;rintro e w' ⟨rfl,rfl⟩)
      go_ret
      exact ⟨rfl,rfl⟩
  · have hy1:(y == 10) = false:=by simp [hy]
    cases W
    · have hA:A = 42:=by rw [HA.out];simp [bI,hy]
      rw [hA]
      clear HA hA hy
      go_enter Tryz.func26,Tryz.ntmps26
      go_wp2_with (go_at_call 40;refine (hw _).mono ?_;rintro e w' ⟨rfl,rfl⟩)
      go_ret
      exact ⟨rfl,rfl⟩
    · have hA:A = 26:=by rw [HA.out];simp [bI,hy]
      rw [hA]
      clear HA hA hy
      go_enter Tryz.func26,Tryz.ntmps26
      go_wp2_with (go_at_call 40;refine (hw _).mono ?_;rintro e w' ⟨rfl,rfl⟩)
      go_ret
      exact ⟨rfl,rfl⟩
set_option maxHeartbeats 2000000 in
theorem ref_mid (b off n p cap:Nat) (w:World) (hn:0 < p) (hp:p < n) (hm:n ≤ 35184372088832) (x y A:Int) (U W:Bool) (d0:w.cell? ⟨b,off + (p - 1),none⟩ = some (.int .i64 x)) (d1:w.cell? ⟨b,off + p,none⟩ = some (.int .i64 y))
    (hx:∀ w,Calls Tryz.prog 40 #[.int .i64 x] w fun e w' => e = .returned (.bool U) ∧ w' = w) (hw:∀ w,Calls Tryz.prog 40 #[.int .i64 y] w fun e w' => e = .returned (.bool W) ∧ w' = w)
    (X10 Y10:Bool) (hX:decide (x = 10) = X10) (hY:decide (y = 10) = Y10) (HA:Hid (A = bI X10 4 + bI Y10 8 + (if U != W then 16 else 32))) :
    Calls Tryz.prog 26 #[.slice (some ⟨b,off,none⟩) n cap,.int .i64 p] w fun e w' => e = .returned (.int .i64 A) ∧ w' = w:=by
  have hp0:((p:Int) == 0) = false:=by simp;omega
  have hX1:(x == 10) = X10:=by rw [← hX];rfl
  have hY1:(y == 10) = Y10:=by rw [← hY];rfl
  clear hX hY
  cases X10 <;> cases Y10 <;> cases U <;> cases W
  · obtain rfl:A = 32:=HA.out
    go_enter Tryz.func26,Tryz.ntmps26
    go_wp2_with fail
    refine (hx _).mono ?_
    rintro e w' ⟨rfl,rfl⟩
    go_wp2_with fail
    refine (hw _).mono ?_
    rintro e w'' ⟨rfl,rfl⟩
    go_wp2
    go_ret
    exact ⟨rfl,rfl⟩
  · obtain rfl:A = 16:=HA.out
    go_enter Tryz.func26,Tryz.ntmps26
    go_wp2_with fail
    refine (hx _).mono ?_
    rintro e w' ⟨rfl,rfl⟩
    go_wp2_with fail
    refine (hw _).mono ?_
    rintro e w'' ⟨rfl,rfl⟩
    go_wp2
    go_ret
    exact ⟨rfl,rfl⟩
  · obtain rfl:A = 16:=HA.out
    go_enter Tryz.func26,Tryz.ntmps26
    go_wp2_with fail
    refine (hx _).mono ?_
    rintro e w' ⟨rfl,rfl⟩
    go_wp2_with fail
    refine (hw _).mono ?_
    rintro e w'' ⟨rfl,rfl⟩
    go_wp2
    go_ret
    exact ⟨rfl,rfl⟩
  · obtain rfl:A = 32:=HA.out
    go_enter Tryz.func26,Tryz.ntmps26
    go_wp2_with fail
    refine (hx _).mono ?_
    rintro e w' ⟨rfl,rfl⟩
    go_wp2_with fail
    refine (hw _).mono ?_
    rintro e w'' ⟨rfl,rfl⟩
    go_wp2
    go_ret
    exact ⟨rfl,rfl⟩
  · obtain rfl:A = 40:=HA.out
    go_enter Tryz.func26,Tryz.ntmps26
    go_wp2_with fail
    refine (hx _).mono ?_
    rintro e w' ⟨rfl,rfl⟩
    go_wp2_with fail
    refine (hw _).mono ?_
    rintro e w'' ⟨rfl,rfl⟩
    go_wp2
    go_ret
    exact ⟨rfl,rfl⟩
  · obtain rfl:A = 24:=HA.out
    go_enter Tryz.func26,Tryz.ntmps26
    go_wp2_with fail
    refine (hx _).mono ?_
    rintro e w' ⟨rfl,rfl⟩
    go_wp2_with fail
    refine (hw _).mono ?_
    rintro e w'' ⟨rfl,rfl⟩
    go_wp2
    go_ret
    exact ⟨rfl,rfl⟩
  · obtain rfl:A = 24:=HA.out
    go_enter Tryz.func26,Tryz.ntmps26
    go_wp2_with fail
    refine (hx _).mono ?_
    rintro e w' ⟨rfl,rfl⟩
    go_wp2_with fail
    refine (hw _).mono ?_
    rintro e w'' ⟨rfl,rfl⟩
    go_wp2
    go_ret
    exact ⟨rfl,rfl⟩
  · obtain rfl:A = 40:=HA.out
    go_enter Tryz.func26,Tryz.ntmps26
    go_wp2_with fail
    refine (hx _).mono ?_
    rintro e w' ⟨rfl,rfl⟩
    go_wp2_with fail
    refine (hw _).mono ?_
    rintro e w'' ⟨rfl,rfl⟩
    go_wp2
    go_ret
    exact ⟨rfl,rfl⟩
  · obtain rfl:A = 36:=HA.out
    go_enter Tryz.func26,Tryz.ntmps26
    go_wp2_with fail
    refine (hx _).mono ?_
    rintro e w' ⟨rfl,rfl⟩
    go_wp2_with fail
    refine (hw _).mono ?_
    rintro e w'' ⟨rfl,rfl⟩
    go_wp2
    go_ret
    exact ⟨rfl,rfl⟩
  · obtain rfl:A = 20:=HA.out
    go_enter Tryz.func26,Tryz.ntmps26
    go_wp2_with fail
    refine (hx _).mono ?_
    rintro e w' ⟨rfl,rfl⟩
    go_wp2_with fail
    refine (hw _).mono ?_
    rintro e w'' ⟨rfl,rfl⟩
    go_wp2
    go_ret
    exact ⟨rfl,rfl⟩
  · obtain rfl:A = 20:=HA.out
    go_enter Tryz.func26,Tryz.ntmps26
    go_wp2_with fail
    refine (hx _).mono ?_
    rintro e w' ⟨rfl,rfl⟩
    go_wp2_with fail
    refine (hw _).mono ?_
    rintro e w'' ⟨rfl,rfl⟩
    go_wp2
    go_ret
    exact ⟨rfl,rfl⟩
  · obtain rfl:A = 36:=HA.out
    go_enter Tryz.func26,Tryz.ntmps26
    go_wp2_with fail
    refine (hx _).mono ?_
    rintro e w' ⟨rfl,rfl⟩
    go_wp2_with fail
    refine (hw _).mono ?_
    rintro e w'' ⟨rfl,rfl⟩
    go_wp2
    go_ret
    exact ⟨rfl,rfl⟩
  · obtain rfl:A = 44:=HA.out
    go_enter Tryz.func26,Tryz.ntmps26
    go_wp2_with fail
    refine (hx _).mono ?_
    rintro e w' ⟨rfl,rfl⟩
    go_wp2_with fail
    refine (hw _).mono ?_
    rintro e w'' ⟨rfl,rfl⟩
    go_wp2
    go_ret
    exact ⟨rfl,rfl⟩
  · obtain rfl:A = 28:=HA.out
    go_enter Tryz.func26,Tryz.ntmps26
    go_wp2_with fail
    refine (hx _).mono ?_
    rintro e w' ⟨rfl,rfl⟩
    go_wp2_with fail
    refine (hw _).mono ?_
    rintro e w'' ⟨rfl,rfl⟩
    go_wp2
    go_ret
    exact ⟨rfl,rfl⟩
  · obtain rfl:A = 28:=HA.out
    go_enter Tryz.func26,Tryz.ntmps26
    go_wp2_with fail
    refine (hx _).mono ?_
    rintro e w' ⟨rfl,rfl⟩
    go_wp2_with fail
    refine (hw _).mono ?_
    rintro e w'' ⟨rfl,rfl⟩
    go_wp2
    go_ret
    exact ⟨rfl,rfl⟩
  · obtain rfl:A = 44:=HA.out
    go_enter Tryz.func26,Tryz.ntmps26
    go_wp2_with fail
    refine (hx _).mono ?_
    rintro e w' ⟨rfl,rfl⟩
    go_wp2_with fail
    refine (hw _).mono ?_
    rintro e w'' ⟨rfl,rfl⟩
    go_wp2
    go_ret
    exact ⟨rfl,rfl⟩
theorem ref_in (l:List Int) (ad:Option Addr) (n cap p:Nat) (w:World) (N:Nat) (hT:TxAt N w ad n l) (hp:p ≤ n) :
    Calls Tryz.prog 26 #[.slice ad n cap,.int .i64 p] w fun e w' => e = .returned (.int .i64 (atP l p)) ∧ w' = w:=by
  obtain ⟨hn,hm,h⟩:=hT
  by_cases h1:n = 0
  · have hl:l = []:=List.eq_nil_of_length_eq_zero (by omega)
    obtain rfl:p = 0:=by omega
    subst hl h1
    rw [atP_none]
    exact ref_none ad cap w
  · obtain ⟨b,off,rfl,hbN,hc⟩:=h.resolve_left h1
    by_cases h0:p = 0
    · subst h0
      exact ref_first b off n cap w (by omega) hm _ _ _ (hc 0 (by omega)) (fun w => word79 _ w) (atP_first l (by omega))
    · by_cases h2:p = n
      · subst h2
        refine ref_last b off p cap w (by omega) hm _ _ _ (hc (p - 1) (by omega)) (fun w => word79 _ w) ?_
        rw [hn]
        exact atP_last l (by omega)
      · exact ref_mid b off n p cap w (by omega) (by omega) hm _ _ _ _ _ (hc (p - 1) (by omega)) (hc p (by omega)) (fun w => word79 _ w) (fun w => word79 _ w) _ _ rfl rfl (atP_mid l p (by omega) (by omega))
set_option maxHeartbeats 1000000 in
theorem ref_out (ad:Option Addr) (n cap:Nat) (p:Int) (w:World) (hp:p < 0 ∨ (n:Int) < p) :
    Calls Tryz.prog 26 #[.slice ad n cap,.int .i64 p] w fun e w' => e = .returned (.int .i64 0) ∧ w' = w:=by
  rcases hp with hp | hp
  · go_enter Tryz.func26,Tryz.ntmps26
    go_wp2
    go_ret
    exact ⟨rfl,rfl⟩
  · by_cases h0:p < 0
    · go_enter Tryz.func26,Tryz.ntmps26
      go_wp2
      go_ret
      exact ⟨rfl,rfl⟩
    · go_enter Tryz.func26,Tryz.ntmps26
      go_wp2
      go_ret
      exact ⟨rfl,rfl⟩
theorem at58 (l:List Int) (ad:Option Addr) (n cap:Nat) (p:Int) (w:World) (N:Nat) (hT:TxAt N w ad n l) :
    Calls Tryz.prog 26 #[.slice ad n cap,.int .i64 p] w fun e w' => e = .returned (.int .i64 (atN l p)) ∧ w' = w:=by
  have hn:=hT.1
  by_cases h:p < 0 ∨ (l.length:Int) < p
  · rw [show atN l p = 0 by unfold atN;rw [if_pos h]]
    exact ref_out ad n cap p w (by rw [hn];exact h)
  · obtain ⟨q,rfl⟩:=Int.eq_ofNat_of_zero_le (show 0 ≤ p by omega)
    rw [show atN l (q:Int) = atP l q by unfold atN;rw [if_neg h];rfl]
    exact ref_in l ad n cap q w N hT (by omega)
end Go.Proofs.YtjdbnoccdefnaaaGreat
