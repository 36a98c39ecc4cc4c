/- HELPERS: texts of ours put together. -/
import Derived.Test.YtacaanhnlfpbhaaGreatK03
import Derived.Test.YtacaanhnlfpbhaaGreatK01
import Derived.Deep.SlicePairs
import Derived.RowKit
import Derived.Test.YtacaanhnlfpbhaaGreatK04
import Derived.Deep.RegionHeld3
import Derived.Deep.Cut
import Derived.Deep.CutRange
import Derived.Deep.QuietTactic
import Derived.BigQuiet
import Derived.Test.YtacaanhnlfpbhaaGreatProg
import Derived.WalkKit
import Derived.ProofKit
import Derived.WalkSmall
import Derived.Deep.RegionWith
import Derived.Lib.SmallJoins
import Derived.Lib.MinMax
import Derived.Maps.AppendAt
import Derived.Laws.AppendOwnNone
import Derived.Lib.Small
import Derived.Test.YtacaanhnlfpbhaaGreatK06
import Derived.Test.YtacaanhnlfpbhaaGreatK02
import Derived.Laws.EntriesVeiled
import Derived.Deep.WholeRow
import Derived.Test.YtacaanhnlfpbhaaGreatK05
import Derived.Laws.BitsLemmas
import Derived.Test.YtacaanhnlfpbhaaGreatK15
namespace Go.Proofs.YtacaanhnlfpbhaaGreat
open Go.RowKit
set_option linter.unusedVariables false
set_option linter.unusedSimpArgs false
theorem word79 (r:Int) (w:World):Calls Tryz.prog 125 #[.int .i64 r] w fun e w'=>e=.returned (.bool (wordR r))∧w'=w:=by
 go_enter Tryz.func125,Tryz.ntmps125
 go_wp2
 all_goals go_ret
 all_goals exact ⟨ret_bool (by rw [Bool.eq_iff_iff];simp [wordR];omega),rfl⟩
theorem atP_mid (l:List Int) (p:Nat) (h0:0 < p) (h1:p < l.length) :
  atP l p=bI (decide (l.getD (p - 1) 0=10)) 4 + bI (decide (l.getD p 0=10)) 8 + (if wordR (l.getD (p - 1) 0) != wordR (l.getD p 0) then 16 else 32):=by
 have e1:begB p=false:=by unfold begB;simp;omega
 have e2:endB l p=false:=by unfold endB;simp;omega
 have e3:blB l p=decide (l.getD (p - 1) 0=10):=by unfold blB;simp [show ¬ p=0 by omega]
 have e4:elB l p=decide (l.getD p 0=10):=by unfold elB;simp [show ¬ p=l.length by omega]
 have e5:edgeB l p=(wordR (l.getD (p - 1) 0) != wordR (l.getD p 0)):=by unfold edgeB waB wbB;simp [h0,h1]
 unfold atP sumB
 rw [e1,e2,e3,e4,e5]
 cases wordR (l.getD (p - 1) 0) != wordR (l.getD p 0) <;> simp [bI]
theorem atP_first (l:List Int) (h1:0 < l.length):atP l 0=5 + bI (decide (l.getD 0 0=10)) 8 + (if wordR (l.getD 0 0) then 16 else 32):=by
 have e1:begB 0=true:=by unfold begB;simp
 have e2:endB l 0=false:=by unfold endB;simp;omega
 have e3:blB l 0=true:=by unfold blB;simp
 have e4:elB l 0=decide (l.getD 0 0=10):=by unfold elB;simp [show ¬ 0=l.length by omega]
 have e5:edgeB l 0=wordR (l.getD 0 0):=by unfold edgeB waB wbB;simp [h1]
 unfold atP sumB
 rw [e1,e2,e3,e4,e5]
 cases wordR (l.getD 0 0) <;> cases decide (l.getD 0 0=10) <;> simp [bI]
theorem atP_last (l:List Int) (h1:0 < l.length):atP l l.length=10 + bI (decide (l.getD (l.length - 1) 0=10)) 4 + (if wordR (l.getD (l.length - 1) 0) then 16 else 32):=by
 have e1:begB l.length=false:=by unfold begB;simp;intro h;rw [h] at h1;simp at h1
 have e2:endB l l.length=true:=by unfold endB;simp
 have e3:blB l l.length=decide (l.getD (l.length - 1) 0=10):=by unfold blB;simp [show ¬ l.length=0 by omega]
 have e4:elB l l.length=true:=by unfold elB;simp
 have e5:edgeB l l.length=wordR (l.getD (l.length - 1) 0):=by unfold edgeB waB wbB;simp [h1]
 unfold atP sumB
 rw [e1,e2,e3,e4,e5]
 cases wordR (l.getD (l.length - 1) 0) <;> cases decide (l.getD (l.length - 1) 0=10) <;> simp [bI]
theorem atP_none:atP [] 0=47:=by decide +kernel
set_option maxHeartbeats 2000000 in
theorem ref_none (ad:Option Addr) (cap:Nat) (w:World) :
  Calls Tryz.prog 84 #[.slice ad 0 cap,.int .i64 0] w fun e w'=>e=.returned (.int .i64 47)∧w'=w:=by
 go_enter Tryz.func84,Tryz.ntmps84
 go_wp2
 go_ret
 exact ⟨rfl,rfl⟩
set_option maxHeartbeats 2000000 in
theorem ref_first (b off n cap:Nat) (w:World) (hn:0 < n) (hm:n≤35184372088832) (y A:Int) (W:Bool) (d0:w.cell? ⟨b,off,none⟩=some (.int .i64 y)) (hw:∀ w,Calls Tryz.prog 125 #[.int .i64 y] w fun e w'=>e=.returned (.bool W)∧w'=w)
  (HA:Hid (A=5 + bI (decide (y=10)) 8 + (if W then 16 else 32))) :
  Calls Tryz.prog 84 #[.slice (some ⟨b,off,none⟩) n cap,.int .i64 0] w fun e w'=>e=.returned (.int .i64 A)∧w'=w:=by
 by_cases hy:y=10
 ·cases W
  ·have hA:A=45:=by rw [HA.out];simp [bI,hy]
   rw [hA]
   clear HA hA
   subst hy
   go_enter Tryz.func84,Tryz.ntmps84
   go_wp2_with (go_at_call 125;refine (hw _).mono ?_;rintro e w' ⟨rfl,rfl⟩)
   go_ret
   exact ⟨rfl,rfl⟩
  ·have hA:A=29:=by rw [HA.out];simp [bI,hy]
   rw [hA]
   clear HA hA
   subst hy
   go_enter Tryz.func84,Tryz.ntmps84
   go_wp2_with (go_at_call 125;refine (hw _).mono ?_;rintro e w' ⟨rfl,rfl⟩)
   go_ret
   exact ⟨rfl,rfl⟩
 ·have hy1:(y == 10)=false:=by simp [hy]
  cases W
  ·have hA:A=37:=by rw [HA.out];simp [bI,hy]
   rw [hA]
   clear HA hA hy
   go_enter Tryz.func84,Tryz.ntmps84
   go_wp2_with (go_at_call 125;refine (hw _).mono ?_;rintro e w' ⟨rfl,rfl⟩)
   go_ret
   exact ⟨rfl,rfl⟩
  ·have hA:A=21:=by rw [HA.out];simp [bI,hy]
   rw [hA]
   clear HA hA hy
   go_enter Tryz.func84,Tryz.ntmps84
   go_wp2_with (go_at_call 125;refine (hw _).mono ?_;rintro e w' ⟨rfl,rfl⟩)
   go_ret
   exact ⟨rfl,rfl⟩
set_option maxHeartbeats 2000000 in
theorem ref_last (b off p cap:Nat) (w:World) (hn:0 < p) (hm:p≤35184372088832) (y A:Int) (W:Bool) (d0:w.cell? ⟨b,off + (p - 1),none⟩=some (.int .i64 y)) (hw:∀ w,Calls Tryz.prog 125 #[.int .i64 y] w fun e w'=>e=.returned (.bool W)∧w'=w)
  (HA:Hid (A=10 + bI (decide (y=10)) 4 + (if W then 16 else 32))) :
  Calls Tryz.prog 84 #[.slice (some ⟨b,off,none⟩) p cap,.int .i64 p] w fun e w'=>e=.returned (.int .i64 A)∧w'=w:=by
 have hp0:((p:Int) == 0)=false:=by simp;omega
 by_cases hy:y=10
 ·cases W
  ·have hA:A=46:=by rw [HA.out];simp [bI,hy]
   rw [hA]
   clear HA hA
   subst hy
   go_enter Tryz.func84,Tryz.ntmps84
   go_wp2_with (go_at_call 125;refine (hw _).mono ?_;rintro e w' ⟨rfl,rfl⟩)
   go_ret
   exact ⟨rfl,rfl⟩
  ·have hA:A=30:=by rw [HA.out];simp [bI,hy]
   rw [hA]
   clear HA hA
   subst hy
   go_enter Tryz.func84,Tryz.ntmps84
   go_wp2_with (go_at_call 125;refine (hw _).mono ?_;rintro e w' ⟨rfl,rfl⟩)
   go_ret
   exact ⟨rfl,rfl⟩
 ·have hy1:(y == 10)=false:=by simp [hy]
  cases W
  ·have hA:A=42:=by rw [HA.out];simp [bI,hy]
   rw [hA]
   clear HA hA hy
   go_enter Tryz.func84,Tryz.ntmps84
   go_wp2_with (go_at_call 125;refine (hw _).mono ?_;rintro e w' ⟨rfl,rfl⟩)
   go_ret
   exact ⟨rfl,rfl⟩
  ·have hA:A=26:=by rw [HA.out];simp [bI,hy]
   rw [hA]
   clear HA hA hy
   go_enter Tryz.func84,Tryz.ntmps84
   go_wp2_with (go_at_call 125;refine (hw _).mono ?_;rintro e w' ⟨rfl,rfl⟩)
   go_ret
   exact ⟨rfl,rfl⟩
set_option maxHeartbeats 2000000 in
theorem ref_mid (b off n p cap:Nat) (w:World) (hn:0 < p) (hp:p < n) (hm:n≤35184372088832) (x y A:Int) (U W:Bool) (d0:w.cell? ⟨b,off + (p - 1),none⟩=some (.int .i64 x)) (d1:w.cell? ⟨b,off + p,none⟩=some (.int .i64 y))
  (hx:∀ w,Calls Tryz.prog 125 #[.int .i64 x] w fun e w'=>e=.returned (.bool U)∧w'=w) (hw:∀ w,Calls Tryz.prog 125 #[.int .i64 y] w fun e w'=>e=.returned (.bool W)∧w'=w)
  (X10 Y10:Bool) (hX:decide (x=10)=X10) (hY:decide (y=10)=Y10) (HA:Hid (A=bI X10 4 + bI Y10 8 + (if U != W then 16 else 32))) :
  Calls Tryz.prog 84 #[.slice (some ⟨b,off,none⟩) n cap,.int .i64 p] w fun e w'=>e=.returned (.int .i64 A)∧w'=w:=by
 have hp0:((p:Int) == 0)=false:=by simp;omega
 have hX1:(x == 10)=X10:=by rw [← hX];rfl
 have hY1:(y == 10)=Y10:=by rw [← hY];rfl
 clear hX hY
 cases X10 <;> cases Y10 <;> cases U <;> cases W
 ·obtain rfl:A=32:=HA.out
  go_enter Tryz.func84,Tryz.ntmps84
  go_wp2_with fail
  refine (hx _).mono ?_
  rintro e w' ⟨rfl,rfl⟩
  go_wp2_with fail
  refine (hw _).mono ?_
  rintro e w'' ⟨rfl,rfl⟩
  go_wp2
  go_ret
  exact ⟨rfl,rfl⟩
 ·obtain rfl:A=16:=HA.out
  go_enter Tryz.func84,Tryz.ntmps84
  go_wp2_with fail
  refine (hx _).mono ?_
  rintro e w' ⟨rfl,rfl⟩
  go_wp2_with fail
  refine (hw _).mono ?_
  rintro e w'' ⟨rfl,rfl⟩
  go_wp2
  go_ret
  exact ⟨rfl,rfl⟩
 ·obtain rfl:A=16:=HA.out
  go_enter Tryz.func84,Tryz.ntmps84
  go_wp2_with fail
  refine (hx _).mono ?_
  rintro e w' ⟨rfl,rfl⟩
  go_wp2_with fail
  refine (hw _).mono ?_
  rintro e w'' ⟨rfl,rfl⟩
  go_wp2
  go_ret
  exact ⟨rfl,rfl⟩
 ·obtain rfl:A=32:=HA.out
  go_enter Tryz.func84,Tryz.ntmps84
  go_wp2_with fail
  refine (hx _).mono ?_
  rintro e w' ⟨rfl,rfl⟩
  go_wp2_with fail
  refine (hw _).mono ?_
  rintro e w'' ⟨rfl,rfl⟩
  go_wp2
  go_ret
  exact ⟨rfl,rfl⟩
 ·obtain rfl:A=40:=HA.out
  go_enter Tryz.func84,Tryz.ntmps84
  go_wp2_with fail
  refine (hx _).mono ?_
  rintro e w' ⟨rfl,rfl⟩
  go_wp2_with fail
  refine (hw _).mono ?_
  rintro e w'' ⟨rfl,rfl⟩
  go_wp2
  go_ret
  exact ⟨rfl,rfl⟩
 ·obtain rfl:A=24:=HA.out
  go_enter Tryz.func84,Tryz.ntmps84
  go_wp2_with fail
  refine (hx _).mono ?_
  rintro e w' ⟨rfl,rfl⟩
  go_wp2_with fail
  refine (hw _).mono ?_
  rintro e w'' ⟨rfl,rfl⟩
  go_wp2
  go_ret
  exact ⟨rfl,rfl⟩
 ·obtain rfl:A=24:=HA.out
  go_enter Tryz.func84,Tryz.ntmps84
  go_wp2_with fail
  refine (hx _).mono ?_
  rintro e w' ⟨rfl,rfl⟩
  go_wp2_with fail
  refine (hw _).mono ?_
  rintro e w'' ⟨rfl,rfl⟩
  go_wp2
  go_ret
  exact ⟨rfl,rfl⟩
 ·obtain rfl:A=40:=HA.out
  go_enter Tryz.func84,Tryz.ntmps84
  go_wp2_with fail
  refine (hx _).mono ?_
  rintro e w' ⟨rfl,rfl⟩
  go_wp2_with fail
  refine (hw _).mono ?_
  rintro e w'' ⟨rfl,rfl⟩
  go_wp2
  go_ret
  exact ⟨rfl,rfl⟩
 ·obtain rfl:A=36:=HA.out
  go_enter Tryz.func84,Tryz.ntmps84
  go_wp2_with fail
  refine (hx _).mono ?_
  rintro e w' ⟨rfl,rfl⟩
  go_wp2_with fail
  refine (hw _).mono ?_
  rintro e w'' ⟨rfl,rfl⟩
  go_wp2
  go_ret
  exact ⟨rfl,rfl⟩
 ·obtain rfl:A=20:=HA.out
  go_enter Tryz.func84,Tryz.ntmps84
  go_wp2_with fail
  refine (hx _).mono ?_
  rintro e w' ⟨rfl,rfl⟩
  go_wp2_with fail
  refine (hw _).mono ?_
  rintro e w'' ⟨rfl,rfl⟩
  go_wp2
  go_ret
  exact ⟨rfl,rfl⟩
 ·obtain rfl:A=20:=HA.out
  go_enter Tryz.func84,Tryz.ntmps84
  go_wp2_with fail
  refine (hx _).mono ?_
  rintro e w' ⟨rfl,rfl⟩
  go_wp2_with fail
  refine (hw _).mono ?_
  rintro e w'' ⟨rfl,rfl⟩
  go_wp2
  go_ret
  exact ⟨rfl,rfl⟩
 ·obtain rfl:A=36:=HA.out
  go_enter Tryz.func84,Tryz.ntmps84
  go_wp2_with fail
  refine (hx _).mono ?_
  rintro e w' ⟨rfl,rfl⟩
  go_wp2_with fail
  refine (hw _).mono ?_
  rintro e w'' ⟨rfl,rfl⟩
  go_wp2
  go_ret
  exact ⟨rfl,rfl⟩
 ·obtain rfl:A=44:=HA.out
  go_enter Tryz.func84,Tryz.ntmps84
  go_wp2_with fail
  refine (hx _).mono ?_
  rintro e w' ⟨rfl,rfl⟩
  go_wp2_with fail
  refine (hw _).mono ?_
  rintro e w'' ⟨rfl,rfl⟩
  go_wp2
  go_ret
  exact ⟨rfl,rfl⟩
 ·obtain rfl:A=28:=HA.out
  go_enter Tryz.func84,Tryz.ntmps84
  go_wp2_with fail
  refine (hx _).mono ?_
  rintro e w' ⟨rfl,rfl⟩
  go_wp2_with fail
  refine (hw _).mono ?_
  rintro e w'' ⟨rfl,rfl⟩
  go_wp2
  go_ret
  exact ⟨rfl,rfl⟩
 ·obtain rfl:A=28:=HA.out
  go_enter Tryz.func84,Tryz.ntmps84
  go_wp2_with fail
  refine (hx _).mono ?_
  rintro e w' ⟨rfl,rfl⟩
  go_wp2_with fail
  refine (hw _).mono ?_
  rintro e w'' ⟨rfl,rfl⟩
  go_wp2
  go_ret
  exact ⟨rfl,rfl⟩
 ·obtain rfl:A=44:=HA.out
  go_enter Tryz.func84,Tryz.ntmps84
  go_wp2_with fail
  refine (hx _).mono ?_
  rintro e w' ⟨rfl,rfl⟩
  go_wp2_with fail
  refine (hw _).mono ?_
  rintro e w'' ⟨rfl,rfl⟩
  go_wp2
  go_ret
  exact ⟨rfl,rfl⟩
theorem ref_in (l:List Int) (ad:Option Addr) (n cap p:Nat) (w:World) (N:Nat) (hT:TextAt N w ad n l) (hp:p≤n) :
  Calls Tryz.prog 84 #[.slice ad n cap,.int .i64 p] w fun e w'=>e=.returned (.int .i64 (atP l p))∧w'=w:=by
 obtain ⟨hn,hm,h⟩:=hT
 by_cases h1:n=0
 ·have hl:l=[]:=List.eq_nil_of_length_eq_zero (by omega)
  obtain rfl:p=0:=by omega
  subst hl h1
  rw [atP_none]
  exact ref_none ad cap w
 ·obtain ⟨b,off,rfl,hbN,hc⟩:=h.resolve_left h1
  by_cases h0:p=0
  ·subst h0
   exact ref_first b off n cap w (by omega) hm _ _ _ (hc 0 (by omega)) (fun w=>word79 _ w) (atP_first l (by omega))
  ·by_cases h2:p=n
   ·subst h2
    refine ref_last b off p cap w (by omega) hm _ _ _ (hc (p - 1) (by omega)) (fun w=>word79 _ w) ?_
    rw [hn]
    exact atP_last l (by omega)
   ·exact ref_mid b off n p cap w (by omega) (by omega) hm _ _ _ _ _ (hc (p - 1) (by omega)) (hc p (by omega)) (fun w=>word79 _ w) (fun w=>word79 _ w) _ _ rfl rfl (atP_mid l p (by omega) (by omega))
set_option maxHeartbeats 1000000 in
theorem ref_out (ad:Option Addr) (n cap:Nat) (p:Int) (w:World) (hp:p < 0∨(n:Int) < p) :
  Calls Tryz.prog 84 #[.slice ad n cap,.int .i64 p] w fun e w'=>e=.returned (.int .i64 0)∧w'=w:=by
 rcases hp with hp | hp
 ·go_enter Tryz.func84,Tryz.ntmps84
  go_wp2
  go_ret
  exact ⟨rfl,rfl⟩
 ·by_cases h0:p < 0
  ·go_enter Tryz.func84,Tryz.ntmps84
   go_wp2
   go_ret
   exact ⟨rfl,rfl⟩
  ·go_enter Tryz.func84,Tryz.ntmps84
   go_wp2
   go_ret
   exact ⟨rfl,rfl⟩
theorem at58 (l:List Int) (ad:Option Addr) (n cap:Nat) (p:Int) (w:World) (N:Nat) (hT:TextAt N w ad n l) :
  Calls Tryz.prog 84 #[.slice ad n cap,.int .i64 p] w fun e w'=>e=.returned (.int .i64 (atN l p))∧w'=w:=by
 have hn:=hT.1
 by_cases h:p < 0∨(l.length:Int) < p
 ·rw [show atN l p=0 by unfold atN;rw [if_pos h]]
  exact ref_out ad n cap p w (by rw [hn];exact h)
 ·obtain ⟨q,rfl⟩:=Int.eq_ofNat_of_zero_le (show 0≤p by omega)
  rw [show atN l (q:Int)=atP l q by unfold atN;rw [if_neg h];rfl]
  exact ref_in l ad n cap q w N hT (by omega)
end Go.Proofs.YtacaanhnlfpbhaaGreat
namespace Go.Lk
open Go.RowKit
set_option linter.unusedVariables false
set_option linter.unusedSimpArgs false
theorem toNat_i64 (x:Int):(BitVec.ofInt 64 x).toNat=(x % 18446744073709551616).toNat:=by
 simp [BitVec.toNat_ofInt]
theorem ofc (c:Nat) (hc:c < 64):(BitVec.ofInt 64 (c:Int)).toNat=c:=by rw [toNat_i64];omega
theorem low_and (n c:Nat) (hc:c < 64):n &&& c=(n % 64) &&& c:=by
 have h:63 &&& c=c:=by
  have:∀ c:Fin 64,63 &&& c.val=c.val:=by decide
  exact this ⟨c,hc⟩
 have h2:n &&& 63=n % 64:=Nat.and_two_pow_sub_one_eq_mod n 6
 rw [← h2,Nat.and_assoc,h]
theorem bits_def (op:BinOp) (x y:Int):bits op .i64 x y=IntKind.i64.wrap ((match op with
  | .and=>BitVec.ofInt 64 x &&& BitVec.ofInt 64 y
  | .or=>BitVec.ofInt 64 x ||| BitVec.ofInt 64 y
  | .xor=>BitVec.ofInt 64 x ^^^ BitVec.ofInt 64 y
  | _=>BitVec.ofInt 64 x &&& ~~~BitVec.ofInt 64 y).toNat:Nat):=rfl
theorem and_le_c (n c:Nat):n &&& c≤c:=Nat.and_le_right
theorem bit_and (x:Int) (c:Nat) (hc:c < 64):bits .and .i64 x c=(((x % 64).toNat &&& c:Nat):Int):=by
 rw [bits_def]
 simp only
 rw [BitVec.toNat_and,ofc c hc,toNat_i64,low_and _ c hc]
 have h1:(x % 18446744073709551616).toNat % 64=(x % 64).toNat:=by omega
 rw [h1,wrap_i64]
 have:=and_le_c (x % 64).toNat c
 omega
def bitI (x:Int) (j:Nat):Bool:=decide ((x / (2 ^ j:Nat)) % 2=1)
theorem div_low (x:Int) (j i:Nat) (h:j + i=63):(x % 18446744073709551616) / ((2 ^ j:Nat):Int) % 2=x / ((2 ^ j:Nat):Int) % 2:=by
 have hp:(18446744073709551616:Int)=((2 ^ j:Nat):Int) * (2 * ((2 ^ i:Nat):Int)):=by
  have:(2:Nat) ^ 64=2 ^ j * (2 * 2 ^ i):=by rw [← Nat.pow_succ',← Nat.pow_add];congr 1;omega
  have h2:(((2:Nat) ^ 64:Nat):Int)=((2 ^ j * (2 * 2 ^ i):Nat):Int):=by rw [this]
  rw [Int.natCast_mul,Int.natCast_mul] at h2
  exact h2
 have hpos:((2 ^ j:Nat):Int)≠0:=by have:=Nat.two_pow_pos j;omega
 have hx:x=x % 18446744073709551616 + ((2 ^ j:Nat):Int) * (2 * ((2 ^ i:Nat):Int) * (x / 18446744073709551616)):=by
  have h1:=Int.emod_add_mul_ediv x 18446744073709551616
  rw [← Int.mul_assoc,← hp]
  omega
 have h2:x / ((2 ^ j:Nat):Int)=(x % 18446744073709551616) / ((2 ^ j:Nat):Int) + 2 * ((2 ^ i:Nat):Int) * (x / 18446744073709551616):=by
  conv=>lhs;rw [hx]
  rw [Int.add_mul_ediv_left _ _ hpos]
 rw [h2,Int.mul_assoc]
 omega
theorem lsb_i64 (x:Int) (j:Nat) (hj:j < 64):(BitVec.ofInt 64 x).getLsbD j=bitI x j:=by
 have h1:(BitVec.ofInt 64 x).getLsbD j=(BitVec.ofInt 64 x).toNat.testBit j:=rfl
 rw [h1,toNat_i64,Nat.testBit_eq_decide_div_mod_eq]
 unfold bitI
 rw [← div_low x j (63 - j) (by omega)]
 have h0:0≤x % 18446744073709551616:=by omega
 obtain ⟨r,hr⟩:=Int.eq_ofNat_of_zero_le h0
 rw [hr]
 simp only [Int.toNat_natCast]
 rw [← Int.natCast_ediv]
 congr 1
 simp only [eq_iff_iff]
 omega
theorem wrap_zero (n:Nat) (h:n < 18446744073709551616):IntKind.i64.wrap (n:Int)=0↔n=0:=by
 rw [wrap_i64]
 omega
theorem holds_iff (x y:Int):bits .andNot .i64 x y=0↔∀ j,j < 64→bitI x j=true→bitI y j=true:=by
 rw [bits_def]
 simp only
 rw [wrap_zero _ (BitVec.isLt _)]
 constructor
 ·intro h j hj hx
  have h0:BitVec.ofInt 64 x &&& ~~~BitVec.ofInt 64 y=0#64:=BitVec.eq_of_toNat_eq (by rw [h];rfl)
  have h2:=congrArg (fun v=>v.getLsbD j) h0
  simp only [BitVec.getLsbD_and,BitVec.getLsbD_not,lsb_i64 x j hj,lsb_i64 y j hj,hx] at h2
  simpa [hj] using h2
 ·intro h
  have h0:BitVec.ofInt 64 x &&& ~~~BitVec.ofInt 64 y=0#64:=by
   apply BitVec.eq_of_getLsbD_eq
   intro j hj
   have h2:=h j hj
   simp only [BitVec.getLsbD_and,BitVec.getLsbD_not,lsb_i64 x j hj,lsb_i64 y j hj]
   cases hx:bitI x j
   ·simp
   ·simp [h2 hx]
  rw [h0];rfl
end Go.Lk
namespace Go.Proofs.YtacaanhnlfpbhaaGreat
open Go.RowKit Go.Lk
set_option linter.unusedVariables false
set_option linter.unusedSimpArgs false
theorem and_one (x:Int):bits .and .i64 x 1=x % 2:=by
 have h:=bit_and x 1 (by omega)
 have hA:∀ m:Fin 64,m.val &&& 1=m.val % 2:=by decide +kernel
 have h2:=hA ⟨(x % 64).toNat,by omega⟩
 simp only at h2
 rw [show ((1:Nat):Int)=1 from rfl,h2] at h
 rw [h];omega
theorem sh_bit (x:Int) (k:Nat) (hk:k < 64):(bits .and .i64 (x / 2 ^ k) 1 == 1)=bitI x k∧(bits .and .i64 (x / 2 ^ k) 1 == 0)=!bitI x k:=by
 rw [and_one]
 unfold bitI
 have e:((2 ^ k:Nat):Int)=(2:Int) ^ k:=by simp
 rw [e]
 generalize x / 2 ^ k=z
 constructor
 ·rw [Bool.eq_iff_iff];simp
 ·rw [Bool.eq_iff_iff];simp;omega
set_option maxHeartbeats 1000000 in
theorem holds57 (x y:Int) (w:World):Calls Tryz.prog 85 #[.int .i64 x,.int .i64 y] w fun e w'=>e=.returned (.bool (holdsB x y))∧w'=w:=by
 have HR:Hid (holdsB x y=true↔∀ j,j < 64→bitI x j=true→bitI y j=true):=by
  show _↔_
  unfold holdsB
  rw [beq_iff_eq,holds_iff]
 generalize holdsB x y=R at HR ⊢
 go_enter Tryz.func85,Tryz.ntmps85
 go_wp2
 go_loopw [5] (fun i wr=>∃ (k:Nat),k≤64∧i=.int .i64 k∧wr=w∧Hid (∀ j,j < k→bitI x j=true→bitI y j=true)) (fun i _=>64 - (intOf i).toNat)
 case atStart=>exact ⟨0,by omega,rfl,rfl,fun j hj=>absurd hj (by omega)⟩
 case round =>
  obtain ⟨k,hk,rfl,rfl,HB⟩:=hrel
  by_cases hlt:k < 64
  ·obtain ⟨e1,e2⟩:=sh_bit x k hlt
   obtain ⟨e3,e4⟩:=sh_bit y k hlt
   have hmin:min k 64=k:=by omega
   cases hx:bitI x k
   ·have HS:Hid (∀ j,j < k + 1→bitI x j=true→bitI y j=true):=by
     intro j hj hb
     by_cases hjk:j=k
     ·subst hjk;rw [hx] at hb;cases hb
     ·exact HB.out j (by omega) hb
    rw [hx] at e1 e2
    clear hx HB
    go_wp2
    go_roundw
    case rel=>exact ⟨k + 1,by omega,by go_num,trivial,HS⟩
    case measure=>simp [intOf];omega
   ·cases hy:bitI y k
    ·have hR:R=false:=by
      cases R
      ·rfl
      ·have h2:=HR.out.1 rfl k hlt hx
       rw [hy] at h2;cases h2
     subst hR
     rw [hx] at e1 e2
     rw [hy] at e3 e4
     clear hx hy HB HR
     go_wp2
     go_ret
     exact ⟨rfl,rfl⟩
    ·have HS:Hid (∀ j,j < k + 1→bitI x j=true→bitI y j=true):=by
      intro j hj hb
      by_cases hjk:j=k
      ·subst hjk;exact hy
      ·exact HB.out j (by omega) hb
     rw [hx] at e1 e2
     rw [hy] at e3 e4
     clear hx hy HB
     go_wp2
     go_roundw
     case rel=>exact ⟨k + 1,by omega,by go_num,trivial,HS⟩
     case measure=>simp [intOf];omega
  ·obtain rfl:k=64:=by omega
   have hR:R=true:=HR.out.2 (fun j hj=>HB.out j hj)
   subst hR
   go_wp2
   go_ret
   exact ⟨rfl,rfl⟩
end Go.Proofs.YtacaanhnlfpbhaaGreat
