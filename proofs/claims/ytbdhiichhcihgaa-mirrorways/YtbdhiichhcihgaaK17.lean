/- HELPERS: texts of ours put together. -/
import Derived.Test.YtbdhiichhcihgaaK16
import Derived.Test.YtbdhiichhcihgaaK01
import Derived.Lib.Small
import Derived.Deep.Cut
import Derived.Deep.CutRange
import Derived.WalkKit
import Derived.Laws.BitsLemmas
import Derived.Test.YtbdhiichhcihgaaK13
import Derived.Test.YtbdhiichhcihgaaK04
namespace Go.Proofs.Ytbdhiichhcihgaa
open Go.RowKit Go.Lib
set_option linter.unusedVariables false
set_option linter.unusedSimpArgs false
theorem dom41 (r:Int) (w:World):Calls Try.prog 59 #[.int .i64 r] w fun e w' => e = .returned (.bool (dom r)) ∧ w' = w:=by
 go_enter Try.func59,Try.ntmps59
 go_wp2
 all_goals go_ret
 all_goals exact ⟨ret_bool (by rw [Bool.eq_iff_iff];simp [dom];omega),rfl⟩
theorem gap46 (lo hi:Int) (w:World):Calls Try.prog 60 #[.agg #[.int .i64 lo,.int .i64 hi]] w fun e w' => e = .returned (.bool (gapB (lo,hi))) ∧ w' = w.alloc (.cells #[.int .i64 lo,.int .i64 hi] 39):=by
 go_enter Try.func60,Try.ntmps60
 go_wp2
 all_goals go_ret
 all_goals exact ⟨ret_bool (by rw [Bool.eq_iff_iff];simp [gapB];omega),rfl⟩
set_option maxHeartbeats 2000000 in
set_option maxRecDepth 1000000 in
theorem right_short (L:List (Int × Int)) (ad:Option Addr) (n cap:Nat) (w:World) (hn:Hid (n = L.length)) (hS:n ≤ 5000) (hl:Hid (RowAt w.heap.size w (.slice ad n cap) L)) :
  Calls Try.prog 44 #[.slice ad n cap] w fun e w' => e = .returned (.bool (rightFrom 0 L)) ∧ Below w.heap.size w w':=by
 go_enter Try.func44,Try.ntmps44
 go_wp2
 go_loopw [3,11] (fun lv i wr => ∃ (k:Nat) (ls:Int),k ≤ n ∧ 0 ≤ ls ∧ ls ≤ 1114113 ∧ lv = .int .i64 ls ∧ i = .int .i64 k ∧ Below w.heap.size w wr ∧ Hid (rightFrom 0 L = rightFrom ls (L.drop k)))
  (fun _ i _ => n - (intOf i).toNat)
 case atStart => exact ⟨0,0,by omega,by omega,by omega,rfl,rfl,Below.refl _ _,by exact rfl⟩
 case round =>
  obtain ⟨k,ls,hk,hs0,hs1,rfl,rfl,hbw,HR⟩:=hrel
  have hsz:=hbw.size
  by_cases hlt:k < n
  ·obtain ⟨ad',cap',he,h | ⟨b,off,rfl,hbN,hc0,hc1⟩⟩:=hl.out
   ·exact absurd h (by rw [← hn.out];omega)
   ·have hn':=hn.out
    simp only [Value.slice.injEq] at he
    obtain ⟨rfl,-,rfl⟩:=he
    have d0:=(hbw.cell (p:=⟨b,off + k * 2,none⟩) hbN).trans (hc0 k (by omega))
    have d1:=(hbw.cell (p:=⟨b,off + k * 2 + 1,none⟩) hbN).trans (hc1 k (by omega))
    have hdr:=drop_consR L k (by omega)
    have hR:=HR.out
    rw [hdr] at hR
    generalize L.getD k (0,0) = g at d0 d1 hR
    obtain ⟨lo,hi⟩:=g
    simp only at d0 d1
    have HR2:Hid (rightFrom 0 L = (okG ls (lo,hi) && rightFrom (hi + 2) (L.drop (k + 1)))):=hR
    clear hdr hR HR hc0 hc1 hn'
    have hd0:=dom41 lo
    have hd1:=dom41 hi
    have hgp:=gap46 lo hi
    generalize ho:okG ls (lo,hi) = ok at HR2
    have hok:ok = (decide (ls ≤ lo) && decide (lo ≤ hi) && dom lo && dom hi && !gapB (lo,hi)):=ho.symm
    clear ho
    generalize h3:dom lo = e3 at hd0 hok
    generalize h4:dom hi = e4 at hd1 hok
    generalize h5:gapB (lo,hi) = e5 at hgp hok
    have H4:Hid (dom hi = e4):=h4
    clear h3 h4 h5
    have HOK:Hid (ok = (decide (ls ≤ lo) && decide (lo ≤ hi) && e3 && e4 && !e5)):=hok
    clear hok
    by_cases g1:ls ≤ lo
    ·by_cases g2:lo ≤ hi
     ·cases e3
      ·have hE:Hid (rightFrom 0 L = false):=by show rightFrom 0 L = _;rw [HR2.out,HOK.out];simp
       go_wp2_with (first | (go_at_call_of 20 (.int .i64 lo);refine (hd0 _).mono ?_;rintro e w' ⟨rfl,rfl⟩) | (go_at_call 59;refine (hd0 _).mono ?_;rintro e w' ⟨rfl,rfl⟩))
       go_ret
       exact ⟨ret_bool hE.out.symm,hbw.alloc hsz _⟩
      ·cases e4
       ·have hE:Hid (rightFrom 0 L = false):=by show rightFrom 0 L = _;rw [HR2.out,HOK.out];simp
        go_wp2_with fail
        refine (hd0 _).mono ?_
        rintro e w' ⟨rfl,rfl⟩
        go_wp2_with fail
        refine (hd1 _).mono ?_
        rintro e w' ⟨rfl,rfl⟩
        go_wp2
        go_ret
        exact ⟨ret_bool hE.out.symm,hbw.alloc hsz _⟩
       ·cases e5
        ·have hE:Hid (rightFrom 0 L = rightFrom (hi + 2) (L.drop (k + 1))):=by show rightFrom 0 L = _;rw [HR2.out,HOK.out];simp [g1,g2]
         obtain ⟨hh0,hh1⟩:0 ≤ hi ∧ hi ≤ 1114111:=by have:=H4.out;simp [dom] at this;omega
         go_wp2_with fail
         refine (hd0 _).mono ?_
         rintro e w' ⟨rfl,rfl⟩
         go_wp2_with fail
         refine (hd1 _).mono ?_
         rintro e w' ⟨rfl,rfl⟩
         go_wp2_with fail
         refine (hgp _).mono ?_
         rintro e w' ⟨rfl,rfl⟩
         go_wp2
         go_roundw
         case rel => exact ⟨k + 1,hi + 2,by omega,by omega,by omega,rfl,by go_num,(hbw.alloc hsz _).alloc (by simp;omega) _,hE⟩
         case measure => simp [intOf];omega
        ·have hE:Hid (rightFrom 0 L = false):=by show rightFrom 0 L = _;rw [HR2.out,HOK.out];simp
         go_wp2_with fail
         refine (hd0 _).mono ?_
         rintro e w' ⟨rfl,rfl⟩
         go_wp2_with fail
         refine (hd1 _).mono ?_
         rintro e w' ⟨rfl,rfl⟩
         go_wp2_with fail
         refine (hgp _).mono ?_
         rintro e w' ⟨rfl,rfl⟩
         go_wp2
         go_ret
         exact ⟨ret_bool hE.out.symm,(hbw.alloc hsz _).alloc (by simp;omega) _⟩
     ·have hE:Hid (rightFrom 0 L = false):=by show rightFrom 0 L = _;rw [HR2.out,HOK.out];simp [g2]
      clear hd0 hd1 hgp
      go_wp2
      go_ret
      exact ⟨ret_bool hE.out.symm,hbw.alloc hsz _⟩
    ·have hE:Hid (rightFrom 0 L = false):=by show rightFrom 0 L = _;rw [HR2.out,HOK.out];simp [g1]
     clear hd0 hd1 hgp
     go_wp2
     go_ret
     exact ⟨ret_bool hE.out.symm,hbw.alloc hsz _⟩
  ·obtain rfl:k = n:=by omega
   have hE:Hid (rightFrom 0 L = true):=by
    show rightFrom 0 L = _
    rw [HR.out,List.drop_of_length_le (by rw [← hn.out];exact Nat.le_refl _)];rfl
   clear HR
   go_wp2
   go_ret
   exact ⟨ret_bool hE.out.symm,hbw⟩
end Go.Proofs.Ytbdhiichhcihgaa
namespace Go.Proofs.Ytbdhiichhcihgaa
open Go.RowKit
set_option linter.unusedVariables false
set_option linter.unusedSimpArgs false
set_option maxRecDepth 100000 in
set_option maxHeartbeats 4000000 in
theorem word103 (c:Nat) (w:World) (hc:c < 256):Calls Try.prog 62 #[.int .i64 (c:Int)] w fun e w' => e = .returned (.bool (okC (c:Int) 1)) ∧ w' = w:=by
 go_enter Try.func62,Try.ntmps62
 go_wp2
 all_goals go_ret
 all_goals exact ⟨ret_bool (by rw [Bool.eq_iff_iff];simp [okC];omega),rfl⟩
theorem digit102 (c:Nat) (w:World) (hc:c < 256):Calls Try.prog 61 #[.int .u8 (c:Int)] w fun e w' => e = .returned (.bool (decide (48 ≤ (c:Int) ∧ (c:Int) ≤ 57))) ∧ w' = w:=by
 go_enter Try.func61,Try.ntmps61
 go_wp2
 all_goals go_ret
 all_goals exact ⟨ret_bool (by rw [Bool.eq_iff_iff];simp;omega),rfl⟩
set_option maxRecDepth 100000 in
set_option maxHeartbeats 4000000 in
theorem name79s (s:ByteArray) (w:World) (h1:1 ≤ s.size) (h2:s.size ≤ 32):Calls Try.prog 47 #[.string s] w fun e w' => e = .returned (.bool (nameB s)) ∧ w' = w:=by
 have e1:s.toList.isEmpty = false:=by
  cases h:s.toList.isEmpty
  ·rfl
  ·exfalso
   rw [List.isEmpty_iff] at h
   have:s.toList.length = s.size:=by rw [ByteArray.toList_eq];exact Array.length_toList
   rw [h] at this
   simp at this
   omega
 have b2:decide ((s.size:Int) > 32) = false:=by simp;omega
 have b2':decide (32 < (s.size:Int)) = false:=by simp;omega
 have b3:(0:Int) < (s.size:Int):=by omega
 have HD:=digit102 (s[0].toNat) w (by have:=s[0].toNat_lt;omega)
 obtain ⟨r,hr⟩:∃ r,r = nameB s:=⟨_,rfl⟩
 rw [← hr]
 have HR:=hid' hr
 clear hr
 by_cases hd:(48:Int) ≤ (s[0].toNat:Int) ∧ (s[0].toNat:Int) ≤ 57
 ·rw [decide_eq_true hd] at HD
  have e:r = false:=by rw [HR.out];exact name_false 0 (by omega) (by simp [okC];omega)
  subst e
  go_enter Try.func47,Try.ntmps47
  go_wp2_with (first | (go_at_call 61;(with_reducible refine HD.mono ?_);rintro e w2 ⟨rfl,hww⟩;have hwv:=hww.symm;subst hwv;clear hww))
  go_ret
  exact ⟨rfl,rfl⟩
 ·rw [decide_eq_false hd] at HD
  go_enter Try.func47,Try.ntmps47
  go_wp2_with (first | (go_at_call 61;(with_reducible refine HD.mono ?_);rintro e w2 ⟨rfl,hww⟩;have hwv:=hww.symm;subst hwv;clear hww))
  go_loopw [18] (fun y wq => ∃ i:Nat,y = .int .i64 (i:Int) ∧ i ≤ s.size ∧ Hid (∀ j,j < i → okAt s j = true) ∧ wq = w) (fun y _ => s.size - (intOf y).toNat)
  case atStart => exact ⟨0,rfl,by omega,fun j hj => by omega,rfl⟩
  case round =>
   obtain ⟨i,rfl,hi,HJ,rfl⟩:=hrel
   by_cases hil:i < s.size
   ·have b1:decide ((i:Int) < (s.size:Int)) = true:=by simp;omega
    have b2:(i:Int) < (s.size:Int):=by omega
    have ad1:IntKind.i64.wrap ((i:Int) + 1) = (i:Int) + 1:=by simp [IntKind.wrap,IntKind.bits,IntKind.signed];omega
    have hlt:=s[i].toNat_lt
    have HW:=word103 (s[i].toNat) wr (by omega)
    have ad2:IntKind.i64.wrap ((s[i].toNat:Nat):Int) = (s[i].toNat:Int):=by simp [IntKind.wrap,IntKind.bits,IntKind.signed];omega
    by_cases hw:okC (s[i].toNat:Int) 1 = true
    ·have HC:∀ j,j < i + 1 → okAt s j = true:=fun j hj => by
      by_cases e:j = i
      ·subst e
       rw [okAt_eq hil]
       by_cases e0:j = 0
       ·subst e0
        simp [okC] at hw hd ⊢
        omega
       ·simp [okC] at hw ⊢
        omega
      ·exact HJ.out j (by omega)
     have HC':=hid' HC
     rw [hw] at HW
     clear HC hlt HJ
     go_wp2_with (first | (go_at_call 62;(with_reducible refine HW.mono ?_);rintro e w2 ⟨rfl,rfl⟩))
     refine ⟨⟨i + 1,by push_cast;rfl,by omega,HC'.out,by trivial⟩,?_⟩
     simp [intOf]
     omega
    ·have hw':okC (s[i].toNat:Int) 1 = false:=by simpa using hw
     have e:r = false:=by
      rw [HR.out]
      refine name_false i hil ?_
      simp [okC] at hw' ⊢
      omega
     rw [hw'] at HW
     subst e
     clear hlt HJ
     go_wp2_with (first | (go_at_call 62;(with_reducible refine HW.mono ?_);rintro e w2 ⟨rfl,rfl⟩))
     go_ret
     exact ⟨rfl,rfl⟩
   ·have b1:decide ((i:Int) < (s.size:Int)) = false:=by simp;omega
    have e:r = true:=by rw [HR.out];exact name_true h1 h2 fun j hj => HJ.out j (by omega)
    subst e
    go_wp2
    go_ret
    exact ⟨rfl,rfl⟩
theorem name79 (s:ByteArray) (w:World) (hs:s.size ≤ 9223372036854775807):Calls Try.prog 47 #[.string s] w fun e w' => e = .returned (.bool (nameB s)) ∧ w' = w:=by
 by_cases h:1 ≤ s.size ∧ s.size ≤ 32
 ·exact name79s s w h.1 h.2
 ·rw [name_long h]
  by_cases h1:1 ≤ s.size
  ·have e1:s.toList.isEmpty = false:=by
    cases h:s.toList.isEmpty
    ·rfl
    ·exfalso
     rw [List.isEmpty_iff] at h
     have:s.toList.length = s.size:=by rw [ByteArray.toList_eq];exact Array.length_toList
     rw [h] at this
     simp at this
     omega
   have b2:decide ((s.size:Int) > 32) = true:=by simp;omega
   have b2':decide (32 < (s.size:Int)) = true:=by simp;omega
   go_enter Try.func47,Try.ntmps47
   go_wp2
   go_ret
   exact ⟨rfl,rfl⟩
  ·have e1:s.toList.isEmpty = true:=by
    rw [List.isEmpty_iff,← List.length_eq_zero_iff,ByteArray.toList_eq]
    exact Array.length_toList.trans (show s.size = 0 by omega)
   go_enter Try.func47,Try.ntmps47
   go_wp2
   go_ret
   exact ⟨rfl,rfl⟩
mutual
def Tn.tk:Tn → Int → Int → Option Int
 | .mk k R a s mn mx lz ix nm,c,d => if c + 1 ≤ 200000 ∧ d ≤ 10000 ∧ nodeB k R a s.length mn mx lz ix nm = true then tkL s (c + 1) (d + 1) else none
def tkL:List Tn → Int → Int → Option Int
 | [],c,_ => some c
 | t :: ts,c,d => match t.tk c d with
  | none => none
  | some c' => tkL ts c' d
end
mutual
theorem Tn.tk_spec:∀ (t:Tn) (c d:Int),c ≤ 200000 → d ≤ 10001 → t.tk c d = if t.fine = true ∧ (t.depth:Int) + d ≤ 10001 ∧ c + t.nodes ≤ 200000 then some (c + t.nodes) else none
 | .mk k R a s mn mx lz ix nm,c,d,hc,hd => by
  simp only [Tn.tk,Tn.nodes,Tn.fine,Tn.depth,Bool.and_eq_true]
  by_cases hn:c + 1 ≤ 200000 ∧ d ≤ 10000 ∧ nodeB k R a s.length mn mx lz ix nm = true
  ·rw [if_pos hn,tkL_spec s (c + 1) (d + 1) (by omega) (by omega)]
   by_cases hs:fineL s = true ∧ (depthL s:Int) + (d + 1) ≤ 10001 ∧ c + 1 + nodesL s ≤ 200000
   ·rw [if_pos hs,if_pos ⟨⟨hn.2.2,hs.1⟩,by omega,by omega⟩]
    congr 1
    push_cast
    omega
   ·rw [if_neg hs,if_neg]
    rintro ⟨⟨h1,h2⟩,h3,h4⟩
    exact hs ⟨h2,by omega,by omega⟩
  ·rw [if_neg hn,if_neg]
   rintro ⟨⟨h1,h2⟩,h3,h4⟩
   exact hn ⟨by omega,by omega,h1⟩
theorem tkL_spec:∀ (ts:List Tn) (c d:Int),c ≤ 200000 → d ≤ 10001 → tkL ts c d = if fineL ts = true ∧ (depthL ts:Int) + d ≤ 10001 ∧ c + nodesL ts ≤ 200000 then some (c + nodesL ts) else none
 | [],c,d,hc,hd => by simp [tkL,nodesL,fineL,depthL];omega
 | t :: ts,c,d,hc,hd => by
  simp only [tkL,nodesL,fineL,depthL,Bool.and_eq_true]
  rw [Tn.tk_spec t c d hc hd]
  by_cases h1:t.fine = true ∧ (t.depth:Int) + d ≤ 10001 ∧ c + t.nodes ≤ 200000
  ·rw [if_pos h1]
   simp only
   rw [tkL_spec ts (c + t.nodes) d (by omega) hd]
   by_cases h2:fineL ts = true ∧ (depthL ts:Int) + d ≤ 10001 ∧ c + t.nodes + nodesL ts ≤ 200000
   ·rw [if_pos h2,if_pos ⟨⟨h1.1,h2.1⟩,by omega,by omega⟩]
    congr 1
    push_cast
    omega
   ·rw [if_neg h2,if_neg]
    rintro ⟨⟨a1,a2⟩,a3,a4⟩
    exact h2 ⟨a2,by omega,by omega⟩
  ·rw [if_neg h1,if_neg]
   rintro ⟨⟨a1,a2⟩,a3,a4⟩
   exact h1 ⟨a1,by omega,by omega⟩
end
theorem tkL_drop (ts:List Tn) (i:Nat) (hi:i < ts.length) (c d:Int):tkL (ts.drop i) c d = (match ts[i].tk c d with | none => none | some c' => tkL (ts.drop (i + 1)) c' d):=by
 rw [List.drop_eq_getElem_cons hi]
 simp only [tkL]
theorem sound_tk (t:Tn):(t.tk 0 1).isSome = t.sound:=by
 rw [t.tk_spec 0 1 (by omega) (by omega)]
 simp only [Tn.sound]
 by_cases h:t.fine = true ∧ (t.depth:Int) + 1 ≤ 10001 ∧ (0:Int) + t.nodes ≤ 200000
 ·rw [if_pos h,h.1,decide_eq_true (show t.depth ≤ 10000 by omega),decide_eq_true (show t.nodes ≤ 200000 by omega)]
  rfl
 ·rw [if_neg h]
  cases hf:t.fine
  ·rfl
  ·by_cases h1:t.depth ≤ 10000
   ·rw [decide_eq_false (show ¬ t.nodes ≤ 200000 from fun h2 => h ⟨hf,by omega,by omega⟩)];simp
   ·rw [decide_eq_false h1];simp
end Go.Proofs.Ytbdhiichhcihgaa
namespace Go.Lk
open Go.RowKit
set_option linter.unusedVariables false
set_option linter.unusedSimpArgs false
def inR (x:Int):Prop:=-9223372036854775808 ≤ x ∧ x ≤ 9223372036854775807
theorem split_and (X C:BitVec 64):(X &&& ~~~C) + (X &&& C) = X:=by
 rw [BitVec.add_eq_or_of_and_eq_zero]
 ·ext i;simp;cases X[i] <;> cases C[i] <;> rfl
 ·ext i;simp;cases X[i] <;> cases C[i] <;> simp
theorem split_or (X C:BitVec 64):(X &&& ~~~C) + C = X ||| C:=by
 rw [BitVec.add_eq_or_of_and_eq_zero]
 ·ext i;simp;cases X[i] <;> cases C[i] <;> rfl
 ·ext i;simp
theorem andNot_nat (X C:BitVec 64):(X &&& ~~~C).toNat + (X &&& C).toNat = X.toNat:=by
 have h:=congrArg BitVec.toNat (split_and X C)
 rw [BitVec.toNat_add] at h
 have h1:(X &&& ~~~C).toNat ≤ X.toNat:=by rw [BitVec.toNat_and];exact Nat.and_le_left
 have h2:(X &&& C).toNat ≤ X.toNat:=by rw [BitVec.toNat_and];exact Nat.and_le_left
 have h3:=X.isLt
 omega
theorem bit_andNot (x:Int) (c:Nat) (hc:c < 64) (hx:inR x):bits .andNot .i64 x c = x - (((x % 64).toNat &&& c:Nat):Int):=by
 obtain ⟨h0,h1⟩:=hx
 rw [bits_def]
 simp only
 have h:=andNot_nat (BitVec.ofInt 64 x) (BitVec.ofInt 64 (c:Int))
 rw [BitVec.toNat_and (BitVec.ofInt 64 x) (BitVec.ofInt 64 (c:Int)),ofc c hc,toNat_i64,low_and _ c hc] at h
 have h2:(x % 18446744073709551616).toNat % 64 = (x % 64).toNat:=by omega
 rw [h2] at h
 have h3:=and_le_c (x % 64).toNat c
 have h4:(x % 64).toNat &&& c ≤ (x % 64).toNat:=Nat.and_le_left
 generalize (BitVec.ofInt 64 x &&& ~~~BitVec.ofInt 64 (c:Int)).toNat = A at h ⊢
 generalize (x % 64).toNat &&& c = B at h h3 h4 ⊢
 rw [wrap_i64]
 omega
theorem not_bit (x:Int) (c:Nat) (hc:c < 64):bits .andNot .i64 c x = ((c - ((x % 64).toNat &&& c):Nat):Int):=by
 rw [bits_def]
 simp only
 have h:=andNot_nat (BitVec.ofInt 64 (c:Int)) (BitVec.ofInt 64 x)
 rw [BitVec.toNat_and (BitVec.ofInt 64 (c:Int)) (BitVec.ofInt 64 x),ofc c hc,toNat_i64,Nat.and_comm,low_and _ c hc] at h
 have h2:(x % 18446744073709551616).toNat % 64 = (x % 64).toNat:=by omega
 rw [h2] at h
 generalize (BitVec.ofInt 64 (c:Int) &&& ~~~BitVec.ofInt 64 x).toNat = A at h ⊢
 generalize (x % 64).toNat &&& c = B at h ⊢
 rw [wrap_i64]
 omega
theorem bit_or (x:Int) (c:Nat) (hc:c < 64) (hx:inR x):bits .or .i64 x c = x + ((c - ((x % 64).toNat &&& c):Nat):Int):=by
 obtain ⟨h0,h1⟩:=hx
 rw [bits_def]
 simp only
 have h:=andNot_nat (BitVec.ofInt 64 x) (BitVec.ofInt 64 (c:Int))
 have h':=congrArg BitVec.toNat (split_or (BitVec.ofInt 64 x) (BitVec.ofInt 64 (c:Int)))
 rw [BitVec.toNat_add,ofc c hc] at h'
 rw [BitVec.toNat_and (BitVec.ofInt 64 x) (BitVec.ofInt 64 (c:Int)),ofc c hc,toNat_i64,low_and _ c hc] at h
 have h2:(x % 18446744073709551616).toNat % 64 = (x % 64).toNat:=by omega
 rw [h2] at h
 have h3:=and_le_c (x % 64).toNat c
 have h4:(x % 64).toNat &&& c ≤ (x % 64).toNat:=Nat.and_le_left
 have h5:(x % 64).toNat + (c - ((x % 64).toNat &&& c)) < 64:=by
  have:∀ m c:Fin 64,m.val + (c.val - (m.val &&& c.val)) < 64:=by decide +kernel
  exact this ⟨(x % 64).toNat,by omega⟩ ⟨c,hc⟩
 generalize (BitVec.ofInt 64 x &&& ~~~BitVec.ofInt 64 (c:Int)).toNat = A at h h' ⊢
 generalize (BitVec.ofInt 64 x ||| BitVec.ofInt 64 (c:Int)).toNat = D at h' ⊢
 generalize (x % 64).toNat &&& c = B at h h3 h4 h5 ⊢
 rw [wrap_i64]
 omega
def clr (k:Nat) (x:Int):Int:=x - x % (2 ^ k:Nat)
def flipI (x:Int):Int:=put 6 x
theorem clr_step (k:Nat) (hk:k < 6) (x:Int) (hx:inR x):bits .andNot .i64 (clr k x) ((2 ^ k:Nat):Int) = clr (k + 1) x:=by
 obtain ⟨h0,h1⟩:=hx
 have hc:2 ^ k < 64:=by
  have:∀ k:Fin 6,2 ^ k.val < 64:=by decide
  exact this ⟨k,hk⟩
 have hk6:k = 0 ∨ k = 1 ∨ k = 2 ∨ k = 3 ∨ k = 4 ∨ k = 5:=by omega
 have hr:inR (clr k x):=by
  unfold inR clr
  rcases hk6 with rfl | rfl | rfl | rfl | rfl | rfl <;> simp only [Nat.reducePow] <;> omega
 rw [bit_andNot _ _ hc hr]
 have hA:∀ m:Fin 64,∀ k:Fin 6,((m.val - m.val % 2 ^ k.val) &&& 2 ^ k.val) + m.val % 2 ^ k.val = m.val % 2 ^ (k.val + 1):=by decide +kernel
 have h:=hA ⟨(x % 64).toNat,by omega⟩ ⟨k,hk⟩
 simp only at h
 have e1:(clr k x % 64).toNat = (x % 64).toNat - (x % 64).toNat % 2 ^ k:=by
  unfold clr
  rcases hk6 with rfl | rfl | rfl | rfl | rfl | rfl <;> simp only [Nat.reducePow] <;> omega
 rw [e1]
 generalize ((x % 64).toNat - (x % 64).toNat % 2 ^ k) &&& 2 ^ k = B at h ⊢
 unfold clr
 rcases hk6 with rfl | rfl | rfl | rfl | rfl | rfl <;> simp only [Nat.reducePow,Nat.reduceAdd] at h ⊢ <;> omega
theorem clr_zero (x:Int):clr 0 x = x:=by unfold clr;simp only [Nat.reducePow];omega
theorem put_zero (x:Int):put 0 x = clr 6 x:=by unfold put clr bk;simp only [Nat.reducePow];omega
theorem bk_lt (k:Nat) (hk:k < 7) (m:Nat) (hm:m < 64):bk k m < 64:=by
 have h:∀ k:Fin 7,∀ m:Fin 64,bk k.val m.val < 64:=by decide +kernel
 exact h ⟨k,hk⟩ ⟨m,hm⟩
def has6 (k:Nat) (x:Int):Bool:=(x % 64).toNat.testBit k
theorem has_step (k:Nat) (hk:k < 6) (x:Int):(bits .andNot .i64 ((2 ^ k:Nat):Int) x == 0) = has6 k x:=by
 have hc:2 ^ k < 64:=by
  have:∀ k:Fin 6,2 ^ k.val < 64:=by decide
  exact this ⟨k,hk⟩
 rw [not_bit _ _ hc]
 have h:∀ k:Fin 6,∀ m:Fin 64,(((2 ^ k.val - (m.val &&& 2 ^ k.val):Nat):Int) == 0) = m.val.testBit k.val:=by decide +kernel
 exact h ⟨k,hk⟩ ⟨(x % 64).toNat,by omega⟩
theorem put_skip (k:Nat) (x:Int) (h:has6 k x = false):put (k + 1) x = put k x:=by
 unfold put
 unfold has6 at h
 rw [bk,if_neg (by rw [h];simp)]
theorem put_step (k:Nat) (hk:k < 6) (x:Int) (hx:inR x) (h:has6 k x = true):bits .or .i64 (put k x) (back k:Nat) = put (k + 1) x:=by
 obtain ⟨h0,h1⟩:=hx
 have hb:back k < 64:=by
  have:∀ k:Fin 6,back k.val < 64:=by decide
  exact this ⟨k,hk⟩
 have hl:=bk_lt k (by omega) (x % 64).toNat (by omega)
 rw [bit_or _ _ hb (by unfold inR put;omega)]
 have e1:(put k x % 64).toNat = bk k (x % 64).toNat:=by unfold put;omega
 rw [e1]
 have hA:∀ k:Fin 6,∀ m:Fin 64,bk k.val m.val + (back k.val - (bk k.val m.val &&& back k.val)) = bk k.val m.val ||| back k.val:=by decide +kernel
 have h2:=hA ⟨k,hk⟩ ⟨(x % 64).toNat,by omega⟩
 simp only at h2
 unfold put
 unfold has6 at h
 rw [bk,if_pos h]
 omega
theorem flip_in (x:Int) (hx:inR x):inR (flipI x):=by
 obtain ⟨h0,h1⟩:=hx
 have:=bk_lt 6 (by omega) (x % 64).toNat (by omega)
 unfold flipI put inR
 omega
end Go.Lk
namespace Go.Proofs.Ytbdhiichhcihgaa
open Go.RowKit Go.Lk
set_option linter.unusedVariables false
set_option linter.unusedSimpArgs false
mutual
def Tn.mir:Tn → Tn
 | .mk k R a s mn mx lz ix nm => if k = 7 then (match mirL s with | t :: _ => t | [] => .mk k R a [] mn mx lz ix nm) else .mk k R (flipI a) (if k = 4 then (mirL s).reverse else mirL s) mn mx lz ix nm
def mirL:List Tn → List Tn
 | [] => []
 | t :: ts => t.mir :: mirL ts
end
theorem mirL_map (ts:List Tn):mirL ts = ts.map Tn.mir:=by
 induction ts with
 | nil => rfl
 | cons t ts ih => simp [mirL,ih]
mutual
def Tn.gs:Tn → Nat
 | .mk k _ _ s _ _ _ _ _ => (if k = 7 then 1 else 0) + gsL s
def gsL:List Tn → Nat
 | [] => 0
 | t :: ts => t.gs + gsL ts
end
theorem flip0:flipI 0 = 0:=by decide
theorem flip_assert {a:Int} (h:assertB a = true):assertB (flipI a) = true:=by
 simp [assertB] at h
 rcases h with ((((h | h) | h) | h) | h) | h <;> subst h <;> decide
theorem nodeB_mir {k:Int} {R:List (Int × Int)} {a:Int} {n:Nat} {mn mx:Int} {lz:Bool} {ix:Int} {nm:ByteArray} (h:nodeB k R a n mn mx lz ix nm = true):nodeB k R (flipI a) n mn mx lz ix nm = true:=by
 have F:=fine_node h
 by_cases h3:k = 3
 ·subst h3
  have hf:=flip_assert (F.ast rfl)
  simp [nodeB,bareB] at h ⊢
  exact ⟨hf,h.2⟩
 ·rw [F.nas h3,flip0]
  rw [F.nas h3] at h
  exact h
theorem fineL_iff (ts:List Tn):fineL ts = true ↔ ∀ t ∈ ts,t.fine = true:=by
 induction ts with
 | nil => simp [fineL]
 | cons t ts ih => simp [fineL,ih]
theorem nodesL_rev (ts:List Tn):nodesL ts.reverse = nodesL ts:=by
 have app:∀ a b:List Tn,nodesL (a ++ b) = nodesL a + nodesL b:=fun a b => by
  induction a with
  | nil => simp [nodesL]
  | cons x a ih => simp only [List.cons_append,nodesL,ih];omega
 induction ts with
 | nil => rfl
 | cons t ts ih => simp only [List.reverse_cons,app,nodesL,ih];omega
theorem depthL_rev (ts:List Tn):depthL ts.reverse = depthL ts:=by
 have app:∀ a b:List Tn,depthL (a ++ b) = max (depthL a) (depthL b):=fun a b => by
  induction a with
  | nil => simp [depthL]
  | cons x a ih => simp only [List.cons_append,depthL,ih];omega
 induction ts with
 | nil => rfl
 | cons t ts ih => simp only [List.reverse_cons,app,depthL,ih];omega
theorem gsL_rev (ts:List Tn):gsL ts.reverse = gsL ts:=by
 have app:∀ a b:List Tn,gsL (a ++ b) = gsL a + gsL b:=fun a b => by
  induction a with
  | nil => simp [gsL]
  | cons x a ih => simp only [List.cons_append,gsL,ih];omega
 induction ts with
 | nil => rfl
 | cons t ts ih => simp only [List.reverse_cons,app,gsL,ih];omega
theorem fineL_rev (ts:List Tn):fineL ts.reverse = fineL ts:=by
 rw [Bool.eq_iff_iff,fineL_iff,fineL_iff]
 simp
theorem mirL_len (ts:List Tn):(mirL ts).length = ts.length:=by rw [mirL_map,List.length_map]
mutual
theorem Tn.mir_fine:∀ (t:Tn),t.fine = true → t.mir.fine = true ∧ t.mir.nodes ≤ t.nodes ∧ t.mir.depth ≤ t.depth ∧ t.mir.gs = 0
 | .mk k R a s mn mx lz ix nm,h => by
  simp only [Tn.fine,Bool.and_eq_true] at h
  have F:=fine_node h.1
  have ih:=mirL_fine s h.2
  simp only [Tn.mir]
  by_cases h7:k = 7
  ·rw [if_pos h7]
   have h1:=F.grp h7
   match s,h1,ih with
   | [t],_,ih =>
    simp only [mirL,fineL,nodesL,depthL,gsL,Bool.and_true,Tn.nodes,Tn.depth] at ih ⊢
    exact ⟨ih.1,by omega,by omega,by omega⟩
  ·rw [if_neg h7]
   have hl:=mirL_len s
   by_cases h4:k = 4
   ·simp only [h4,if_true,Tn.fine,Tn.nodes,Tn.depth,Tn.gs,fineL_rev,nodesL_rev,depthL_rev,gsL_rev,List.length_reverse,hl,Bool.and_eq_true]
    refine ⟨⟨?_,ih.1⟩,by omega,by omega,?_⟩
    ·have:=nodeB_mir h.1;rw [h4] at this;exact this
    ·rw [if_neg (by decide)];omega
   ·simp only [if_neg h4,Tn.fine,Tn.nodes,Tn.depth,Tn.gs,hl,Bool.and_eq_true,if_neg h7]
    exact ⟨⟨nodeB_mir h.1,ih.1⟩,by omega,by omega,by omega⟩
theorem mirL_fine:∀ (ts:List Tn),fineL ts = true → fineL (mirL ts) = true ∧ nodesL (mirL ts) ≤ nodesL ts ∧ depthL (mirL ts) ≤ depthL ts ∧ gsL (mirL ts) = 0
 | [],h => by simp [mirL,fineL,nodesL,depthL,gsL]
 | t :: ts,h => by
  simp only [fineL,Bool.and_eq_true] at h
  have h1:=Tn.mir_fine t h.1
  have h2:=mirL_fine ts h.2
  simp only [mirL,fineL,nodesL,depthL,gsL,h1.1,h2.1,Bool.and_self]
  exact ⟨trivial,by omega,by omega,by omega⟩
end
theorem Tn.mir_sound {t:Tn} (h:t.sound = true):t.mir.sound = true:=by
 simp only [Tn.sound,Bool.and_eq_true,decide_eq_true_eq] at h ⊢
 have:=t.mir_fine h.1.1
 exact ⟨⟨this.1,by omega⟩,by omega⟩
end Go.Proofs.Ytbdhiichhcihgaa
