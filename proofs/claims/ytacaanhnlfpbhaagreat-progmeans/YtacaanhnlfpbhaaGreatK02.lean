/- HELPERS: texts of ours put together. -/
import Derived.Test.YtacaanhnlfpbhaaGreatK01
import Derived.Lib.Small
import Derived.Deep.Cut
import Derived.Deep.CutRange
namespace Go.Proofs.YtacaanhnlfpbhaaGreat
open Go.RowKit Go.Lib
set_option linter.unusedVariables false
set_option linter.unusedSimpArgs false
def dom (r:Int):Bool:=decide (0 ≤ r ∧ r < 55296 ∨ 57343 < r ∧ r ≤ 1114111)
theorem dom41 (r:Int) (w:World):Calls Tryz.prog 222 #[.int .i64 r] w fun e w' => e = .returned (.bool (dom r)) ∧ w' = w:=by
 go_enter Tryz.func222,Tryz.ntmps222
 go_wp2
 all_goals go_ret
 all_goals exact ⟨ret_bool (by rw [Bool.eq_iff_iff];simp [dom];omega),rfl⟩
def RowAt (N:Nat) (w:World) (v:Value) (L:List (Int × Int)):Prop:=∃ ad cap,v = .slice ad L.length cap ∧ (L.length = 0 ∨ ∃ b off,ad = some ⟨b,off,none⟩ ∧ b < N ∧
 (∀ k,k < L.length → w.cell? ⟨b,off + k * 2,none⟩ = some (.int .i64 (L.getD k (0,0)).1)) ∧ (∀ k,k < L.length → w.cell? ⟨b,off + k * 2 + 1,none⟩ = some (.int .i64 (L.getD k (0,0)).2)))
theorem RowAt.below {N N' B:Nat} {w w':World} {v:Value} {L:List (Int × Int)} (h:RowAt N w v L) (hb:Below B w w') (hB:N ≤ B) (hN:N ≤ N'):RowAt N' w' v L:=by
 obtain ⟨ad,cap,hv,h | ⟨b,off,ha,hbN,h0,h1⟩⟩:=h
 ·exact ⟨ad,cap,hv,.inl h⟩
 ·exact ⟨ad,cap,hv,.inr ⟨b,off,ha,by omega,fun k hk => (hb.cell (p:=⟨b,off + k * 2,none⟩) (by show b < B;omega)).trans (h0 k hk),fun k hk => (hb.cell (p:=⟨b,off + k * 2 + 1,none⟩) (by show b < B;omega)).trans (h1 k hk)⟩⟩
def gapB (g:Int × Int):Bool:=decide (g.1 < 55296 ∧ 57343 < g.2)
def okG (least:Int) (g:Int × Int):Bool:=decide (least ≤ g.1) && decide (g.1 ≤ g.2) && dom g.1 && dom g.2 && !gapB g
def rightFrom:Int → List (Int × Int) → Bool
 | _,[] => true
 | least,g :: t => okG least g && rightFrom (g.2 + 2) t
def rightB (L:List (Int × Int)):Bool:=decide (L.length ≤ 5000) && rightFrom 0 L
theorem drop_consR (L:List (Int × Int)) (k:Nat) (h:k < L.length):L.drop k = L.getD k (0,0) :: L.drop (k + 1):=by
 rw [List.drop_eq_getElem_cons h];simp [h]
theorem gap46 (lo hi:Int) (w:World):Calls Tryz.prog 223 #[.agg #[.int .i64 lo,.int .i64 hi]] w fun e w' => e = .returned (.bool (gapB (lo,hi))) ∧ w' = w.alloc (.cells #[.int .i64 lo,.int .i64 hi] 70):=by
 go_enter Tryz.func223,Tryz.ntmps223
 go_wp2
 all_goals go_ret
 all_goals exact ⟨ret_bool (by rw [Bool.eq_iff_iff];simp [gapB];omega),rfl⟩
set_option maxHeartbeats 2000000 in
set_option maxRecDepth 1000000 in
theorem right_short (L:List (Int × Int)) (ad:Option Addr) (n cap:Nat) (w:World) (hn:Hid (n = L.length)) (hS:n ≤ 5000) (hl:Hid (RowAt w.heap.size w (.slice ad n cap) L)) :
  Calls Tryz.prog 169 #[.slice ad n cap] w fun e w' => e = .returned (.bool (rightFrom 0 L)) ∧ Below w.heap.size w w':=by
 go_enter Tryz.func169,Tryz.ntmps169
 go_wp2
 go_loopw [3,11] (fun lv i wr => ∃ (k:Nat) (ls:Int),k ≤ n ∧ 0 ≤ ls ∧ ls ≤ 1114113 ∧ lv = .int .i64 ls ∧ i = .int .i64 k ∧ Below w.heap.size w wr ∧ Hid (rightFrom 0 L = rightFrom ls (L.drop k)))
  (fun _ i _ => n - (intOf i).toNat)
 case atStart => exact ⟨0,0,by omega,by omega,by omega,rfl,rfl,Below.refl _ _,by exact rfl⟩
 case round =>
  obtain ⟨k,ls,hk,hs0,hs1,rfl,rfl,hbw,HR⟩:=hrel
  have hsz:=hbw.size
  by_cases hlt:k < n
  ·obtain ⟨ad',cap',he,h | ⟨b,off,rfl,hbN,hc0,hc1⟩⟩:=hl.out
   ·exact absurd h (by rw [← hn.out];omega)
   ·have hn':=hn.out
    simp only [Value.slice.injEq] at he
    obtain ⟨rfl,-,rfl⟩:=he
    have d0:=(hbw.cell (p:=⟨b,off + k * 2,none⟩) hbN).trans (hc0 k (by omega))
    have d1:=(hbw.cell (p:=⟨b,off + k * 2 + 1,none⟩) hbN).trans (hc1 k (by omega))
    have hdr:=drop_consR L k (by omega)
    have hR:=HR.out
    rw [hdr] at hR
    generalize L.getD k (0,0) = g at d0 d1 hR
    obtain ⟨lo,hi⟩:=g
    simp only at d0 d1
    have HR2:Hid (rightFrom 0 L = (okG ls (lo,hi) && rightFrom (hi + 2) (L.drop (k + 1)))):=hR
    clear hdr hR HR hc0 hc1 hn'
    have hd0:=dom41 lo
    have hd1:=dom41 hi
    have hgp:=gap46 lo hi
    generalize ho:okG ls (lo,hi) = ok at HR2
    have hok:ok = (decide (ls ≤ lo) && decide (lo ≤ hi) && dom lo && dom hi && !gapB (lo,hi)):=ho.symm
    clear ho
    generalize h3:dom lo = e3 at hd0 hok
    generalize h4:dom hi = e4 at hd1 hok
    generalize h5:gapB (lo,hi) = e5 at hgp hok
    have H4:Hid (dom hi = e4):=h4
    clear h3 h4 h5
    have HOK:Hid (ok = (decide (ls ≤ lo) && decide (lo ≤ hi) && e3 && e4 && !e5)):=hok
    clear hok
    by_cases g1:ls ≤ lo
    ·by_cases g2:lo ≤ hi
     ·cases e3
      ·have hE:Hid (rightFrom 0 L = false):=by show rightFrom 0 L = _;rw [HR2.out,HOK.out];simp
       go_wp2_with (first | (go_at_call_of 135 (.int .i64 lo);refine (hd0 _).mono ?_;rintro e w' ⟨rfl,rfl⟩) | (go_at_call 222;refine (hd0 _).mono ?_;rintro e w' ⟨rfl,rfl⟩))
       go_ret
       exact ⟨ret_bool hE.out.symm,hbw.alloc hsz _⟩
      ·cases e4
       ·have hE:Hid (rightFrom 0 L = false):=by show rightFrom 0 L = _;rw [HR2.out,HOK.out];simp
        go_wp2_with fail
        refine (hd0 _).mono ?_
        rintro e w' ⟨rfl,rfl⟩
        go_wp2_with fail
        refine (hd1 _).mono ?_
        rintro e w' ⟨rfl,rfl⟩
        go_wp2
        go_ret
        exact ⟨ret_bool hE.out.symm,hbw.alloc hsz _⟩
       ·cases e5
        ·have hE:Hid (rightFrom 0 L = rightFrom (hi + 2) (L.drop (k + 1))):=by show rightFrom 0 L = _;rw [HR2.out,HOK.out];simp [g1,g2]
         obtain ⟨hh0,hh1⟩:0 ≤ hi ∧ hi ≤ 1114111:=by have:=H4.out;simp [dom] at this;omega
         go_wp2_with fail
         refine (hd0 _).mono ?_
         rintro e w' ⟨rfl,rfl⟩
         go_wp2_with fail
         refine (hd1 _).mono ?_
         rintro e w' ⟨rfl,rfl⟩
         go_wp2_with fail
         refine (hgp _).mono ?_
         rintro e w' ⟨rfl,rfl⟩
         go_wp2
         go_roundw
         case rel => exact ⟨k + 1,hi + 2,by omega,by omega,by omega,rfl,by go_num,(hbw.alloc hsz _).alloc (by simp;omega) _,hE⟩
         case measure => simp [intOf];omega
        ·have hE:Hid (rightFrom 0 L = false):=by show rightFrom 0 L = _;rw [HR2.out,HOK.out];simp
         go_wp2_with fail
         refine (hd0 _).mono ?_
         rintro e w' ⟨rfl,rfl⟩
         go_wp2_with fail
         refine (hd1 _).mono ?_
         rintro e w' ⟨rfl,rfl⟩
         go_wp2_with fail
         refine (hgp _).mono ?_
         rintro e w' ⟨rfl,rfl⟩
         go_wp2
         go_ret
         exact ⟨ret_bool hE.out.symm,(hbw.alloc hsz _).alloc (by simp;omega) _⟩
     ·have hE:Hid (rightFrom 0 L = false):=by show rightFrom 0 L = _;rw [HR2.out,HOK.out];simp [g2]
      clear hd0 hd1 hgp
      go_wp2
      go_ret
      exact ⟨ret_bool hE.out.symm,hbw.alloc hsz _⟩
    ·have hE:Hid (rightFrom 0 L = false):=by show rightFrom 0 L = _;rw [HR2.out,HOK.out];simp [g1]
     clear hd0 hd1 hgp
     go_wp2
     go_ret
     exact ⟨ret_bool hE.out.symm,hbw.alloc hsz _⟩
  ·obtain rfl:k = n:=by omega
   have hE:Hid (rightFrom 0 L = true):=by
    show rightFrom 0 L = _
    rw [HR.out,List.drop_of_length_le (by rw [← hn.out];exact Nat.le_refl _)];rfl
   clear HR
   go_wp2
   go_ret
   exact ⟨ret_bool hE.out.symm,hbw⟩
theorem rightB_len {L:List (Int × Int)} (h:rightB L = true):L.length ≤ 5000:=by unfold rightB at h;rw [Bool.and_eq_true,decide_eq_true_eq] at h;exact h.1
end Go.Proofs.YtacaanhnlfpbhaaGreat
namespace Go.Proofs.YtacaanhnlfpbhaaGreat
open Go.RowKit
set_option linter.unusedVariables false
set_option linter.unusedSimpArgs false
def bareB (nr:Nat) (a:Int) (ns:Nat) (mn mx:Int) (lz:Bool) (ix:Int) (nm:ByteArray) (f1 f2 f3 f4 f5:Bool):Bool:=
 (f1 || nr == 0) && (f2 || a == 0) && (f3 || ns == 0) && (f4 || mn == 0 && mx == 0 && !lz) && (f5 || ix == 0 && nm.toList.isEmpty)
def assertB (n:Int):Bool:=n == 1 || n == 2 || n == 4 || n == 8 || n == 16 || n == 32
def okC (c:Int) (i:Nat):Bool:=decide (97 ≤ c ∧ c ≤ 122 ∨ 65 ≤ c ∧ c ≤ 90 ∨ c = 95 ∨ 48 ≤ c ∧ c ≤ 57 ∧ i ≠ 0)
def okAt (s:ByteArray) (i:Nat):Bool:=if h:i < s.size then okC (s[i].toNat:Int) i else true
def nameB (s:ByteArray):Bool:=decide (1 ≤ s.size) && decide (s.size ≤ 32) && (List.range s.size).all (okAt s)
theorem okAt_eq {s:ByteArray} {i:Nat} (h:i < s.size):okAt s i = okC (s[i].toNat:Int) i:=by unfold okAt;rw [dif_pos h]
theorem name_false {s:ByteArray} (i:Nat) (hi:i < s.size) (h:okC (s[i].toNat:Int) i = false):nameB s = false:=by
 have e:(List.range s.size).all (okAt s) = false:=by
  rw [List.all_eq_false]
  exact ⟨i,by simpa using hi,by rw [okAt_eq hi,h];simp⟩
 unfold nameB
 rw [e];simp
theorem name_true {s:ByteArray} (h1:1 ≤ s.size) (h2:s.size ≤ 32) (h:∀ j,j < s.size → okAt s j = true):nameB s = true:=by
 unfold nameB
 rw [decide_eq_true h1,decide_eq_true h2]
 simpa using h
theorem name_long {s:ByteArray} (h:¬ (1 ≤ s.size ∧ s.size ≤ 32)):nameB s = false:=by
 unfold nameB
 by_cases h1:1 ≤ s.size
 ·rw [decide_eq_false (show ¬ s.size ≤ 32 by omega)];simp
 ·rw [decide_eq_false h1];simp
set_option maxRecDepth 100000 in
set_option maxHeartbeats 4000000 in
theorem word103 (c:Nat) (w:World) (hc:c < 256):Calls Tryz.prog 225 #[.int .i64 (c:Int)] w fun e w' => e = .returned (.bool (okC (c:Int) 1)) ∧ w' = w:=by
 go_enter Tryz.func225,Tryz.ntmps225
 go_wp2
 all_goals go_ret
 all_goals exact ⟨ret_bool (by rw [Bool.eq_iff_iff];simp [okC];omega),rfl⟩
theorem digit102 (c:Nat) (w:World) (hc:c < 256):Calls Tryz.prog 224 #[.int .u8 (c:Int)] w fun e w' => e = .returned (.bool (decide (48 ≤ (c:Int) ∧ (c:Int) ≤ 57))) ∧ w' = w:=by
 go_enter Tryz.func224,Tryz.ntmps224
 go_wp2
 all_goals go_ret
 all_goals exact ⟨ret_bool (by rw [Bool.eq_iff_iff];simp;omega),rfl⟩
set_option maxRecDepth 100000 in
set_option maxHeartbeats 4000000 in
theorem name79s (s:ByteArray) (w:World) (h1:1 ≤ s.size) (h2:s.size ≤ 32):Calls Tryz.prog 172 #[.string s] w fun e w' => e = .returned (.bool (nameB s)) ∧ w' = w:=by
 have e1:s.toList.isEmpty = false:=by
  cases h:s.toList.isEmpty
  ·rfl
  ·exfalso
   rw [List.isEmpty_iff] at h
   have:s.toList.length = s.size:=by rw [ByteArray.toList_eq];exact Array.length_toList
   rw [h] at this
   simp at this
   omega
 have b2:decide ((s.size:Int) > 32) = false:=by simp;omega
 have b2':decide (32 < (s.size:Int)) = false:=by simp;omega
 have b3:(0:Int) < (s.size:Int):=by omega
 have HD:=digit102 (s[0].toNat) w (by have:=s[0].toNat_lt;omega)
 obtain ⟨r,hr⟩:∃ r,r = nameB s:=⟨_,rfl⟩
 rw [← hr]
 have HR:=hid' hr
 clear hr
 by_cases hd:(48:Int) ≤ (s[0].toNat:Int) ∧ (s[0].toNat:Int) ≤ 57
 ·rw [decide_eq_true hd] at HD
  have e:r = false:=by rw [HR.out];exact name_false 0 (by omega) (by simp [okC];omega)
  subst e
  go_enter Tryz.func172,Tryz.ntmps172
  go_wp2_with (first | (go_at_call 224;(with_reducible refine HD.mono ?_);rintro e w2 ⟨rfl,hww⟩;have hwv:=hww.symm;subst hwv;clear hww))
  go_ret
  exact ⟨rfl,rfl⟩
 ·rw [decide_eq_false hd] at HD
  go_enter Tryz.func172,Tryz.ntmps172
  go_wp2_with (first | (go_at_call 224;(with_reducible refine HD.mono ?_);rintro e w2 ⟨rfl,hww⟩;have hwv:=hww.symm;subst hwv;clear hww))
  go_loopw [18] (fun y wq => ∃ i:Nat,y = .int .i64 (i:Int) ∧ i ≤ s.size ∧ Hid (∀ j,j < i → okAt s j = true) ∧ wq = w) (fun y _ => s.size - (intOf y).toNat)
  case atStart => exact ⟨0,rfl,by omega,fun j hj => by omega,rfl⟩
  case round =>
   obtain ⟨i,rfl,hi,HJ,rfl⟩:=hrel
   by_cases hil:i < s.size
   ·have b1:decide ((i:Int) < (s.size:Int)) = true:=by simp;omega
    have b2:(i:Int) < (s.size:Int):=by omega
    have ad1:IntKind.i64.wrap ((i:Int) + 1) = (i:Int) + 1:=by simp [IntKind.wrap,IntKind.bits,IntKind.signed];omega
    have hlt:=s[i].toNat_lt
    have HW:=word103 (s[i].toNat) wr (by omega)
    have ad2:IntKind.i64.wrap ((s[i].toNat:Nat):Int) = (s[i].toNat:Int):=by simp [IntKind.wrap,IntKind.bits,IntKind.signed];omega
    by_cases hw:okC (s[i].toNat:Int) 1 = true
    ·have HC:∀ j,j < i + 1 → okAt s j = true:=fun j hj => by
      by_cases e:j = i
      ·subst e
       rw [okAt_eq hil]
       by_cases e0:j = 0
       ·subst e0
        simp [okC] at hw hd ⊢
        omega
       ·simp [okC] at hw ⊢
        omega
      ·exact HJ.out j (by omega)
     have HC':=hid' HC
     rw [hw] at HW
     clear HC hlt HJ
     go_wp2_with (first | (go_at_call 225;(with_reducible refine HW.mono ?_);rintro e w2 ⟨rfl,rfl⟩))
     refine ⟨⟨i + 1,by push_cast;rfl,by omega,HC'.out,by trivial⟩,?_⟩
     simp [intOf]
     omega
    ·have hw':okC (s[i].toNat:Int) 1 = false:=by simpa using hw
     have e:r = false:=by
      rw [HR.out]
      refine name_false i hil ?_
      simp [okC] at hw' ⊢
      omega
     rw [hw'] at HW
     subst e
     clear hlt HJ
     go_wp2_with (first | (go_at_call 225;(with_reducible refine HW.mono ?_);rintro e w2 ⟨rfl,rfl⟩))
     go_ret
     exact ⟨rfl,rfl⟩
   ·have b1:decide ((i:Int) < (s.size:Int)) = false:=by simp;omega
    have e:r = true:=by rw [HR.out];exact name_true h1 h2 fun j hj => HJ.out j (by omega)
    subst e
    go_wp2
    go_ret
    exact ⟨rfl,rfl⟩
theorem name79 (s:ByteArray) (w:World) (hs:s.size ≤ 9223372036854775807):Calls Tryz.prog 172 #[.string s] w fun e w' => e = .returned (.bool (nameB s)) ∧ w' = w:=by
 by_cases h:1 ≤ s.size ∧ s.size ≤ 32
 ·exact name79s s w h.1 h.2
 ·rw [name_long h]
  by_cases h1:1 ≤ s.size
  ·have e1:s.toList.isEmpty = false:=by
    cases h:s.toList.isEmpty
    ·rfl
    ·exfalso
     rw [List.isEmpty_iff] at h
     have:s.toList.length = s.size:=by rw [ByteArray.toList_eq];exact Array.length_toList
     rw [h] at this
     simp at this
     omega
   have b2:decide ((s.size:Int) > 32) = true:=by simp;omega
   have b2':decide (32 < (s.size:Int)) = true:=by simp;omega
   go_enter Tryz.func172,Tryz.ntmps172
   go_wp2
   go_ret
   exact ⟨rfl,rfl⟩
  ·have e1:s.toList.isEmpty = true:=by
    rw [List.isEmpty_iff,← List.length_eq_zero_iff,ByteArray.toList_eq]
    exact Array.length_toList.trans (show s.size = 0 by omega)
   go_enter Tryz.func172,Tryz.ntmps172
   go_wp2
   go_ret
   exact ⟨rfl,rfl⟩
def nodeB (k:Int) (R:List (Int × Int)) (a:Int) (n:Nat) (mn mx:Int) (lz:Bool) (ix:Int) (nm:ByteArray):Bool:=
 if k = 1 then bareB R.length a n mn mx lz ix nm false false false false false
 else if k = 2 then rightB R && bareB R.length a n mn mx lz ix nm true false false false false
 else if k = 3 then assertB a && bareB R.length a n mn mx lz ix nm false true false false false
 else if k = 4 ∨ k = 5 then decide (2 ≤ n) && bareB R.length a n mn mx lz ix nm false false true false false
 else if k = 6 then decide (n = 1) && decide (0 ≤ mn) && decide (mn ≤ 1000) && (decide (mx = -1) || decide (mn ≤ mx) && decide (mx ≤ 1000)) && bareB R.length a n mn mx lz ix nm false false true true false
 else if k = 7 then decide (n = 1) && decide (1 ≤ ix) && decide (ix ≤ 500) && (nm.toList.isEmpty || nameB nm) && bareB R.length a n mn mx lz ix nm false false true false true
 else false
theorem R2.row {w:World} {B:Nat} {N:Nv} {R:List (Int × Int)} (h:R2 w B N.r1 R) (hr:N.r2 = R.length):RowAt B w (.slice N.r1 N.r2 N.r3) R:=by
 refine ⟨N.r1,N.r3,by rw [hr],?_⟩
 rcases R with _ | ⟨x,R⟩
 ·exact .inl rfl
 ·obtain ⟨b,o,h1,h2,h3⟩:=h (by simp)
  refine .inr ⟨b,o,h1,h2,fun k hk => ?_,fun k hk => ?_⟩
  ·rw [(h3 k hk).1];simp only [List.getD_eq_getElem?_getD,List.getElem?_eq_getElem hk,Option.getD_some]
  ·rw [(h3 k hk).2];simp only [List.getD_eq_getElem?_getD,List.getElem?_eq_getElem hk,Option.getD_some]
theorem nodeB_ne {k:Int} {R:List (Int × Int)} {a:Int} {n:Nat} {mn mx:Int} {lz:Bool} {ix:Int} {nm:ByteArray} (h:k ≠ 1 ∧ k ≠ 2 ∧ k ≠ 3 ∧ k ≠ 4 ∧ k ≠ 5 ∧ k ≠ 6 ∧ k ≠ 7):nodeB k R a n mn mx lz ix nm = false:=by
 simp [nodeB,h]
end Go.Proofs.YtacaanhnlfpbhaaGreat
