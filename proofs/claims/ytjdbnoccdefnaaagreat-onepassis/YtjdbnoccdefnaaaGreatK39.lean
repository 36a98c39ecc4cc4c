/- HELPERS: texts of ours put together. -/
import Derived.Test.YtjdbnoccdefnaaaGreatK38
import Derived.WalkKit
import Derived.Laws.BitsLemmas
import Derived.Test.YtjdbnoccdefnaaaGreatK06
import Derived.Test.YtjdbnoccdefnaaaGreatProg
import Derived.ProofKit
import Derived.BigQuiet
import Derived.WalkSmall
import Derived.Deep.QuietTactic
import Derived.Deep.RegionWith
import Derived.Laws.EntriesVeiled
import Derived.Deep.WholeRow
import Derived.Test.YtjdbnoccdefnaaaGreatK01
import Derived.Test.YtjdbnoccdefnaaaGreatK02
namespace Go.Proofs.YtjdbnoccdefnaaaGreat
open Go.RowKit
set_option linter.unusedVariables false
set_option linter.unusedSimpArgs false
set_option maxRecDepth 100000 in
set_option maxHeartbeats 4000000 in
theorem ris7 {w:World} {ad:Option Addr} {n c:Nat} {l:List In} {s k:Int} (hP:PI w w.heap.size ad n l) :
    Calls Tryz.prog 7 #[pv ad n c s k] w fun e w' => ∃ b,e = .returned (.bool b) ∧ Below w.heap.size w w' ∧ (b = true ↔ IsP l s k):=by
  by_cases hm:mayB l s k = true
  · exact ris7_ok hP hm
  obtain ⟨p,hp⟩:∃ p,p = w.heap.size:=⟨_,rfl⟩
  obtain ⟨W0,hW0⟩:∃ W0,W0 = w.alloc (.cells #[.slice ad n c,.int .i64 s,.int .i64 k] 24):=⟨_,rfl⟩
  have hbx:W0.heap[p]? = some (.cells #[.slice ad n c,.int .i64 s,.int .i64 k] 24 (0,0)):=by rw [hW0,hp];exact heap_alloc_new w _
  have hz0:W0.heap.size = p + 1:=by rw [hW0,hp];simp
  have hB0:Below p w W0:=by rw [hW0,hp];exact Joins.below_alloc1 w _
  have hP0:PI W0 W0.heap.size ad n l:=hP.kept (by rw [← hp];exact hB0) (by omega)
  have c0:W0.cell? ⟨p,0,none⟩ = some (.slice ad n c):=Joins.cell_of_block hbx 0
  have c1:W0.cell? ⟨p,1,none⟩ = some (.int .i64 s):=Joins.cell_of_block hbx 1
  have c2:W0.cell? ⟨p,2,none⟩ = some (.int .i64 k):=Joins.cell_of_block hbx 2
  have D19:=rcheck9 (c:=c) (s:=s) (k:=k) hP0
  rw [if_neg hm] at D19
  have HM:=hid hm
  have HB0:=hid hB0
  have HPE:=hid hp
  have hpl:p < W0.heap.size:=by omega
  clear hbx hB0 hP0 hP hm
  go_enter Tryz.func7,Tryz.ntmps7
  go_upto_region 1 with fail
  rw [← hW0,← hp]
  clear hW0 hp
  go_wp2_with (go_at_call 19;(with_reducible refine D19.mono ?_);rintro e w2 ⟨rfl,z2⟩;have Z2:=hid z2;clear z2 D19)
  go_ret
  exact ⟨false,rfl,by rw [← HPE.out];exact HB0.out.trans (Z2.out.mono (by omega)),fun h => (by cases h),fun h => absurd h.1 HM.out⟩
end Go.Proofs.YtjdbnoccdefnaaaGreat
namespace Go.Lk
open Go.RowKit
set_option linter.unusedVariables false
set_option linter.unusedSimpArgs false
theorem wrap_i64 (n:Int):IntKind.i64.wrap n = if 9223372036854775808 ≤ n % 18446744073709551616 then n % 18446744073709551616 - 18446744073709551616 else n % 18446744073709551616:=by
  simp [IntKind.wrap,IntKind.bits,IntKind.signed]
theorem toNat_i64 (x:Int):(BitVec.ofInt 64 x).toNat = (x % 18446744073709551616).toNat:=by
  simp [BitVec.toNat_ofInt]
theorem ofc (c:Nat) (hc:c < 64):(BitVec.ofInt 64 (c:Int)).toNat = c:=by rw [toNat_i64];omega
theorem low_and (n c:Nat) (hc:c < 64):n &&& c = (n % 64) &&& c:=by
  have h:63 &&& c = c:=by
    have:∀ c:Fin 64,63 &&& c.val = c.val:=by decide
    exact this ⟨c,hc⟩
  have h2:n &&& 63 = n % 64:=Nat.and_two_pow_sub_one_eq_mod n 6
  rw [← h2,Nat.and_assoc,h]
theorem bits_def (op:BinOp) (x y:Int):bits op .i64 x y = IntKind.i64.wrap ((match op with
    | .and => BitVec.ofInt 64 x &&& BitVec.ofInt 64 y
    | .or => BitVec.ofInt 64 x ||| BitVec.ofInt 64 y
    | .xor => BitVec.ofInt 64 x ^^^ BitVec.ofInt 64 y
    | _ => BitVec.ofInt 64 x &&& ~~~BitVec.ofInt 64 y).toNat:Nat):=rfl
theorem and_le_c (n c:Nat):n &&& c ≤ c:=Nat.and_le_right
theorem bit_and (x:Int) (c:Nat) (hc:c < 64):bits .and .i64 x c = (((x % 64).toNat &&& c:Nat):Int):=by
  rw [bits_def]
  simp only
  rw [BitVec.toNat_and,ofc c hc,toNat_i64,low_and _ c hc]
  have h1:(x % 18446744073709551616).toNat % 64 = (x % 64).toNat:=by omega
  rw [h1,wrap_i64]
  have:=and_le_c (x % 64).toNat c
  omega
def back:Nat → Nat
  | 0 => 2
  | 1 => 1
  | 2 => 8
  | 3 => 4
  | 4 => 16
  | _ => 32
def bk:Nat → Nat → Nat
  | 0,_ => 0
  | k + 1,m => if m.testBit k then bk k m ||| back k else bk k m
def put (k:Nat) (x:Int):Int:=x - x % 64 + (bk k (x % 64).toNat:Nat)
def bitI (x:Int) (j:Nat):Bool:=decide ((x / (2 ^ j:Nat)) % 2 = 1)
theorem div_low (x:Int) (j i:Nat) (h:j + i = 63):(x % 18446744073709551616) / ((2 ^ j:Nat):Int) % 2 = x / ((2 ^ j:Nat):Int) % 2:=by
  have hp:(18446744073709551616:Int) = ((2 ^ j:Nat):Int) * (2 * ((2 ^ i:Nat):Int)):=by
    have:(2:Nat) ^ 64 = 2 ^ j * (2 * 2 ^ i):=by rw [← Nat.pow_succ',← Nat.pow_add];congr 1;omega
    have h2:(((2:Nat) ^ 64:Nat):Int) = ((2 ^ j * (2 * 2 ^ i):Nat):Int):=by rw [this]
    rw [Int.natCast_mul,Int.natCast_mul] at h2
    exact h2
  have hpos:((2 ^ j:Nat):Int) ≠ 0:=by have:=Nat.two_pow_pos j;omega
  have hx:x = x % 18446744073709551616 + ((2 ^ j:Nat):Int) * (2 * ((2 ^ i:Nat):Int) * (x / 18446744073709551616)):=by
    have h1:=Int.emod_add_mul_ediv x 18446744073709551616
    rw [← Int.mul_assoc,← hp]
    omega
  have h2:x / ((2 ^ j:Nat):Int) = (x % 18446744073709551616) / ((2 ^ j:Nat):Int) + 2 * ((2 ^ i:Nat):Int) * (x / 18446744073709551616):=by
    conv => lhs;rw [hx]
    rw [Int.add_mul_ediv_left _ _ hpos]
  rw [h2,Int.mul_assoc]
  omega
theorem lsb_i64 (x:Int) (j:Nat) (hj:j < 64):(BitVec.ofInt 64 x).getLsbD j = bitI x j:=by
  have h1:(BitVec.ofInt 64 x).getLsbD j = (BitVec.ofInt 64 x).toNat.testBit j:=rfl
  rw [h1,toNat_i64,Nat.testBit_eq_decide_div_mod_eq]
  unfold bitI
  rw [← div_low x j (63 - j) (by omega)]
  have h0:0 ≤ x % 18446744073709551616:=by omega
  obtain ⟨r,hr⟩:=Int.eq_ofNat_of_zero_le h0
  rw [hr]
  simp only [Int.toNat_natCast]
  rw [← Int.natCast_ediv]
  congr 1
  simp only [eq_iff_iff]
  omega
theorem wrap_zero (n:Nat) (h:n < 18446744073709551616):IntKind.i64.wrap (n:Int) = 0 ↔ n = 0:=by
  rw [wrap_i64]
  omega
theorem holds_iff (x y:Int):bits .andNot .i64 x y = 0 ↔ ∀ j,j < 64 → bitI x j = true → bitI y j = true:=by
  rw [bits_def]
  simp only
  rw [wrap_zero _ (BitVec.isLt _)]
  constructor
  · intro h j hj hx
    have h0:BitVec.ofInt 64 x &&& ~~~BitVec.ofInt 64 y = 0#64:=BitVec.eq_of_toNat_eq (by rw [h];rfl)
    have h2:=congrArg (fun v => v.getLsbD j) h0
    simp only [BitVec.getLsbD_and,BitVec.getLsbD_not,lsb_i64 x j hj,lsb_i64 y j hj,hx] at h2
    simpa [hj] using h2
  · intro h
    have h0:BitVec.ofInt 64 x &&& ~~~BitVec.ofInt 64 y = 0#64:=by
      apply BitVec.eq_of_getLsbD_eq
      intro j hj
      have h2:=h j hj
      simp only [BitVec.getLsbD_and,BitVec.getLsbD_not,lsb_i64 x j hj,lsb_i64 y j hj]
      cases hx:bitI x j
      · simp
      · simp [h2 hx]
    rw [h0];rfl
def holdsB (x y:Int):Bool:=bits .andNot .i64 x y == 0
end Go.Lk
namespace Go.Proofs.YtjdbnoccdefnaaaGreat
open Go.RowKit Go.Lk
set_option linter.unusedVariables false
set_option linter.unusedSimpArgs false
theorem and_one (x:Int):bits .and .i64 x 1 = x % 2:=by
  have h:=bit_and x 1 (by omega)
  have hA:∀ m:Fin 64,m.val &&& 1 = m.val % 2:=by decide +kernel
  have h2:=hA ⟨(x % 64).toNat,by omega⟩
  simp only at h2
  rw [show ((1:Nat):Int) = 1 from rfl,h2] at h
  rw [h];omega
theorem sh_bit (x:Int) (k:Nat) (hk:k < 64):(bits .and .i64 (x / 2 ^ k) 1 == 1) = bitI x k ∧ (bits .and .i64 (x / 2 ^ k) 1 == 0) = !bitI x k:=by
  rw [and_one]
  unfold bitI
  have e:((2 ^ k:Nat):Int) = (2:Int) ^ k:=by simp
  rw [e]
  generalize x / 2 ^ k = z
  constructor
  · rw [Bool.eq_iff_iff];simp
  · rw [Bool.eq_iff_iff];simp;omega
set_option maxHeartbeats 1000000 in
theorem holds57 (x y:Int) (w:World):Calls Tryz.prog 25 #[.int .i64 x,.int .i64 y] w fun e w' => e = .returned (.bool (holdsB x y)) ∧ w' = w:=by
  have HR:Hid (holdsB x y = true ↔ ∀ j,j < 64 → bitI x j = true → bitI y j = true):=by
    show _ ↔ _
    unfold holdsB
    rw [beq_iff_eq,holds_iff]
  generalize holdsB x y = R at HR ⊢
  go_enter Tryz.func25,Tryz.ntmps25
  go_wp2
  go_loopw [5] (fun i wr => ∃ (k:Nat),k ≤ 64 ∧ i = .int .i64 k ∧ wr = w ∧ Hid (∀ j,j < k → bitI x j = true → bitI y j = true)) (fun i _ => 64 - (intOf i).toNat)
  case atStart => exact ⟨0,by omega,rfl,rfl,fun j hj => absurd hj (by omega)⟩
  case round =>
    obtain ⟨k,hk,rfl,rfl,HB⟩:=hrel
    by_cases hlt:k < 64
    · obtain ⟨e1,e2⟩:=sh_bit x k hlt
      obtain ⟨e3,e4⟩:=sh_bit y k hlt
      have hmin:min k 64 = k:=by omega
      cases hx:bitI x k
      · have HS:Hid (∀ j,j < k + 1 → bitI x j = true → bitI y j = true):=by
          intro j hj hb
          by_cases hjk:j = k
          · subst hjk;rw [hx] at hb;cases hb
          · exact HB.out j (by omega) hb
        rw [hx] at e1 e2
        clear hx HB
        go_wp2
        go_roundw
        case rel => exact ⟨k + 1,by omega,by go_num,trivial,HS⟩
        case measure => simp [intOf];omega
      · cases hy:bitI y k
        · have hR:R = false:=by
            cases R
            · rfl
            · have h2:=HR.out.1 rfl k hlt hx
              rw [hy] at h2;cases h2
          subst hR
          rw [hx] at e1 e2
          rw [hy] at e3 e4
          clear hx hy HB HR
          go_wp2
          go_ret
          exact ⟨rfl,rfl⟩
        · have HS:Hid (∀ j,j < k + 1 → bitI x j = true → bitI y j = true):=by
            intro j hj hb
            by_cases hjk:j = k
            · subst hjk;exact hy
            · exact HB.out j (by omega) hb
          rw [hx] at e1 e2
          rw [hy] at e3 e4
          clear hx hy HB
          go_wp2
          go_roundw
          case rel => exact ⟨k + 1,by omega,by go_num,trivial,HS⟩
          case measure => simp [intOf];omega
    · obtain rfl:k = 64:=by omega
      have hR:R = true:=HR.out.2 (fun j hj => HB.out j hj)
      subst hR
      go_wp2
      go_ret
      exact ⟨rfl,rfl⟩
end Go.Proofs.YtjdbnoccdefnaaaGreat
namespace Go.Proofs.YtjdbnoccdefnaaaGreat.Look
open Go.RowKit
set_option linter.unusedVariables false
set_option linter.unusedSimpArgs false
theorem wpList_store_new {P:Program} {ops:Array Oper} {rest:List Oper} {op:Oper} {a:Act} {w:World} {Q:Exit → Act → World → Prop} (hgd:op.guard = none) (ty:TypeId) (x y:Operand) (ho:op.op = .store ty x y)
    (c c':Array Value) (hx:a.eval x = .pointer (some ⟨w.heap.size,0,none⟩)) (hy:a.eval y = .agg c') (hi:(P.info? ty).map (·.size) = some c'.size) (hc:c.size = c'.size) (h1:c'.all (·.oneCell') = true)
    (h:wpList P ops Q rest (a.put op.dst undef) (w.alloc (.cells c' ty))):wpList P ops Q (op :: rest) a (w.alloc (.cells c ty)):=
  wpList_plain hgd fun K hK => by
    unfold Oper.wp execOp
    simp only [ho,hx,hy,Sem.run_bind,Sem.run_pure,Result.andThen_ok,run_storeAt_new w ty c c' hi hc h1]
    exact hK _ _ h
theorem results_cell1 {fn:Func} {p:Tmp} {ty:TypeId} (h:fn.results = #[.cell p ty]) (tmps:Array Value) (P:Program) (w:World) :
    (results fn tmps).run P w = ((asAddr (tmps.getD p undef)).run P w).andThen fun a w₁ => ((loadVar ty a).run P w₁).andThen fun v w₂ => .ok v w₂:=by
  simp only [results,h]
  simp [Sem.run_bind,Result.andThen]
  cases (asAddr (tmps[p]?.getD undef)).run P w with
  | halt h w => rfl
  | ok a w => show (loadVar ty a).run P w = _;cases h:(loadVar ty a).run P w <;> simp [h]
def fv (f:Nat):Value:=.func (.func f) #[] #[]
def rowsV:Array Value:=#[.int .i64 1,.int .i64 2,fv 118,.int .i64 2,.int .i64 1,fv 119,.int .i64 4,.int .i64 8,fv 120,.int .i64 8,.int .i64 4,fv 121,.int .i64 16,.int .i64 16,fv 122,.int .i64 32,.int .i64 32,fv 123]
theorem info37:(Tryz.prog.info? 140).map (·.size) = some 18:=by kernel_rfl
theorem one37:(rowsV.all (·.oneCell')) = true:=by simp [rowsV,fv,Value.oneCell']
set_option maxRecDepth 100000 in
theorem rows17 (w:World):Calls Tryz.prog 103 #[] w fun e w' => e = .returned (.agg rowsV) ∧ w' = w.alloc (.cells rowsV 140):=by
  go_enter Tryz.func103,Tryz.ntmps103
  go_wp2_with (refine wpList_store_new rfl 140 (.tmp 0) (.tmp 7) rfl _ rowsV rfl rfl info37 rfl one37 ?_)
  refine bodyPost_ret (v:=.agg rowsV) ?_ rfl ⟨rfl,rfl⟩
  rw [results_cell1 Tryz.results103]
  have h:=run_loadVar_new (P:=Tryz.prog) w 140 rowsV 6 139 Tryz.underlying140 info37
  simp [asAddr,Result.andThen,h,Act.put]
theorem holds13 (x y:Int) (w:World):Calls Tryz.prog 80 #[.int .i64 x,.int .i64 y] w fun e w' => e = .returned (.bool (bits .andNot .i64 x y == 0)) ∧ w' = w:=by
  go_enter Tryz.func80,Tryz.ntmps80
  go_wp2
  go_ret
  exact ⟨rfl,rfl⟩
def wordR (r:Int):Bool:=decide (48 ≤ r ∧ r ≤ 57 ∨ 65 ≤ r ∧ r ≤ 90 ∨ 97 ≤ r ∧ r ≤ 122 ∨ r = 95)
theorem dom28 (r:Int) (w:World):Calls Tryz.prog 105 #[.int .i64 r] w fun e w' => e = .returned (.bool (dom r)) ∧ w' = w:=by
  go_enter Tryz.func105,Tryz.ntmps105
  go_wp2
  all_goals go_ret
  all_goals exact ⟨ret_bool (by rw [Bool.eq_iff_iff];simp [dom];omega),rfl⟩
theorem word27 (r:Int) (w:World):Calls Tryz.prog 136 #[.int .i64 r] w fun e w' => e = .returned (.bool (wordR r)) ∧ w' = w:=by
  have hd:=dom28 r w
  by_cases hD:dom r = true
  · rw [hD] at hd
    have hr:0 ≤ r ∧ r ≤ 1114111:=by simp [dom] at hD;omega
    have hw:IntKind.i32.wrap r = r:=by simp [IntKind.wrap,IntKind.bits,IntKind.signed];omega
    clear hD
    go_enter Tryz.func136,Tryz.ntmps136
    go_wp2_with (go_at_call 105;refine hd.mono ?_;rintro e w' ⟨rfl,rfl⟩)
    all_goals go_ret
    all_goals exact ⟨ret_bool (by rw [Bool.eq_iff_iff];simp [wordR,hw];omega),rfl⟩
  · have hD':dom r = false:=by simpa using hD
    rw [hD'] at hd
    have hr:wordR r = false:=by simp [dom] at hD;simp [wordR];omega
    rw [hr]
    go_enter Tryz.func136,Tryz.ntmps136
    go_wp2_with (go_at_call 105;refine hd.mono ?_;rintro e w' ⟨rfl,rfl⟩)
    go_ret
    exact ⟨rfl,rfl⟩
end Go.Proofs.YtjdbnoccdefnaaaGreat.Look
