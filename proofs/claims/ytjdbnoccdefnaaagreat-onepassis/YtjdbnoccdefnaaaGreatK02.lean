/- HELPERS: texts of ours put together. -/
import Derived.Test.YtjdbnoccdefnaaaGreatK01
import Derived.Lib.Small
namespace Go.Proofs.YtjdbnoccdefnaaaGreat
open Go.RowKit Go.Lib
set_option linter.unusedVariables false
set_option linter.unusedSimpArgs false
def dom (r:Int):Bool:=decide (0 ≤ r ∧ r < 55296 ∨ 57343 < r ∧ r ≤ 1114111)
theorem dom41 (r:Int) (w:World):Calls Tryz.prog 105 #[.int .i64 r] w fun e w' => e = .returned (.bool (dom r)) ∧ w' = w:=by
  go_enter Tryz.func105,Tryz.ntmps105
  go_wp2
  all_goals go_ret
  all_goals exact ⟨ret_bool (by rw [Bool.eq_iff_iff];simp [dom];omega),rfl⟩
def RowAt (N:Nat) (w:World) (v:Value) (L:List (Int × Int)):Prop:=∃ ad cap,v = .slice ad L.length cap ∧ (L.length = 0 ∨ ∃ b off,ad = some ⟨b,off,none⟩ ∧ b < N ∧
  (∀ k,k < L.length → w.cell? ⟨b,off + k * 2,none⟩ = some (.int .i64 (L.getD k (0,0)).1)) ∧ (∀ k,k < L.length → w.cell? ⟨b,off + k * 2 + 1,none⟩ = some (.int .i64 (L.getD k (0,0)).2)))
theorem RowAt.below {N N' B:Nat} {w w':World} {v:Value} {L:List (Int × Int)} (h:RowAt N w v L) (hb:Below B w w') (hB:N ≤ B) (hN:N ≤ N'):RowAt N' w' v L:=by
  obtain ⟨ad,cap,hv,h | ⟨b,off,ha,hbN,h0,h1⟩⟩:=h
  · exact ⟨ad,cap,hv,.inl h⟩
  · exact ⟨ad,cap,hv,.inr ⟨b,off,ha,by omega,fun k hk => (hb.cell (p:=⟨b,off + k * 2,none⟩) (by show b < B;omega)).trans (h0 k hk),fun k hk => (hb.cell (p:=⟨b,off + k * 2 + 1,none⟩) (by show b < B;omega)).trans (h1 k hk)⟩⟩
def gapB (g:Int × Int):Bool:=decide (g.1 < 55296 ∧ 57343 < g.2)
def okG (least:Int) (g:Int × Int):Bool:=decide (least ≤ g.1) && decide (g.1 ≤ g.2) && dom g.1 && dom g.2 && !gapB g
def rightFrom:Int → List (Int × Int) → Bool
  | _,[] => true
  | least,g :: t => okG least g && rightFrom (g.2 + 2) t
def rightB (L:List (Int × Int)):Bool:=decide (L.length ≤ 5000) && rightFrom 0 L
theorem drop_consR (L:List (Int × Int)) (k:Nat) (h:k < L.length):L.drop k = L.getD k (0,0) :: L.drop (k + 1):=by
  rw [List.drop_eq_getElem_cons h];simp [h]
theorem gap46 (lo hi:Int) (w:World):Calls Tryz.prog 106 #[.agg #[.int .i64 lo,.int .i64 hi]] w fun e w' => e = .returned (.bool (gapB (lo,hi))) ∧ w' = w.alloc (.cells #[.int .i64 lo,.int .i64 hi] 50):=by
  go_enter Tryz.func106,Tryz.ntmps106
  go_wp2
  all_goals go_ret
  all_goals exact ⟨ret_bool (by rw [Bool.eq_iff_iff];simp [gapB];omega),rfl⟩
set_option maxHeartbeats 2000000 in
set_option maxRecDepth 1000000 in
theorem right_short (L:List (Int × Int)) (ad:Option Addr) (n cap:Nat) (w:World) (hn:Hid (n = L.length)) (hS:n ≤ 5000) (hl:Hid (RowAt w.heap.size w (.slice ad n cap) L)) :
    Calls Tryz.prog 85 #[.slice ad n cap] w fun e w' => e = .returned (.bool (rightFrom 0 L)) ∧ Below w.heap.size w w':=by
  go_enter Tryz.func85,Tryz.ntmps85
  go_wp2
  go_loopw [3,11] (fun lv i wr => ∃ (k:Nat) (ls:Int),k ≤ n ∧ 0 ≤ ls ∧ ls ≤ 1114113 ∧ lv = .int .i64 ls ∧ i = .int .i64 k ∧ Below w.heap.size w wr ∧ Hid (rightFrom 0 L = rightFrom ls (L.drop k)))
    (fun _ i _ => n - (intOf i).toNat)
  case atStart => exact ⟨0,0,by omega,by omega,by omega,rfl,rfl,Below.refl _ _,by exact rfl⟩
  case round =>
    obtain ⟨k,ls,hk,hs0,hs1,rfl,rfl,hbw,HR⟩:=hrel
    have hsz:=hbw.size
    by_cases hlt:k < n
    · obtain ⟨ad',cap',he,h | ⟨b,off,rfl,hbN,hc0,hc1⟩⟩:=hl.out
      · exact absurd h (by rw [← hn.out];omega)
      · have hn':=hn.out
        simp only [Value.slice.injEq] at he
        obtain ⟨rfl,-,rfl⟩:=he
        have d0:=(hbw.cell (p:=⟨b,off + k * 2,none⟩) hbN).trans (hc0 k (by omega))
        have d1:=(hbw.cell (p:=⟨b,off + k * 2 + 1,none⟩) hbN).trans (hc1 k (by omega))
        have hdr:=drop_consR L k (by omega)
        have hR:=HR.out
        rw [hdr] at hR
        generalize L.getD k (0,0) = g at d0 d1 hR
        obtain ⟨lo,hi⟩:=g
        simp only at d0 d1
        have HR2:Hid (rightFrom 0 L = (okG ls (lo,hi) && rightFrom (hi + 2) (L.drop (k + 1)))):=hR
        clear hdr hR HR hc0 hc1 hn'
        have hd0:=dom41 lo
        have hd1:=dom41 hi
        have hgp:=gap46 lo hi
        generalize ho:okG ls (lo,hi) = ok at HR2
        have hok:ok = (decide (ls ≤ lo) && decide (lo ≤ hi) && dom lo && dom hi && !gapB (lo,hi)):=ho.symm
        clear ho
        generalize h3:dom lo = e3 at hd0 hok
        generalize h4:dom hi = e4 at hd1 hok
        generalize h5:gapB (lo,hi) = e5 at hgp hok
        have H4:Hid (dom hi = e4):=h4
        clear h3 h4 h5
        have HOK:Hid (ok = (decide (ls ≤ lo) && decide (lo ≤ hi) && e3 && e4 && !e5)):=hok
        clear hok
        by_cases g1:ls ≤ lo
        · by_cases g2:lo ≤ hi
          · cases e3
            · have hE:Hid (rightFrom 0 L = false):=by show rightFrom 0 L = _;rw [HR2.out,HOK.out];simp
              go_wp2_with (first | (go_at_call_of 41 (.int .i64 lo);refine (hd0 _).mono ?_;rintro e w' ⟨rfl,rfl⟩) | (go_at_call 105;refine (hd0 _).mono ?_;rintro e w' ⟨rfl,rfl⟩))
              go_ret
              exact ⟨ret_bool hE.out.symm,hbw.alloc hsz _⟩
            · cases e4
              · have hE:Hid (rightFrom 0 L = false):=by show rightFrom 0 L = _;rw [HR2.out,HOK.out];simp
                go_wp2_with fail
                refine (hd0 _).mono ?_
                rintro e w' ⟨rfl,rfl⟩
                go_wp2_with fail
                refine (hd1 _).mono ?_
                rintro e w' ⟨rfl,rfl⟩
                go_wp2
                go_ret
                exact ⟨ret_bool hE.out.symm,hbw.alloc hsz _⟩
              · cases e5
                · have hE:Hid (rightFrom 0 L = rightFrom (hi + 2) (L.drop (k + 1))):=by show rightFrom 0 L = _;rw [HR2.out,HOK.out];simp [g1,g2]
                  obtain ⟨hh0,hh1⟩:0 ≤ hi ∧ hi ≤ 1114111:=by have:=H4.out;simp [dom] at this;omega
                  go_wp2_with fail
                  refine (hd0 _).mono ?_
                  rintro e w' ⟨rfl,rfl⟩
                  go_wp2_with fail
                  refine (hd1 _).mono ?_
                  rintro e w' ⟨rfl,rfl⟩
                  go_wp2_with fail
                  refine (hgp _).mono ?_
                  rintro e w' ⟨rfl,rfl⟩
                  go_wp2
                  go_roundw
                  case rel => exact ⟨k + 1,hi + 2,by omega,by omega,by omega,rfl,by go_num,(hbw.alloc hsz _).alloc (by simp;omega) _,hE⟩
                  case measure => simp [intOf];omega
                · have hE:Hid (rightFrom 0 L = false):=by show rightFrom 0 L = _;rw [HR2.out,HOK.out];simp
                  go_wp2_with fail
                  refine (hd0 _).mono ?_
                  rintro e w' ⟨rfl,rfl⟩
                  go_wp2_with fail
                  refine (hd1 _).mono ?_
                  rintro e w' ⟨rfl,rfl⟩
                  go_wp2_with fail
                  refine (hgp _).mono ?_
                  rintro e w' ⟨rfl,rfl⟩
                  go_wp2
                  go_ret
                  exact ⟨ret_bool hE.out.symm,(hbw.alloc hsz _).alloc (by simp;omega) _⟩
          · have hE:Hid (rightFrom 0 L = false):=by show rightFrom 0 L = _;rw [HR2.out,HOK.out];simp [g2]
            clear hd0 hd1 hgp
            go_wp2
            go_ret
            exact ⟨ret_bool hE.out.symm,hbw.alloc hsz _⟩
        · have hE:Hid (rightFrom 0 L = false):=by show rightFrom 0 L = _;rw [HR2.out,HOK.out];simp [g1]
          clear hd0 hd1 hgp
          go_wp2
          go_ret
          exact ⟨ret_bool hE.out.symm,hbw.alloc hsz _⟩
    · obtain rfl:k = n:=by omega
      have hE:Hid (rightFrom 0 L = true):=by
        show rightFrom 0 L = _
        rw [HR.out,List.drop_of_length_le (by rw [← hn.out];exact Nat.le_refl _)];rfl
      clear HR
      go_wp2
      go_ret
      exact ⟨ret_bool hE.out.symm,hbw⟩
set_option maxHeartbeats 1000000 in
theorem right_long (L:List (Int × Int)) (ad:Option Addr) (n cap:Nat) (w:World) (hS:5000 < n) (hS2:n ≤ 17592186044416) :
    Calls Tryz.prog 85 #[.slice ad n cap] w fun e w' => e = .returned (.bool false) ∧ Below w.heap.size w w':=by
  go_enter Tryz.func85,Tryz.ntmps85
  go_wp2
  go_ret
  exact ⟨rfl,Below.refl _ _⟩
theorem right25 (L:List (Int × Int)) (ad:Option Addr) (n cap:Nat) (w:World) (hn:n = L.length) (hS2:n ≤ 17592186044416) (hl:RowAt w.heap.size w (.slice ad n cap) L) :
    Calls Tryz.prog 85 #[.slice ad n cap] w fun e w' => e = .returned (.bool (rightB L)) ∧ Below w.heap.size w w':=by
  by_cases h:n ≤ 5000
  · have e:rightB L = rightFrom 0 L:=by unfold rightB;rw [← hn];simp [h]
    rw [e]
    exact right_short L ad n cap w hn h hl
  · have e:rightB L = false:=by unfold rightB;rw [← hn];simp [h]
    rw [e]
    exact right_long L ad n cap w (by omega) hS2
end Go.Proofs.YtjdbnoccdefnaaaGreat
namespace Go.Proofs.YtjdbnoccdefnaaaGreat
open Go.RowKit
set_option linter.unusedVariables false
set_option linter.unusedSimpArgs false
def assertB (n:Int):Bool:=n == 1 || n == 2 || n == 4 || n == 8 || n == 16 || n == 32
end Go.Proofs.YtjdbnoccdefnaaaGreat
