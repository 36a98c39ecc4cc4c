/- HELPERS: texts of ours put together. -/
import Derived.Test.YtjdbnoccdefnaaaGreatK39
import Derived.Test.YtjdbnoccdefnaaaGreatK01
import Derived.Test.YtjdbnoccdefnaaaGreatK02
namespace Go.Proofs.YtjdbnoccdefnaaaGreat.Look
open Go.RowKit
set_option linter.unusedVariables false
set_option linter.unusedSimpArgs false
def TxAt (N:Nat) (w:World) (ad:Option Addr) (n:Nat) (l:List Int):Prop:=
  n = l.length ∧ n ≤ 35184372088832 ∧ (n = 0 ∨ ∃ b off,ad = some ⟨b,off,none⟩ ∧ b < N ∧ ∀ k,k < n → w.cell? ⟨b,off + k,none⟩ = some (.int .i64 (l.getD k 0)))
theorem TxAt.below {N:Nat} {w w':World} {ad:Option Addr} {n:Nat} {l:List Int} (h:TxAt N w ad n l) (hb:Below N w w'):TxAt N w' ad n l:=by
  obtain ⟨h1,h2,h | ⟨b,off,ha,hbN,hc⟩⟩:=h
  · exact ⟨h1,h2,.inl h⟩
  · exact ⟨h1,h2,.inr ⟨b,off,ha,hbN,fun k hk => (hb.cell (p:=⟨b,off + k,none⟩) hbN).trans (hc k hk)⟩⟩
theorem TxAt.mono {N M:Nat} {w:World} {ad:Option Addr} {n:Nat} {l:List Int} (h:TxAt N w ad n l) (hNM:N ≤ M):TxAt M w ad n l:=by
  obtain ⟨h1,h2,h | ⟨b,off,ha,hbN,hc⟩⟩:=h
  · exact ⟨h1,h2,.inl h⟩
  · exact ⟨h1,h2,.inr ⟨b,off,ha,by omega,hc⟩⟩
def spot (ad:Option Addr) (n cap:Nat) (p:Int):Value:=.agg #[.slice ad n cap,.int .i64 p]
def begB (p:Nat):Bool:=decide (p = 0)
def endB (l:List Int) (p:Nat):Bool:=decide (p = l.length)
def blB (l:List Int) (p:Nat):Bool:=decide (p = 0) || decide (l.getD (p - 1) 0 = 10)
def elB (l:List Int) (p:Nat):Bool:=decide (p = l.length) || decide (l.getD p 0 = 10)
def waB (l:List Int) (p:Nat):Bool:=decide (0 < p) && wordR (l.getD (p - 1) 0)
def wbB (l:List Int) (p:Nat):Bool:=decide (p < l.length) && wordR (l.getD p 0)
theorem beg19 (ad:Option Addr) (n cap p:Nat) (w:World):Calls Tryz.prog 118 #[.agg #[.slice ad n cap,.int .i64 p]] w fun e w' => e = .returned (.bool (begB p)) ∧ Below w.heap.size w w':=by
  go_enter Tryz.func118,Tryz.ntmps118
  go_wp2
  go_ret
  exact ⟨ret_bool (by rw [Bool.eq_iff_iff];simp [begB]),(Below.refl _ _).alloc (Nat.le_refl _) _⟩
theorem end20 (ad:Option Addr) (n cap p:Nat) (l:List Int) (w:World) (hn:n = l.length):Calls Tryz.prog 119 #[.agg #[.slice ad n cap,.int .i64 p]] w fun e w' => e = .returned (.bool (endB l p)) ∧ Below w.heap.size w w':=by
  go_enter Tryz.func119,Tryz.ntmps119
  go_wp2
  go_ret
  exact ⟨ret_bool (by rw [Bool.eq_iff_iff];simp [endB,hn];omega),(Below.refl _ _).alloc (Nat.le_refl _) _⟩
theorem box_cells {w w':World} {v:Value} {p:Int} (hb:Below (w.alloc (.cells #[v,.int .i64 p] 136)).heap.size (w.alloc (.cells #[v,.int .i64 p] 136)) w') :
    w'.cell? ⟨w.heap.size,0,none⟩ = some v ∧ w'.cell? ⟨w.heap.size,1,none⟩ = some (.int .i64 p) ∧ (∀ b o:Nat,b < w.heap.size → w'.cell? ⟨b,o,none⟩ = w.cell? ⟨b,o,none⟩) ∧ Below w.heap.size w w':=by
  refine ⟨(hb.cell (p:=⟨w.heap.size,0,none⟩) (by simp)).trans ?_,(hb.cell (p:=⟨w.heap.size,1,none⟩) (by simp)).trans ?_,fun b o ha => (hb.cell (p:=⟨b,o,none⟩) (by simp;omega)).trans ?_,((Below.refl _ _).alloc (Nat.le_refl _) _).trans (hb.mono (by simp))⟩
  · rw [World.cell?_alloc_at _ _ _ _ rfl];rfl
  · rw [World.cell?_alloc_at _ _ _ _ rfl];rfl
  · exact World.cell?_alloc_past _ _ _ (by omega)
set_option maxHeartbeats 1000000 in
theorem bl21 (ad:Option Addr) (n cap p:Nat) (l:List Int) (w:World) (hT:Hid (TxAt w.heap.size w ad n l)) (hp:p ≤ n):Calls Tryz.prog 120 #[.agg #[.slice ad n cap,.int .i64 p]] w fun e w' => e = .returned (.bool (blB l p)) ∧ Below w.heap.size w w':=by
  have hbeg:=fun w => beg19 ad n cap p w
  by_cases h0:p = 0
  · subst h0
    have e1:begB 0 = true:=by decide
    have e2:blB l 0 = true:=by simp [blB]
    rw [e1] at hbeg
    rw [e2]
    go_enter Tryz.func120,Tryz.ntmps120
    go_wp2_with (go_at_call 118;refine (hbeg _).mono ?_;rintro e w' ⟨rfl,hb⟩)
    go_ret
    exact ⟨rfl,((Below.refl _ _).alloc (Nat.le_refl _) _).trans (hb.mono (by simp))⟩
  · have e1:begB p = false:=by simp [begB,h0]
    have e2:blB l p = decide (l.getD (p - 1) 0 = 10):=by simp [blB,h0]
    rw [e1] at hbeg
    rw [e2]
    obtain ⟨hn,hmax,h | ⟨b,off,rfl,hbN,hc⟩⟩:=hT.out
    · omega
    · have d0:=hc (p - 1) (by omega)
      generalize l.getD (p - 1) 0 = x at d0
      clear hc e1 e2 hn
      go_enter Tryz.func120,Tryz.ntmps120
      go_wp2_with fail
      refine (hbeg _).mono ?_
      rintro e w' ⟨rfl,hb⟩
      obtain ⟨c0,c1,hk,hb2⟩:=box_cells hb
      have d1:=(hk b (off + (p - 1)) hbN).trans d0
      clear hb hk d0 hbeg
      go_wp2
      go_ret
      exact ⟨ret_bool (by rw [Bool.eq_iff_iff];simp),hb2⟩
set_option maxHeartbeats 1000000 in
theorem el22 (ad:Option Addr) (n cap p:Nat) (l:List Int) (w:World) (hT:Hid (TxAt w.heap.size w ad n l)) (hp:p ≤ n):Calls Tryz.prog 121 #[.agg #[.slice ad n cap,.int .i64 p]] w fun e w' => e = .returned (.bool (elB l p)) ∧ Below w.heap.size w w':=by
  have hend:=fun w => end20 ad n cap p l w hT.out.1
  have hn:=hT.out.1
  by_cases h0:p = n
  · subst h0
    have e1:endB l p = true:=by simp [endB,hn]
    have e2:elB l p = true:=by simp [elB,hn]
    rw [e1] at hend
    rw [e2]
    clear hn e1 e2
    go_enter Tryz.func121,Tryz.ntmps121
    go_wp2_with (go_at_call 119;refine (hend _).mono ?_;rintro e w' ⟨rfl,hb⟩)
    go_ret
    exact ⟨rfl,((Below.refl _ _).alloc (Nat.le_refl _) _).trans (hb.mono (by simp))⟩
  · have e1:endB l p = false:=by simp [endB];omega
    have e2:elB l p = decide (l.getD p 0 = 10):=by
      have:¬ p = l.length:=by omega
      simp [elB,this]
    rw [e1] at hend
    rw [e2]
    obtain ⟨hn',hmax,h | ⟨b,off,rfl,hbN,hc⟩⟩:=hT.out
    · omega
    · have d0:=hc p (by omega)
      generalize l.getD p 0 = x at d0
      have hp2:p < n:=by omega
      clear hc e1 e2 hn hn'
      go_enter Tryz.func121,Tryz.ntmps121
      go_wp2_with fail
      refine (hend _).mono ?_
      rintro e w' ⟨rfl,hb⟩
      obtain ⟨c0,c1,hk,hb2⟩:=box_cells hb
      have d1:=(hk b (off + p) hbN).trans d0
      clear hb hk d0 hend
      go_wp2
      go_ret
      exact ⟨ret_bool (by rw [Bool.eq_iff_iff];simp),hb2⟩
set_option maxHeartbeats 1000000 in
theorem wa25 (ad:Option Addr) (n cap p:Nat) (l:List Int) (w:World) (hT:Hid (TxAt w.heap.size w ad n l)) (hp:p ≤ n):Calls Tryz.prog 126 #[.agg #[.slice ad n cap,.int .i64 p]] w fun e w' => e = .returned (.bool (waB l p)) ∧ Below w.heap.size w w':=by
  have hbeg:=fun w => beg19 ad n cap p w
  by_cases h0:p = 0
  · subst h0
    have e1:begB 0 = true:=by decide
    have e2:waB l 0 = false:=by simp [waB]
    rw [e1] at hbeg
    rw [e2]
    go_enter Tryz.func126,Tryz.ntmps126
    go_wp2_with (go_at_call 118;refine (hbeg _).mono ?_;rintro e w' ⟨rfl,hb⟩)
    go_ret
    exact ⟨rfl,((Below.refl _ _).alloc (Nat.le_refl _) _).trans (hb.mono (by simp))⟩
  · have e1:begB p = false:=by simp [begB,h0]
    have e2:waB l p = wordR (l.getD (p - 1) 0):=by
      have:0 < p:=by omega
      simp [waB,this]
    rw [e1] at hbeg
    rw [e2]
    obtain ⟨hn,hmax,h | ⟨b,off,rfl,hbN,hc⟩⟩:=hT.out
    · omega
    · have d0:=hc (p - 1) (by omega)
      generalize l.getD (p - 1) 0 = x at d0
      have hword:=fun w => word27 x w
      clear hc e1 e2 hn
      generalize wordR x = bx at hword
      go_enter Tryz.func126,Tryz.ntmps126
      go_wp2_with fail
      refine (hbeg _).mono ?_
      rintro e w' ⟨rfl,hb⟩
      obtain ⟨c0,c1,hk,hb2⟩:=box_cells hb
      have d1:=(hk b (off + (p - 1)) hbN).trans d0
      clear hb hk d0 hbeg
      go_wp2_with (go_at_call 136;refine (hword _).mono ?_;rintro e w'' ⟨rfl,rfl⟩)
      go_ret
      exact ⟨rfl,hb2⟩
set_option maxHeartbeats 1000000 in
theorem wb26 (ad:Option Addr) (n cap p:Nat) (l:List Int) (w:World) (hT:Hid (TxAt w.heap.size w ad n l)) (hp:p ≤ n):Calls Tryz.prog 127 #[.agg #[.slice ad n cap,.int .i64 p]] w fun e w' => e = .returned (.bool (wbB l p)) ∧ Below w.heap.size w w':=by
  have hend:=fun w => end20 ad n cap p l w hT.out.1
  have hn:=hT.out.1
  by_cases h0:p = n
  · subst h0
    have e1:endB l p = true:=by simp [endB,hn]
    have e2:wbB l p = false:=by simp [wbB,hn]
    rw [e1] at hend
    rw [e2]
    clear hn e1 e2
    go_enter Tryz.func127,Tryz.ntmps127
    go_wp2_with (go_at_call 119;refine (hend _).mono ?_;rintro e w' ⟨rfl,hb⟩)
    go_ret
    exact ⟨rfl,((Below.refl _ _).alloc (Nat.le_refl _) _).trans (hb.mono (by simp))⟩
  · have e1:endB l p = false:=by simp [endB];omega
    have e2:wbB l p = wordR (l.getD p 0):=by
      have:p < l.length:=by omega
      simp [wbB,this]
    rw [e1] at hend
    rw [e2]
    obtain ⟨hn',hmax,h | ⟨b,off,rfl,hbN,hc⟩⟩:=hT.out
    · omega
    · have d0:=hc p (by omega)
      generalize l.getD p 0 = x at d0
      have hp2:p < n:=by omega
      have hword:=fun w => word27 x w
      clear hc e1 e2 hn hn'
      generalize wordR x = bx at hword
      go_enter Tryz.func127,Tryz.ntmps127
      go_wp2_with fail
      refine (hend _).mono ?_
      rintro e w' ⟨rfl,hb⟩
      obtain ⟨c0,c1,hk,hb2⟩:=box_cells hb
      have d1:=(hk b (off + p) hbN).trans d0
      clear hb hk d0 hend
      go_wp2_with (go_at_call 136;refine (hword _).mono ?_;rintro e w'' ⟨rfl,rfl⟩)
      go_ret
      exact ⟨rfl,hb2⟩
end Go.Proofs.YtjdbnoccdefnaaaGreat.Look
