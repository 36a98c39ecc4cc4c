/- HELPERS: the walk of SparseTurned. Made by tools/genturned.py. -/
import Derived.Test.YtlidhjcciglinaaTu
namespace Go.Proofs.Ytlidhjcciglinaa
open Go.RowKit
set_option linter.unusedVariables false
set_option linter.unusedSimpArgs false
set_option maxHeartbeats 8000000 in
set_option maxRecDepth 1000000 in
theorem turned6 (l ps : List Int) (a1 a2 : Option Addr) (n np c1 c2 : Nat) (w0 : World) (hT1 : Hid (TextAt w0.heap.size w0 a1 n l)) (hT2 : Hid (TextAt w0.heap.size w0 a2 np ps)) (hn : n ≤ 17592186043904) (hnp : np ≤ 17592186043904) :
    Calls Try.prog 6 #[.slice a1 n c1, .slice a2 np c2] w0 fun e w' => e = .returned (.bool true) ∧ Below w0.heap.size w0 w' := by
  go_enter Try.func6, Try.ntmps6
  go_wp2_with fail
  refine (awake7 w0).mono ?_
  rintro e w ⟨rfl, hb0⟩
  have hs0 := hb0.size
  have HT1 : Hid (TextAt w0.heap.size w a1 n l) := hT1.out.below hb0
  have HTP : Hid (TextAt w0.heap.size w a2 np ps) := hT2.out.below hb0
  have HB0 : Hid (Below w0.heap.size w0 w) := hb0
  clear hT1 hT2 hb0
  have HI : Hid (Two w.heap.size w (w.alloc (.cells #[.slice none 0 0, .int .i64 0] 41)) w.heap.size (.slice none 0 0) [] 0) :=
    ⟨[w.heap.size], StkI.zero w.heap.size w (Nat.le_refl _), World.ownsRow_nil _ _ _ _, (fun b hb => by cases hb), (Below.refl _ _).alloc (Nat.le_refl _) _⟩
  go_wp2
  generalize hg : w.heap.size = N at HI hs0 ⊢
  have HG : Hid (w.heap.size = N) := hg
  clear hg
  go_loopw [7, 8, 9] (fun v mo ix wr => ∃ (i : Nat) (L : List Int) (m : Nat) (vv : Value), i ≤ n ∧ L.length ≤ i ∧ m ≤ i ∧ ix = .int .i64 i ∧ mo = .int .i64 m ∧ vv = v ∧ Hid (Two N w wr N vv L m))
    (fun _ _ ix _ => n - (intOf ix).toNat)
  case atStart => exact ⟨0, [], 0, _, by omega, by simp, by omega, rfl, rfl, rfl, HI⟩
  case round =>
    obtain ⟨i, L, m, v, hi, hL, hm, rfl, rfl, rfl, HT⟩ := hrel
    clear HI
    obtain ⟨F, hS, ho, hd, hB⟩ := HT.out
    have hsz : N ≤ wr.heap.size := by have := hB.size; have := HG.out; omega
    by_cases hin : i < n
    · obtain ⟨b1, o1, rfl, hb1, d1⟩ := (HT1.out.below (hB.mono (by omega))).at i hin
      generalize l.getD i 0 = x at d1
      have HS : Hid (StkI N wr N F L m) := hS
      have HO : Hid (wr.ownsRow N 3 1 v L.length (I64 L)) := ho
      have HD : Hid (∀ b, v.ownBlock = some b → b ∉ F) := hd
      have HB : Hid (Below N w wr) := hB
      clear hS ho hd hB HT
      go_wp2_with fail
      refine (push22 N N F L m x wr HS (by omega) (by omega)).mono ?_
      rintro e w1 ⟨rfl, F1, hS1, hc1⟩
      obtain ⟨ho1, hd1, hB1⟩ := Two.pushed (by omega) HS.out HO.out HD.out HB.out hS1 hc1
      have hs1 : N ≤ w1.heap.size := by have := hB1.size; have := HG.out; omega
      have e1 : w1.cell? ⟨b1, o1 + i, none⟩ = some (.int .i64 x) := ((hc1.below (B := N) (by omega) (fun k hk => (HS.out.low k hk).1)).cell (p := ⟨b1, o1 + i, none⟩) (by simp; omega)).trans d1
      have HS1 : Hid (StkI N w1 N F1 (L ++ [x]) (max m (L.length + 1))) := hS1
      have HO1 : Hid (w1.ownsRow N 3 1 v L.length (I64 L)) := ho1
      have HD1 : Hid (∀ b, v.ownBlock = some b → b ∉ F1) := hd1
      have HB1 : Hid (Below N w w1) := hB1
      clear hS1 hc1 ho1 hd1 hB1 HS HO HD HB d1
      go_wp2_with (at_builtin; refine wpList_append_one rfl (.tmp 30) (.tmp 35) 35 rfl N 3 (.int .i64 0) 8 Try.underlying35 info3 rfl v (.int .i64 x) L.length 1 (I64 L) rfl HO1.out _ rfl rfl rfl (by unfold maxLen; omega) (by omega) (by omega) ?_)
      intro v2 w2 ho2 hm2
      have hT2 := Two.app (by omega) HS1.out HO1.out HD1.out HB1.out ho2.out hm2.out
      obtain ⟨b2, cap2, rfl⟩ := Joins.ownsRow_form ho2.out (by omega)
      have HTP2 : Hid (TextAt w0.heap.size w2 a2 np ps) := HTP.out.below (hT2.choose_spec.2.2.2.mono (by omega))
      have hmx : max (m : Int) ((L.length : Int) + 1) = ((max m (L.length + 1) : Nat) : Int) := by omega
      have hmm : max m (L.length + 1) ≤ i + 1 := by omega
      have HT2 : Hid (Two N w w2 N (.slice (some ⟨b2, 0, none⟩) (L.length + 1) cap2) (L ++ [x]) (max m (L.length + 1))) := hT2
      generalize max m (L.length + 1) = mm at hmx hmm HT2
      clear hT2 ho2 hm2 HS1 HO1 HD1 HB1 e1
      by_cases hip : i < np
      · obtain ⟨b3, o3, rfl, hb3, d3⟩ := HTP2.out.at i hip
        generalize ps.getD i 0 = y at d3
        obtain ⟨t, ht, hand⟩ := and_three y
        go_wp2
        go_loopw [7, 11] (fun v k wr => ∃ (j : Nat) (L' : List Int) (vv : Value), j ≤ t ∧ L'.length ≤ i + 1 ∧ k = .int .i64 j ∧ vv = v ∧ Hid (Two N w wr N vv L' mm))
          (fun _ k _ => t - (intOf k).toNat)
        case atStart => exact ⟨0, _, _, by omega, by simp; omega, rfl, rfl, HT2⟩
        case round =>
          obtain ⟨j, L', v, hj, hL', rfl, rfl, HT⟩ := hrel
          clear HT2
          obtain ⟨F, hS, ho, hd, hB⟩ := HT.out
          have hsz : N ≤ wr.heap.size := by have := hB.size; have := HG.out; omega
          by_cases hjt : j < t
          · rcases list_end L' with rfl | ⟨L2, x, rfl⟩
            · obtain ⟨ad, cap, rfl⟩ : ∃ ad cap, v = .slice ad 0 cap := by
                rcases Joins.ownsRow_forms ho with ⟨rfl, _⟩ | ⟨b, cap, rfl⟩
                · exact ⟨_, _, rfl⟩
                · exact ⟨_, _, rfl⟩
              have HS : Hid (StkI N wr N F [] mm) := hS
              have HO : Hid (wr.ownsRow N 3 1 (.slice ad 0 cap) 0 (I64 [])) := ho
              have HD : Hid (∀ b, (Value.slice ad 0 cap).ownBlock = some b → b ∉ F) := hd
              have HB : Hid (Below N w wr) := hB
              clear hS ho hd hB HT
              go_wp2_with fail
              refine (pop27_none N N F mm wr HS).mono ?_
              rintro e w1 ⟨rfl, hS1, hc1⟩
              have HT3 : Hid (Two N w w1 N (.slice ad 0 cap) [] mm) := ⟨F, hS1, hc1.row HO.out HD.out, HD.out, HB.out.trans (hc1.below hsz (fun k hk => (HS.out.low k hk).1))⟩
              clear hS1 hc1 HS HO HD HB
              go_wp2
              go_roundw
              case rel => exact ⟨j + 1, [], _, by omega, hL', by go_num, rfl, HT3⟩
              case measure => simp [intOf]; omega
            · rw [List.length_append, List.length_singleton, show I64 (L2 ++ [x]) = I64 L2 ++ [.int .i64 x] by simp] at ho
              simp at hL'
              obtain ⟨b, cap, rfl⟩ := Joins.ownsRow_form ho (by omega)
              have hcap := row_cap ho
              have HS : Hid (StkI N wr N F (L2 ++ [x]) mm) := hS
              have HO : Hid (wr.ownsRow N 3 1 (.slice (some ⟨b, 0, none⟩) (L2.length + 1) cap) (L2.length + 1) (I64 L2 ++ [.int .i64 x])) := ho
              have HD : Hid (b ∉ F) := hd b rfl
              have HB : Hid (Below N w wr) := hB
              clear hS ho hd hB HT
              go_wp2_with fail
              refine (pop27 N N F L2 x mm wr HS).mono ?_
              rintro e w1 ⟨rfl, hS1, hc1⟩
              obtain ⟨hT3, q0⟩ := Two.popped hsz HS.out HO.out HD.out HB.out hS1 hc1
              have HT3 : Hid (Two N w w1 N (.slice (some ⟨b, 0, none⟩) L2.length cap) L2 mm) := hT3
              clear hS1 hc1 HS HO HD HB hT3
              go_wp2
              go_roundw
              case rel => exact ⟨j + 1, L2, _, by omega, by omega, by go_num, rfl, HT3⟩
              case measure => simp [intOf]; omega
          · obtain rfl : j = t := by omega
            obtain ⟨ad, cap, rfl⟩ : ∃ ad cap, v = .slice ad L'.length cap := by
              rcases Joins.ownsRow_forms ho with ⟨rfl, h0⟩ | ⟨b, cap, rfl⟩
              · exact ⟨none, 0, by rw [h0]⟩
              · exact ⟨_, _, rfl⟩
            have HS : Hid (StkI N wr N F L' mm) := hS
            have hle := len31 N N F L' mm wr HS
            have hmo := most37 N N F L' mm wr HS
            clear hS ho hd hB
            go_wp2_with (first | (go_at_call 31; refine hle.mono ?_; rintro e w1 ⟨rfl, rfl⟩) | (go_at_call 37; refine hmo.mono ?_; rintro e w1 ⟨rfl, rfl⟩))
            go_roundw
            case rel => exact ⟨i + 1, L', mm, _, by omega, by omega, by omega, by go_num, rfl, rfl, HT⟩
            case measure => simp [intOf]; omega
      · obtain ⟨t, ht⟩ : ∃ t : Nat, t = 0 := ⟨_, rfl⟩
        subst ht
        obtain ⟨t, ht⟩ : ∃ t : Nat, t = 0 := ⟨_, rfl⟩
        go_wp2
        go_loopw [7, 11] (fun v k wr => ∃ (j : Nat) (L' : List Int) (vv : Value), j ≤ t ∧ L'.length ≤ i + 1 ∧ k = .int .i64 j ∧ vv = v ∧ Hid (Two N w wr N vv L' mm))
          (fun _ k _ => t - (intOf k).toNat)
        case atStart => exact ⟨0, _, _, by omega, by simp; omega, rfl, rfl, HT2⟩
        case round =>
          obtain ⟨j, L', v, hj, hL', rfl, rfl, HT⟩ := hrel
          clear HT2
          obtain ⟨F, hS, ho, hd, hB⟩ := HT.out
          have hsz : N ≤ wr.heap.size := by have := hB.size; have := HG.out; omega
          by_cases hjt : j < t
          · omega
          · obtain rfl : j = t := by omega
            obtain ⟨ad, cap, rfl⟩ : ∃ ad cap, v = .slice ad L'.length cap := by
              rcases Joins.ownsRow_forms ho with ⟨rfl, h0⟩ | ⟨b, cap, rfl⟩
              · exact ⟨none, 0, by rw [h0]⟩
              · exact ⟨_, _, rfl⟩
            have HS : Hid (StkI N wr N F L' mm) := hS
            have hle := len31 N N F L' mm wr HS
            have hmo := most37 N N F L' mm wr HS
            clear hS ho hd hB
            go_wp2_with (first | (go_at_call 31; refine hle.mono ?_; rintro e w1 ⟨rfl, rfl⟩) | (go_at_call 37; refine hmo.mono ?_; rintro e w1 ⟨rfl, rfl⟩))
            go_roundw
            case rel => exact ⟨i + 1, L', mm, _, by omega, by omega, by omega, by go_num, rfl, rfl, HT⟩
            case measure => simp [intOf]; omega
    · obtain rfl : i = n := by omega
      clear HT1 HTP hi hin hsz
      have hB0 : Below w0.heap.size w0 wr := HB0.out.trans (hB.mono (by omega))
      clear hS ho hd hB
      go_wp2
      go_loopw [7] (fun v wr => ∃ (L' : List Int) (vv : Value), L'.length ≤ i ∧ vv = v ∧ Hid (Two N w wr N vv L' m))
        (fun v _ => match v with | .slice _ k _ => k | _ => 0)
      case atStart => exact ⟨L, _, hL, rfl, HT⟩
      case round =>
        obtain ⟨L', v, hL', rfl, HT'⟩ := hrel
        clear HT
        obtain ⟨F, hS, ho, hd, hB⟩ := HT'.out
        have hsz : N ≤ wr.heap.size := by have := hB.size; have := HG.out; omega
        rcases list_end L' with rfl | ⟨L2, x, rfl⟩
        · obtain ⟨ad, cap, rfl⟩ : ∃ ad cap, v = .slice ad 0 cap := by
            rcases Joins.ownsRow_forms ho with ⟨rfl, _⟩ | ⟨b, cap, rfl⟩
            · exact ⟨_, _, rfl⟩
            · exact ⟨_, _, rfl⟩
          have HS : Hid (StkI N wr N F [] m) := hS
          have HB : Hid (Below N w wr) := hB
          clear hS ho hd hB HT'
          go_wp2_with fail
          refine (pop27_none N N F m wr HS).mono ?_
          rintro e w1 ⟨rfl, hS1, hc1⟩
          have hmo := most37 N N F [] m w1 hS1
          have HB1 : Hid (Below N w w1) := HB.out.trans (hc1.below hsz (fun k hk => (HS.out.low k hk).1))
          clear hS1 hc1 HS HB
          go_wp2_with (go_at_call 37; refine hmo.mono ?_; rintro e w2 ⟨rfl, rfl⟩)
          go_ret
          exact ⟨rfl, HB0.out.trans (HB1.out.mono (by omega))⟩
        · rw [List.length_append, List.length_singleton, show I64 (L2 ++ [x]) = I64 L2 ++ [.int .i64 x] by simp] at ho
          simp at hL'
          obtain ⟨b, cap, rfl⟩ := Joins.ownsRow_form ho (by omega)
          have hcap := row_cap ho
          have HS : Hid (StkI N wr N F (L2 ++ [x]) m) := hS
          have HO : Hid (wr.ownsRow N 3 1 (.slice (some ⟨b, 0, none⟩) (L2.length + 1) cap) (L2.length + 1) (I64 L2 ++ [.int .i64 x])) := ho
          have HD : Hid (b ∉ F) := hd b rfl
          have HB : Hid (Below N w wr) := hB
          clear hS ho hd hB HT'
          go_wp2_with fail
          refine (pop27 N N F L2 x m wr HS).mono ?_
          rintro e w1 ⟨rfl, hS1, hc1⟩
          obtain ⟨hT3, q0⟩ := Two.popped hsz HS.out HO.out HD.out HB.out hS1 hc1
          have HT3 : Hid (Two N w w1 N (.slice (some ⟨b, 0, none⟩) L2.length cap) L2 m) := hT3
          clear hS1 hc1 HS HO HD HB hT3
          go_wp2
          go_roundw
          case rel => exact ⟨L2, _, by omega, rfl, HT3⟩
          case measure => simp
end Go.Proofs.Ytlidhjcciglinaa
