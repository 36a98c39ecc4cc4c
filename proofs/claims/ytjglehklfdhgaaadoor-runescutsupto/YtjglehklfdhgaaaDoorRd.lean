/- HELPERS: the document's Decode: the walk. -/
import Derived.Test.YtjglehklfdhgaaaDoorRdM
import Derived.Lib.Bytes
import Derived.Deep.Cut
import Derived.Deep.CutRange
namespace Go.Proofs.YtjglehklfdhgaaaDoor
open Go.RowKit Go.Mx
set_option linter.unusedVariables false
set_option linter.unusedSimpArgs false
theorem str_cell (w : World) (b off n cap : Nat) (zs : List Int) (hl : zs.length = n) (hc : ∀ k, k < n → w.cell? ⟨b, off + k, none⟩ = some (.int .u8 (zs.getD k 0))) :
    (convert 25 9 (.slice (some ⟨b, off, none⟩) n cap)).run Tryd.prog w = .ok (.string (strOfNums zs)) w :=
  run_convert_bytes_arg (P := Tryd.prog) w 25 5 Tryd.underlying25 Tryd.underlying5 b off n cap zs hl hc 9 Tryd.underlying9
theorem str_eq (x y : List Int) (hx : ByteL x) (hy : ByteL y) : ((strOfNums x).toList == (strOfNums y).toList) = decide (x = y) := by
  rw [Bool.eq_iff_iff, beq_iff_eq, decide_eq_true_eq]
  constructor
  · intro h
    refine str_inj x y hx hy ?_
    have h2 : (strOfNums x).data.toList = (strOfNums y).data.toList := by
      rw [Go.Lib.strOfNums_toList, Go.Lib.strOfNums_toList] at h
      exact h
    have h3 : (strOfNums x).data = (strOfNums y).data := Array.ext' h2
    cases hX : strOfNums x
    cases hY : strOfNums y
    rw [hX, hY] at h3
    simpa using h3
  · intro h; rw [h]
theorem bytes_bd {w : World} {b off : Nat} {l : List Int} (hL : ByteL l) (k : Nat) : 0 ≤ l.getD k 0 ∧ l.getD k 0 < 256 := hL k
set_option maxHeartbeats 2000000 in
set_option maxRecDepth 1000000 in
theorem value42 (l : List Int) (b off cap k : Nat) (w : World) (h1 : 1 ≤ k) (h4 : k ≤ 4) (hk : k ≤ l.length) (hB : Hid (Bytes w b off l)) (hL : Hid (ByteL l)) :
    Calls Tryd.prog 42 #[.slice (some ⟨b, off, none⟩) k cap] w fun e w' => e = .returned (.int .i64 (refv l k)) ∧ ∃ q, w' = w.drewN q := by
  have hc : k = 1 ∨ k = 2 ∨ k = 3 ∨ k = 4 := by omega
  have c0 := hB.out 0 (by omega)
  have b0 := hL.out 0
  rw [Nat.add_zero] at c0
  rcases hc with rfl | rfl | rfl | rfl
  · have hr : refv l 1 = l.getD 0 0 := rfl
    rw [hr]
    generalize l.getD 0 0 = x0 at *
    go_enter Tryd.func42, Tryd.ntmps42
    go_wp2
    all_goals go_ret
    all_goals exact ⟨rfl, 0, rfl⟩
  · have hr : refv l 2 = l.getD 0 0 % 32 * 64 + l.getD 1 0 % 64 := rfl
    have c1 := hB.out 1 (by omega)
    have b1 := hL.out 1
    rw [hr]
    generalize l.getD 0 0 = x0 at *
    generalize l.getD 1 0 = x1 at *
    go_enter Tryd.func42, Tryd.ntmps42
    go_wp2
    go_quiet (fail)
    go_wp2
    go_ret
    exact ⟨rfl, _, rfl⟩
  · have hr : refv l 3 = l.getD 0 0 % 16 * 4096 + l.getD 1 0 % 64 * 64 + l.getD 2 0 % 64 := rfl
    have c1 := hB.out 1 (by omega)
    have b1 := hL.out 1
    have c2 := hB.out 2 (by omega)
    have b2 := hL.out 2
    rw [hr]
    generalize l.getD 0 0 = x0 at *
    generalize l.getD 1 0 = x1 at *
    generalize l.getD 2 0 = x2 at *
    go_enter Tryd.func42, Tryd.ntmps42
    go_wp2
    go_quiet (fail)
    go_wp2
    go_ret
    exact ⟨rfl, _, rfl⟩
  · have hr : refv l 4 = l.getD 0 0 % 8 * 262144 + l.getD 1 0 % 64 * 4096 + l.getD 2 0 % 64 * 64 + l.getD 3 0 % 64 := rfl
    have c1 := hB.out 1 (by omega)
    have b1 := hL.out 1
    have c2 := hB.out 2 (by omega)
    have b2 := hL.out 2
    have c3 := hB.out 3 (by omega)
    have b3 := hL.out 3
    rw [hr]
    generalize l.getD 0 0 = x0 at *
    generalize l.getD 1 0 = x1 at *
    generalize l.getD 2 0 = x2 at *
    generalize l.getD 3 0 = x3 at *
    go_enter Tryd.func42, Tryd.ntmps42
    go_wp2
    go_quiet (fail)
    go_wp2
    go_ret
    exact ⟨rfl, _, rfl⟩
set_option maxHeartbeats 2000000 in
set_option maxRecDepth 1000000 in
theorem rdec_any (l : List Int) (hl : l ≠ []) (b off cap n : Nat) (w : World) (hn : Hid (n = l.length)) (hn1 : 1 ≤ n) (hlen : n ≤ 140737488351232) (hcap : n ≤ cap) (hcl : cap ≤ 9223372036854775807)
   (hB : Hid (Bytes w b off l)) (hL : Hid (ByteL l)) (hb : b < w.heap.size) :
   Calls Tryd.prog 15 #[.slice (some ⟨b, off, none⟩) n cap] w fun e w' => e = .returned (.tuple #[.int .i64 (dec l).1, .int .i64 (dec l).2]) ∧ Below w.heap.size w w' := by
  have hn0 : ((n : Int) == 0) = false := by simp; omega
  go_enter Tryd.func15, Tryd.ntmps15
  go_wp2
  go_loopw [4] (fun i wr => ∃ (k : Nat), 1 ≤ k ∧ k ≤ 5 ∧ i = .int .i64 k ∧ Below w.heap.size w wr ∧ Hid (∀ j, 1 ≤ j → j < k → j ≤ n → ¬ hit l j)) (fun i _ => 5 - (intOf i).toNat)
  case atStart => exact ⟨1, by omega, by omega, rfl, Below.refl _ _, by intro j h1 h2; omega⟩
  case round =>
    obtain ⟨k, hk1, hk5, rfl, hbw, HK⟩ := hrel
    have hsz := hbw.size
    by_cases hlt : k ≤ 4 ∧ k ≤ n
    · obtain ⟨hk4, hkn⟩ := hlt
      have hg1 : (k : Int) ≤ 4 := by omega
      have hg2 : (k : Int) ≤ (n : Int) := by omega
      have hBw : Bytes wr b off l := hB.out.below hbw hb
      have hv := value42 l b off cap k wr hk1 hk4 (by rw [← hn.out]; exact hkn) hBw hL.out
      have HIT : Hid (hit l k → dec l = (refv l k, (k : Int))) := fun h => dec_hit (by rw [← hn.out]; exact hkn) h
      have HIT2 : Hid (hit l k ↔ dom (refv l k) = true ∧ enc (refv l k) = l.take k) := Iff.rfl
      generalize refv l k = r at hv HIT HIT2
      have hdom := fun w' => dom43 r w'
      cases hdr : dom r
      · rw [hdr] at hdom HIT2
        have HNO : Hid (¬ hit l k) := by intro h; have := (HIT2.out.1 h).1; cases this
        clear hdr HIT HIT2
        go_wp2_with (first | (go_at_call 42; refine hv.mono ?_; rintro e w' ⟨rfl, q, rfl⟩) | (go_at_call 43; refine (hdom _).mono ?_; rintro e w' ⟨rfl, rfl⟩))
        go_quiet (fail)
        go_wp2
        go_roundw
        case rel => exact ⟨k + 1, by omega, by omega, by go_num, below_drewN hbw _, by
          intro j h1 h2 h3
          by_cases hj : j = k
          · rw [hj]; exact HNO.out
          · exact HK.out j h1 (by omega) h3⟩
        case measure => simp [intOf]; omega
      · rw [hdr] at hdom HIT2
        have hby := fun w' => bytes44 r w' hdr
        have htl : (l.take k).length = k := by rw [List.length_take, ← hn.out]; omega
        have hin := str_eq (enc r) (l.take k) (enc_byteL r hdr) (hL.out.take k)
        have hS1 : ∀ q, (convert 25 9 (.slice (some ⟨wr.heap.size, 0, none⟩) (enc r).length (enc r).length)).run Tryd.prog ((wr.drewN q).alloc (.cells (U8 (enc r)).toArray 5)) = .ok (.string (strOfNums (enc r))) ((wr.drewN q).alloc (.cells (U8 (enc r)).toArray 5)) := fun q =>
          str_cell _ wr.heap.size 0 _ _ (enc r) rfl (fun j hj => by rw [Nat.zero_add, World.cell?_alloc_at _ 5 wr.heap.size j (by simp)]; simp [hj])
        have hcb : ∀ j, j < k → wr.cell? ⟨b, off + j, none⟩ = some (.int .u8 ((l.take k).getD j 0)) := fun j hj => by
          rw [hBw j (by rw [← hn.out]; omega)]
          simp [List.getD_eq_getElem?_getD, List.getElem?_take, hj]
        have hS2 : ∀ q, (convert 25 9 (.slice (some ⟨b, off, none⟩) k cap)).run Tryd.prog (wr.drewN q) = .ok (.string (strOfNums (l.take k))) (wr.drewN q) := fun q => str_cell (wr.drewN q) b off k cap _ htl hcb
        have hS3 : ∀ q, (convert 25 9 (.slice (some ⟨b, off, none⟩) k cap)).run Tryd.prog ((wr.drewN q).alloc (.cells (U8 (enc r)).toArray 5)) = .ok (.string (strOfNums (l.take k))) ((wr.drewN q).alloc (.cells (U8 (enc r)).toArray 5)) := fun q =>
          str_cell _ b off k cap _ htl (fun j hj => by
            have hlt : b < (wr.drewN q).heap.size := by show b < wr.heap.size; omega
            exact (World.cell?_of_block (a := ⟨b, off + j, none⟩) (heap_alloc_old (wr.drewN q) _ hlt)).trans (hcb j hj))
        have HIN : Hid (((strOfNums (enc r)).toList == (strOfNums (l.take k)).toList) = decide (enc r = l.take k)) := hin
        have HDE : Hid (decide (enc r = l.take k) = true ↔ enc r = l.take k) := by show _ ↔ _; simp
        have HDR : Hid (dom r = true) := hdr
        generalize strOfNums (enc r) = S1 at hS1 HIN
        generalize strOfNums (l.take k) = S2 at hS2 hS3 HIN
        generalize decide (enc r = l.take k) = D at HIN HDE
        clear hin hcb htl hdr hBw
        go_wp2_with (first | (go_at_call 42; refine hv.mono ?_; rintro e w' ⟨rfl, q, rfl⟩) | (go_at_call 43; refine (hdom _).mono ?_; rintro e w' ⟨rfl, rfl⟩))
        go_cut [36] from 10 to 38 (fun s wx => s = .bool D ∧ Below w.heap.size w wx)
        case first =>
          go_region_with (go_at_call 44; refine (hby _).mono ?_; rintro e w' ⟨rfl, rfl⟩)
          all_goals go_wp2_with fail
          all_goals go_meet
          all_goals exact ⟨by rw [HIN.out], (below_drewN hbw _).alloc (by exact hsz) _⟩
        case rest =>
          obtain ⟨rfl, hbc⟩ := hcut
          cases hD : D
          · have HNO : Hid (¬ hit l k) := by intro h; have := (HIT2.out.1 h).2; have := HDE.out.2 this; rw [hD] at this; cases this
            clear hD HIT HIT2 HIN HDE hS1 hS2 hS3 hby
            go_wp2
            go_roundw
            case rel => exact ⟨k + 1, by omega, by omega, by go_num, hbc, by
              intro j h1 h2 h3
              by_cases hj : j = k
              · rw [hj]; exact HNO.out
              · exact HK.out j h1 (by omega) h3⟩
            case measure => simp [intOf]; omega
          · have HE : Hid (dec l = (r, (k : Int))) := HIT.out (HIT2.out.2 ⟨by trivial, HDE.out.1 hD⟩)
            clear hD HIT HIT2 HIN HDE hS1 hS2 hS3 hby
            go_wp2
            go_ret2
            exact ⟨ret_pair (by rw [HE.out]) (by rw [HE.out]), hbc⟩
    · have HE : Hid (dec l = (65533, 1)) := dec_none hl hL.out (fun j h1 h4 hj => HK.out j h1 (by rw [← hn.out] at hj; omega) (by rw [hn.out]; exact hj))
      by_cases hk4 : k ≤ 4
      · have hg1 : (k : Int) ≤ 4 := by omega
        have hg2 : ¬ (k : Int) ≤ (n : Int) := by omega
        go_wp2
        go_ret2
        exact ⟨ret_pair (by rw [HE.out]) (by rw [HE.out]), hbw⟩
      · have hg1 : ¬ (k : Int) ≤ 4 := by omega
        go_wp2
        go_ret2
        exact ⟨ret_pair (by rw [HE.out]) (by rw [HE.out]), hbw⟩
end Go.Proofs.YtjglehklfdhgaaaDoor
