/- HELPERS: Print. -/
import Derived.Test.YteanndophopplaaDoorWW
import Derived.Test.YteanndophopplaaDoorFb
import Derived.Test.YteanndophopplaaDoorMA
import Derived.Test.YteanndophopplaaDoorPP
import Derived.Test.YteanndophopplaaDoorFd
import Derived.Test.YteanndophopplaaDoorJB
import Derived.Test.YteanndophopplaaDoorFe
/- HELPERS: a program's text, in plain words. -/
namespace Go.Proofs.YteanndophopplaaDoor
open Go.RowKit
set_option linter.unusedVariables false
set_option linter.unusedSimpArgs false
/-- a number behind another word -/
def E2 (n : Nat) : List Nat := 32 :: dec n
theorem len2 : LenE E2 := fun n => by have := dec_len n; simp [E2]; omega
def lineL (I : In) : List Nat := [32, 32] ++ opW I.op.toNat ++ sumE E2 I.nums ++ [10]
def headL (s k : Int) : List Nat := [99, 97, 112, 115] ++ E2 k.toNat ++ [32, 115, 116, 97, 114, 116] ++ E2 s.toNat ++ [10]
/-- a program's text -/
def textL (l : List In) (s k : Int) : List Nat := headL s k ++ l.flatMap lineL
theorem wsp_run : ∀ (w cur r : List Nat), (∀ x ∈ w, blankB x = false) → wsp cur (w ++ r) = wsp (cur ++ w) r := by
  intro w
  induction w with
  | nil => intro cur r _; simp
  | cons x w ih =>
    intro cur r h
    rw [List.cons_append, wsp_more (h x (by simp)), ih _ _ (fun y hy => h y (by simp [hy]))]
    simp
theorem wsp_word {w r : List Nat} {x : Nat} (hw : w ≠ []) (h : ∀ y ∈ w, blankB y = false) (hx : blankB x = true) : wsp [] (w ++ x :: r) = w :: wsp [] r := by
  rw [wsp_run w [] _ h, List.nil_append, wsp_stop hx hw, wsp_blank hx]
theorem dec_nb (n : Nat) : ∀ y ∈ dec n, blankB y = false := by
  intro y hy
  have := dec_lt n y hy
  simp [blankB]; omega
theorem opW_nb (q : Nat) : ∀ y ∈ opW q, blankB y = false := by
  intro y hy
  unfold opW at hy
  split at hy
  all_goals simp at hy
  all_goals (rcases hy with h | h) <;> first | (subst h; rfl) | (rcases h with h | h <;> first | (subst h; rfl) | (rcases h with h | h <;> first | (subst h; rfl) | (rcases h with h | h <;> first | (subst h; rfl) | (rcases h with h | h <;> first | (subst h; rfl) | (subst h; rfl)))))
theorem opW_ne {q : Nat} (h1 : 1 ≤ q) (h7 : q ≤ 7) : opW q ≠ [] := by
  obtain rfl | rfl | rfl | rfl | rfl | rfl | rfl : q = 1 ∨ q = 2 ∨ q = 3 ∨ q = 4 ∨ q = 5 ∨ q = 6 ∨ q = 7 := by omega
  all_goals simp [opW]
/-- a word, then numbers, then the line's end -/
theorem wsp_nums : ∀ (ns w r : List Nat), w ≠ [] → (∀ y ∈ w, blankB y = false) → wsp [] (w ++ (sumE E2 ns ++ 10 :: r)) = w :: (ns.map dec ++ wsp [] r) := by
  intro ns
  induction ns with
  | nil => intro w r hw h; show wsp [] (w ++ 10 :: r) = _; rw [wsp_word hw h rfl]; rfl
  | cons n ns ih =>
    intro w r hw h
    have e : w ++ (sumE E2 (n :: ns) ++ 10 :: r) = w ++ 32 :: (dec n ++ (sumE E2 ns ++ 10 :: r)) := by simp [sumE, E2]
    rw [e, wsp_word hw h rfl, ih (dec n) r (dec_ne n) (dec_nb n)]
    simp
theorem wordC_inst (I : In) : wordC.inst I = opW I.op.toNat :: I.nums.map dec := by
  show [opW I.op.toNat] ++ I.nums.flatMap (fun n => [dec n]) = _
  rw [List.singleton_append]
  congr 1
  induction I.nums with
  | nil => rfl
  | cons a l ih => simp [ih]
theorem fit_op {n k : Int} {I : In} (h : Fit n k I) : 1 ≤ I.op.toNat ∧ I.op.toNat ≤ 7 := by cases h <;> simp
theorem wsp_lines {n k : Int} : ∀ (l : List In), (∀ I ∈ l, Fit n k I) → wsp [] (l.flatMap lineL) = wordC.insts l := by
  intro l
  induction l with
  | nil => intro _; rfl
  | cons I l ih =>
    intro h
    have hI := fit_op (h I (by simp))
    have e : (I :: l).flatMap lineL = 32 :: 32 :: (opW I.op.toNat ++ (sumE E2 I.nums ++ 10 :: l.flatMap lineL)) := by simp [lineL]
    have e2 : wordC.insts (I :: l) = wordC.inst I ++ wordC.insts l := by simp [Codec.insts]
    rw [e, e2, wsp_blank rfl, wsp_blank rfl, wsp_nums _ _ _ (opW_ne hI.1 hI.2) (opW_nb _), wordC_inst, ih (fun J hJ => h J (by simp [hJ]))]
    rfl
/-- A TEXT'S WORDS ARE ITS PROGRAM'S -/
theorem words_text {l : List In} {s k : Int} (h : mayB l s k = true) : wordsL (textL l s k) = wordsP l s k := by
  obtain ⟨h1, h2, h3, h4, h5, h6⟩ := may_fit h
  have e : textL l s k = capsW ++ 32 :: (dec k.toNat ++ 32 :: (startW ++ 32 :: (dec s.toNat ++ 10 :: l.flatMap lineL))) := by simp [textL, headL, E2]
  unfold wordsL wordsP
  rw [e, wsp_word (by decide) (by decide) rfl, wsp_word (dec_ne _) (dec_nb _) rfl, wsp_word (by decide) (by decide) rfl, wsp_word (dec_ne _) (dec_nb _) rfl, wsp_lines l h6]
/-- as much of a text as there is ahead of an instruction -/
def preL (l : List In) (s k : Int) (i : Nat) : List Nat := headL s k ++ (l.take i).flatMap lineL
theorem preL_all (l : List In) (s k : Int) : preL l s k l.length = textL l s k := by simp [preL, textL]
theorem preL_zero (l : List In) (s k : Int) : preL l s k 0 = headL s k := by simp [preL]
theorem preL_snoc (l : List In) (s k : Int) (i : Nat) (hi : i < l.length) : preL l s k (i + 1) = preL l s k i ++ lineL l[i] := by
  unfold preL
  rw [List.take_succ_eq_append_getElem hi, List.flatMap_append]
  simp
theorem preL_le (l : List In) (s k : Int) (i : Nat) : (preL l s k i).length ≤ (textL l s k).length := by
  have h : textL l s k = preL l s k i ++ (l.drop i).flatMap lineL := by
    unfold textL preL
    rw [List.append_assoc, ← List.flatMap_append, List.take_append_drop]
  rw [h, List.length_append]; omega
theorem head_len {s k : Int} (hs : s ≤ 20000) (hk : k ≤ 1002) : (headL s k).length ≤ 21100 := by
  have a := dec_len k.toNat
  have b := dec_len s.toNat
  simp [headL, E2]
  omega
end Go.Proofs.YteanndophopplaaDoor
/- HELPERS: any number behind a writer's words. -/
namespace Go.Proofs.YteanndophopplaaDoor
open Go.RowKit Go.Lib
set_option linter.unusedVariables false
set_option linter.unusedSimpArgs false
theorem dec_two {k : Nat} (h : k < 100) : (dec k).length ≤ 2 := by
  rcases Nat.lt_or_ge k 10 with h5 | h5
  · rw [len_dec1 h5]; omega
  · exact Nat.le_of_eq (len_dec2 h5 h)
set_option maxRecDepth 100000 in
set_option maxHeartbeats 4000000 in
theorem uint82s {k base : Nat} (hk : k < 100) {w : World} {xs : List Nat} {v : Value} (ho : w.ownsRow base 5 1 v xs.length (U8 xs)) (hb : base ≤ w.heap.size) (hS : xs.length + 10 ≤ 1099511627776) :
    Calls Tryd.prog 82 #[v, .int .u64 (k : Int), .int .i64 10] w fun e w' => ∃ v' ln, e = .returned v' ∧ (xs ++ dec k).length = ln ∧ w'.ownsRow base 5 1 v' ln (U8 (xs ++ dec k)) ∧ GB w w' v v' := by
  obtain ⟨za, zc, rfl, -, -⟩ := row_shape ho
  have C := small85g hk w
  have b1 : decide ((k : Int) < 100) = true := by simp; omega
  have b2 : (k : Int) < 100 := by omega
  have b3 : IntKind.i64.wrap (k : Int) = (k : Int) := by simp [IntKind.wrap, IntKind.bits, IntKind.signed]; omega
  obtain ⟨xn, hxn⟩ : ∃ xn, xs.length = xn := ⟨_, rfl⟩
  have HO2 : Hid (w.ownsRow base 5 1 (.slice za xn zc) xs.length (U8 xs)) := by rw [← hxn]; exact ho
  have HK := hid hk
  have HSX := hid hS
  rw [hxn]
  clear ho hxn hk hS
  go_enter Tryd.func82, Tryd.ntmps82
  go_wp2_with (first | (go_at_call 85; (with_reducible refine C.mono ?_); rintro e w1 ⟨⟨S, rfl, hd⟩, rfl⟩; have HD := hid hd; have HS : Hid (xs.length + S.size ≤ 1099511627776) := (by show _ ≤ _; have h1 := bs_len S; rw [hd] at h1; have := HSX.out; have h4 := dec_two HK.out; omega); clear hd) | (at_builtin; refine wpList_append_str rfl (.tmp 13) (.tmp 16) rfl base _ xs rfl HO2.out S rfl HS.out hb ?_; intro v' w1 ln hln ho hm; obtain ⟨va, vc, rfl, -, -⟩ := row_shape ho; have HLN := hid hln; have HOO := hid ho; have HMM := hid hm; clear hln ho hm))
  all_goals go_ret
  all_goals exact ⟨_, ln, rfl, by rw [← HD.out]; exact HLN.out.out, by rw [← HD.out]; exact HOO.out, gb_of_moved0 HMM.out⟩
theorem uint82a {k base : Nat} (hk2 : k < 10000000) {w : World} {xs : List Nat} {v : Value} (hG : G10 w) (h2 : 2 ≤ w.heap.size) (ho : w.ownsRow base 5 1 v xs.length (U8 xs)) (hb : base ≤ w.heap.size) (hS : xs.length + 10 ≤ 1099511627776) :
    Calls Tryd.prog 82 #[v, .int .u64 (k : Int), .int .i64 10] w fun e w' => ∃ v' ln, e = .returned v' ∧ (xs ++ dec k).length = ln ∧ w'.ownsRow base 5 1 v' ln (U8 (xs ++ dec k)) ∧ GB w w' v v' := by
  rcases Nat.lt_or_ge k 100 with h | h
  · exact uint82s h ho hb hS
  · exact uint82g h hk2 hG h2 ho hb hS
set_option maxRecDepth 100000 in
set_option maxHeartbeats 4000000 in
theorem int79a {k base : Nat} (hk2 : k < 10000000) {w : World} {xs : List Nat} {v : Value} (hG : G10 w) (h2 : 2 ≤ w.heap.size) (ho : w.ownsRow base 5 1 v xs.length (U8 xs)) (hb : base ≤ w.heap.size) (hS : xs.length + 10 ≤ 1099511627776) :
    Calls Tryd.prog 79 #[v, .int .i64 (k : Int), .int .i64 10] w fun e w' => ∃ v' ln, e = .returned v' ∧ (xs ++ dec k).length = ln ∧ w'.ownsRow base 5 1 v' ln (U8 (xs ++ dec k)) ∧ GB w w' v v' := by
  have C := uint82a hk2 hG h2 ho hb hS
  have b1 : decide ((k : Int) < 0) = false := by simp
  have b3 : IntKind.u64.wrap (k : Int) = (k : Int) := by simp [IntKind.wrap, IntKind.bits, IntKind.signed]; omega
  clear hG h2 ho hb hS hk2
  go_enter Tryd.func79, Tryd.ntmps79
  go_wp2_with (go_at_call 82; (with_reducible refine C.mono ?_); rintro e w1 ⟨v', ln, rfl, h1, h2, h3⟩; have H1 := hid h1; have H2 := hid h2; have H3 := hid h3; clear h1 h2 h3)
  all_goals go_ret
  all_goals exact ⟨_, _, rfl, H1.out, H2.out, H3.out⟩
set_option maxRecDepth 100000 in
set_option maxHeartbeats 4000000 in
/-- STRCONV.APPENDINT of a number under ten millions -/
theorem int71a {k base : Nat} (hk2 : k < 10000000) {w : World} {xs : List Nat} {v : Value} (hG : G10 w) (h2 : 2 ≤ w.heap.size) (ho : w.ownsRow base 5 1 v xs.length (U8 xs)) (hb : base ≤ w.heap.size) (hS : xs.length + 10 ≤ 1099511627776) :
    Calls Tryd.prog 71 #[v, .int .i64 (k : Int), .int .i64 10] w fun e w' => ∃ v' ln, e = .returned v' ∧ (xs ++ dec k).length = ln ∧ w'.ownsRow base 5 1 v' ln (U8 (xs ++ dec k)) ∧ GB w w' v v' := by
  have C := int79a hk2 hG h2 ho hb hS
  clear hG h2 ho hb hS hk2
  go_enter Tryd.func71, Tryd.ntmps71
  go_wp2_with (go_at_call 79; (with_reducible refine C.mono ?_); rintro e w1 ⟨v', ln, rfl, h1, h2, h3⟩; have H1 := hid h1; have H2 := hid h2; have H3 := hid h3; clear h1 h2 h3)
  all_goals go_ret
  all_goals exact ⟨_, _, rfl, H1.out, H2.out, H3.out⟩
theorem chg_gb {w w1 : World} {v v' : Value} (h : GB w w1 v v') (G : List Nat) : Chg w w1 (G ++ v.ownBlock.toList) (G ++ v'.ownBlock.toList) := by
  refine ⟨h.os, h.tape, h.output, h.size, fun k hk hn => h.block k hk (fun e => hn (by simp [e])), fun k hk => ?_⟩
  simp only [List.mem_append, Option.mem_toList, Option.mem_def] at hk ⊢
  rcases hk with hk | hk
  · exact .inl (.inl hk)
  · rcases h.own k hk with e | e
    · exact .inl (.inr e)
    · exact .inr e
theorem WB.putg {T base wb : Nat} {w w1 : World} {xs ys : List Nat} {v v' : Value} (hT : T ≠ 5) (h : WB T base wb w xs v) {n : Nat} (hf : GB w w1 v v') (hn : ys.length = n) (ho : w1.ownsRow base 5 1 v' n (U8 ys)) :
    WB T base wb (w1.setCell ⟨wb, 0, none⟩ v') ys v' ∧ Chg w (w1.setCell ⟨wb, 0, none⟩ v') (WF wb v) (WF wb v') ∧ w1.cell? ⟨wb, 0, none⟩ = some v ∧ w1.frozen? ⟨wb, 0, none⟩ = false := by
  subst hn
  have hwb : wb < w.heap.size := (Array.getElem?_eq_some_iff.1 h.box).1
  have hne := h.ne hT
  have hbx : w1.heap[wb]? = some (.cells #[v] T (0, 0)) := (hf.block wb hwb hne).trans h.box
  have hne' : v'.ownBlock ≠ some wb := own_ne ho hbx hT
  refine ⟨⟨Joins.block_setCell hbx v', own_setCell ho (by exact hne'), ?_⟩, ?_, Joins.cell_of_block hbx 0, Joins.unfrozen_of_block hbx 0⟩
  · have h1 := h.bs
    have h2 := hf.size
    simp [World.setCell]
    omega
  · have := (chg_gb hf [wb]).set v' (a := ⟨wb, 0, none⟩) (by simp)
    simpa using this
theorem G10.below {w w' : World} {base : Nat} (h : G10 w) (hb : Below base w w') (h2 : 2 ≤ base) : G10 w' := fun i hi => (hb.cell (p := ⟨1, i, none⟩) (show 1 < base by omega)).trans (h i hi)
set_option maxRecDepth 100000 in
set_option maxHeartbeats 4000000 in
theorem number60a {k base wb : Nat} (hk2 : k < 10000000) {w : World} {xs : List Nat} {v : Value} (hG : G10 w) (h2 : 2 ≤ base) (hbw : base ≤ wb) (hW : WB 90 base wb w xs v) (hS : xs.length + 12 ≤ 1099511627776) :
    Calls Tryd.prog 60 #[pt wb, .int .i64 (k : Int)] w fun e w' => e = .returned (.tuple #[]) ∧ ∃ v', WB 90 base wb w' (xs ++ E2 k) v' ∧ Chg w w' (WF wb v) (WF wb v') := by
  have HW := hid hW
  obtain ⟨za, zc, rfl, -, -⟩ := row_shape hW.own
  have c0 : w.cell? ⟨wb, 0, none⟩ = some (.slice za xs.length zc) := Joins.cell_of_block hW.box 0
  have hbs := hW.bs
  obtain ⟨xn, hxn⟩ : ∃ xn, xs.length = xn := ⟨_, rfl⟩
  have HOR : Hid (RR base w xs (.slice za xn zc)) := .inl (by have e := hW.own; rw [hxn] at e; rw [← hxn]; rw [hxn]; exact e)
  rw [hxn] at c0 HW
  have HS : Hid (xs.length ≤ 1099511627776) := by show _ ≤ _; omega
  have HS2 : Hid ((xs ++ [32]).length + 10 ≤ 1099511627776) := by show _ ≤ _; simp; omega
  have HXN := hid hxn
  have HG := hid hG
  rw [hxn]
  clear hW hxn hS hG
  go_enter Tryd.func60, Tryd.ntmps60
  go_upto_region 1 with (at_builtin; refine wpList_append_oneR rfl (.tmp 8) (.tmp 9) rfl base _ 32 1 xs rfl HOR.out _ rfl rfl HS.out hbs ?_; intro v' w1 ho1 hm1; obtain ⟨va, vc, rfl, _, _⟩ := row_shape ho1.out; obtain ⟨c1, f1⟩ := HW.out.r.box1 (by decide) hm1.out; obtain ⟨h1, h2'⟩ := HW.out.r.put (by decide) hm1.out (ys := xs ++ [32]) ho1.out (by rw [List.length_append]; rfl); have H1 := hid h1; have H2 := hid h2'; clear h1 h2' ho1 hm1)
  all_goals
    have e71 : xs.length + 1 = (xs ++ [32]).length := by simp
    rw [e71] at H1 H2 ⊢
    obtain ⟨ys, hys⟩ : ∃ ys, ys = xs ++ [32] := ⟨_, rfl⟩
    have hfin : xs ++ E2 k = ys ++ dec k := by rw [hys]; simp [E2]
    have HF := hid hfin
    rw [← hys] at H1 H2 HS2 ⊢
    obtain ⟨yn, hyn⟩ : ∃ yn, ys.length = yn := ⟨_, rfl⟩
    obtain ⟨W1, hW1⟩ : ∃ W1, W1 = w1.setCell ⟨wb, 0, none⟩ (.slice va ys.length vc) := ⟨_, rfl⟩
    rw [← hW1] at H1 H2 ⊢
    have hG1 : G10 W1 := HG.out.below (HW.out.below hbw H2.out) h2
    have C71 := int71a hk2 hG1 (by have := H1.out.bs; omega) H1.out.own H1.out.bs HS2.out
    have d0 : W1.cell? ⟨wb, 0, none⟩ = some (.slice va ys.length vc) := Joins.cell_of_block H1.out.box 0
    rw [hyn] at C71 d0 H1 H2 ⊢
    clear hfin hyn hW1 c1 f1 c0 HW HOR HS HS2 hbs HXN e71 hG1
    go_wp2_with (first | (go_at_call 71; (with_reducible refine C71.mono ?_); rintro e w2 ⟨v', ln, rfl, hln, ho, hm⟩; obtain ⟨vb, vd, rfl, -, -⟩ := row_shape ho; obtain ⟨h1, h2', g1, gf⟩ := H1.out.putg (by decide) hm hln ho; have H3 := hid h1; have H4 := hid h2'; clear h1 h2' ho hm hln))
    all_goals go_end0
    all_goals exact ⟨rfl, _, by rw [HF.out]; exact H3.out, H2.out.trans H4.out⟩
/-- the writer of texts is a writer -/
theorem numW60 {base wb : Nat} {w0 : World} (hG : G10 w0) (h2 : 2 ≤ base) (hbw : base ≤ wb) : NumW 60 90 base wb E2 w0 := fun w xs v k hb hW hS =>
  number60a (by omega) (hG.below hb h2) h2 hbw hW (by omega)
end Go.Proofs.YteanndophopplaaDoor
/- HELPERS: a program's text. -/
namespace Go.Proofs.YteanndophopplaaDoor
open Go.RowKit Go.Lib
set_option linter.unusedVariables false
set_option linter.unusedSimpArgs false
theorem en60 : Enters 60 := enter_of Tryd.func60 (by kernel_rfl) rfl
theorem TS.addg {w0 w : World} {base : Nat} {c : Array Value} {xs ys : List Nat} {v : Value} {s : ByteArray} (h : TS w0 w base c xs v) (hs : bs s = ys) (hz : s.size ≤ 100) (hn : xs.length ≤ 900000000000) :
    Calls Tryd.prog 59 #[.pointer (some ⟨base + 1, 0, none⟩), .string s] w fun e w' => e = .returned (.tuple #[]) ∧ ∃ v', TS w0 w' base c (xs ++ ys) v' ∧ Kq w w' base := by
  refine (add59 h.wb (s := s) (by omega)).mono ?_
  rintro e w' ⟨rfl, v', h1, h2⟩
  rw [hs] at h1
  exact ⟨rfl, v', h.step h1 h2⟩
theorem TS.num {w0 w : World} {base : Nat} {c : Array Value} {xs : List Nat} {v : Value} {k : Nat} (h : TS w0 w base c xs v) (hG : G10 w0) (h2 : 2 ≤ base) (hk : k ≤ 1200000) (hn : xs.length ≤ 1000000000000) :
    Calls Tryd.prog 60 #[.pointer (some ⟨base + 1, 0, none⟩), .int .i64 (k : Int)] w fun e w' => e = .returned (.tuple #[]) ∧ ∃ v', TS w0 w' base c (xs ++ E2 k) v' ∧ Kq w w' base := by
  refine (number60a (by omega) (hG.below h.low h2) h2 (by omega) h.wb (by omega)).mono ?_
  rintro e w' ⟨rfl, v', h1, h2⟩
  exact ⟨rfl, v', h.step h1 h2⟩
theorem TS.flds {w0 w : World} {base : Nat} {c : Array Value} {xs : List Nat} {v : Value} {N : Iv} {I : In} {n k : Int} (h : TS w0 w base c xs v) (hG : G10 w0) (h2 : 2 ≤ base) (hI : IM w base N I) (hF : Fit n k I) (hn : n ≤ 20000) (hk : k ≤ 1002) (hS : xs.length ≤ 500000000000) :
    Calls Tryd.prog 61 #[N.v, mv 60 (base + 1)] w fun e w' => e = .returned (.tuple #[]) ∧ ∃ v', TS w0 w' base c (xs ++ sumE E2 I.nums) v' ∧ Kq w w' base := by
  refine (fields61 (f := 60) (numW60 hG h2 (by omega)) en60 len2 (by omega) h.low h.wb hI hF hn hk hS).mono ?_
  rintro e w' ⟨rfl, v', h1, h2⟩
  exact ⟨rfl, v', h.step h1 h2⟩
set_option maxRecDepth 100000 in
set_option maxHeartbeats 8000000 in
theorem text38g {w : World} {ad : Option Addr} {n c : Nat} {l : List In} {s k : Int} (h : PI w w.heap.size ad n l) (hm : mayB l s k = true) (hG8 : G8 w) (hG : G10 w) (h2 : 2 ≤ w.heap.size) :
    Calls Tryd.prog 38 #[pv ad n c s k] w fun e w' => ∃ v zs, e = .returned v ∧ w'.ownsRow w.heap.size 5 1 v zs.length (U8 zs) ∧ Below w.heap.size w w' ∧ (zs = textL l s k ∧ zs.length ≤ 12000000000 ∨ 8388608 < zs.length ∧ zs.length ≤ 12000000000 ∧ 8388608 < (textL l s k).length) := by
  obtain ⟨h1, h2', h3, h4, h5, h6⟩ := may_fit hm
  obtain ⟨ks, hks⟩ : ∃ ks : Nat, k = (ks : Int) := ⟨k.toNat, by omega⟩
  obtain ⟨ss, hss⟩ : ∃ ss : Nat, s = (ss : Int) := ⟨s.toNat, by omega⟩
  subst hks hss
  obtain ⟨base, hbase⟩ : ∃ base, base = w.heap.size := ⟨_, rfl⟩
  have hS := TS.start hbase #[.slice ad n c, .int .i64 (ss : Int), .int .i64 (ks : Int)]
  go_enter Tryd.func38, Tryd.ntmps38
  go_upto_region 2 with fail
  rw [← hbase]
  obtain ⟨W1, hW1⟩ : ∃ W1, W1 = (w.alloc (.cells #[.slice ad n c, .int .i64 (ss : Int), .int .i64 (ks : Int)] 24)).alloc (.cells #[.slice none 0 0] 90) := ⟨_, rfl⟩
  rw [← hW1] at hS ⊢
  rw [← hbase] at h h2
  have HS := hid hS
  have HBS := hid hbase
  have HG := hid hG
  have HG8 := hid hG8
  have HPI := hid h
  have HL := hid h.len
  have hnl : n ≤ 20000 := by rw [h.len]; exact h1
  have hss : ss ≤ 20000 := by omega
  have hks : ks ≤ 1002 := by omega
  have HF := hid h6
  have HM := hid hm
  have HHL := hid (head_len (s := (ss : Int)) (k := (ks : Int)) (by omega) h5)
  have hlk := dec_len ks
  have hls := dec_len ss
  have lk : (E2 ks).length ≤ ks + 5 := by simp [E2]; omega
  have ls : (E2 ss).length ≤ ss + 5 := by simp [E2]; omega
  clear hW1 hS hbase hG hG8 h h6 hm h1 hlk hls
  go_wp2_with (go_at_call 59; (with_reducible refine (HS.out.addg (ys := [99, 97, 112, 115]) rfl (by decide) (by decide)).mono ?_); rintro e w1 ⟨rfl, v1, h1, -⟩; obtain ⟨c0, c1, c2⟩ := three_cells h1.box; have H1 := hid h1; clear h1 HS)
  go_wp2_with (go_at_call 60; (with_reducible refine (H1.out.num HG.out h2 (k := ks) (by omega) (by decide)).mono ?_); rintro e w2 ⟨rfl, v2, h2a, -⟩; obtain ⟨d0, d1, d2⟩ := three_cells h2a.box; have H2 := hid h2a; clear h2a H1 c0 c1 c2)
  go_wp2_with (go_at_call 59; (with_reducible refine (H2.out.addg (ys := [32, 115, 116, 97, 114, 116]) rfl (by decide) (by simp only [List.length_append, List.length_cons, List.length_nil]; omega)).mono ?_); rintro e w3 ⟨rfl, v3, h3, -⟩; obtain ⟨e0, e1, e2⟩ := three_cells h3.box; have H3 := hid h3; clear h3 H2 d0 d1 d2)
  go_wp2_with (go_at_call 60; (with_reducible refine (H3.out.num HG.out h2 (k := ss) (by omega) (by simp only [List.length_append, List.length_cons, List.length_nil]; omega)).mono ?_); rintro e w4 ⟨rfl, v4, h4, -⟩; obtain ⟨c0, c1, c2⟩ := three_cells h4.box; have H4 := hid h4; clear h4 H3 e0 e1 e2)
  go_wp2_with (go_at_call 59; (with_reducible refine (H4.out.addg (ys := [10]) rfl (by decide) (by simp only [List.length_append, List.length_cons, List.length_nil]; omega)).mono ?_); rintro e w5 ⟨rfl, v5, h5', -⟩; obtain ⟨d0, d1, d2⟩ := three_cells h5'.box; have H5 := hid h5'; clear h5' H4 c0 c1 c2)
  have HPZ : Hid ([] ++ [99, 97, 112, 115] ++ E2 ks ++ [32, 115, 116, 97, 114, 116] ++ E2 ss ++ [10] = preL l (ss : Int) (ks : Int) 0) := by show _ = _; rw [preL_zero]; simp [headL]
  go_loopw [18] (fun y wq => ∃ (i : Nat) (z : Value), y = .int .i64 (i : Int) ∧ i ≤ n ∧ Hid (TS w wq base #[.slice ad n c, .int .i64 (ss : Int), .int .i64 (ks : Int)] (preL l (ss : Int) (ks : Int) i) z) ∧ Hid ((preL l (ss : Int) (ks : Int) i).length ≤ 12000000000)) (fun y _ => n - (intOf y).toNat)
  case atStart => exact ⟨0, v5, rfl, by omega, by rw [← HPZ.out]; exact H5.out, by show _ ≤ _; rw [preL_zero]; have := HHL.out; omega⟩
  case round =>
    clear HPZ H5 d0 d1 d2 HHL
    obtain ⟨i, z, rfl, hi, HW, HLN⟩ := hrel
    obtain ⟨xs, hxs⟩ : ∃ xs, preL l (ss : Int) (ks : Int) i = xs := ⟨_, rfl⟩
    rw [hxs] at HW HLN
    have HXS := hid hxs
    clear hxs
    obtain ⟨za, zc, rfl, -, -⟩ := row_shape HW.out.wb.own
    obtain ⟨xn, hxn⟩ : ∃ xn, xs.length = xn := ⟨_, rfl⟩
    rw [hxn] at HW HLN
    have k0 : wr.cell? ⟨base + 1, 0, none⟩ = some (.slice za xn zc) := Joins.cell_of_block HW.out.wb.box 0
    have HXN := hid hxn
    have hlt : base + 1 < wr.heap.size := (Array.getElem?_eq_some_iff.1 HW.out.wb.box).1
    have hxl := HLN.out
    have hbs := HW.out.wb.bs
    clear hxn
    by_cases hil : i < n
    · have b1 : decide ((i : Int) < (n : Int)) = true := by simp; omega
      have b2 : (i : Int) < (n : Int) := by omega
      have ad1 : IntKind.i64.wrap ((i : Int) + 1) = (i : Int) + 1 := by simp [IntKind.wrap, IntKind.bits, IntKind.signed]; omega
      have hlt2 : i < l.length := by have := HL.out; omega
      obtain ⟨b, o, ND, rfl, hb, hcs⟩ := HPI.out.mem (by omega)
      have HBL := hid HW.out.low
      obtain ⟨m0, m1, m2, m3, m4⟩ := (hcs i hlt2).1.kept (HBL.out.block b hb)
      have hIM : IM w base (ND i) l[i] := (hcs i hlt2).2
      have hFit := HF.out _ (List.getElem_mem hlt2)
      have HSN := hid (preL_snoc l (ss : Int) (ks : Int) i hlt2)
      have HPL := hid (preL_le l (ss : Int) (ks : Int) i)
      obtain ⟨I, hI⟩ : ∃ I, I = l[i] := ⟨_, rfl⟩
      rw [← hI] at hIM hFit HSN
      obtain ⟨⟨op, x, y, a, r1, r2, r3⟩, hM⟩ : ∃ M, M = ND i := ⟨_, rfl⟩
      rw [← hM] at m0 m1 m2 m3 m4 hIM
      simp only at m0 m1 m2 m3 m4
      obtain ⟨q, hq, hq1, hq7⟩ : ∃ q : Nat, op = (q : Int) ∧ 1 ≤ q ∧ q ≤ 7 := by
        have e : op = I.op := hIM.op
        refine ⟨op.toNat, ?_, ?_, ?_⟩ <;> rw [e] <;> cases hFit <;> simp
      subst hq
      have HIM := hid hIM
      have HFit := hid hFit
      have HOP : Hid (I.op.toNat = q) := by show _ = _; rw [← hIM.op]; simp
      clear hI hM hcs hIM hFit
      have HWV := hid (HW.out.alloc (.cells #[.int .i64 (q : Int), .int .i64 x, .int .i64 y, .int .i64 a, .slice r1 r2 r3] 49))
      have HNB := hid (heap_alloc_new wr (.cells #[.int .i64 (q : Int), .int .i64 x, .int .i64 y, .int .i64 a, .slice r1 r2 r3] 49))
      by_cases hbig : 8388608 < xn
      · have b3 : decide ((xn : Int) > 8388608) = true := by simp; omega
        have b4 : decide ((8388608 : Int) < (xn : Int)) = true := by simp; omega
        have k1 : (wr.alloc (.cells #[.int .i64 (q : Int), .int .i64 x, .int .i64 y, .int .i64 a, .slice r1 r2 r3] 49)).cell? ⟨base + 1, 0, none⟩ = some (.slice za xn zc) := by
          simpa using Joins.cell_of_block HWV.out.wb.box 0
        go_wp2
        all_goals go_ret
        all_goals refine ⟨_, xs, rfl, ?_, by rw [← HBS.out]; exact HWV.out.low, .inr ⟨by rw [HXN.out]; exact hbig, by rw [HXN.out]; exact hxl, ?_⟩⟩
        · rw [← HBS.out]; exact HWV.out.wb.own
        · have h1 := HPL.out
          rw [HXS.out, HXN.out] at h1
          omega
      · have b3 : decide ((xn : Int) > 8388608) = false := by simp; omega
        have b4 : decide ((8388608 : Int) < (xn : Int)) = false := by simp; omega
        have hne : wr.heap.size ≠ base + 1 := by omega
        have q0 : (0 : Int) ≤ (q : Int) := by omega
        have q8 : (q : Int) < 8 := by omega
        have HWB := hid (wS_bs q hq1 hq7)
        have hsz : (wS q).size ≤ 6 := by
          have := bs_len (wS q)
          rw [HWB.out] at this
          obtain rfl | rfl | rfl | rfl | rfl | rfl | rfl : q = 1 ∨ q = 2 ∨ q = 3 ∨ q = 4 ∨ q = 5 ∨ q = 6 ∨ q = 7 := by omega
          all_goals (simp [opW] at this; omega)
        go_wp2_with (go_at_call 59; (with_reducible refine (HWV.out.addg (ys := [32, 32]) rfl (by decide) (by rw [HXN.out]; omega)).mono ?_); rintro e w6 ⟨rfl, v6, h6, hk6⟩; have hn6 := hk6 _ _ _ _ HNB.out (by decide) hne; obtain ⟨e0, e1, e2, e3, e4⟩ := five hn6; have g5 : w6.cell? ⟨0, q, none⟩ = some (.string (wS q)) := (h6.low.cell (p := ⟨0, q, none⟩) (show 0 < base by omega)).trans (HG8.out q (by omega)); have HN6 := hid hn6; have H6 := hid h6; clear h6 hk6 hn6 k0 m0 m1 m2 m3 m4)
        go_wp2_with (go_at_call 59; (with_reducible refine (H6.out.addg (ys := opW q) HWB.out (by omega) (by simp only [List.length_append, List.length_cons, List.length_nil, HXN.out]; omega)).mono ?_); rintro e w7 ⟨rfl, v7, h7, hk7⟩; have hn7 := hk7 _ _ _ _ HN6.out (by decide) hne; obtain ⟨m0, m1, m2, m3, m4⟩ := five hn7; have H7 := hid h7; clear h7 hk7 hn7 e0 e1 e2 e3 e4 H6)
        have D8 := H7.out.flds HG.out h2 (N := ⟨(q : Int), x, y, a, r1, r2, r3⟩) (HIM.out.kept H7.out.low (Nat.le_refl _)) HFit.out (by have := HL.out; omega) h5 (by simp only [List.length_append, List.length_cons, List.length_nil, HXN.out]; have := bs_len (wS q); rw [HWB.out] at this; omega)
        go_wp2_with (go_at_call 61; (with_reducible refine D8.mono ?_); rintro e w8 ⟨rfl, v8, h8, hk8⟩; have H8 := hid h8; clear h8 hk8 m0 m1 m2 m3 m4 H7 D8)
        have hnl4 := nums_len len2 HFit.out (by have := HL.out; omega) h5
        have hzl : (xs ++ [32, 32] ++ opW q ++ sumE E2 I.nums).length ≤ 11152000000 := by
          have := bs_len (wS q)
          rw [HWB.out] at this
          simp only [List.length_append, List.length_cons, List.length_nil, HXN.out]
          omega
        go_wp2_with (go_at_call 59; (with_reducible refine (H8.out.addg (ys := [10]) rfl (by decide) (by omega)).mono ?_); rintro e w9 ⟨rfl, v9, h9, hk9⟩; have H9 := hid h9; clear h9 hk9 H8)
        refine ⟨⟨i + 1, v9, by push_cast; rfl, by omega, ?_, ?_⟩, by simp [intOf]; omega⟩
        · rw [HSN.out, HXS.out]
          have e : xs ++ lineL I = xs ++ [32, 32] ++ opW q ++ sumE E2 I.nums ++ [10] := by simp [lineL, HOP.out]
          rw [e]; exact H9.out
        · show _ ≤ _
          rw [HSN.out, HXS.out]
          have e : xs ++ lineL I = xs ++ [32, 32] ++ opW q ++ sumE E2 I.nums ++ [10] := by simp [lineL, HOP.out]
          rw [e, List.length_append]
          show _ + 1 ≤ _
          omega
    · have b1 : decide ((i : Int) < (n : Int)) = false := by simp; omega
      have hin : i = n := by omega
      subst hin
      go_wp2
      all_goals go_ret
      all_goals refine ⟨_, xs, rfl, by rw [← HBS.out]; exact HW.out.wb.own, by rw [← HBS.out]; exact HW.out.low, .inl ⟨?_, by rw [HXN.out]; exact hxl⟩⟩
      rw [← HXS.out, HL.out, preL_all]
end Go.Proofs.YteanndophopplaaDoor
namespace Go.Proofs.YteanndophopplaaDoor
open Go.RowKit Go.Lib
set_option linter.unusedVariables false
set_option linter.unusedSimpArgs false
/-- a program's text, as a string -/
def txt (l : List In) (s k : Int) : ByteArray := strOfNums (I8 (textL l s k))
/-- what Print answers -/
def PrintAns (l : List In) (s k : Int) (w : World) (e : Ending) (w' : World) : Prop := Below w.heap.size w w' ∧
  ((mayB l s k = false ∧ e = .returned (.tuple #[.string ⟨#[]⟩, .int .i64 90])) ∨ (mayB l s k = true ∧ 8388608 < (textL l s k).length ∧ e = .returned (.tuple #[.string ⟨#[]⟩, .int .i64 3])) ∨
   (mayB l s k = true ∧ (textL l s k).length ≤ 8388608 ∧ e = .returned (.tuple #[.string (txt l s k), .int .i64 0])))
theorem conv_row {w : World} {base n c : Nat} {ad : Option Addr} {ys : List Nat} (h : w.ownsRow base 5 1 (.slice ad n c) ys.length (U8 ys)) (hn : ys.length = n) (h0 : 0 < n) : (convert 36 9 (.slice ad n c)).run Tryd.prog w = .ok (.string (strOfNums (I8 ys))) w := by
  subst hn
  rcases h.2 with ⟨e, h1⟩ | ⟨b, cap, cur, e, _⟩
  · omega
  · simp only [Value.slice.injEq] at e
    obtain ⟨rfl, -, rfl⟩ := e
    exact run_convert_bytes_arg (P := Tryd.prog) w 36 5 Tryd.underlying36 Tryd.underlying5 b 0 ys.length c (I8 ys) (by simp [I8]) (fun k hk => by
      rw [Nat.zero_add, h.cellAt k (by omega)]
      exact u8_at ys k (by omega)) 9 Tryd.underlying9
theorem text_pos (l : List In) (s k : Int) : 0 < (textL l s k).length := by simp [textL, headL]
theorem text_pos_of {zs : List Nat} {l : List In} {s k : Int} (h : zs = textL l s k ∧ zs.length ≤ 12000000000 ∨ 8388608 < zs.length ∧ zs.length ≤ 12000000000 ∧ 8388608 < (textL l s k).length) : 0 < zs.length := by
  rcases h with ⟨h, _⟩ | ⟨h, _⟩
  · rw [h]; exact text_pos _ _ _
  · omega
set_option maxRecDepth 100000 in
set_option maxHeartbeats 4000000 in
/-- PRINT OF ANY PROGRAM -/
theorem print21g {w : World} {ad : Option Addr} {n c : Nat} {l : List In} {s k : Int} (h : PI w w.heap.size ad n l) (hG8 : G8 w) (hG : G10 w) (h2 : 2 ≤ w.heap.size) : Calls Tryd.prog 21 #[pv ad n c s k] w (PrintAns l s k w) := by
  have hb0 := Joins.below_alloc1 w (.cells #[.slice ad n c, .int .i64 s, .int .i64 k] 24)
  obtain ⟨U, hU⟩ : ∃ U, U = w.alloc (.cells #[.slice ad n c, .int .i64 s, .int .i64 k] 24) := ⟨_, rfl⟩
  have g0 := heap_alloc_new w (.cells #[.slice ad n c, .int .i64 s, .int .i64 k] 24)
  rw [← hU] at hb0 g0
  have hP : PI U U.heap.size ad n l := h.kept hb0 hb0.size
  have C37 := check10 (c := c) (s := s) (k := k) hP
  have hG1 : G8 U := hG8.kept hb0 (by omega)
  have hG2 : G10 U := hG.below hb0 h2
  have HG0 := hid g0
  have HP := hid hP
  have HB0 := hid hb0
  have hlt : w.heap.size < U.heap.size := (Array.getElem?_eq_some_iff.1 g0).1
  have HU := hid hU
  obtain ⟨c0, c1, c2⟩ := three_cells g0
  cases hm : mayB l s k with
  | false =>
    rw [hm] at C37
    clear g0 hP hb0 h hU hG1 hG2
    go_enter Tryd.func21, Tryd.ntmps21
    go_upto_region 1 with fail
    rw [← HU.out]
    go_wp2_with (go_at_call 37; (with_reducible refine C37.mono ?_); rintro e w2 ⟨rfl, hb2⟩; have HB2 := hid hb2; clear hb2 C37)
    all_goals go_ret2
    all_goals exact ⟨HB0.out.trans (Joins.below_le HB2.out HB0.out.size), .inl ⟨hm, rfl⟩⟩
  | true =>
    rw [hm] at C37
    have HM := hid hm
    have C38 : ∀ w2, Below U.heap.size U w2 → _ := fun w2 hb => text38g (c := c) (HP.out.kept hb hb.size) hm (hG1.kept hb (by omega)) (hG2.below hb (by omega)) (by have := hb.size; omega)
    clear g0 hP hb0 h hU hm hG1 hG2
    go_enter Tryd.func21, Tryd.ntmps21
    go_upto_region 1 with fail
    rw [← HU.out]
    go_wp2_with (first | (go_at_call 37; (with_reducible refine C37.mono ?_); rintro e w2 ⟨rfl, hb2⟩; have HB2 := hid hb2; obtain ⟨d0, d1, d2⟩ := three_cells ((hb2.block _ hlt).trans HG0.out); have D38 := C38 w2 hb2; clear hb2 C37) | (go_at_call 38; (with_reducible refine D38.mono ?_); rintro e w3 ⟨v, zs, rfl, ho3, hb3, hz⟩; obtain ⟨va, vc, rfl, -, -⟩ := row_shape ho3; have hzp := text_pos_of hz; have hcv := conv_row ho3 rfl hzp; have HB3 := hid hb3; have HZ := hid hz; clear ho3 hb3 hz D38))
    all_goals go_ret2
    all_goals
      have hB : Below w.heap.size w w3 := HB0.out.trans (Joins.below_le (HB2.out.trans (Joins.below_le HB3.out HB2.out.size)) HB0.out.size)
      refine ⟨hB, .inr ?_⟩
      rcases HZ.out with ⟨hz, -⟩ | ⟨hz, -, hz2⟩
      · first
        | exact .inl ⟨HM.out, by rw [← hz]; omega, rfl⟩
        | exact .inr ⟨HM.out, by rw [← hz]; omega, by rw [txt, ← hz]; rfl⟩
      · first
        | exact .inl ⟨HM.out, hz2, rfl⟩
        | (exfalso; omega)
end Go.Proofs.YteanndophopplaaDoor
