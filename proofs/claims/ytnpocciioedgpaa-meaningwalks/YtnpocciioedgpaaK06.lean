/- HELPERS: Pw, Rd, Re, Ua, Ub, Rf, Rh, Uc, Al. -/
import Derived.Test.YtnpocciioedgpaaK05
import Derived.Laws.Rows
import Derived.Deep.CutBlock
import Derived.Deep.CutRange
/- HELPERS: meaning.Parses, of any tree and text. -/
namespace Go.Proofs.Ytnpocciioedgpaa
open Go.RowKit
set_option linter.unusedVariables false
set_option linter.unusedSimpArgs false
/-- the error that a call gives -/
def errP (t : Tn) (tn : Nat) (at_ : Int) : Int := if 64 < tn then 2 else if t.sound = false then 50 else if 2000 < t.sz then 3 else if at_ < 0 ∨ (tn : Int) < at_ then 1 else 0
theorem fine_gi : ∀ (t : Tn), t.fine = true → 0 ≤ t.gi ∧ t.gi ≤ 500 := by
  have key : ∀ (ts : List Tn) (m : Int), (∀ t ∈ ts, t.gi ≤ 500) → m ≤ 500 → giL ts m ≤ 500 := by
    intro ts
    induction ts with
    | nil => intro m _ h; simpa [giL] using h
    | cons t ts ih => intro m h1 h2; simp only [giL]; exact ih _ (fun u hu => h1 u (by simp [hu])) (by have := h1 t (by simp); omega)
  have hix : ∀ {k : Int} {R : List (Int × Int)} {a : Int} {n : Nat} {mn mx : Int} {lz : Bool} {ix : Int} {nm : ByteArray}, nodeB k R a n mn mx lz ix nm = true → 0 ≤ ix ∧ ix ≤ 500 := fun h => by
    have FN := fine_node h
    rename_i k _ _ _ _ _ _ _ _
    by_cases h7 : k = 7
    · have := FN.grp h7; omega
    · have := FN.idx h7; omega
  intro t
  obtain ⟨d, hd⟩ : ∃ d, t.depth ≤ d := ⟨_, Nat.le_refl _⟩
  induction d generalizing t with
  | zero => cases t; simp [Tn.depth] at hd
  | succ d ih =>
    cases t with
    | mk k R a s mn mx lz ix nm =>
      intro hf
      simp only [Tn.fine, Bool.and_eq_true] at hf
      simp only [Tn.depth] at hd
      have hi := hix hf.1
      have hs : ∀ u ∈ s, u.gi ≤ 500 := by
        intro u hu
        have hdu : u.depth ≤ d := by
          have : ∀ (l : List Tn), u ∈ l → u.depth ≤ depthL l := by
            intro l
            induction l with
            | nil => intro h; cases h
            | cons v l ihl =>
              intro h
              simp only [List.mem_cons] at h
              simp only [depthL]
              rcases h with rfl | h
              · omega
              · have := ihl h; omega
          have := this s hu
          omega
        obtain ⟨i, hi2, rfl⟩ := List.mem_iff_getElem.1 hu
        exact (ih _ hdu (fineL_get hf.2 i hi2)).2
      simp only [Tn.gi]
      exact ⟨by have := (giL_ge s ix).1; omega, key s ix hs hi.2⟩
theorem sound_parts {t : Tn} (h : t.sound = true) : t.fine = true ∧ t.depth ≤ 10000 ∧ t.nodes ≤ 200000 := by
  simp only [Tn.sound, Bool.and_eq_true, decide_eq_true_eq] at h
  exact ⟨h.1.1, h.1.2, h.2⟩
/-- how many notes -/
abbrev Tn.notes (t : Tn) : Nat := (2 * t.gi + 2).toNat
/-- the walks of a sound, small tree -/
theorem walks31 (N : Nv) (t : Tn) (tx : List Int) (ad : Option Addr) (tn tcap p : Nat) (w : World) (hTI : TI w w.heap.size N t) (hs : t.sound = true) (hz : t.sz ≤ 2000) (htx : Look.TextAt w.heap.size w ad tn tx) (htc : tn ≤ tcap) (htn : tn ≤ 64) (hp : p ≤ tn) :
    Calls Try.prog 31 #[N.v, .slice ad tn tcap] w fun e w' => ∃ g l, e = .returned (pt g) ∧ PS t t.notes tx p l ∧ l.length ≤ 65 ∧ Calls Try.prog 32 #[pt g, .int .i64 (p : Int)] w' fun e2 w'' => ∃ pv, e2 = .returned pv ∧ Parsed w.heap.size w'' pv l ∧ Below w.heap.size w w'' := by
  obtain ⟨hf, _, hno⟩ := sound_parts hs
  have hgi := fine_gi t hf
  have hBG := fun A => begin53 hTI (w.heap.size + 1 + 1) t.notes A (by omega) hf hno (by simp only [Tn.notes]; omega)
  refine (newWalks31g N.nd N.k tx ad tn tcap t.notes t.gi w htx htn (by simp only [Tn.notes]; omega) hgi (fun w' hb => greatestg52 hTI w' hb.size (fun b hb2 => hb.block b hb2))
    (fun n W F FE w' => Gw W ∧ ∃ lo LE, BgR (w.heap.size + 1 + 1) t.notes lo [] (fun E => Beg E t 1 (.once 1 .through) n W) W.ags LE FE w') (fun n W F FE w' w'' h h1 h2 => by obtain ⟨hg, lo, LE, hB⟩ := h; exact ⟨hg, lo, LE, hB.stab h1 h2⟩)
    (fun A w' v F0 hb hO hR hg hF => ?_)).mono ?_
  · refine (hBG A w' v 1 (.once 1 .through) F0 hb.size (fun b hb2 => hb.block b hb2) hO hR hg ⟨by simp [Way.tg], by simp [Way.few]⟩ (by omega) ?_).mono ?_
    · have : t.sz * t.sz ≤ 2000 * 2000 := Nat.mul_le_mul hz hz
      omega
    · rintro e w'' ⟨u, F, FE, n1, W, rfl, hM, ⟨LE, hB⟩, hE, h1, h2, h3, h4⟩
      exact ⟨u, F, FE, n1, W, rfl, hM, ⟨h3, _, LE, hB⟩, hE⟩
  · rintro e w' ⟨g, u, F, FE, B, C, n1, W, rfl, rfl, hW, htv, hh, hwh, hCK, hR, ⟨hgw, lo, LE, hB⟩, aF, aE, aB, hb⟩
    obtain ⟨l, h1, h2, h3⟩ := walks_from t t.notes (w.heap.size + 1 + 1) p tx ad tn tcap lo n1 W u F FE B C LE w w' htx htc htn hb rfl hW htv hh hwh hCK hR hgw hB aF aE aB hp
    exact ⟨_, l, rfl, h1, h2, h3⟩
theorem PR.le {N N' : Nat} {w : World} {cs : List Value} {l : List (Int × List Int)} {F : List Nat} (h : PR N w cs l F) (hN : N' ≤ N) : PR N' w cs l F := by
  induction h with
  | nil => exact .nil
  | cons h hl ih => exact .cons (Joins.ownsRow_le h hN) ih
/-- what a call answers -/
def Answers (t : Tn) (tx : List Int) (tn : Nat) (at_ : Int) (w : World) (e : Ending) (w' : World) : Prop :=
  ∃ pv l, e = .returned (.tuple #[pv, .int .i64 (errP t tn at_)]) ∧ Parsed w.heap.size w' pv l ∧ (errP t tn at_ = 0 → PS t t.notes tx at_.toNat l ∧ l.length ≤ 65) ∧ (errP t tn at_ ≠ 0 → pv = .slice none 0 0 ∧ l = []) ∧ Below w.heap.size w w'
theorem answers_none {t : Tn} {tx : List Int} {tn : Nat} {at_ x : Int} {w w' : World} (hx : errP t tn at_ = x) (h0 : x ≠ 0) (hb : Below w.heap.size w w') : Answers t tx tn at_ w (.returned (.tuple #[.slice none 0 0, .int .i64 x])) w' := by
  subst hx
  exact ⟨.slice none 0 0, [], rfl, ⟨[], [], World.ownsRow_nil _ _ _ _, .nil⟩, fun h => absurd h h0, fun _ => ⟨rfl, rfl⟩, hb⟩
set_option maxRecDepth 100000 in
set_option maxHeartbeats 4000000 in
theorem parses13g (N : Nv) (t : Tn) (tx : List Int) (ad : Option Addr) (tn tcap : Nat) (at_ : Int) (w : World) (hTI : TI w w.heap.size N t) (htx : Look.TextAt w.heap.size w ad tn tx) (htc : tn ≤ tcap) :
    Calls Try.prog 13 #[N.v, .slice ad tn tcap, .int .i64 at_] w fun e w' => Answers t tx tn at_ w e w' := by
  have htm : tn ≤ 35184372088832 := htx.2.1
  have hb0 : Below w.heap.size w (w.alloc (.cells #[.int .i64 N.k, .slice N.r1 N.r2 N.r3, .int .i64 N.a2, .slice N.s1 N.s2 N.s3, .int .i64 N.a4, .int .i64 N.a5, .bool N.a6, .int .i64 N.a7, .string N.a8] 28)) := Joins.below_alloc1 w _
  have HB0 := hid hb0
  by_cases c1 : 64 < tn
  · have e1 : errP t tn at_ = 2 := by simp [errP, c1]
    have HA : ∀ w', Below w.heap.size w w' → Answers t tx tn at_ w (.returned (.tuple #[.slice none 0 0, .int .i64 2])) w' := fun w' h => answers_none e1 (by decide) h
    have HHA := hid HA
    have b1 : decide ((tn : Int) > 64) = true := by simp; omega
    have b1' : decide (64 < (tn : Int)) = true := by simp; omega
    obtain ⟨k, r1, r2, r3, a2, s1, s2, s3, a4, a5, a6, a7, a8⟩ := N
    obtain ⟨Q, hQ⟩ : ∃ Q, Q = Answers t tx tn at_ w := ⟨_, rfl⟩
    rw [← hQ] at HHA ⊢
    clear HA hTI htx e1 hQ hb0
    go_enter Try.func13, Try.ntmps13
    go_wp2
    try go_ret2
    exact HHA.out _ HB0.out
  have b1 : decide ((tn : Int) > 64) = false := by simp; omega
  have b1' : decide (64 < (tn : Int)) = false := by simp; omega
  have hT1 : ∀ w1, Below w.heap.size w w1 → TI w1 w1.heap.size N t := fun w1 h => (hTI.kept fun b hb => h.block b hb).le h.size
  have H29 := sound29g (hT1 _ hb0)
  cases hs : t.sound with
  | false =>
    have e1 : errP t tn at_ = 50 := by simp [errP, c1, hs]
    have HA : ∀ w', Below w.heap.size w w' → Answers t tx tn at_ w (.returned (.tuple #[.slice none 0 0, .int .i64 50])) w' := fun w' h => answers_none e1 (by decide) h
    have HHA := hid HA
    rw [hs] at H29
    obtain ⟨k, r1, r2, r3, a2, s1, s2, s3, a4, a5, a6, a7, a8⟩ := N
    obtain ⟨Q, hQ⟩ : ∃ Q, Q = Answers t tx tn at_ w := ⟨_, rfl⟩
    rw [← hQ] at HHA ⊢
    dsimp only at H29
    simp only [Bool.false_eq_true, if_false] at H29
    clear HA hTI htx e1 hQ hb0 hT1 hs
    go_enter Try.func13, Try.ntmps13
    go_wp2_with (first | (go_at_call 29; (with_reducible refine H29.mono ?_); rintro e w1 ⟨rfl, hb1⟩; have HB1 := hid hb1; clear hb1 H29))
    try go_ret2
    exact HHA.out _ (HB0.out.trans (Joins.below_le HB1.out (by simp)))
  | true =>
    obtain ⟨hf, _, hno⟩ := sound_parts hs
    have hT2 : ∀ w1, Below w.heap.size w w1 → Calls Try.prog 30 #[N.v] w1 fun e w' => e = .returned (.int .i64 (min 2001 t.sz : Nat)) ∧ Below w1.heap.size w1 w' := fun w1 h => size30g hTI hf hno w1 h.size (fun b hb => h.block b hb)
    have hnode : ∀ w1, Below (w.alloc (.cells #[.int .i64 N.k, .slice N.r1 N.r2 N.r3, .int .i64 N.a2, .slice N.s1 N.s2 N.s3, .int .i64 N.a4, .int .i64 N.a5, .bool N.a6, .int .i64 N.a7, .string N.a8] 28)).heap.size (w.alloc (.cells #[.int .i64 N.k, .slice N.r1 N.r2 N.r3, .int .i64 N.a2, .slice N.s1 N.s2 N.s3, .int .i64 N.a4, .int .i64 N.a5, .bool N.a6, .int .i64 N.a7, .string N.a8] 28)) w1 → w1.heap[w.heap.size]? = some (.cells #[.int .i64 N.k, .slice N.r1 N.r2 N.r3, .int .i64 N.a2, .slice N.s1 N.s2 N.s3, .int .i64 N.a4, .int .i64 N.a5, .bool N.a6, .int .i64 N.a7, .string N.a8] 28 (0, 0)) := fun w1 h => (h.block w.heap.size (by simp)).trans (heap_alloc_new w _)
    rw [hs] at H29
    simp only [if_true] at H29
    have HN := hid hnode
    have HT2 := hid hT2
    by_cases c3 : 2000 < t.sz
    · have e1 : errP t tn at_ = 3 := by simp [errP, c1, hs, c3]
      have HA : ∀ w', Below w.heap.size w w' → Answers t tx tn at_ w (.returned (.tuple #[.slice none 0 0, .int .i64 3])) w' := fun w' h => answers_none e1 (by decide) h
      have HHA := hid HA
      have b3 : decide (((min 2001 t.sz : Nat) : Int) > 2000) = true := by simp; omega
      have b3' : decide (2000 < ((min 2001 t.sz : Nat) : Int)) = true := by simp; omega
      obtain ⟨r, hr⟩ : ∃ r, r = min 2001 t.sz := ⟨_, rfl⟩
      rw [← hr] at HT2 b3 b3'
      obtain ⟨k, r1, r2, r3, a2, s1, s2, s3, a4, a5, a6, a7, a8⟩ := N
      obtain ⟨Q, hQ⟩ : ∃ Q, Q = Answers t tx tn at_ w := ⟨_, rfl⟩
      rw [← hQ] at HHA ⊢
      dsimp only at H29 HN
      clear HA hTI htx e1 hQ hb0 hT1 hT2 hnode hs hf hno hr
      go_enter Try.func13, Try.ntmps13
      go_wp2_with (first | (go_at_call 29; (with_reducible refine H29.mono ?_); rintro e w1 ⟨rfl, hb1⟩; obtain ⟨o0, o1, o2, o3, o4, o5, o6, o7, o8⟩ := nine' (HN.out w1 hb1); have HC1 := HT2.out w1 (HB0.out.trans (Joins.below_le hb1 (by simp))); have HB1 := hid hb1; clear hb1 H29) | (go_at_call 30; (with_reducible refine HC1.mono ?_); rintro e w2 ⟨rfl, hb2⟩; have HB2 := hid hb2; clear hb2 HC1))
      try go_ret2
      exact HHA.out _ (HB0.out.trans (Joins.below_le (HB1.out.trans (Joins.below_le HB2.out HB1.out.size)) (by simp)))
    · have b3 : decide (((min 2001 t.sz : Nat) : Int) > 2000) = false := by simp; omega
      have b3' : decide (2000 < ((min 2001 t.sz : Nat) : Int)) = false := by simp; omega
      obtain ⟨r, hr⟩ : ∃ r, r = min 2001 t.sz := ⟨_, rfl⟩
      rw [← hr] at HT2 b3 b3'
      by_cases c4 : at_ < 0 ∨ (tn : Int) < at_
      · have e1 : errP t tn at_ = 1 := by simp [errP, c1, hs, c3, c4]
        have HA : ∀ w', Below w.heap.size w w' → Answers t tx tn at_ w (.returned (.tuple #[.slice none 0 0, .int .i64 1])) w' := fun w' h => answers_none e1 (by decide) h
        have HHA := hid HA
        obtain ⟨k, r1, r2, r3, a2, s1, s2, s3, a4, a5, a6, a7, a8⟩ := N
        obtain ⟨Q, hQ⟩ : ∃ Q, Q = Answers t tx tn at_ w := ⟨_, rfl⟩
        rw [← hQ] at HHA ⊢
        dsimp only at H29 HN
        clear HA hTI htx e1 hQ hb0 hT1 hT2 hnode hs hf hno hr
        by_cases c5 : at_ < 0
        · have b5 : decide (at_ < 0) = true := by simp; omega
          go_enter Try.func13, Try.ntmps13
          go_wp2_with (first | (go_at_call 29; (with_reducible refine H29.mono ?_); rintro e w1 ⟨rfl, hb1⟩; obtain ⟨o0, o1, o2, o3, o4, o5, o6, o7, o8⟩ := nine' (HN.out w1 hb1); have HC1 := HT2.out w1 (HB0.out.trans (Joins.below_le hb1 (by simp))); have HB1 := hid hb1; clear hb1 H29) | (go_at_call 30; (with_reducible refine HC1.mono ?_); rintro e w2 ⟨rfl, hb2⟩; have HB2 := hid hb2; clear hb2 HC1))
          try go_ret2
          exact HHA.out _ (HB0.out.trans (Joins.below_le (HB1.out.trans (Joins.below_le HB2.out HB1.out.size)) (by simp)))
        · have b5 : decide (at_ < 0) = false := by simp; omega
          have b6 : decide (at_ > (tn : Int)) = true := by simp; omega
          have b6' : decide ((tn : Int) < at_) = true := by simp; omega
          go_enter Try.func13, Try.ntmps13
          go_wp2_with (first | (go_at_call 29; (with_reducible refine H29.mono ?_); rintro e w1 ⟨rfl, hb1⟩; obtain ⟨o0, o1, o2, o3, o4, o5, o6, o7, o8⟩ := nine' (HN.out w1 hb1); have HC1 := HT2.out w1 (HB0.out.trans (Joins.below_le hb1 (by simp))); have HB1 := hid hb1; clear hb1 H29) | (go_at_call 30; (with_reducible refine HC1.mono ?_); rintro e w2 ⟨rfl, hb2⟩; have HB2 := hid hb2; clear hb2 HC1))
          try go_ret2
          exact HHA.out _ (HB0.out.trans (Joins.below_le (HB1.out.trans (Joins.below_le HB2.out HB1.out.size)) (by simp)))
      · have e1 : errP t tn at_ = 0 := by simp [errP, c1, hs, c3, c4]
        obtain ⟨p, hp⟩ : ∃ p : Nat, at_ = (p : Int) := ⟨at_.toNat, by omega⟩
        have b5 : decide (at_ < 0) = false := by simp; omega
        have b6 : decide (at_ > (tn : Int)) = false := by simp; omega
        have b6' : decide ((tn : Int) < at_) = false := by simp; omega
        have hT3 : ∀ w1, Below w.heap.size w w1 → Calls Try.prog 31 #[N.v, .slice ad tn tcap] w1 fun e w' => ∃ g l, e = .returned (pt g) ∧ PS t t.notes tx p l ∧ l.length ≤ 65 ∧ Calls Try.prog 32 #[pt g, .int .i64 at_] w' fun e2 w'' => ∃ pv, e2 = .returned pv ∧ Parsed w1.heap.size w'' pv l ∧ Below w1.heap.size w1 w'' := fun w1 h => by
          rw [hp]
          exact walks31 N t tx ad tn tcap p w1 (hT1 w1 h) hs (by omega) (text_below htx h h.size) htc (by omega) (by omega)
        have HT3 := hid hT3
        have HA : ∀ (w1 w' : World) (pv : Value) (l : List (Int × List Int)), Below w.heap.size w w1 → PS t t.notes tx p l → l.length ≤ 65 → Parsed w1.heap.size w' pv l → Below w1.heap.size w1 w' → Answers t tx tn at_ w (.returned (.tuple #[pv, .int .i64 0])) w' := fun w1 w' pv l h1 h2 h3 h4 h5 => by
          refine ⟨pv, l, by rw [e1], ?_, fun _ => ⟨by rw [hp]; exact h2, h3⟩, fun h => absurd e1 h, h1.trans (Joins.below_le h5 h1.size)⟩
          obtain ⟨cs, F, q1, q2⟩ := h4
          refine ⟨cs, F, Joins.ownsRow_le q1 h1.size, ?_⟩
          exact q2.le h1.size
        have HHA := hid HA
        obtain ⟨k, r1, r2, r3, a2, s1, s2, s3, a4, a5, a6, a7, a8⟩ := N
        obtain ⟨Q, hQ⟩ : ∃ Q, Q = Answers t tx tn at_ w := ⟨_, rfl⟩
        rw [← hQ] at HHA ⊢
        dsimp only at H29 HN
        clear HA hTI htx e1 hQ hb0 hT1 hT2 hT3 hnode hs hf hno hr hp
        go_enter Try.func13, Try.ntmps13
        go_wp2_with (first | (go_at_call 29; (with_reducible refine H29.mono ?_); rintro e w1 ⟨rfl, hb1⟩; obtain ⟨o0, o1, o2, o3, o4, o5, o6, o7, o8⟩ := nine' (HN.out w1 hb1); have HC1 := HT2.out w1 (HB0.out.trans (Joins.below_le hb1 (by simp))); have HB1 := hid hb1; clear hb1 H29) | (go_at_call 30; (with_reducible refine HC1.mono ?_); rintro e w2 ⟨rfl, hb2⟩; obtain ⟨p0, p1, p2, p3, p4, p5, p6, p7, p8⟩ := nine' (HN.out w2 (HB1.out.trans (Joins.below_le hb2 HB1.out.size))); have HC2 := HT3.out w2 (HB0.out.trans (Joins.below_le (HB1.out.trans (Joins.below_le hb2 HB1.out.size)) (by simp))); have HB2 := hid hb2; clear hb2 HC1 o0 o1 o2 o3 o4 o5 o6 o7 o8) | (go_at_call 31; (with_reducible refine HC2.mono ?_); rintro e w3 ⟨g, l, rfl, hps, hln, hC3⟩; have HPS := hid hps; have HLN := hid hln; clear HC2 hps hln) | (go_at_call 32; (with_reducible refine hC3.mono ?_); rintro e w4 ⟨pv, rfl, hP, hB⟩; obtain ⟨cs, FF, hrow, hPR⟩ := hP; obtain ⟨q1, q2, q3, rfl⟩ := row_slice hrow; have HP4 : Hid (Parsed w2.heap.size w4 (.slice q1 q2 q3) l) := ⟨cs, FF, hrow, hPR⟩; have HB4 := hid hB; clear hB hC3 hrow hPR))
        try go_ret2
        exact HHA.out w2 w4 _ l (HB0.out.trans (Joins.below_le (HB1.out.trans (Joins.below_le HB2.out HB1.out.size)) (by simp))) HPS.out HLN.out HP4.out HB4.out
end Go.Proofs.Ytnpocciioedgpaa
/- HELPERS: captures lie within. -/
namespace Go.Proofs.Ytnpocciioedgpaa
open Go.RowKit
set_option linter.unusedVariables false
set_option linter.unusedSimpArgs false
/-- what is noted is as before -/
theorem Ex.notes {tx : List Int} {E : Nat → Way} {W : Way} {p : Nat} {s s' : Sg} (h : Ex tx E W p s s') : s'.notes = s.notes := by
  induction h with
  | through p s => rfl
  | skip h => rfl
  | once h hd ih => exact ih
  | @noted c d p s s' hd ih =>
    show s'.notes.set c (s.notes.getD c 0) = s.notes
    rw [ih]
    show (s.notes.set c (p : Int)).set c (s.notes.getD c 0) = s.notes
    rw [List.set_set]
    by_cases hc : c < s.notes.length
    · rw [show s.notes.getD c 0 = s.notes[c] by simp [List.getD_eq_getElem?_getD, hc], List.set_getElem_self]
    · exact List.set_eq_of_length_le (by omega)
  | over h => rfl
  | other h hr => rfl
  | rune h hr hd ih => exact ih
  | fails h => rfl
  | holds h hd ih => exact ih
  | @inOrder l p ss h ih =>
    have key : ∀ i, i ≤ l.length → (ss i).notes = (ss 0).notes := by
      intro i
      induction i with
      | zero => intro _; rfl
      | succ i ihi => intro hi; rw [ih i (by omega), ihi (by omega)]
    exact key _ (Nat.le_refl _)
  | again h ih => exact ih
mutual
/-- each group that is open is closed on the way, the last first -/
def Way.cl (A : Nat → List Nat → Prop) : Way → List Nat → Prop
  | .through, O => O = []
  | .once _ d, O => d.cl A O
  | .noted c d, O => (∃ i, 1 ≤ i ∧ c = 2 * i ∧ d.cl A (i :: O)) ∨ ∃ i O', 1 ≤ i ∧ c = 2 * i + 1 ∧ O = i :: O' ∧ d.cl A O'
  | .runeOf _ d, O => d.cl A O
  | .ifHolds _ d, O => d.cl A O
  | .inOrder l, O => clL A l O
  | .again b, O => A b O
def clL (A : Nat → List Nat → Prop) : List Way → List Nat → Prop
  | [], _ => True
  | d :: l, O => d.cl A O ∧ clL A l O
end
theorem clL_get {A : Nat → List Nat → Prop} {O : List Nat} : ∀ {l : List Way}, clL A l O → ∀ (i : Nat) (hi : i < l.length), (l[i]'hi).cl A O := by
  intro l
  induction l with
  | nil => intro _ i hi; simp at hi
  | cons e l ih =>
    intro h i hi
    simp only [clL] at h
    cases i with
    | zero => exact h.1
    | succ i => exact ih h.2 i (by simpa using hi)
theorem clL_snoc {A : Nat → List Nat → Prop} {O : List Nat} {d : Way} (hd : d.cl A O) : ∀ {l : List Way}, clL A l O → clL A (l ++ [d]) O := by
  intro l
  induction l with
  | nil => intro _; simp [clL, hd]
  | cons e l ih => intro h; simp only [clL, List.cons_append] at h ⊢; exact ⟨h.1, ih h.2⟩
mutual
theorem cl_mono {A A' : Nat → List Nat → Prop} (hA : ∀ b O, A b O → A' b O) : ∀ (W : Way) (O : List Nat), W.cl A O → W.cl A' O
  | .through, O, h => by simp only [Way.cl] at h ⊢; exact h
  | .once n d, O, h => by simp only [Way.cl] at h ⊢; exact cl_mono hA d O h
  | .noted _ d, O, h => by
    simp only [Way.cl] at h ⊢
    rcases h with ⟨i, h1, h2, h3⟩ | ⟨i, O', h1, h2, h3, h4⟩
    · exact .inl ⟨i, h1, h2, cl_mono hA d _ h3⟩
    · exact .inr ⟨i, O', h1, h2, h3, cl_mono hA d _ h4⟩
  | .runeOf _ d, O, h => by simp only [Way.cl] at h ⊢; exact cl_mono hA d O h
  | .ifHolds _ d, O, h => by simp only [Way.cl] at h ⊢; exact cl_mono hA d O h
  | .inOrder l, O, h => by simp only [Way.cl] at h ⊢; exact clL_mono hA l O h
  | .again b, O, h => by simp only [Way.cl] at h ⊢; exact hA b O h
theorem clL_mono {A A' : Nat → List Nat → Prop} (hA : ∀ b O, A b O → A' b O) : ∀ (l : List Way) (O : List Nat), clL A l O → clL A' l O
  | [], O, h => by simp [clL]
  | d :: l, O, h => by simp only [clL] at h ⊢; exact ⟨cl_mono hA d O h.1, clL_mono hA l O h.2⟩
end
/-- what is noted, in the midst of a walk -/
structure Mid (p0 K p : Nat) (O : List Nat) (ν : List Int) : Prop where
  len : ν.length = K
  zero : ν.getD 0 0 = (p0 : Int)
  le : p0 ≤ p
  opn : ∀ i, 1 ≤ i → 2 * i + 1 < K → i ∈ O → (p0 : Int) ≤ ν.getD (2 * i) 0 ∧ ν.getD (2 * i) 0 ≤ (p : Int)
  cls : ∀ i, 1 ≤ i → 2 * i + 1 < K → i ∉ O → (ν.getD (2 * i) 0 = -1 ∧ ν.getD (2 * i + 1) 0 = -1) ∨ ((p0 : Int) ≤ ν.getD (2 * i) 0 ∧ ν.getD (2 * i) 0 ≤ ν.getD (2 * i + 1) 0 ∧ ν.getD (2 * i + 1) 0 ≤ (p : Int))
/-- the captures of a parse lie within -/
structure Within (p0 K : Nat) (e : Int × List Int) : Prop where
  len : e.2.length = K
  zero : e.2.getD 0 0 = (p0 : Int)
  one : e.2.getD 1 0 = e.1
  grp : ∀ i, 1 ≤ i → 2 * i + 1 < K → (e.2.getD (2 * i) 0 = -1 ∧ e.2.getD (2 * i + 1) 0 = -1) ∨ ((p0 : Int) ≤ e.2.getD (2 * i) 0 ∧ e.2.getD (2 * i) 0 ≤ e.2.getD (2 * i + 1) 0 ∧ e.2.getD (2 * i + 1) 0 ≤ e.1)
theorem getD_set_ne {l : List Int} {i j : Nat} {x : Int} (h : i ≠ j) : (l.set i x).getD j 0 = l.getD j 0 := by
  simp only [List.getD_eq_getElem?_getD, List.getElem?_set_ne h]
theorem getD_set_eq {l : List Int} {i : Nat} {x : Int} (h : i < l.length) : (l.set i x).getD i 0 = x := by
  simp only [List.getD_eq_getElem?_getD, List.getElem?_set_self h]
  rfl
theorem Mid.on {p0 K p q : Nat} {O : List Nat} {ν : List Int} (h : Mid p0 K p O ν) (hq : p ≤ q) : Mid p0 K q O ν :=
  ⟨h.len, h.zero, by have := h.le; omega, fun i a b c => by have := h.opn i a b c; omega, fun i a b c => by have := h.cls i a b c; omega⟩
theorem Mid.begins {p0 K p : Nat} {O : List Nat} {ν : List Int} (h : Mid p0 K p O ν) (j : Nat) (hj : 1 ≤ j) : Mid p0 K p (j :: O) (ν.set (2 * j) (p : Int)) := by
  refine ⟨by simp [h.len], by rw [getD_set_ne (by omega)]; exact h.zero, h.le, fun i a b c => ?_, fun i a b c => ?_⟩
  · by_cases hi : i = j
    · subst hi
      rw [getD_set_eq (by rw [h.len]; omega)]
      have := h.le
      omega
    · rw [getD_set_ne (by omega)]
      simp only [List.mem_cons, hi, false_or] at c
      exact h.opn i a b c
  · simp only [List.mem_cons, not_or] at c
    rw [getD_set_ne (by omega), getD_set_ne (by omega)]
    exact h.cls i a b c.2
theorem Mid.closes {p0 K p j : Nat} {O : List Nat} {ν : List Int} (h : Mid p0 K p (j :: O) ν) (hj : 1 ≤ j) : Mid p0 K p O (ν.set (2 * j + 1) (p : Int)) := by
  refine ⟨by simp [h.len], by rw [getD_set_ne (by omega)]; exact h.zero, h.le, fun i a b c => ?_, fun i a b c => ?_⟩
  · rw [getD_set_ne (by omega)]
    exact h.opn i a b (by simp [c])
  · by_cases hi : i = j
    · subst hi
      have := h.opn i a b (by simp)
      rw [getD_set_ne (by omega), getD_set_eq (by rw [h.len]; omega)]
      exact .inr ⟨this.1, this.2, Int.le_refl _⟩
    · rw [getD_set_ne (by omega), getD_set_ne (by omega)]
      exact h.cls i a b (by simp [hi, c])
/-- the captures of what comes through lie within -/
theorem ex_within {tx : List Int} {E : Nat → Way} {A : Nat → List Nat → Prop} (hE : ∀ b O, A b O → (E b).cl A O) {p0 K : Nat} (hK : 2 ≤ K) {W : Way} {p : Nat} {s s' : Sg} (h : Ex tx E W p s s') : ∀ O, W.cl A O → Mid p0 K p O s.notes → (∀ e ∈ s.parses, Within p0 K e) → ∀ e ∈ s'.parses, Within p0 K e := by
  induction h with
  | through p s =>
    intro O hO hM hP e he
    simp only [Way.cl] at hO
    subst hO
    simp only [List.mem_append, List.mem_singleton] at he
    rcases he with he | rfl
    · exact hP e he
    · refine ⟨by simp [hM.len], by rw [getD_set_ne (by omega)]; exact hM.zero, getD_set_eq (by rw [hM.len]; omega), fun i a b => ?_⟩
      show ((s.notes.set 1 (p : Int)).getD (2 * i) 0 = -1 ∧ _) ∨ _
      rw [getD_set_ne (by omega), getD_set_ne (by omega)]
      exact hM.cls i a b (by simp)
  | skip h => intro O hO hM hP; exact hP
  | once h hd ih => intro O hO hM hP; simp only [Way.cl] at hO; exact ih O hO hM hP
  | noted hd ih =>
    intro O hO hM hP
    simp only [Way.cl] at hO
    rcases hO with ⟨i, h1, rfl, h3⟩ | ⟨i, O', h1, rfl, rfl, h4⟩
    · exact ih _ h3 (hM.begins i h1) hP
    · exact ih _ h4 (hM.closes h1) hP
  | over h => intro O hO hM hP; exact hP
  | other h hr => intro O hO hM hP; exact hP
  | rune h hr hd ih => intro O hO hM hP; simp only [Way.cl] at hO; exact ih O hO (hM.on (by omega)) hP
  | fails h => intro O hO hM hP; exact hP
  | holds h hd ih => intro O hO hM hP; simp only [Way.cl] at hO; exact ih O hO hM hP
  | @inOrder l p ss h ih =>
    intro O hO hM hP
    simp only [Way.cl] at hO
    have key : ∀ i, i ≤ l.length → (ss i).notes = (ss 0).notes ∧ ∀ e ∈ (ss i).parses, Within p0 K e := by
      intro i
      induction i with
      | zero => intro _; exact ⟨rfl, hP⟩
      | succ i ihi =>
        intro hi
        obtain ⟨a, b⟩ := ihi (by omega)
        exact ⟨(h i (by omega)).notes.trans a, ih i (by omega) O (clL_get hO i (by omega)) (by rw [a]; exact hM) b⟩
    exact (key _ (Nat.le_refl _)).2
  | again h ih => intro O hO hM hP; simp only [Way.cl] at hO; exact ih O (hE _ O hO) hM hP
mutual
/-- its groups are counted from one on -/
def Tn.from1 : Tn → Prop
  | .mk k R a s mn mx lz ix nm => (k = 7 → 1 ≤ ix) ∧ from1L s
def from1L : List Tn → Prop
  | [] => True
  | t :: ts => t.from1 ∧ from1L ts
end
theorem from1L_snoc {t : Tn} : ∀ {ts : List Tn}, from1L (ts ++ [t]) ↔ from1L ts ∧ t.from1 := by
  intro ts
  induction ts with
  | nil => simp [from1L]
  | cons u ts ih => simp only [List.cons_append, from1L, ih, and_assoc]
/-- more loops, each right -/
structure Mor (E : Nat → Way) (A A' : Nat → List Nat → Prop) : Prop where
  sub : ∀ b O, A b O → A' b O
  new : ∀ b O, A' b O → A b O ∨ (E b).cl A' O
section
variable {E : Nat → Way}
theorem Mor.refl (A : Nat → List Nat → Prop) : Mor E A A := ⟨fun _ _ h => h, fun _ _ h => .inl h⟩
theorem Mor.trans {A A1 A2 : Nat → List Nat → Prop} (h : Mor E A A1) (h' : Mor E A1 A2) : Mor E A A2 :=
  ⟨fun b O hb => h'.sub b O (h.sub b O hb), fun b O hb => by
    rcases h'.new b O hb with hb | hb
    · rcases h.new b O hb with hb | hb
      · exact .inl hb
      · exact .inr (cl_mono h'.sub _ _ hb)
    · exact .inr hb⟩
/-- to begin this closes what was opened -/
def ClM (E : Nat → Way) (B W : Way) : Prop := ∀ A O, B.cl A O → ∃ A', Mor E A A' ∧ W.cl A' O
theorem ClM.self (B : Way) : ClM E B B := fun A O h => ⟨A, .refl A, h⟩
theorem ClM.seq {B W W' : Way} (h : ClM E B W) (h' : ClM E W W') : ClM E B W' := fun A O hb => by
  obtain ⟨A1, m1, h1⟩ := h A O hb
  obtain ⟨A2, m2, h2⟩ := h' A1 O h1
  exact ⟨A2, m1.trans m2, h2⟩
theorem ClM.map {B W W' : Way} (h : ClM E B W) (hW : ∀ A O, W.cl A O → W'.cl A O) : ClM E B W' := fun A O hb => by
  obtain ⟨A1, m1, h1⟩ := h A O hb
  exact ⟨A1, m1, hW _ _ h1⟩
theorem ClM.round {n : Int} {b : Nat} {B : Way} (lz : Bool) (h : ClM E (Dcd lz n b B) (E b)) {A : Nat → List Nat → Prop} {O : List Nat} (hB : B.cl A O) : ∃ A', Mor E A A' ∧ (E b).cl A' O ∧ (Dcd lz n b B).cl A' O := by
  have hD : (Dcd lz n b B).cl (fun x P => A x P ∨ (x = b ∧ P = O)) O := by
    have hB' := cl_mono (A' := fun x P => A x P ∨ (x = b ∧ P = O)) (fun x P hx => .inl hx) B O hB
    simp only [Way.cl]
    cases lz <;> simp [clL, hB', Way.cl]
  obtain ⟨A1, m1, h1⟩ := h _ O hD
  refine ⟨A1, ⟨fun x P hx => m1.sub x P (.inl hx), fun x P hx => ?_⟩, h1, cl_mono m1.sub _ _ hD⟩
  rcases m1.new x P hx with (hx | ⟨rfl, rfl⟩) | hx
  · exact .inl hx
  · exact .inr h1
  · exact .inr hx
theorem Beg.closes {t : Tn} {n n1 : Int} {B W : Way} (h : Beg E t n B n1 W) : t.from1 → ClM E B W := by
  refine Beg.rec (motive_1 := fun t n B n1 W _ => t.from1 → ClM E B W) (motive_2 := fun ts n B n1 W _ => from1L ts → ClM E B W)
    (motive_3 := fun ts n B n1 Ws _ => from1L ts → ∀ A O, B.cl A O → ∃ A', Mor E A A' ∧ clL A' Ws O)
    (motive_4 := fun t c n B n1 W _ => t.from1 → ClM E B W) (motive_5 := fun t lz B c n n1 W _ => t.from1 → ClM E B W)
    ?_ ?_ ?_ ?_ ?_ ?_ ?_ ?_ ?_ ?_ ?_ ?_ ?_ ?_ ?_ ?_ ?_ h
  · intro R a s mn mx lz ix nm n B _
    exact (ClM.self B).map fun _ _ h => by simp only [Way.cl]; exact h
  · intro R a s mn mx lz ix nm n B _
    exact (ClM.self B).map fun _ _ h => by simp only [Way.cl]; exact h
  · intro R a s mn mx lz ix nm n B _
    exact (ClM.self B).map fun _ _ h => by simp only [Way.cl]; exact h
  · intro R a s mn mx lz ix nm n n' B W _ h hf
    simp only [Tn.from1] at hf
    exact h hf.2
  · intro R a s mn mx lz ix nm n n' B Ws _ h hf A O hb
    simp only [Tn.from1] at hf
    obtain ⟨A1, m1, h1⟩ := h hf.2 A O hb
    exact ⟨A1, m1, by simp only [Way.cl]; exact h1⟩
  · intro R a t mn mx lz i nm n n' B W _ h hf A O hb
    simp only [Tn.from1, from1L] at hf
    have hi : 1 ≤ i := by have := hf.1 trivial; omega
    obtain ⟨A1, m1, h1⟩ := h hf.2.1 A (i :: O) (by simp only [Way.cl]; exact .inr ⟨i, O, hi, rfl, rfl, hb⟩)
    exact ⟨A1, m1, by simp only [Way.cl]; exact .inl ⟨i, hi, rfl, h1⟩⟩
  · intro R a t lz ix nm n n2 b B _ h hf A O hb
    simp only [Tn.from1, from1L] at hf
    obtain ⟨A1, m1, _, h1⟩ := (h hf.2.1).round lz hb
    exact ⟨A1, m1, h1⟩
  · intro R a t c lz ix nm n n2 n3 b B W3 _ _ h hT hf
    simp only [Tn.from1, from1L] at hf
    refine ClM.seq (fun A O hb => ?_) (hT hf.2.1)
    obtain ⟨A1, m1, h1, _⟩ := (h hf.2.1).round lz hb
    exact ⟨A1, m1, h1⟩
  · intro R a t c m lz ix nm n n1 n2 B W1 W2 _ _ hO hT hf
    simp only [Tn.from1, from1L] at hf
    exact (hO hf.2.1).seq (hT hf.2.1)
  · intro n B _
    exact .self B
  · intro t ts n n1 n2 B W1 W2 _ _ h h2 hf
    simp only [from1L] at hf
    exact (h hf.2).seq (h2 hf.1)
  · intro n B _ A O hb
    exact ⟨A, .refl A, by simp [clL]⟩
  · intro t ts n n1 n2 B W2 Ws _ _ hl hl2 hf A O hb
    rw [from1L_snoc] at hf
    obtain ⟨A1, m1, h1⟩ := hl hf.1 A O hb
    obtain ⟨A2, m2, h2⟩ := hl2 hf.2 A1 O (cl_mono m1.sub _ _ hb)
    exact ⟨A2, m1.trans m2, clL_snoc h2 (clL_mono m2.sub _ _ h1)⟩
  · intro t n W _
    exact .self W
  · intro t c n n1 n2 W W1 W2 _ _ h h2 hf
    exact (h hf).seq (h2 hf)
  · intro t lz B n _
    exact .self B
  · intro t lz B c n n1 n2 W1 W2 _ _ h h2 hf A O hb
    obtain ⟨A1, m1, h1⟩ := ((h hf).seq (h2 hf)) A O hb
    have hb1 := cl_mono m1.sub _ _ hb
    refine ⟨A1, m1, ?_⟩
    simp only [Way.cl]
    cases lz <;> simp [clL, h1, hb1]
end
/-- THE CAPTURES of the parses of a tree lie within -/
theorem PS.within {t : Tn} {K : Nat} {tx : List Int} {p : Nat} {l : List (Int × List Int)} (h : PS t K tx p l) (hK : 2 ≤ K) (hf : t.from1) : ∀ e ∈ l, Within p K e := by
  obtain ⟨E, W, n1, s', hB, hE, hg, hx, rfl⟩ := h.ex
  obtain ⟨A, hM, hc⟩ := hB.closes hf (fun _ _ => False) [] (by simp [Way.cl])
  refine ex_within (A := A) (fun b O hb => ?_) hK hx [] hc ⟨by simp, getD_set_eq (by simp; omega), Nat.le_refl _, fun i _ _ hi => (by cases hi), fun i a b _ => .inl ?_⟩ (fun e he => by cases he)
  · rcases hM.new b O hb with h | h
    · exact h.elim
    · exact h
  · show ((List.replicate K (-1)).set 0 (p : Int)).getD (2 * i) 0 = -1 ∧ ((List.replicate K (-1)).set 0 (p : Int)).getD (2 * i + 1) 0 = -1
    rw [getD_set_ne (by omega), getD_set_ne (by omega)]
    simp only [List.getD_eq_getElem?_getD, List.getElem?_replicate]
    rw [if_pos (by omega), if_pos (by omega)]
    simp
mutual
theorem Tn.fine_from1 : ∀ (t : Tn), t.fine = true → t.from1
  | .mk k R a s mn mx lz ix nm, h => by
    simp only [Tn.fine, Bool.and_eq_true] at h
    simp only [Tn.from1]
    exact ⟨fun hk => ((fine_node h.1).grp hk).2.1, fineL_from1 s h.2⟩
theorem fineL_from1 : ∀ (ts : List Tn), fineL ts = true → from1L ts
  | [], _ => by simp [from1L]
  | t :: ts, h => by
    simp only [fineL, Bool.and_eq_true] at h
    simp only [from1L]
    exact ⟨t.fine_from1 h.1, fineL_from1 ts h.2⟩
end
end Go.Proofs.Ytnpocciioedgpaa
/- HELPERS: tables from place to place: what they say of a tree. -/
namespace Go.Proofs.Ytnpocciioedgpaa
open Go.RowKit
set_option linter.unusedVariables false
set_option linter.unusedSimpArgs false
/-- from i to k, by way of places below j -/
def Pth (R : Nat → Nat → Prop) : Nat → Nat → Nat → Prop
  | 0, i, k => k = i ∨ R i k
  | j + 1, i, k => Pth R j i k ∨ (Pth R j i j ∧ Pth R j j k)
theorem Pth.up {R : Nat → Nat → Prop} {i k : Nat} (h : k = i ∨ R i k) : ∀ j, Pth R j i k := by
  intro j
  induction j with
  | zero => exact h
  | succ j ih => exact .inl ih
theorem Pth.trans {R : Nat → Nat → Prop} : ∀ {j i v k : Nat}, v < j → Pth R j i v → Pth R j v k → Pth R j i k := by
  intro j
  induction j with
  | zero => intro i v k hv; omega
  | succ j ih =>
    intro i v k hv h1 h2
    by_cases hj : v = j
    · subst hj
      have a : Pth R v i v := h1.elim id And.left
      have b : Pth R v v k := h2.elim id And.right
      exact .inr ⟨a, b⟩
    · have hv : v < j := by omega
      rcases h1 with h1 | ⟨h1, h1'⟩ <;> rcases h2 with h2 | ⟨h2, h2'⟩
      · exact .inl (ih hv h1 h2)
      · exact .inr ⟨ih hv h1 h2, h2'⟩
      · exact .inr ⟨h1, ih hv h1' h2⟩
      · exact .inr ⟨h1, h2'⟩
theorem Pth.iter {R : Nat → Nat → Prop} : ∀ {j i k : Nat}, Pth R j i k → ∃ c, Iter R c i k := by
  intro j
  induction j with
  | zero =>
    intro i k h
    rcases h with h | h
    · exact ⟨0, h⟩
    · exact ⟨1, k, h, rfl⟩
  | succ j ih =>
    intro i k h
    rcases h with h | ⟨h1, h2⟩
    · exact ih h
    · obtain ⟨a, ha⟩ := ih h1
      obtain ⟨b, hb⟩ := ih h2
      exact ⟨a + b, ha.add hb⟩
theorem Iter.pth {R : Nat → Nat → Prop} {n : Nat} (hR : ∀ i k, i < n → R i k → k < n) : ∀ {c i k : Nat}, i < n → Iter R c i k → Pth R n i k := by
  intro c
  induction c with
  | zero => intro i k _ h; exact Pth.up (.inl h) n
  | succ c ih =>
    intro i k hi h
    obtain ⟨r, h1, h2⟩ := h
    have hr := hR i r hi h1
    exact Pth.trans hr (Pth.up (.inr h1) n) (ih hr h2)
/-- a table -/
abbrev Tb := Nat → Nat → Bool
def Tb.stays : Tb := fun i k => decide (k = i)
def Tb.or (a b : Tb) : Tb := fun i k => a i k || b i k
def Tb.thr (n : Nat) (a b : Tb) : Tb := fun i k => (List.range n).any fun j => a i j && b j k
/-- the loop of often, so many rounds -/
def Tb.oft (a : Tb) : Nat → Tb
  | 0 => Tb.or a Tb.stays
  | j + 1 => fun i k => oft a j i k || (oft a j i j && oft a j j k)
def Tb.pow (n : Nat) (a : Tb) : Nat → Tb
  | 0 => Tb.stays
  | c + 1 => Tb.thr n (pow n a c) a
/-- as often as c, and up to m times more -/
def Tb.upTo (n : Nat) (a : Tb) (c : Nat) : Nat → Tb
  | 0 => pow n a c
  | m + 1 => Tb.or (upTo n a c m) (pow n a (c + (m + 1)))
/-- a table says what a relation says, at these places -/
def Says (n : Nat) (a : Tb) (R : Nat → Nat → Prop) : Prop := ∀ i k, i < n → k < n → (a i k = true ↔ R i k)
/-- a relation does not lead out -/
def Stay (n : Nat) (R : Nat → Nat → Prop) : Prop := ∀ i k, i < n → R i k → k < n
theorem Says.stays (n : Nat) : Says n Tb.stays fun p q => q = p := fun i k _ _ => by simp [Tb.stays]
theorem Says.or {n : Nat} {a b : Tb} {R S : Nat → Nat → Prop} (h : Says n a R) (h' : Says n b S) : Says n (Tb.or a b) fun p q => R p q ∨ S p q := fun i k hi hk => by
  simp only [Tb.or, Bool.or_eq_true, h i k hi hk, h' i k hi hk]
theorem Says.thr {n : Nat} {a b : Tb} {R S : Nat → Nat → Prop} (h : Says n a R) (h' : Says n b S) (hR : Stay n R) : Says n (Tb.thr n a b) fun p q => ∃ r, R p r ∧ S r q := fun i k hi hk => by
  simp only [Tb.thr, List.any_eq_true, List.mem_range, Bool.and_eq_true]
  constructor
  · rintro ⟨j, hj, h1, h2⟩
    exact ⟨j, (h i j hi hj).1 h1, (h' j k hj hk).1 h2⟩
  · rintro ⟨j, h1, h2⟩
    have hj := hR i j hi h1
    exact ⟨j, hj, (h i j hi hj).2 h1, (h' j k hj hk).2 h2⟩
theorem Says.oft {n : Nat} {a : Tb} {R : Nat → Nat → Prop} (h : Says n a R) : ∀ j, j ≤ n → Says n (Tb.oft a j) (Pth R j) := by
  intro j
  induction j with
  | zero =>
    intro _ i k hi hk
    simp only [Tb.oft, Pth]
    rw [(h.or (Says.stays n)) i k hi hk, or_comm]
  | succ j ih =>
    intro hj i k hi hk
    have ih := ih (by omega)
    simp only [Tb.oft, Pth, Bool.or_eq_true, Bool.and_eq_true, ih i k hi hk, ih i j hi (by omega), ih j k (by omega) hk]
theorem Says.often {n : Nat} {a : Tb} {R : Nat → Nat → Prop} (h : Says n a R) (hR : Stay n R) : Says n (Tb.oft a n) fun p q => ∃ c, Iter R c p q := fun i k hi hk =>
  (h.oft n (Nat.le_refl _) i k hi hk).trans ⟨fun h => h.iter, fun ⟨c, h⟩ => h.pth hR hi⟩
theorem Stay.iter {n : Nat} {R : Nat → Nat → Prop} (hR : Stay n R) : ∀ c, Stay n (Iter R c) := by
  intro c
  induction c with
  | zero => intro i k hi h; simp only [Iter] at h; omega
  | succ c ih => intro i k hi h; obtain ⟨r, h1, h2⟩ := h; exact ih r k (hR i r hi h1) h2
theorem Says.to {n : Nat} {a : Tb} {R S : Nat → Nat → Prop} (h : Says n a R) (h' : ∀ p q, R p q ↔ S p q) : Says n a S := fun i k hi hk => (h i k hi hk).trans (h' i k)
theorem Says.pow {n : Nat} {a : Tb} {R : Nat → Nat → Prop} (h : Says n a R) (hR : Stay n R) : ∀ c, Says n (Tb.pow n a c) (Iter R c) := by
  intro c
  induction c with
  | zero => exact (Says.stays n).to fun p q => by simp [Iter]
  | succ c ih =>
    refine (ih.thr h (hR.iter c)).to fun p q => ?_
    constructor
    · rintro ⟨r, h1, h2⟩
      exact h1.add (show Iter R 1 r q from ⟨q, h2, rfl⟩)
    · intro h
      obtain ⟨r, h1, x, h2, h3⟩ := Iter.split (a := c) (b := 1) h
      simp only [Iter] at h3
      subst h3
      exact ⟨r, h1, h2⟩
theorem Says.upTo {n : Nat} {a : Tb} {R : Nat → Nat → Prop} (h : Says n a R) (hR : Stay n R) (c : Nat) : ∀ m, Says n (Tb.upTo n a c m) fun p q => ∃ d, c ≤ d ∧ d ≤ c + m ∧ Iter R d p q := by
  intro m
  induction m with
  | zero => exact (h.pow hR c).to fun p q => ⟨fun h => ⟨c, Nat.le_refl _, Nat.le_refl _, h⟩, fun ⟨d, h1, h2, h3⟩ => (show d = c by omega) ▸ h3⟩
  | succ m ih =>
    refine (ih.or (h.pow hR (c + (m + 1)))).to fun p q => ⟨?_, ?_⟩
    · rintro (⟨d, h1, h2, h3⟩ | h)
      · exact ⟨d, h1, by omega, h3⟩
      · exact ⟨_, by omega, by omega, h⟩
    · rintro ⟨d, h1, h2, h3⟩
      by_cases hd : d = c + (m + 1)
      · subst hd; exact .inr h3
      · exact .inl ⟨d, h1, by omega, h3⟩
mutual
/-- the table of a tree -/
def tab (tx : List Int) : Tn → Tb
  | .mk k R a s mn mx lz ix nm =>
    if k = 1 then Tb.stays
    else if k = 2 then fun p q => decide (p < tx.length) && hasB R (tx.getD p 0) && decide (q = p + 1)
    else if k = 3 then fun p q => heldB tx a p && decide (q = p)
    else if k = 4 ∨ k = 7 then tabC tx Tb.stays s
    else if k = 5 then tabA tx (fun _ _ => false) s
    else if k = 6 then
      (if mx = 0 then Tb.stays else if mx < 0 then Tb.thr (tx.length + 1) (Tb.pow (tx.length + 1) (tabH tx s) mn.toNat) (Tb.oft (tabH tx s) (tx.length + 1)) else Tb.upTo (tx.length + 1) (tabH tx s) mn.toNat (mx - mn).toNat)
    else fun _ _ => false
def tabC (tx : List Int) : Tb → List Tn → Tb
  | a, [] => a
  | a, t :: ts => tabC tx (Tb.thr (tx.length + 1) a (tab tx t)) ts
def tabA (tx : List Int) : Tb → List Tn → Tb
  | a, [] => a
  | a, t :: ts => tabA tx (Tb.or a (tab tx t)) ts
def tabH (tx : List Int) : List Tn → Tb
  | [] => fun _ _ => false
  | t :: _ => tab tx t
end
mutual
theorem Mt.stay {tx : List Int} : ∀ (t : Tn), Stay (tx.length + 1) (Mt tx t)
  | .mk k R a s mn mx lz ix nm, p, q, hp, h => by
    simp only [Mt] at h
    rcases h with h | h | h | h | h | h | ⟨_, c, _, _, h⟩
    · omega
    · omega
    · omega
    · exact MtC.stay s p q hp h.2
    · exact MtA.stay s p q hp h.2
    · exact MtH.stay s p q hp h.2
    · exact Stay.iter (MtH.stay s) c p q hp h
theorem MtC.stay {tx : List Int} : ∀ (ts : List Tn), Stay (tx.length + 1) (MtC tx ts)
  | [], p, q, hp, h => by simp only [MtC] at h; omega
  | t :: ts, p, q, hp, h => by
    simp only [MtC] at h
    obtain ⟨r, h1, h2⟩ := h
    exact MtC.stay ts r q (Mt.stay t p r hp h1) h2
theorem MtA.stay {tx : List Int} : ∀ (ts : List Tn), Stay (tx.length + 1) (MtA tx ts)
  | [], p, q, hp, h => by simp [MtA] at h
  | t :: ts, p, q, hp, h => by
    simp only [MtA] at h
    rcases h with h | h
    · exact Mt.stay t p q hp h
    · exact MtA.stay ts p q hp h
theorem MtH.stay {tx : List Int} : ∀ (ts : List Tn), Stay (tx.length + 1) (MtH tx ts)
  | [], p, q, hp, h => by simp [MtH] at h
  | t :: _, p, q, hp, h => by simp only [MtH] at h; exact Mt.stay t p q hp h
end
mutual
/-- THE TABLE of a fine tree says what it takes -/
theorem tab_says {tx : List Int} : ∀ (t : Tn), t.fine = true → Says (tx.length + 1) (tab tx t) (Mt tx t)
  | .mk k R a s mn mx lz ix nm, h => by
    simp only [Tn.fine, Bool.and_eq_true] at h
    have FN := fine_node h.1
    rcases FN.kind with rfl | rfl | rfl | rfl | rfl | rfl | rfl
    · simp only [tab]
      exact (Says.stays _).to fun p q => by simp [Mt]
    · intro p q _ _
      have := FN.cls rfl
      simp [tab, Mt, this]
      constructor
      · rintro ⟨⟨a, b⟩, c⟩; exact ⟨a, b, c⟩
      · rintro ⟨a, b, c⟩; exact ⟨⟨a, b⟩, c⟩
    · intro p q _ _
      simp [tab, Mt]
    · simp only [tab]
      refine (tabC_says s h.2 Tb.stays (fun p q => q = p) (Says.stays _) (fun i k hi h => by omega)).to fun p q => ?_
      simp [Mt]
    · simp only [tab]
      refine (tabA_says s h.2 (fun _ _ => false) (fun p q => False) (fun i k _ _ => by simp)).to fun p q => ?_
      simp [Mt]
    · obtain ⟨h1, h2, h3, h4⟩ := FN.rep rfl
      have hs := tabH_says (tx := tx) s h.2
      have hst := MtH.stay (tx := tx) s
      by_cases c0 : mx = 0
      · subst c0
        have e : tab tx (.mk 6 R a s mn 0 lz ix nm) = Tb.stays := by simp [tab]
        rw [e]
        refine (Says.stays _).to fun p q => ?_
        simp [Mt]
        constructor
        · rintro rfl; exact ⟨0, by omega, rfl, rfl⟩
        · rintro ⟨c, _, rfl, h⟩; exact h
      · by_cases c1 : mx < 0
        · have e : tab tx (.mk 6 R a s mn mx lz ix nm) = Tb.thr (tx.length + 1) (Tb.pow (tx.length + 1) (tabH tx s) mn.toNat) (Tb.oft (tabH tx s) (tx.length + 1)) := by simp [tab, c0, c1]
          rw [e]
          refine ((hs.pow hst mn.toNat).thr (hs.often hst) (hst.iter _)).to fun p q => ?_
          simp [Mt, c1]
          constructor
          · rintro ⟨r, a1, c, a2⟩
            exact ⟨mn.toNat + c, by omega, a1.add a2⟩
          · rintro ⟨c, a1, a2⟩
            obtain ⟨d, rfl⟩ : ∃ d, c = mn.toNat + d := ⟨c - mn.toNat, by omega⟩
            obtain ⟨r, b1, b2⟩ := a2.split
            exact ⟨r, b1, d, b2⟩
        · have e : tab tx (.mk 6 R a s mn mx lz ix nm) = Tb.upTo (tx.length + 1) (tabH tx s) mn.toNat (mx - mn).toNat := by simp [tab, c0, c1]
          rw [e]
          refine (hs.upTo hst mn.toNat (mx - mn).toNat).to fun p q => ?_
          simp [Mt, c1]
          constructor
          · rintro ⟨d, a1, a2, a3⟩
            exact ⟨d, by omega, by omega, a3⟩
          · rintro ⟨d, a1, a2, a3⟩
            exact ⟨d, by omega, by omega, a3⟩
    · have h1 := (FN.grp rfl).1
      match s, h1, h.2 with
      | [t], _, h2 =>
        simp only [tab]
        refine (tabC_says [t] h2 Tb.stays (fun p q => q = p) (Says.stays _) (fun i k hi h => by omega)).to fun p q => ?_
        simp [Mt, MtH, MtC]
theorem tabC_says {tx : List Int} : ∀ (ts : List Tn), fineL ts = true → ∀ (a : Tb) (R : Nat → Nat → Prop), Says (tx.length + 1) a R → Stay (tx.length + 1) R → Says (tx.length + 1) (tabC tx a ts) fun p q => ∃ r, R p r ∧ MtC tx ts r q
  | [], _, a, R, h, _ => by
    simp only [tabC]
    exact h.to fun p q => by simp [MtC]
  | t :: ts, hf, a, R, h, hR => by
    simp only [fineL, Bool.and_eq_true] at hf
    simp only [tabC]
    refine (tabC_says ts hf.2 _ _ (h.thr (tab_says t hf.1) hR) (fun i k hi ⟨r, h1, h2⟩ => Mt.stay t r k (hR i r hi h1) h2)).to fun p q => ?_
    simp only [MtC]
    constructor
    · rintro ⟨r, ⟨x, h1, h2⟩, h3⟩; exact ⟨x, h1, r, h2, h3⟩
    · rintro ⟨x, h1, r, h2, h3⟩; exact ⟨r, ⟨x, h1, h2⟩, h3⟩
theorem tabA_says {tx : List Int} : ∀ (ts : List Tn), fineL ts = true → ∀ (a : Tb) (R : Nat → Nat → Prop), Says (tx.length + 1) a R → Says (tx.length + 1) (tabA tx a ts) fun p q => R p q ∨ MtA tx ts p q
  | [], _, a, R, h => by
    simp only [tabA]
    exact h.to fun p q => by simp [MtA]
  | t :: ts, hf, a, R, h => by
    simp only [fineL, Bool.and_eq_true] at hf
    simp only [tabA]
    refine (tabA_says ts hf.2 _ _ (h.or (tab_says t hf.1))).to fun p q => ?_
    simp only [MtA, or_assoc]
theorem tabH_says {tx : List Int} : ∀ (ts : List Tn), fineL ts = true → Says (tx.length + 1) (tabH tx ts) (MtH tx ts)
  | [], _ => fun i k _ _ => by simp [tabH, MtH]
  | t :: ts, hf => by
    simp only [fineL, Bool.and_eq_true] at hf
    simp only [tabH]
    exact (tab_says t hf.1).to fun p q => by simp [MtH]
end
end Go.Proofs.Ytnpocciioedgpaa
/- HELPERS: trees that lie in some blocks; rows of them. -/
namespace Go.Proofs.Ytnpocciioedgpaa
open Go.RowKit
set_option linter.unusedVariables false
set_option linter.unusedSimpArgs false
/-- a row of ranges in blocks of A -/
def RP (w : World) (A : Nat → Prop) (ad : Option Addr) (R : List (Int × Int)) : Prop :=
  R ≠ [] → ∃ b o, ad = some ⟨b, o, none⟩ ∧ A b ∧ ∀ i (hi : i < R.length), w.cell? ⟨b, o + i * 2, none⟩ = some (.int .i64 R[i].1) ∧ w.cell? ⟨b, o + i * 2 + 1, none⟩ = some (.int .i64 R[i].2)
/-- a tree lies in blocks of A -/
inductive TP (w : World) (A : Nat → Prop) : Nv → Tn → Prop
  | mk {N : Nv} {R : List (Int × Int)} {ts : List Tn} {ND : Nat → Nv} (ok : N.ok) (hr : N.r2 = R.length) (hR : RP w A N.r1 R) (hRk : ∀ x ∈ R, I64ok x.1 ∧ I64ok x.2) (hs : N.s2 = ts.length)
      (hS : 0 < ts.length → ∃ b o, N.s1 = some ⟨b, o, none⟩ ∧ A b ∧ ∀ i, i < ts.length → N9 w b o i (ND i)) (hk : ∀ i (hi : i < ts.length), TP w A (ND i) ts[i]) :
      TP w A N (.mk N.k R N.a2 ts N.a4 N.a5 N.a6 N.a7 N.a8)
theorem RP.kept {w w' : World} {A A' : Nat → Prop} {ad : Option Addr} {R : List (Int × Int)} (h : RP w A ad R) (hk : ∀ b, A b → w'.heap[b]? = w.heap[b]?) (hA : ∀ b, A b → A' b) : RP w' A' ad R := fun hn => by
  obtain ⟨b, o, h1, h2, h3⟩ := h hn
  exact ⟨b, o, h1, hA b h2, fun i hi => ⟨(cell_eq (hk b h2) _).trans (h3 i hi).1, (cell_eq (hk b h2) _).trans (h3 i hi).2⟩⟩
theorem TP.kept {w w' : World} {A A' : Nat → Prop} {N : Nv} {t : Tn} (h : TP w A N t) (hk : ∀ b, A b → w'.heap[b]? = w.heap[b]?) (hA : ∀ b, A b → A' b) : TP w' A' N t := by
  induction h with
  | mk ok hr hR hRk hs hS hkk ih =>
    refine .mk ok hr (hR.kept hk hA) hRk hs (fun hp => ?_) ih
    obtain ⟨b, o, h1, h2, h3⟩ := hS hp
    exact ⟨b, o, h1, hA b h2, fun i hi => (h3 i hi).kept (hk b h2)⟩
theorem TI.tp {w : World} {B : Nat} {N : Nv} {t : Tn} (h : TI w B N t) : TP w (fun b => b < B) N t := by
  induction h with
  | mk ok hr hR hRk hs hS hkk ih => exact .mk ok hr hR hRk hs hS ih
theorem TP.ti {w : World} {A : Nat → Prop} {B : Nat} {N : Nv} {t : Tn} (h : TP w A N t) (hA : ∀ b, A b → b < B) : TI w B N t := by
  induction h with
  | mk ok hr hR hRk hs hS hkk ih =>
    refine .mk ok hr (fun hn => ?_) hRk hs (fun hp => ?_) ih
    · obtain ⟨b, o, h1, h2, h3⟩ := hR hn; exact ⟨b, o, h1, hA b h2, h3⟩
    · obtain ⟨b, o, h1, h2, h3⟩ := hS hp; exact ⟨b, o, h1, hA b h2, h3⟩
theorem TP.ok {w : World} {A : Nat → Prop} {N : Nv} {t : Tn} (h : TP w A N t) : N.ok := by cases h; assumption
theorem flat9 (MS : List Nv) : ∀ (j k : Nat) (hj : j < MS.length), k < 9 → (MS.flatMap Nv.cs)[j * 9 + k]? = (Nv.cs MS[j])[k]? := by
  induction MS with
  | nil => intro j k hj; simp at hj
  | cons M MS ih =>
    intro j k hj hk
    rw [List.flatMap_cons]
    have e9 : (Nv.cs M).length = 9 := rfl
    cases j with
    | zero => rw [List.getElem?_append_left (by rw [e9]; omega)]; simp
    | succ j =>
      rw [List.getElem?_append_right (by rw [e9]; omega)]
      have := ih j k (by simpa using hj) hk
      rw [e9, show (j + 1) * 9 + k - 9 = j * 9 + k by omega, this]
      rfl
theorem flat9_len (MS : List Nv) : (MS.flatMap Nv.cs).length = MS.length * 9 := by
  induction MS with
  | nil => rfl
  | cons M MS ih =>
    have e9 : (Nv.cs M).length = 9 := rfl
    rw [List.flatMap_cons, List.length_append, ih, e9, List.length_cons]
    omega
/-- a row of trees that grows: their node's cells lie in it, what is below them in blocks of A -/
structure RowN (base B : Nat) (w : World) (uv : Value) (MS : List Nv) (us : List Tn) (A : Nat → Prop) : Prop where
  row : w.ownsRow base 28 9 uv MS.length (MS.flatMap Nv.cs)
  len : MS.length = us.length
  tp : ∀ j (h : j < us.length) (h' : j < MS.length), TP w A MS[j] us[j]
  inA : ∀ b, b < B → A b
  low : ∀ b, A b → b < w.heap.size
  out : ∀ b, uv.ownBlock = some b → ¬ A b
/-- such a row as the list of a node -/
theorem RowN.node {base B : Nat} {w : World} {uv : Value} {MS : List Nv} {us : List Tn} {A : Nat → Prop} (h : RowN base B w uv MS us A) {N : Nv} {R : List (Int × Int)} (ok : N.ok) (hr : N.r2 = R.length) (hR : RP w A N.r1 R) (hRk : ∀ x ∈ R, I64ok x.1 ∧ I64ok x.2) (hu : uv = .slice N.s1 N.s2 N.s3) :
    TP w (fun b => A b ∨ uv.ownBlock = some b) N (.mk N.k R N.a2 us N.a4 N.a5 N.a6 N.a7 N.a8) := by
  have hs2 : N.s2 = us.length := by
    rcases Joins.ownsRow_forms h.row with ⟨e, h0⟩ | ⟨b, cap, e⟩
    · rw [e] at hu
      simp only [Value.slice.injEq] at hu
      have := h.len
      omega
    · rw [e] at hu
      simp only [Value.slice.injEq] at hu
      have := h.len
      omega
  refine .mk (ND := fun i => MS.getD i default) ok hr (hR.kept (fun _ _ => rfl) (fun b hb => .inl hb)) hRk hs2 (fun hp => ?_) (fun i hi => ?_)
  · rcases Joins.ownsRow_forms h.row with ⟨e, h0⟩ | ⟨b, cap, e⟩
    · have := h.len; omega
    · rw [e] at hu
      simp only [Value.slice.injEq] at hu
      refine ⟨b, 0, hu.1.symm, .inr (by rw [e]; rfl), fun i hi => ?_⟩
      have hl := h.len
      have hrow := h.row
      rw [e] at hrow
      have c : ∀ k, k < 9 → w.cell? ⟨b, 0 + i * 9 + k, none⟩ = (Nv.cs (MS.getD i default))[k]? := fun k hk => by
        rw [Nat.zero_add, hrow.cellAt (i * 9 + k) (by omega), flat9 MS i k (by omega) hk]
        simp [List.getD_eq_getElem?_getD, List.getElem?_eq_getElem (show i < MS.length by omega)]
      exact ⟨c 0 (by omega), c 1 (by omega), c 2 (by omega), c 3 (by omega), c 4 (by omega), c 5 (by omega), c 6 (by omega), c 7 (by omega), c 8 (by omega)⟩
  · have hl := h.len
    rw [List.getD_eq_getElem?_getD, List.getElem?_eq_getElem (show i < MS.length by omega)]
    exact (h.tp i hi (by omega)).kept (fun _ _ => rfl) (fun b hb => .inl hb)
theorem RowN.nil (base B : Nat) (w : World) (hB : B ≤ w.heap.size) : RowN base B w (.slice none 0 0) [] [] (fun b => b < B) :=
  ⟨World.ownsRow_nil _ _ _ _, rfl, fun j h => by simp at h, fun b hb => hb, fun b hb => by omega, fun b hb => by cases hb⟩
/-- one more -/
theorem RowN.next {base B : Nat} {w w' w2 w3 : World} {uv v' : Value} {MS : List Nv} {us : List Tn} {A : Nat → Prop} (h : RowN base B w uv MS us A) {M : Nv} {u : Tn} (hw : w.heap.size ≤ w'.heap.size) (hk1 : ∀ b, b < w.heap.size → w'.heap[b]? = w.heap[b]?) (hb : Below w'.heap.size w' w2) (hM : TP w2 (fun b => b < B ∨ w'.heap.size ≤ b ∧ b < w2.heap.size) M u) (o : Obj)
    (ho : w3.ownsRow base 28 9 v' (MS.length + 1) (MS.flatMap Nv.cs ++ Nv.cs M)) (hm : Moved (w2.alloc o) w3 uv v') : RowN base B w3 v' (MS ++ [M]) (us ++ [u]) (fun b => A b ∨ w'.heap.size ≤ b ∧ b < w2.heap.size) := by
  have hub : ∀ k, uv.ownBlock = some k → k < w.heap.size := fun k hk => (h.row.lt k hk).2
  have s2 := hb.size
  have e3 : ∀ k, k < w2.heap.size → uv.ownBlock ≠ some k → w3.heap[k]? = w2.heap[k]? := fun k hk hn => by
    have e : (w2.alloc o).heap[k]? = w2.heap[k]? := heap_alloc_old w2 o hk
    rcases hm with ⟨_, h⟩ | ⟨_, h⟩
    · exact (h.block k (by simp; omega) (fun h => hn h.symm)).trans e
    · exact (h.block k (by simp; omega) (by simp)).trans e
  have hs3 : w2.heap.size ≤ w3.heap.size := by rcases hm with ⟨_, h⟩ | ⟨_, h⟩ <;> (have := h.size; simp at this; omega)
  have hout : ∀ b, (A b ∨ w'.heap.size ≤ b ∧ b < w2.heap.size) → uv.ownBlock ≠ some b := fun b hA e => by
    rcases hA with hA | hA
    · exact h.out b e hA
    · have := hub b e; omega
  have hlow : ∀ b, (A b ∨ w'.heap.size ≤ b ∧ b < w2.heap.size) → b < w2.heap.size := fun b hA => by
    rcases hA with hA | hA
    · have := h.low b hA; omega
    · omega
  refine ⟨?_, by simp [h.len], fun j hj hj' => ?_, fun b hb => .inl (h.inA b hb), fun b hA => by have := hlow b hA; omega, fun b hb hA => ?_⟩
  · rw [List.length_append, List.flatMap_append]
    simpa using ho
  · by_cases hjl : j < us.length
    · have hl := h.len
      rw [List.getElem_append_left (by omega), List.getElem_append_left hjl]
      exact (h.tp j hjl (by omega)).kept (fun b hA => (e3 b (hlow b (.inl hA)) (hout b (.inl hA))).trans ((hb.block b (by have := h.low b hA; omega)).trans (hk1 b (h.low b hA)))) (fun b hA => .inl hA)
    · have hl := h.len
      simp only [List.length_append, List.length_cons, List.length_nil] at hj hj'
      have e : j = us.length := by omega
      subst e
      rw [List.getElem_append_right (by omega), List.getElem_append_right (Nat.le_refl _)]
      simp only [Nat.sub_self, hl, List.getElem_cons_zero]
      refine hM.kept (fun b hA => ?_) (fun b hA => ?_)
      · rcases hA with hA | hA
        · exact e3 b (by have := h.low b (h.inA b hA); omega) (hout b (.inl (h.inA b hA)))
        · exact e3 b hA.2 (hout b (.inr hA))
      · rcases hA with hA | hA
        · exact .inl (h.inA b hA)
        · exact .inr hA
  · rcases hm with ⟨h0, _⟩ | ⟨h0, _⟩
    · rw [h0] at hb
      exact hout b hA hb
    · rw [h0] at hb
      simp at hb
      have := hlow b hA
      omega
end Go.Proofs.Ytnpocciioedgpaa
/- HELPERS: a tree without its groups. -/
namespace Go.Proofs.Ytnpocciioedgpaa
open Go.RowKit
set_option linter.unusedVariables false
set_option linter.unusedSimpArgs false
abbrev Z9 : Value := .agg #[.int .i64 0, .slice none 0 0, .int .i64 0, .slice none 0 0, .int .i64 0, .int .i64 0, .bool false, .int .i64 0, .string ⟨#[]⟩]
theorem info28 : (Try.prog.info? 28).map (fun i => (i.zero, i.size, i.bytes)) = some (some Z9, 9, 112) := by kernel_rfl
theorem news9 (w2 : World) (M : Nv) : ∀ j y, (Nv.cs M)[j]? = some y → (w2.alloc (.cells #[.int .i64 M.k, .slice M.r1 M.r2 M.r3, .int .i64 M.a2, .slice M.s1 M.s2 M.s3, .int .i64 M.a4, .int .i64 M.a5, .bool M.a6, .int .i64 M.a7, .string M.a8] 28)).cell? ((⟨w2.heap.size, 0, none⟩ : Addr).add j) = some y := by
  intro j y hj
  have h := heap_alloc_new w2 (.cells #[.int .i64 M.k, .slice M.r1 M.r2 M.r3, .int .i64 M.a2, .slice M.s1 M.s2 M.s3, .int .i64 M.a4, .int .i64 M.a5, .bool M.a6, .int .i64 M.a7, .string M.a8] 28)
  rw [show ((⟨w2.heap.size, 0, none⟩ : Addr).add j) = ⟨w2.heap.size, j, none⟩ by by_cases e : j = 0 <;> simp [Addr.add, e]]
  rw [Joins.cell_of_block h j]
  simpa using hj
theorem one9 (M : Nv) : ∀ u ∈ Nv.cs M, u.oneCell' = true := by
  intro u hu
  simp only [Nv.cs, List.mem_cons, List.not_mem_nil, or_false] at hu
  rcases hu with rfl | rfl | rfl | rfl | rfl | rfl | rfl | rfl | rfl <;> rfl
theorem moved_old' {w w' : World} {v v' : Value} {k : Nat} (h : Moved w w' v v') (hk : k < w.heap.size) (hn : v.ownBlock ≠ some k) : w'.heap[k]? = w.heap[k]? := by
  rcases h with ⟨_, h⟩ | ⟨_, h⟩
  · exact h.block k hk (fun e => hn e.symm)
  · exact h.block k hk (by simp)
set_option maxHeartbeats 1000000 in
theorem nineSet (X : World) (b : Nat) {c0 c1 c2 c3 c4 c5 c6 c7 c8 : Value} {t : TypeId} (v0 v1 v2 v3 v4 v5 v6 v7 v8 : Value) (h : X.heap[b]? = some (.cells #[c0, c1, c2, c3, c4, c5, c6, c7, c8] t (0, 0))) :
    ((((((((((((((((((X).setCell ⟨b, 0, none⟩ v0)).setCell ⟨b, 1, none⟩ v1)).setCell ⟨b, 2, none⟩ v2)).setCell ⟨b, 3, none⟩ v3)).setCell ⟨b, 4, none⟩ v4)).setCell ⟨b, 5, none⟩ v5)).setCell ⟨b, 6, none⟩ v6)).setCell ⟨b, 7, none⟩ v7)).setCell ⟨b, 8, none⟩ v8).heap[b]? = some (.cells #[v0, v1, v2, v3, v4, v5, v6, v7, v8] t (0, 0)) ∧ (∀ k, k ≠ b → ((((((((((((((((((X).setCell ⟨b, 0, none⟩ v0)).setCell ⟨b, 1, none⟩ v1)).setCell ⟨b, 2, none⟩ v2)).setCell ⟨b, 3, none⟩ v3)).setCell ⟨b, 4, none⟩ v4)).setCell ⟨b, 5, none⟩ v5)).setCell ⟨b, 6, none⟩ v6)).setCell ⟨b, 7, none⟩ v7)).setCell ⟨b, 8, none⟩ v8).heap[k]? = X.heap[k]?) ∧ ((((((((((((((((((X).setCell ⟨b, 0, none⟩ v0)).setCell ⟨b, 1, none⟩ v1)).setCell ⟨b, 2, none⟩ v2)).setCell ⟨b, 3, none⟩ v3)).setCell ⟨b, 4, none⟩ v4)).setCell ⟨b, 5, none⟩ v5)).setCell ⟨b, 6, none⟩ v6)).setCell ⟨b, 7, none⟩ v7)).setCell ⟨b, 8, none⟩ v8).heap.size = X.heap.size ∧ ∀ {B0 : Nat} {w : World}, Below B0 w X → B0 ≤ b → Below B0 w ((((((((((((((((((X).setCell ⟨b, 0, none⟩ v0)).setCell ⟨b, 1, none⟩ v1)).setCell ⟨b, 2, none⟩ v2)).setCell ⟨b, 3, none⟩ v3)).setCell ⟨b, 4, none⟩ v4)).setCell ⟨b, 5, none⟩ v5)).setCell ⟨b, 6, none⟩ v6)).setCell ⟨b, 7, none⟩ v7)).setCell ⟨b, 8, none⟩ v8) := by
  refine ⟨?_, fun k hk => ?_, by simp [World.setCell], fun hB hb => ?_⟩
  · have h0 : (X.setCell ⟨b, 0, none⟩ v0).heap[b]? = some (.cells #[v0, c1, c2, c3, c4, c5, c6, c7, c8] t (0, 0)) := Joins.block_setCell (i := 0) h v0
    have h1 : ((X.setCell ⟨b, 0, none⟩ v0).setCell ⟨b, 1, none⟩ v1).heap[b]? = some (.cells #[v0, v1, c2, c3, c4, c5, c6, c7, c8] t (0, 0)) := Joins.block_setCell (i := 1) h0 v1
    have h2 : (((X.setCell ⟨b, 0, none⟩ v0).setCell ⟨b, 1, none⟩ v1).setCell ⟨b, 2, none⟩ v2).heap[b]? = some (.cells #[v0, v1, v2, c3, c4, c5, c6, c7, c8] t (0, 0)) := Joins.block_setCell (i := 2) h1 v2
    have h3 : ((((X.setCell ⟨b, 0, none⟩ v0).setCell ⟨b, 1, none⟩ v1).setCell ⟨b, 2, none⟩ v2).setCell ⟨b, 3, none⟩ v3).heap[b]? = some (.cells #[v0, v1, v2, v3, c4, c5, c6, c7, c8] t (0, 0)) := Joins.block_setCell (i := 3) h2 v3
    have h4 : (((((X.setCell ⟨b, 0, none⟩ v0).setCell ⟨b, 1, none⟩ v1).setCell ⟨b, 2, none⟩ v2).setCell ⟨b, 3, none⟩ v3).setCell ⟨b, 4, none⟩ v4).heap[b]? = some (.cells #[v0, v1, v2, v3, v4, c5, c6, c7, c8] t (0, 0)) := Joins.block_setCell (i := 4) h3 v4
    have h5 : ((((((X.setCell ⟨b, 0, none⟩ v0).setCell ⟨b, 1, none⟩ v1).setCell ⟨b, 2, none⟩ v2).setCell ⟨b, 3, none⟩ v3).setCell ⟨b, 4, none⟩ v4).setCell ⟨b, 5, none⟩ v5).heap[b]? = some (.cells #[v0, v1, v2, v3, v4, v5, c6, c7, c8] t (0, 0)) := Joins.block_setCell (i := 5) h4 v5
    have h6 : (((((((X.setCell ⟨b, 0, none⟩ v0).setCell ⟨b, 1, none⟩ v1).setCell ⟨b, 2, none⟩ v2).setCell ⟨b, 3, none⟩ v3).setCell ⟨b, 4, none⟩ v4).setCell ⟨b, 5, none⟩ v5).setCell ⟨b, 6, none⟩ v6).heap[b]? = some (.cells #[v0, v1, v2, v3, v4, v5, v6, c7, c8] t (0, 0)) := Joins.block_setCell (i := 6) h5 v6
    have h7 : ((((((((X.setCell ⟨b, 0, none⟩ v0).setCell ⟨b, 1, none⟩ v1).setCell ⟨b, 2, none⟩ v2).setCell ⟨b, 3, none⟩ v3).setCell ⟨b, 4, none⟩ v4).setCell ⟨b, 5, none⟩ v5).setCell ⟨b, 6, none⟩ v6).setCell ⟨b, 7, none⟩ v7).heap[b]? = some (.cells #[v0, v1, v2, v3, v4, v5, v6, v7, c8] t (0, 0)) := Joins.block_setCell (i := 7) h6 v7
    have h8 : (((((((((X.setCell ⟨b, 0, none⟩ v0).setCell ⟨b, 1, none⟩ v1).setCell ⟨b, 2, none⟩ v2).setCell ⟨b, 3, none⟩ v3).setCell ⟨b, 4, none⟩ v4).setCell ⟨b, 5, none⟩ v5).setCell ⟨b, 6, none⟩ v6).setCell ⟨b, 7, none⟩ v7).setCell ⟨b, 8, none⟩ v8).heap[b]? = some (.cells #[v0, v1, v2, v3, v4, v5, v6, v7, v8] t (0, 0)) := Joins.block_setCell (i := 8) h7 v8
    exact h8
  · have k0 : (X.setCell ⟨b, 0, none⟩ v0).heap[k]? = X.heap[k]? := Below.heap_setCell _ _ _ _ hk
    have k1 : ((X.setCell ⟨b, 0, none⟩ v0).setCell ⟨b, 1, none⟩ v1).heap[k]? = (X.setCell ⟨b, 0, none⟩ v0).heap[k]? := Below.heap_setCell _ _ _ _ hk
    have k2 : (((X.setCell ⟨b, 0, none⟩ v0).setCell ⟨b, 1, none⟩ v1).setCell ⟨b, 2, none⟩ v2).heap[k]? = ((X.setCell ⟨b, 0, none⟩ v0).setCell ⟨b, 1, none⟩ v1).heap[k]? := Below.heap_setCell _ _ _ _ hk
    have k3 : ((((X.setCell ⟨b, 0, none⟩ v0).setCell ⟨b, 1, none⟩ v1).setCell ⟨b, 2, none⟩ v2).setCell ⟨b, 3, none⟩ v3).heap[k]? = (((X.setCell ⟨b, 0, none⟩ v0).setCell ⟨b, 1, none⟩ v1).setCell ⟨b, 2, none⟩ v2).heap[k]? := Below.heap_setCell _ _ _ _ hk
    have k4 : (((((X.setCell ⟨b, 0, none⟩ v0).setCell ⟨b, 1, none⟩ v1).setCell ⟨b, 2, none⟩ v2).setCell ⟨b, 3, none⟩ v3).setCell ⟨b, 4, none⟩ v4).heap[k]? = ((((X.setCell ⟨b, 0, none⟩ v0).setCell ⟨b, 1, none⟩ v1).setCell ⟨b, 2, none⟩ v2).setCell ⟨b, 3, none⟩ v3).heap[k]? := Below.heap_setCell _ _ _ _ hk
    have k5 : ((((((X.setCell ⟨b, 0, none⟩ v0).setCell ⟨b, 1, none⟩ v1).setCell ⟨b, 2, none⟩ v2).setCell ⟨b, 3, none⟩ v3).setCell ⟨b, 4, none⟩ v4).setCell ⟨b, 5, none⟩ v5).heap[k]? = (((((X.setCell ⟨b, 0, none⟩ v0).setCell ⟨b, 1, none⟩ v1).setCell ⟨b, 2, none⟩ v2).setCell ⟨b, 3, none⟩ v3).setCell ⟨b, 4, none⟩ v4).heap[k]? := Below.heap_setCell _ _ _ _ hk
    have k6 : (((((((X.setCell ⟨b, 0, none⟩ v0).setCell ⟨b, 1, none⟩ v1).setCell ⟨b, 2, none⟩ v2).setCell ⟨b, 3, none⟩ v3).setCell ⟨b, 4, none⟩ v4).setCell ⟨b, 5, none⟩ v5).setCell ⟨b, 6, none⟩ v6).heap[k]? = ((((((X.setCell ⟨b, 0, none⟩ v0).setCell ⟨b, 1, none⟩ v1).setCell ⟨b, 2, none⟩ v2).setCell ⟨b, 3, none⟩ v3).setCell ⟨b, 4, none⟩ v4).setCell ⟨b, 5, none⟩ v5).heap[k]? := Below.heap_setCell _ _ _ _ hk
    have k7 : ((((((((X.setCell ⟨b, 0, none⟩ v0).setCell ⟨b, 1, none⟩ v1).setCell ⟨b, 2, none⟩ v2).setCell ⟨b, 3, none⟩ v3).setCell ⟨b, 4, none⟩ v4).setCell ⟨b, 5, none⟩ v5).setCell ⟨b, 6, none⟩ v6).setCell ⟨b, 7, none⟩ v7).heap[k]? = (((((((X.setCell ⟨b, 0, none⟩ v0).setCell ⟨b, 1, none⟩ v1).setCell ⟨b, 2, none⟩ v2).setCell ⟨b, 3, none⟩ v3).setCell ⟨b, 4, none⟩ v4).setCell ⟨b, 5, none⟩ v5).setCell ⟨b, 6, none⟩ v6).heap[k]? := Below.heap_setCell _ _ _ _ hk
    have k8 : (((((((((X.setCell ⟨b, 0, none⟩ v0).setCell ⟨b, 1, none⟩ v1).setCell ⟨b, 2, none⟩ v2).setCell ⟨b, 3, none⟩ v3).setCell ⟨b, 4, none⟩ v4).setCell ⟨b, 5, none⟩ v5).setCell ⟨b, 6, none⟩ v6).setCell ⟨b, 7, none⟩ v7).setCell ⟨b, 8, none⟩ v8).heap[k]? = ((((((((X.setCell ⟨b, 0, none⟩ v0).setCell ⟨b, 1, none⟩ v1).setCell ⟨b, 2, none⟩ v2).setCell ⟨b, 3, none⟩ v3).setCell ⟨b, 4, none⟩ v4).setCell ⟨b, 5, none⟩ v5).setCell ⟨b, 6, none⟩ v6).setCell ⟨b, 7, none⟩ v7).heap[k]? := Below.heap_setCell _ _ _ _ hk
    exact k8.trans (k7.trans (k6.trans (k5.trans (k4.trans (k3.trans (k2.trans (k1.trans k0)))))))
  · exact ((((((((hB.setCell (by exact hb) v0).setCell (by exact hb) v1).setCell (by exact hb) v2).setCell (by exact hb) v3).setCell (by exact hb) v4).setCell (by exact hb) v5).setCell (by exact hb) v6).setCell (by exact hb) v7).setCell (by exact hb) v8
mutual
/-- a tree without its groups -/
def Tn.bare : Tn → Tn
  | .mk k R a s mn mx lz ix nm => if k = 7 then (match bareL s with | t :: _ => t | [] => .mk k R a [] mn mx lz ix nm) else .mk k R a (bareL s) mn mx lz ix nm
def bareL : List Tn → List Tn
  | [] => []
  | t :: ts => t.bare :: bareL ts
end
theorem bareL_map (ts : List Tn) : bareL ts = ts.map Tn.bare := by
  induction ts with
  | nil => rfl
  | cons t ts ih => simp [bareL, ih]
set_option maxRecDepth 100000 in
set_option maxHeartbeats 8000000 in
theorem bare24 {w0 : World} {B : Nat} {N : Nv} {t : Tn} (h : TI w0 B N t) : t.fine = true → t.nodes ≤ 200000 → ∀ (w : World), B ≤ w.heap.size → (∀ b, b < B → w.heap[b]? = w0.heap[b]?) →
    Calls Try.prog 24 #[N.v] w fun e w' => ∃ M : Nv, e = .returned M.v ∧ TP w' (fun b => b < B ∨ w.heap.size ≤ b ∧ b < w'.heap.size) M t.bare ∧ Below w.heap.size w w' := by
  induction h with
  | @mk N R ts ND ok hr hR hRk hs hS hk ih =>
  intro hf hno w hB hw
  simp only [Tn.fine, Bool.and_eq_true] at hf
  simp only [Tn.nodes] at hno
  have FN := fine_node hf.1
  have hfg := fineL_get hf.2
  have IH : ∀ i (hi : i < ts.length) (w : World), B ≤ w.heap.size → (∀ b, b < B → w.heap[b]? = w0.heap[b]?) → Calls Try.prog 24 #[(ND i).v] w fun e w' => ∃ M : Nv, e = .returned M.v ∧ TP w' (fun b => b < B ∨ w.heap.size ≤ b ∧ b < w'.heap.size) M ts[i].bare ∧ Below w.heap.size w w' := fun i hi => ih i hi (hfg i hi) (by have := nodes_get ts i hi; omega)
  have hlen : ts.length ≤ 200000 := by have := nodes_ge ts; omega
  have hRw : ∀ w1 : World, (∀ b, b < B → w1.heap[b]? = w0.heap[b]?) → RP w1 (fun b => b < B) N.r1 R := fun w1 h1 => (show RP w0 (fun b => b < B) N.r1 R from hR).kept h1 (fun b hb => hb)
  have hok := ok
  have HRL0 := hid hr
  obtain ⟨N', hN'⟩ : ∃ N' : Nv, N' = N := ⟨_, rfl⟩
  obtain ⟨k, r1, r2, r3, a2, s1, s2, s3, a4, a5, a6, a7, a8⟩ := N
  simp only at hs hS
  have HW := hid hw
  have HS := hid hS
  have HIH := hid IH
  have HL := hid hs
  have HRW := hid hRw
  by_cases k7 : k = 7
  · subst k7
    obtain ⟨h1, _, _⟩ := FN.grp rfl
    obtain ⟨t, rfl⟩ : ∃ t, ts = [t] := List.length_eq_one_iff.1 h1
    have e0 : (Tn.mk 7 R a2 [t] a4 a5 a6 a7 a8).bare = t.bare := by simp [Tn.bare, bareL]
    rw [e0]
    obtain ⟨b, o, hs1, hb, hc⟩ := HS.out (by simp)
    have hs2 : s2 = 1 := hs
    subst hs1 hs2
    obtain ⟨n0, n1, n2, n3, n4, n5, n6, n7, n8⟩ := (hc 0 (by simp)).kept (hw b hb)
    simp only [Nat.zero_mul, Nat.add_zero] at n0 n1 n2 n3 n4 n5 n6 n7 n8
    have HC := HIH.out 0 (by simp) ((w.alloc (.cells #[.int .i64 7, .slice r1 r2 r3, .int .i64 a2, .slice (some ⟨b, o, none⟩) 1 s3, .int .i64 a4, .int .i64 a5, .bool a6, .int .i64 a7, .string a8] 28)).alloc (.cells #[.int .i64 0, .slice none 0 0, .int .i64 0, .slice none 0 0, .int .i64 0, .int .i64 0, .bool false, .int .i64 0, .string ⟨#[]⟩] 28)) (by simp; omega) (fun b hb => (heap_alloc_old _ _ (by simp; omega)).trans ((heap_alloc_old w _ (by omega)).trans (hw b hb)))
    have hbl : b < w.heap.size := by omega
    have i1 : (0 : Int) < 1 := by decide
    obtain ⟨P, hP⟩ : ∃ P, P = ND 0 := ⟨_, rfl⟩
    rw [← hP] at HC n0 n1 n2 n3 n4 n5 n6 n7 n8
    clear ok hr hR hk hS hw ih hs hf FN hfg IH hRw hno hlen hok hc hP HS HIH HL HRW HW
    go_enter Try.func24, Try.ntmps24
    go_wp2_with (first | (go_at_call 24; (with_reducible refine HC.mono ?_); rintro e w2 ⟨M, rfl, hM, hb2⟩; have hY : w2.heap[w.heap.size + 1]? = some (.cells #[.int .i64 0, .slice none 0 0, .int .i64 0, .slice none 0 0, .int .i64 0, .int .i64 0, .bool false, .int .i64 0, .string ⟨#[]⟩] 28 (0, 0)) := (hb2.block (w.heap.size + 1) (by simp)).trans (two_new w _ _ _); have f0 := Joins.unfrozen_of_block hY 0; have f1 := Joins.unfrozen_of_block hY 1; have f2 := Joins.unfrozen_of_block hY 2; have f3 := Joins.unfrozen_of_block hY 3; have f4 := Joins.unfrozen_of_block hY 4; have f5 := Joins.unfrozen_of_block hY 5; have f6 := Joins.unfrozen_of_block hY 6; have f7 := Joins.unfrozen_of_block hY 7; have f8 := Joins.unfrozen_of_block hY 8; obtain ⟨q0, q1, q2, q3, q4, q5, q6, q7, q8⟩ := nine' hY; have HYY := hid hY; have HM := hid hM; have HB2 := hid hb2; clear hY hM hb2 HC))
    obtain ⟨y1, y2, y3, y4⟩ := nineSet w2 (w.heap.size + 1) (.int .i64 M.k) (.slice M.r1 M.r2 M.r3) (.int .i64 M.a2) (.slice M.s1 M.s2 M.s3) (.int .i64 M.a4) (.int .i64 M.a5) (.bool M.a6) (.int .i64 M.a7) (.string M.a8) HYY.out
    obtain ⟨Y, hY⟩ : ∃ Y, Y = ((((((((((((((((((w2).setCell ⟨w.heap.size + 1, 0, none⟩ (.int .i64 M.k))).setCell ⟨w.heap.size + 1, 1, none⟩ (.slice M.r1 M.r2 M.r3))).setCell ⟨w.heap.size + 1, 2, none⟩ (.int .i64 M.a2))).setCell ⟨w.heap.size + 1, 3, none⟩ (.slice M.s1 M.s2 M.s3))).setCell ⟨w.heap.size + 1, 4, none⟩ (.int .i64 M.a4))).setCell ⟨w.heap.size + 1, 5, none⟩ (.int .i64 M.a5))).setCell ⟨w.heap.size + 1, 6, none⟩ (.bool M.a6))).setCell ⟨w.heap.size + 1, 7, none⟩ (.int .i64 M.a7))).setCell ⟨w.heap.size + 1, 8, none⟩ (.string M.a8)) := ⟨_, rfl⟩
    rw [← hY] at y1 y2 y3 y4
    have y4' := y4 ((below_two' w _ _).trans (Joins.below_le HB2.out (by simp; omega))) (by omega)
    rw [← hY]
    refine bodyPost_ret (results_cell_row rfl _ _ (w.heap.size + 1) 28 _ (0, 0) _ rfl y1 Try.underlying28 rfl (by kernel_rfl)) rfl ?_
    have hs2 := HB2.out.size
    simp at hs2
    refine ⟨M, rfl, HM.out.kept (fun b hb => y2 b ?_) (fun b hb => ?_), y4'⟩
    · rcases hb with hb | hb
      · omega
      · have := hb.1; simp at this; omega
    · rcases hb with hb | hb
      · exact .inl hb
      · right; have := hb.1; simp at this; omega
  · have k7' : (k == 7) = false := by simpa using k7
    have hm2 : s2 ≤ 200000 := by omega
    have e0 : (Tn.mk k R a2 ts a4 a5 a6 a7 a8).bare = .mk k R a2 (ts.map Tn.bare) a4 a5 a6 a7 a8 := by simp only [Tn.bare, k7, if_false, bareL_map]
    rw [e0]
    obtain ⟨i0, hi0, hz0, hz1, hz2⟩ := info_parts info28
    have HOK := hid hok
    have HRL : Hid (r2 = R.length) := HRL0.out
    clear HRL0
    clear ok hr hR hk hS hw ih hs hf FN hfg IH hRw hno hlen hok
    go_enter Try.func24, Try.ntmps24
    go_wp2_with fail
    go_loopw [3, 4] (fun u y wq => ∃ (i : Nat) (u1 : Option Addr) (u3 : Nat), u = .slice u1 i u3 ∧ y = .int .i64 (i : Int) ∧ i ≤ s2 ∧ Hid (∃ MS A, RowN (w.heap.size + 1 + 1) B wq (.slice u1 i u3) MS ((ts.take i).map Tn.bare) A ∧ ∀ b, A b → b < B ∨ w.heap.size + 1 + 1 ≤ b) ∧ Hid (Below w.heap.size w wq) ∧ Hid (wq.heap[w.heap.size]? = some (.cells #[.int .i64 k, .slice r1 r2 r3, .int .i64 a2, .slice s1 s2 s3, .int .i64 a4, .int .i64 a5, .bool a6, .int .i64 a7, .string a8] 28 (0, 0))) ∧ Hid (wq.heap[w.heap.size + 1]? = some (.cells #[.int .i64 0, .slice none 0 0, .int .i64 0, .slice none 0 0, .int .i64 0, .int .i64 0, .bool false, .int .i64 0, .string ⟨#[]⟩] 28 (0, 0)))) (fun _ y _ => s2 - (intOf y).toNat)
    case atStart => exact ⟨0, none, 0, rfl, rfl, by omega, by exact ⟨[], _, RowN.nil _ B _ (by simp; omega), fun b hb => .inl hb⟩, below_two' w _ _, (heap_alloc_old _ _ (by simp)).trans (heap_alloc_new w _), two_new w _ _ _⟩
    case round =>
      obtain ⟨i, u1, u3, rfl, rfl, hi, HI, BK, BX, BY⟩ := hrel
      obtain ⟨o0, o1, o2, o3, o4, o5, o6, o7, o8⟩ := nine' BX.out
      by_cases hil : i < s2
      · have b1 : decide ((i : Int) < (s2 : Int)) = true := by simp; omega
        have b2 : (i : Int) < (s2 : Int) := by omega
        have hlt : i < ts.length := by rw [← HL.out]; exact hil
        obtain ⟨b, o, hs1, hb, hc⟩ := HS.out (by omega)
        subst hs1
        have hwk : ∀ b, b < B → wr.heap[b]? = w0.heap[b]? := fun b hb => (BK.out.block b (by omega)).trans (HW.out b hb)
        obtain ⟨n0, n1, n2, n3, n4, n5, n6, n7, n8⟩ := (hc i hlt).kept (hwk b hb)
        have HC := HIH.out i hlt wr (by have := BK.out.size; omega) hwk
        obtain ⟨MS, A, hRN, hA⟩ := HI.out
        obtain ⟨P, hP⟩ : ∃ P, P = ND i := ⟨_, rfl⟩
        rw [← hP] at HC n0 n1 n2 n3 n4 n5 n6 n7 n8
        have ad1 : IntKind.i64.wrap ((i : Int) + 1) = (i : Int) + 1 := by simp [IntKind.wrap, IntKind.bits, IntKind.signed]; omega
        have hml : MS.length = i := by have := hRN.len; simp at this; omega
        have HRN := hid hRN
        have HA := hid hA
        have HML := hid hml
        clear hP hwk hc hRN hA hml HI
        go_wp2_with (first | (go_at_call 24; (with_reducible refine HC.mono ?_); rintro e w2 ⟨M, rfl, hM, hb2⟩; have hrow2 : w2.ownsRow (w.heap.size + 1 + 1) 28 9 (.slice u1 i u3) i (MS.flatMap Nv.cs) := (by have h := row_kept HRN.out.row (fun b hb => hb2.block b (HRN.out.row.lt b hb).2); rw [HML.out] at h; exact h); have HR2 := hid hrow2; have HM := hid hM; have HB2 := hid hb2; have hs2' : w.heap.size + 1 + 1 ≤ w2.heap.size := (by have := hb2.size; have := (Array.getElem?_eq_some_iff.1 BY.out).1; omega); clear hrow2 hM hb2 HC) | (at_builtin; refine wpList_append_moveN rfl (.tmp 20) (.tmp 27) 26 rfl (w.heap.size + 1 + 1) 28 i0 Z9 9 112 Try.underlying26 hi0 hz0 hz1 hz2 rfl (by decide) (.slice u1 i u3) i (MS.flatMap Nv.cs) rfl (HR2.out.alloc _) ⟨w2.heap.size, 0, none⟩ 1 1 (Nv.cs M) rfl rfl (by decide) (news9 w2 M) (one9 M) (by unfold maxLen; omega) (by omega) (by simp; omega) ?_; intro v' w3 ho3 hm3; obtain ⟨vb, vc, rfl⟩ := Joins.ownsRow_form ho3.out (by omega)))
        have hold : ∀ k, k < w.heap.size + 1 + 1 → w3.heap[k]? = wr.heap[k]? := fun k hk => by
          have hyl := (Array.getElem?_eq_some_iff.1 BY.out).1
          have hne : (Value.slice u1 i u3).ownBlock ≠ some k := fun e => by have := (HRN.out.row.lt k e).1; omega
          exact (moved_old' hm3.out (by simp; omega) hne).trans ((heap_alloc_old w2 _ (by omega)).trans (HB2.out.block k (by omega)))
        have hs3 : w2.heap.size ≤ w3.heap.size := by rcases hm3.out with ⟨_, h⟩ | ⟨_, h⟩ <;> (have := h.size; simp at this; omega)
        have hbel : Below w.heap.size w w3 := by
          have hsz := BK.out.size
          have hsz2 := HB2.out.size
          refine ⟨?_, ?_, ?_, by omega, fun k hk => (hold k (by omega)).trans (BK.out.block k hk)⟩
          · rcases hm3.out with ⟨_, h⟩ | ⟨_, h⟩ <;> exact h.os.trans (HB2.out.os.trans BK.out.os)
          · rcases hm3.out with ⟨_, h⟩ | ⟨_, h⟩ <;> exact h.tape.trans (HB2.out.tape.trans BK.out.tape)
          · rcases hm3.out with ⟨_, h⟩ | ⟨_, h⟩ <;> exact h.output.trans (HB2.out.output.trans BK.out.output)
        have hnx := HRN.out.next (w' := wr) (Nat.le_refl _) (fun b hb => rfl) HB2.out HM.out _ (by rw [HML.out]; exact ho3.out) hm3.out
        have hex : ∃ MS A, RowN (w.heap.size + 1 + 1) B w3 (.slice (some ⟨vb, 0, none⟩) (i + 1) vc) MS ((ts.take (i + 1)).map Tn.bare) A ∧ ∀ b, A b → b < B ∨ w.heap.size + 1 + 1 ≤ b := by
          refine ⟨MS ++ [M], fun b => A b ∨ wr.heap.size ≤ b ∧ b < w2.heap.size, ?_, fun b hb => ?_⟩
          · rw [List.take_succ_eq_append_getElem hlt, List.map_append]
            exact hnx
          · rcases hb with hb | hb
            · exact HA.out b hb
            · right; have := (Array.getElem?_eq_some_iff.1 BY.out).1; omega
        exact ⟨⟨i + 1, _, _, rfl, by push_cast; rfl, by omega, hex, hbel, (hold _ (by omega)).trans BX.out, (hold _ (by omega)).trans BY.out⟩, by simp [intOf]; omega⟩
      · have b1 : decide ((i : Int) < (s2 : Int)) = false := by simp; omega
        obtain rfl : i = s2 := by omega
        obtain ⟨q0, q1, q2, q3, q4, q5, q6, q7, q8⟩ := nine' BY.out
        have fx := fun j => Joins.unfrozen_of_block BX.out j
        have fx3 := fx 3
        have fy := fun j => Joins.unfrozen_of_block BY.out j
        have f0 := fy 0
        have f1 := fy 1
        have f2 := fy 2
        have f3 := fy 3
        have f4 := fy 4
        have f5 := fy 5
        have f6 := fy 6
        have f7 := fy 7
        have f8 := fy 8
        clear fx fy
        go_wp2
        obtain ⟨X, hX⟩ : ∃ X, X = wr.setCell ⟨w.heap.size, 3, none⟩ (.slice u1 i u3) := ⟨_, rfl⟩
        rw [← hX]
        have hXo : ∀ k, k ≠ w.heap.size → X.heap[k]? = wr.heap[k]? := fun k hk => by rw [hX]; exact Below.heap_setCell _ _ _ _ hk
        have hXs : X.heap.size = wr.heap.size := by rw [hX]; simp [World.setCell]
        have hXb : Below w.heap.size w X := by rw [hX]; exact BK.out.setCell (by exact Nat.le_refl _) _
        obtain ⟨y1, y2, y3, y4⟩ := nineSet X (w.heap.size + 1) (.int .i64 k) (.slice r1 r2 r3) (.int .i64 a2) (.slice u1 i u3) (.int .i64 a4) (.int .i64 a5) (.bool a6) (.int .i64 a7) (.string a8) ((hXo _ (by omega)).trans BY.out)
        obtain ⟨Y, hY⟩ : ∃ Y, Y = ((((((((((((((((((X).setCell ⟨w.heap.size + 1, 0, none⟩ (.int .i64 k))).setCell ⟨w.heap.size + 1, 1, none⟩ (.slice r1 r2 r3))).setCell ⟨w.heap.size + 1, 2, none⟩ (.int .i64 a2))).setCell ⟨w.heap.size + 1, 3, none⟩ (.slice u1 i u3))).setCell ⟨w.heap.size + 1, 4, none⟩ (.int .i64 a4))).setCell ⟨w.heap.size + 1, 5, none⟩ (.int .i64 a5))).setCell ⟨w.heap.size + 1, 6, none⟩ (.bool a6))).setCell ⟨w.heap.size + 1, 7, none⟩ (.int .i64 a7))).setCell ⟨w.heap.size + 1, 8, none⟩ (.string a8)) := ⟨_, rfl⟩
        rw [← hY] at y1 y2 y3 y4
        have y4' := y4 hXb (by omega)
        rw [← hY]
        refine bodyPost_ret (results_cell_row rfl _ _ (w.heap.size + 1) 28 _ (0, 0) _ rfl y1 Try.underlying28 rfl (by kernel_rfl)) rfl ?_
        obtain ⟨MS, A, hRN, hA⟩ := HI.out
        have hyl := (Array.getElem?_eq_some_iff.1 BY.out).1
        have hkeep : ∀ k, k ≠ w.heap.size → k ≠ w.heap.size + 1 → Y.heap[k]? = wr.heap[k]? := fun k h1 h2 => (y2 k h2).trans (hXo k h1)
        have hAk : ∀ k, A k → Y.heap[k]? = wr.heap[k]? := fun k hk => by
          rcases hA k hk with h | h
          · exact hkeep k (by omega) (by omega)
          · exact hkeep k (by omega) (by omega)
        have htk : (ts.take i).map Tn.bare = ts.map Tn.bare := by rw [HL.out, List.take_length]
        rw [htk] at hRN
        have hcap : i ≤ u3 ∧ u3 ≤ maxLen := by
          rcases hRN.row.2 with ⟨e, h0⟩ | ⟨g, cap, cur, e, _, _, h2, h3, _⟩
          · simp only [Value.slice.injEq] at e
            obtain ⟨_, rfl, rfl⟩ := e
            exact ⟨Nat.le_refl _, by simp [maxLen]⟩
          · simp only [Value.slice.injEq] at e
            obtain ⟨_, e2, rfl⟩ := e
            exact ⟨by omega, h3⟩
        have hwk : ∀ b, b < B → wr.heap[b]? = w0.heap[b]? := fun b hb => (BK.out.block b (by omega)).trans (HW.out b hb)
        have hTP := hRN.node (N := ⟨k, r1, r2, r3, a2, u1, i, u3, a4, a5, a6, a7, a8⟩) (R := R) ⟨HOK.out.k, HOK.out.a2, HOK.out.a4, HOK.out.a5, HOK.out.a7, HOK.out.a8, HOK.out.r, hcap⟩ HRL.out ((HRW.out wr hwk).kept (fun _ _ => rfl) (fun b hb => hRN.inA b hb)) hRk rfl
        refine ⟨⟨k, r1, r2, r3, a2, u1, i, u3, a4, a5, a6, a7, a8⟩, rfl, hTP.kept (fun b hb => ?_) (fun b hb => ?_), y4'⟩
        · rcases hb with hb | hb
          · exact hAk b hb
          · have := (hRN.row.lt b hb).1
            exact hkeep b (by omega) (by omega)
        · rcases hb with hb | hb
          · rcases hA b hb with h | h
            · exact .inl h
            · right; have := hRN.low b hb; omega
          · right; have := hRN.row.lt b hb; omega
end Go.Proofs.Ytnpocciioedgpaa
/- HELPERS: a tree that is turned, or without its groups, takes the same. -/
namespace Go.Proofs.Ytnpocciioedgpaa
open Go.RowKit
set_option linter.unusedVariables false
set_option linter.unusedSimpArgs false
mutual
/-- alternatives the other way round, loops lazy or not -/
inductive Trn : Tn → Tn → Prop
  | mk {k : Int} {R : List (Int × Int)} {a : Int} {s s' s2 : List Tn} {mn mx : Int} {lz lz' : Bool} {ix : Int} {nm : ByteArray} (h : TrnL s s') (hr : s2 = s' ∨ (k = 5 ∧ s2 = s'.reverse)) (hz : k ≠ 6 → lz' = lz) : Trn (.mk k R a s mn mx lz ix nm) (.mk k R a s2 mn mx lz' ix nm)
inductive TrnL : List Tn → List Tn → Prop
  | nil : TrnL [] []
  | cons {t t' : Tn} {ts ts' : List Tn} (h : Trn t t') (hs : TrnL ts ts') : TrnL (t :: ts) (t' :: ts')
end
theorem mtA_mem {tx : List Int} {p q : Nat} : ∀ {ts : List Tn}, MtA tx ts p q ↔ ∃ t ∈ ts, Mt tx t p q := by
  intro ts
  induction ts with
  | nil => simp [MtA]
  | cons t ts ih => simp [MtA, ih]
/-- THE TURNED TREE takes the same -/
theorem Trn.same {tx : List Int} {t t' : Tn} (h : Trn t t') : Mt tx t = Mt tx t' := by
  refine Trn.rec (motive_1 := fun t t' _ => Mt tx t = Mt tx t') (motive_2 := fun ts ts' _ => MtC tx ts = MtC tx ts' ∧ MtA tx ts = MtA tx ts' ∧ MtH tx ts = MtH tx ts') ?_ ?_ ?_ h
  · intro k R a s s' s2 mn mx lz lz' ix nm _ hr hz ih
    obtain ⟨h1, h2, h3⟩ := ih
    funext p q
    rcases hr with rfl | ⟨rfl, rfl⟩
    · simp only [Mt, h1, h2, h3]
    · have hA : MtA tx s p q ↔ MtA tx s'.reverse p q := by rw [h2, mtA_mem, mtA_mem]; simp
      simp [Mt, hA]
  · exact ⟨rfl, rfl, rfl⟩
  · intro t t' ts ts' _ _ h ⟨h1, h2, h3⟩
    refine ⟨?_, ?_, ?_⟩ <;> funext p q <;> simp only [MtC, MtA, MtH, h, h1, h2]
mutual
/-- THE TREE WITHOUT ITS GROUPS takes the same -/
theorem Tn.bare_same {tx : List Int} : ∀ (t : Tn), t.fine = true → Mt tx t.bare = Mt tx t
  | .mk k R a s mn mx lz ix nm, h => by
    simp only [Tn.fine, Bool.and_eq_true] at h
    have FN := fine_node h.1
    obtain ⟨h1, h2, h3⟩ := bareL_same (tx := tx) s h.2
    funext p q
    by_cases hk : k = 7
    · subst hk
      have hl := (FN.grp rfl).1
      match s, hl, h3 with
      | [t], _, h3 =>
        simp only [bareL, mtH_one] at h3
        simp [Tn.bare, bareL, Mt, mtH_one, h3]
    · simp [Tn.bare, hk, Mt, h1, h2, h3]
theorem bareL_same {tx : List Int} : ∀ (ts : List Tn), fineL ts = true → MtC tx (bareL ts) = MtC tx ts ∧ MtA tx (bareL ts) = MtA tx ts ∧ MtH tx (bareL ts) = MtH tx ts
  | [], _ => ⟨rfl, rfl, rfl⟩
  | t :: ts, hf => by
    simp only [fineL, Bool.and_eq_true] at hf
    have h := Tn.bare_same (tx := tx) t hf.1
    obtain ⟨h1, h2, h3⟩ := bareL_same (tx := tx) ts hf.2
    refine ⟨?_, ?_, ?_⟩ <;> funext p q <;> simp only [bareL, MtC, MtA, MtH, h, h1, h2]
end
theorem nodup_le : ∀ {l m : List Int}, l.Nodup → (∀ x ∈ l, x ∈ m) → l.length ≤ m.length := by
  intro l
  induction l with
  | nil => intro m _ _; simp
  | cons a l ih =>
    intro m hn hm
    simp only [List.nodup_cons] at hn
    have ha := hm a (by simp)
    have h1 := ih (m := m.erase a) hn.2 fun x hx => (List.mem_erase_of_ne (show x ≠ a from fun e => hn.1 (by rw [← e]; exact hx))).2 (hm x (by simp [hx]))
    rw [List.length_erase_of_mem ha] at h1
    have := List.length_pos_of_mem ha
    simp only [List.length_cons]
    omega
/-- the parses of trees that take the same have the same ends -/
theorem PS.same {t u : Tn} {K K' : Nat} {tx : List Int} {p : Nat} {l m : List (Int × List Int)} (h : PS t K tx p l) (h' : PS u K' tx p m) (hM : Mt tx t = Mt tx u) : (∀ q : Int, q ∈ l.map Prod.fst ↔ q ∈ m.map Prod.fst) ∧ l.length = m.length := by
  obtain ⟨a1, a2, a3⟩ := h.ends
  obtain ⟨b1, b2, b3⟩ := h'.ends
  have key : ∀ q : Int, q ∈ l.map Prod.fst ↔ q ∈ m.map Prod.fst := by
    intro q
    constructor
    · intro hq
      have hq' := hq
      simp only [List.mem_map] at hq
      obtain ⟨e, he, rfl⟩ := hq
      obtain ⟨x, hx⟩ := a2 e he
      rw [hx] at hq' ⊢
      exact (b3 x).2 (hM ▸ (a3 x).1 hq')
    · intro hq
      have hq' := hq
      simp only [List.mem_map] at hq
      obtain ⟨e, he, rfl⟩ := hq
      obtain ⟨x, hx⟩ := b2 e he
      rw [hx] at hq' ⊢
      exact (a3 x).2 (hM ▸ (b3 x).1 hq')
  refine ⟨key, ?_⟩
  have h1 := nodup_le a1 (fun q hq => (key q).1 hq)
  have h2 := nodup_le b1 (fun q hq => (key q).2 hq)
  simp only [List.length_map] at h1 h2
  omega
end Go.Proofs.Ytnpocciioedgpaa
/- HELPERS: a tree that is turned, or without its groups, may be where the tree may. -/
namespace Go.Proofs.Ytnpocciioedgpaa
open Go.RowKit
set_option linter.unusedVariables false
set_option linter.unusedSimpArgs false
theorem repN_mono {mn mx : Int} {a b : Nat} (h : a ≤ b) : repN mn mx a ≤ repN mn mx b := by
  unfold repN
  split
  · have := Nat.mul_le_mul_left (max mn.toNat 1) h
    omega
  · have h1 := Nat.mul_le_mul_left mn.toNat h
    have h2 := Nat.mul_le_mul_left (mx - mn).toNat (show 1 + a ≤ 1 + b by omega)
    omega
/-- no more than another in all that bounds -/
structure Less (u t : Tn) : Prop where
  fine : u.fine = true
  nodes : u.nodes ≤ t.nodes
  depth : u.depth ≤ t.depth
  sz : u.sz ≤ t.sz
theorem Less.sound {u t : Tn} (h : Less u t) (ht : t.sound = true) : u.sound = true := by
  obtain ⟨_, h2, h3⟩ := sound_parts ht
  have := h.nodes
  have := h.depth
  simp only [Tn.sound, h.fine, Bool.true_and, Bool.and_eq_true, decide_eq_true_eq]
  exact ⟨by omega, by omega⟩
mutual
theorem Tn.bare_less : ∀ (t : Tn), t.fine = true → Less t.bare t
  | .mk k R a s mn mx lz ix nm, h => by
    simp only [Tn.fine, Bool.and_eq_true] at h
    have FN := fine_node h.1
    obtain ⟨h1, h2, h3, h4, h5⟩ := bareL_less s h.2
    by_cases hk : k = 7
    · subst hk
      have hl := (FN.grp rfl).1
      obtain ⟨t, rfl⟩ : ∃ t, s = [t] := List.length_eq_one_iff.1 hl
      simp only [bareL, fineL, nodesL, depthL, szL, Bool.and_true, Nat.add_zero, Nat.max_zero] at h1 h2 h3 h4
      refine ⟨?_, ?_, ?_, ?_⟩ <;> simp [Tn.bare, bareL, Tn.nodes, Tn.depth, Tn.sz, nodesL, depthL, szL, h1] <;> omega
    · have e : (Tn.mk k R a s mn mx lz ix nm).bare = .mk k R a (bareL s) mn mx lz ix nm := by simp [Tn.bare, hk]
      rw [e]
      refine ⟨?_, ?_, ?_, ?_⟩
      · simp only [Tn.fine, Bool.and_eq_true]
        exact ⟨by rw [h5]; exact h.1, h1⟩
      · simp only [Tn.nodes]; omega
      · simp only [Tn.depth]; omega
      · simp only [Tn.sz]
        split
        · exact repN_mono h4
        · omega
theorem bareL_less : ∀ (ts : List Tn), fineL ts = true → fineL (bareL ts) = true ∧ nodesL (bareL ts) ≤ nodesL ts ∧ depthL (bareL ts) ≤ depthL ts ∧ szL (bareL ts) ≤ szL ts ∧ (bareL ts).length = ts.length
  | [], _ => by simp [bareL, fineL]
  | t :: ts, h => by
    simp only [fineL, Bool.and_eq_true] at h
    have h0 := t.bare_less h.1
    obtain ⟨h1, h2, h3, h4, h5⟩ := bareL_less ts h.2
    have := h0.nodes
    have := h0.depth
    have := h0.sz
    refine ⟨by simp [bareL, fineL, h0.fine, h1], ?_, ?_, ?_, by simp [bareL, h5]⟩ <;> simp only [bareL, nodesL, depthL, szL] <;> omega
end
/-- rows in the other order -/
theorem fineL_all (ts : List Tn) : fineL ts = ts.all Tn.fine := by
  induction ts with
  | nil => rfl
  | cons t ts ih => simp [fineL, ih]
theorem nodesL_app (ts us : List Tn) : nodesL (ts ++ us) = nodesL ts + nodesL us := by
  induction ts with
  | nil => simp [nodesL]
  | cons t ts ih => simp only [List.cons_append, nodesL, ih]; omega
theorem szL_app (ts us : List Tn) : szL (ts ++ us) = szL ts + szL us := by
  induction ts with
  | nil => simp [szL]
  | cons t ts ih => simp only [List.cons_append, szL, ih]; omega
theorem depthL_app (ts us : List Tn) : depthL (ts ++ us) = max (depthL ts) (depthL us) := by
  induction ts with
  | nil => simp [depthL]
  | cons t ts ih => simp only [List.cons_append, depthL, ih]; omega
theorem rev_same (ts : List Tn) : fineL ts.reverse = fineL ts ∧ nodesL ts.reverse = nodesL ts ∧ depthL ts.reverse = depthL ts ∧ szL ts.reverse = szL ts := by
  refine ⟨by rw [fineL_all, fineL_all, List.all_reverse], ?_⟩
  induction ts with
  | nil => simp
  | cons t ts ih =>
    obtain ⟨h1, h2, h3⟩ := ih
    rw [List.reverse_cons, nodesL_app, depthL_app, szL_app, h1, h2, h3]
    simp only [nodesL, depthL, szL]
    exact ⟨by omega, by omega, by omega⟩
theorem nodeB_lazy {R : List (Int × Int)} {a : Int} {n : Nat} {mn mx : Int} {lz lz' : Bool} {ix : Int} {nm : ByteArray} : nodeB 6 R a n mn mx lz ix nm = nodeB 6 R a n mn mx lz' ix nm := by
  simp [nodeB, bareB]
/-- the turned tree may be where the tree may -/
theorem Trn.less {t t' : Tn} (h : Trn t t') : t.fine = true → Less t' t := by
  refine Trn.rec (motive_1 := fun t t' _ => t.fine = true → Less t' t) (motive_2 := fun ts ts' _ => fineL ts = true → fineL ts' = true ∧ nodesL ts' ≤ nodesL ts ∧ depthL ts' ≤ depthL ts ∧ szL ts' ≤ szL ts ∧ ts'.length = ts.length) ?_ ?_ ?_ h
  · intro k R a s s' s2 mn mx lz lz' ix nm _ hr hz ih hf
    simp only [Tn.fine, Bool.and_eq_true] at hf
    obtain ⟨h1, h2, h3, h4, h5⟩ := ih hf.2
    obtain ⟨g1, g2, g3, g4, g5⟩ : fineL s2 = true ∧ nodesL s2 ≤ nodesL s ∧ depthL s2 ≤ depthL s ∧ szL s2 ≤ szL s ∧ s2.length = s.length := by
      rcases hr with rfl | ⟨_, rfl⟩
      · exact ⟨h1, h2, h3, h4, h5⟩
      · obtain ⟨r1, r2, r3, r4⟩ := rev_same s'
        exact ⟨by rw [r1]; exact h1, by omega, by omega, by omega, by simp [h5]⟩
    have hn : nodeB k R a s2.length mn mx lz' ix nm = true := by
      rw [g5]
      by_cases hk : k = 6
      · subst hk
        rw [nodeB_lazy (lz' := lz)]
        exact hf.1
      · rw [hz hk]
        exact hf.1
    refine ⟨?_, ?_, ?_, ?_⟩
    · simp only [Tn.fine, Bool.and_eq_true]
      exact ⟨hn, g1⟩
    · simp only [Tn.nodes]; omega
    · simp only [Tn.depth]; omega
    · simp only [Tn.sz]
      split
      · exact repN_mono g4
      · omega
  · intro _; simp [fineL]
  · intro t t' ts ts' _ _ h hs hf
    simp only [fineL, Bool.and_eq_true] at hf
    have h0 := h hf.1
    obtain ⟨h1, h2, h3, h4, h5⟩ := hs hf.2
    have := h0.nodes
    have := h0.depth
    have := h0.sz
    refine ⟨by simp [fineL, h0.fine, h1], ?_, ?_, ?_, by simp [h5]⟩ <;> simp only [nodesL, depthL, szL] <;> omega
end Go.Proofs.Ytnpocciioedgpaa
/- HELPERS: a tree turned: alternatives the other way round, loops lazy or not. -/
namespace Go.Proofs.Ytnpocciioedgpaa
open Go.RowKit
set_option linter.unusedVariables false
set_option linter.unusedSimpArgs false
theorem nodesL_take : ∀ (ts : List Tn) (i : Nat) (hi : i < ts.length), nodesL (ts.take (i + 1)) = nodesL (ts.take i) + ts[i].nodes := fun ts i hi => by
  rw [List.take_succ_eq_append_getElem hi, nodesL_app]
  simp [nodesL]
theorem nodesL_take_le (ts : List Tn) (i : Nat) : nodesL (ts.take i) ≤ nodesL ts := by
  have := nodesL_app (ts.take i) (ts.drop i)
  rw [List.take_append_drop] at this
  omega
theorem TrnL.snoc {t t' : Tn} (h : Trn t t') : ∀ {ts ts' : List Tn}, TrnL ts ts' → TrnL (ts ++ [t]) (ts' ++ [t']) := by
  intro ts
  induction ts with
  | nil => intro ts' hs; cases hs; exact .cons h .nil
  | cons u us ih => intro ts' hs; cases hs with | cons h1 h2 => exact .cons h1 (ih h2)
theorem TrnL.len : ∀ {ts ts' : List Tn}, TrnL ts ts' → ts.length = ts'.length := by
  intro ts
  induction ts with
  | nil => intro ts' hs; cases hs; rfl
  | cons u us ih => intro ts' hs; cases hs with | cons h1 h2 => simp [ih h2]
theorem res23 (tmps : Array Value) (w : World) (tb : Nat) (cs : Array Value) (v : Value) (h6 : tmps.getD 6 undef = .pointer (some ⟨tb, 0, none⟩)) (h7 : tmps.getD 7 undef = v) (ht : w.heap[tb]? = some (.cells cs 28 (0, 0))) (h9 : cs.size = 9) :
    (results Try.f23 tmps).run Try.prog w = .ok (.tuple #[.agg cs, v]) w := by
  have h28 : (Try.prog.info? 28).map (fun i => i.size) = some cs.size := by
    rw [h9]
    kernel_rfl
  have hl := run_loadVar_row (P := Try.prog) w tb 28 28 cs (0, 0) _ ht Try.underlying28 rfl h28
  have h6' : tmps[6]?.getD undef = .pointer (some ⟨tb, 0, none⟩) := by simpa using h6
  have h7' : tmps[7]?.getD undef = v := by simpa using h7
  simp [results, Try.results23, h6', h7', asAddr, hl, Result.andThen]
/-- one more, with the node's own box between -/
theorem RowN.next' {base B : Nat} {w w2 X w3 : World} {uv v' : Value} {MS : List Nv} {us : List Tn} {A : Nat → Prop} (h : RowN base B w uv MS us A) {M : Nv} {u : Tn} (hb : Below w.heap.size w w2) (hM : TP w2 (fun b => b < B ∨ w.heap.size ≤ b ∧ b < w2.heap.size) M u) (hX : Below w2.heap.size w2 X) (o : Obj)
    (ho : w3.ownsRow base 28 9 v' (MS.length + 1) (MS.flatMap Nv.cs ++ Nv.cs M)) (hm : Moved (X.alloc o) w3 uv v') : RowN base B w3 v' (MS ++ [M]) (us ++ [u]) (fun b => A b ∨ w.heap.size ≤ b ∧ b < X.heap.size) := by
  have hs := hX.size
  have hs2 := hb.size
  have hBs : ∀ b, b < B → b < w.heap.size := fun b hb => h.low b (h.inA b hb)
  refine h.next (Nat.le_refl _) (fun b hb => rfl) (hb.trans (Joins.below_le hX hb.size)) (hM.kept (fun b hb => ?_) (fun b hb => ?_)) o ho hm
  · exact hX.block b (by rcases hb with hb | hb; have := hBs b hb; omega; omega)
  · rcases hb with hb | hb
    · exact .inl hb
    · exact .inr ⟨hb.1, by omega⟩
/-- one more that is there already -/
theorem RowN.push {base B : Nat} {w w3 : World} {uv v' : Value} {MS : List Nv} {us : List Tn} {A : Nat → Prop} (h : RowN base B w uv MS us A) {M : Nv} {u : Tn} (hM : TP w A M u) (o : Obj)
    (ho : w3.ownsRow base 28 9 v' (MS.length + 1) (MS.flatMap Nv.cs ++ Nv.cs M)) (hm : Moved (w.alloc o) w3 uv v') : RowN base B w3 v' (MS ++ [M]) (us ++ [u]) A := by
  have e3 : ∀ k, k < w.heap.size → uv.ownBlock ≠ some k → w3.heap[k]? = w.heap[k]? := fun k hk hn => (moved_old' hm (by simp; omega) hn).trans (heap_alloc_old w o hk)
  have hs3 : w.heap.size ≤ w3.heap.size := by rcases hm with ⟨_, h⟩ | ⟨_, h⟩ <;> (have := h.size; simp at this; omega)
  have hk : ∀ b, A b → w3.heap[b]? = w.heap[b]? := fun b hA => e3 b (h.low b hA) (fun e => h.out b e hA)
  have hl := h.len
  refine ⟨?_, by simp [h.len], fun j hj hj' => ?_, h.inA, fun b hA => by have := h.low b hA; omega, fun b hb hA => ?_⟩
  · rw [List.length_append, List.flatMap_append]
    simpa using ho
  · by_cases hjl : j < us.length
    · rw [List.getElem_append_left (by omega), List.getElem_append_left hjl]
      exact (h.tp j hjl (by omega)).kept hk (fun b hA => hA)
    · simp only [List.length_append, List.length_cons, List.length_nil] at hj hj'
      have e : j = us.length := by omega
      subst e
      rw [List.getElem_append_right (by omega), List.getElem_append_right (Nat.le_refl _)]
      simp only [Nat.sub_self, hl, List.getElem_cons_zero]
      exact hM.kept hk (fun b hA => hA)
  · rcases hm with ⟨h0, _⟩ | ⟨h0, _⟩
    · rw [h0] at hb
      exact h.out b hb hA
    · rw [h0] at hb
      simp at hb
      have := h.low b hA
      omega
/-- the node that is handed back -/
theorem fin23 {w wr X Y : World} {B base : Nat} {k a2 a4 a5 a7 : Int} {a6 lz : Bool} {a8 : ByteArray} {r1 u1 s1 : Option Addr} {r2 r3 n u3 s2 s3 : Nat} {R : List (Int × Int)} {us : List Tn} {MS : List Nv} {A : Nat → Prop} (hB : B ≤ w.heap.size) (hbase : w.heap.size + 1 + 1 ≤ base)
    (hRN : RowN base B wr (.slice u1 n u3) MS us A) (hA : ∀ b, A b → b < B ∨ w.heap.size + 1 + 1 ≤ b) (ok : Nv.ok ⟨k, r1, r2, r3, a2, s1, s2, s3, a4, a5, a6, a7, a8⟩) (hr : r2 = R.length) (hR : RP wr (fun b => b < B) r1 R) (hRk : ∀ x ∈ R, I64ok x.1 ∧ I64ok x.2)
    (hX : ∀ j, j ≠ w.heap.size → X.heap[j]? = wr.heap[j]?) (hY : ∀ j, j ≠ w.heap.size + 1 → Y.heap[j]? = X.heap[j]?) (hYs : Y.heap.size = wr.heap.size) :
    TP Y (fun b => b < B ∨ w.heap.size ≤ b ∧ b < Y.heap.size) ⟨k, r1, r2, r3, a2, u1, n, u3, a4, a5, lz, a7, a8⟩ (.mk k R a2 us a4 a5 lz a7 a8) := by
  have hkeep : ∀ k, k ≠ w.heap.size → k ≠ w.heap.size + 1 → Y.heap[k]? = wr.heap[k]? := fun k h1 h2 => (hY k h2).trans (hX k h1)
  have hAk : ∀ k, A k → Y.heap[k]? = wr.heap[k]? := fun k hk => by
    rcases hA k hk with h | h
    · exact hkeep k (by omega) (by omega)
    · exact hkeep k (by omega) (by omega)
  have hcap : n ≤ u3 ∧ u3 ≤ maxLen := by
    rcases hRN.row.2 with ⟨e, h0⟩ | ⟨g, cap, cur, e, _, _, h2, h3, _⟩
    · simp only [Value.slice.injEq] at e
      obtain ⟨_, rfl, rfl⟩ := e
      exact ⟨Nat.le_refl _, by simp [maxLen]⟩
    · simp only [Value.slice.injEq] at e
      obtain ⟨_, e2, rfl⟩ := e
      exact ⟨by omega, h3⟩
  have hTP := hRN.node (N := ⟨k, r1, r2, r3, a2, u1, n, u3, a4, a5, lz, a7, a8⟩) (R := R) ⟨ok.k, ok.a2, ok.a4, ok.a5, ok.a7, ok.a8, ok.r, hcap⟩ hr (hR.kept (fun _ _ => rfl) (fun b hb => hRN.inA b hb)) hRk rfl
  refine hTP.kept (fun b hb => ?_) (fun b hb => ?_)
  · rcases hb with hb | hb
    · exact hAk b hb
    · have := (hRN.row.lt b hb).1
      exact hkeep b (by omega) (by omega)
  · rcases hb with hb | hb
    · rcases hA b hb with h | h
      · exact .inl h
      · right; have := hRN.low b hb; omega
    · right; have := hRN.row.lt b hb; omega
/-- a node of a row, cell by cell -/
theorem RowN.cells {base B : Nat} {w : World} {b n cap : Nat} {MS : List Nv} {us : List Tn} {A : Nat → Prop} (h : RowN base B w (.slice (some ⟨b, 0, none⟩) n cap) MS us A) (p : Nat) (hp : p < MS.length) : N9 w b 0 p MS[p] := by
  have hrow := h.row
  have hn : n = MS.length := by
    rcases hrow.2 with ⟨e, h0⟩ | ⟨g, cap, cur, e, _⟩
    · cases e
    · simp only [Value.slice.injEq] at e
      exact e.2.1
  subst hn
  have c : ∀ k, k < 9 → w.cell? ⟨b, 0 + p * 9 + k, none⟩ = (Nv.cs MS[p])[k]? := fun k hk => by
    rw [Nat.zero_add, hrow.cellAt (p * 9 + k) (by omega), flat9 MS p k hp hk]
  exact ⟨c 0 (by omega), c 1 (by omega), c 2 (by omega), c 3 (by omega), c 4 (by omega), c 5 (by omega), c 6 (by omega), c 7 (by omega), c 8 (by omega)⟩
set_option maxRecDepth 100000 in
set_option maxHeartbeats 8000000 in
theorem turned23 {w0 : World} {B : Nat} {N : Nv} {t : Tn} (h : TI w0 B N t) (raw : List Int) (rad : Option Addr) (rn rcap : Nat) (hraw : Look.TextAt B w0 rad rn raw) : t.fine = true → ∀ (n0 : Int), 0 ≤ n0 → n0 + t.nodes ≤ 1000000 → ∀ (w : World), B ≤ w.heap.size → (∀ b, b < B → w.heap[b]? = w0.heap[b]?) →
    Calls Try.prog 23 #[N.v, .slice rad rn rcap, .int .i64 n0] w fun e w' => ∃ (M : Nv) (u : Tn) (m : Int), e = .returned (.tuple #[M.v, .int .i64 m]) ∧ TP w' (fun b => b < B ∨ w.heap.size ≤ b ∧ b < w'.heap.size) M u ∧ Trn t u ∧ (n0 ≤ m ∧ m ≤ n0 + t.nodes) ∧ Below w.heap.size w w' := by
  induction h with
  | @mk N R ts ND ok hr hR hRk hs hS hk ih =>
  intro hf n0 hn0 hno w hB hw
  simp only [Tn.fine, Bool.and_eq_true] at hf
  simp only [Tn.nodes] at hno ⊢
  have hfg := fineL_get hf.2
  have IH : ∀ i (hi : i < ts.length) (n : Int), 0 ≤ n → n + ts[i].nodes ≤ 1000000 → ∀ (w : World), B ≤ w.heap.size → (∀ b, b < B → w.heap[b]? = w0.heap[b]?) → Calls Try.prog 23 #[(ND i).v, .slice rad rn rcap, .int .i64 n] w fun e w' => ∃ (M : Nv) (u : Tn) (m : Int), e = .returned (.tuple #[M.v, .int .i64 m]) ∧ TP w' (fun b => b < B ∨ w.heap.size ≤ b ∧ b < w'.heap.size) M u ∧ Trn ts[i] u ∧ (n ≤ m ∧ m ≤ n + ts[i].nodes) ∧ Below w.heap.size w w' := fun i hi => ih i hi (hfg i hi)
  have hlen : ts.length ≤ 1000000 := by have := nodes_ge ts; omega
  have hRw : ∀ w1 : World, (∀ b, b < B → w1.heap[b]? = w0.heap[b]?) → RP w1 (fun b => b < B) N.r1 R := fun w1 h1 => (show RP w0 (fun b => b < B) N.r1 R from hR).kept h1 (fun b hb => hb)
  have hok := ok
  have HRL0 := hid hr
  obtain ⟨k, r1, r2, r3, a2, s1, s2, s3, a4, a5, a6, a7, a8⟩ := N
  simp only at hs hS
  have hflip : ∃ (x : Int) (rb ro : Nat), n0 < (rn : Int) → rad = some ⟨rb, ro, none⟩ ∧ rb < B ∧ w.cell? ⟨rb, ro + n0.toNat, none⟩ = some (.int .i64 x) := by
    by_cases hl : n0 < (rn : Int)
    · rcases hraw.2.2 with h0 | ⟨b, off, ha, hb, hc⟩
      · omega
      · exact ⟨_, b, off, fun _ => ⟨ha, hb, (cell_eq (hw b hb) _).trans (hc n0.toNat (by omega))⟩⟩
    · exact ⟨0, 0, 0, fun h => absurd h hl⟩
  have HW := hid hw
  have HS := hid hS
  have HIH := hid IH
  have HL := hid hs
  have HRW := hid hRw
  have HNO := hid hno
  have HFL := hid hflip
  obtain ⟨i0, hi0, hz0, hz1, hz2⟩ := info_parts info28
  have HOK := hid hok
  have HRL : Hid (r2 = R.length) := HRL0.out
  have hn1 : n0 ≤ 1000000 := by omega
  have hm2 : s2 ≤ 1000000 := by omega
  clear HRL0 ok hr hR hk hS hw ih hs hf hfg IH hRw hlen hok hno hflip hraw
  have ad0 : IntKind.i64.wrap (n0 + 1) = n0 + 1 := by simp [IntKind.wrap, IntKind.bits, IntKind.signed]; omega
  go_enter Try.func23, Try.ntmps23
  go_upto_region 1 with fail
  go_cut [8] from 15 to 26 (fun x wx => ∃ fl : Bool, x = .bool fl ∧ wx = (w.alloc (.cells #[.int .i64 k, .slice r1 r2 r3, .int .i64 a2, .slice s1 s2 s3, .int .i64 a4, .int .i64 a5, .bool a6, .int .i64 a7, .string a8] 28)).alloc (.cells #[.int .i64 0, .slice none 0 0, .int .i64 0, .slice none 0 0, .int .i64 0, .int .i64 0, .bool false, .int .i64 0, .string ⟨#[]⟩] 28))
  case first =>
    by_cases hl : n0 < (rn : Int)
    · obtain ⟨x, rb, ro, hx⟩ := HFL.out
      obtain ⟨rfl, hrb, hc⟩ := hx hl
      have b1 : decide (n0 < (rn : Int)) = true := by simp; omega
      have hrb2 : rb < w.heap.size := by omega
      have b0 : (0 : Int) ≤ n0 := hn0
      go_wp2
      go_meet
      exact ⟨_, rfl, rfl⟩
    · have b1 : decide (n0 < (rn : Int)) = false := by simp; omega
      go_wp2
      go_meet
      exact ⟨_, rfl, rfl⟩
  case rest =>
  obtain ⟨fl, rfl, rfl⟩ := hcut
  clear HFL
  go_wp2_with fail
  go_loopw [2, 9, 10] (fun nx u y wq => ∃ (i : Nat) (m : Int) (u1 : Option Addr) (u3 : Nat), nx = .int .i64 m ∧ u = .slice u1 i u3 ∧ y = .int .i64 (i : Int) ∧ i ≤ s2 ∧ (n0 + 1 ≤ m ∧ m ≤ 1000000) ∧ Hid (m ≤ n0 + 1 + (nodesL (ts.take i) : Nat)) ∧ Hid (∃ MS us A, RowN (w.heap.size + 1 + 1) B wq (.slice u1 i u3) MS us A ∧ TrnL (ts.take i) us ∧ ∀ b, A b → b < B ∨ w.heap.size + 1 + 1 ≤ b) ∧ Hid (Below w.heap.size w wq) ∧ Hid (wq.heap[w.heap.size]? = some (.cells #[.int .i64 k, .slice r1 r2 r3, .int .i64 a2, .slice s1 s2 s3, .int .i64 a4, .int .i64 a5, .bool a6, .int .i64 a7, .string a8] 28 (0, 0))) ∧ Hid (wq.heap[w.heap.size + 1]? = some (.cells #[.int .i64 0, .slice none 0 0, .int .i64 0, .slice none 0 0, .int .i64 0, .int .i64 0, .bool false, .int .i64 0, .string ⟨#[]⟩] 28 (0, 0)))) (fun _ _ y _ => s2 - (intOf y).toNat)
  case atStart => exact ⟨0, n0 + 1, none, 0, rfl, rfl, rfl, by omega, by have := HNO.out; omega, by show _ ≤ _; simp [nodesL], by exact ⟨[], [], _, RowN.nil _ B _ (by simp; omega), .nil, fun b hb => .inl hb⟩, below_two' w _ _, (heap_alloc_old _ _ (by simp)).trans (heap_alloc_new w _), two_new w _ _ _⟩
  case round =>
    obtain ⟨i, m, u1, u3, rfl, rfl, rfl, hi, hmb, HMB, HI, BK, BX, BY⟩ := hrel
    obtain ⟨o0, o1, o2, o3, o4, o5, o6, o7, o8⟩ := nine' BX.out
    by_cases hil : i < s2
    · have b1 : decide ((i : Int) < (s2 : Int)) = true := by simp; omega
      have b2 : (i : Int) < (s2 : Int) := by omega
      have hlt : i < ts.length := by rw [← HL.out]; exact hil
      obtain ⟨b, o, hs1, hb, hc⟩ := HS.out (by omega)
      subst hs1
      have hwk : ∀ b, b < B → wr.heap[b]? = w0.heap[b]? := fun b hb => (BK.out.block b (by omega)).trans (HW.out b hb)
      obtain ⟨n0', n1', n2', n3', n4', n5', n6', n7', n8'⟩ := (hc i hlt).kept (hwk b hb)
      have HC := HIH.out i hlt m (by omega) (by have := HMB.out; have := HNO.out; have h1 := nodesL_take ts i hlt; have h2 := nodesL_take_le ts (i + 1); omega) wr (by have := BK.out.size; omega) hwk
      obtain ⟨MS, us, A, hRN, hTL, hA⟩ := HI.out
      obtain ⟨P, hP⟩ : ∃ P, P = ND i := ⟨_, rfl⟩
      rw [← hP] at HC n0' n1' n2' n3' n4' n5' n6' n7' n8'
      have ad1 : IntKind.i64.wrap ((i : Int) + 1) = (i : Int) + 1 := by simp [IntKind.wrap, IntKind.bits, IntKind.signed]; omega
      have hml : MS.length = i := by have := hRN.len; have h1 := hTL.len; simp at h1; omega
      have HRN := hid hRN
      have HTL := hid hTL
      have HA := hid hA
      have HML := hid hml
      clear hP hwk hc hRN hA hml HI hTL
      go_upto_region 8 with (first | (go_at_call 23; (with_reducible refine HC.mono ?_); rintro e w2 ⟨M, u, m2, rfl, hM, hT, hm2', hb2⟩; have HM := hid hM; have HT := hid hT; have HB2 := hid hb2; have HM2 := hid hm2'; clear hM hT hb2 hm2' HC))
      obtain ⟨X, hX⟩ : ∃ X, X = w2.alloc (.cells #[.int .i64 M.k, .slice M.r1 M.r2 M.r3, .int .i64 M.a2, .slice M.s1 M.s2 M.s3, .int .i64 M.a4, .int .i64 M.a5, .bool M.a6, .int .i64 M.a7, .string M.a8] 28) := ⟨_, rfl⟩
      rw [← hX]
      have hXb : Below w2.heap.size w2 X := by rw [hX]; exact Joins.below_alloc1 w2 _
      have hXs : X.heap.size = w2.heap.size + 1 := by rw [hX]; simp
      have hXn : X.heap[w2.heap.size]? = some (.cells #[.int .i64 M.k, .slice M.r1 M.r2 M.r3, .int .i64 M.a2, .slice M.s1 M.s2 M.s3, .int .i64 M.a4, .int .i64 M.a5, .bool M.a6, .int .i64 M.a7, .string M.a8] 28 (0, 0)) := by rw [hX]; exact heap_alloc_new w2 _
      obtain ⟨x0, x1, x2, x3, x4, x5, x6, x7, x8⟩ := nine' hXn
      have hrow2 : X.ownsRow (w.heap.size + 1 + 1) 28 9 (.slice u1 i u3) i (MS.flatMap Nv.cs) := by
        have h := row_kept HRN.out.row (w' := X) (fun b hb => (hXb.block b (by have := (HRN.out.row.lt b hb).2; have := HB2.out.size; omega)).trans (HB2.out.block b (HRN.out.row.lt b hb).2))
        rw [HML.out] at h
        exact h
      have HR2 := hid hrow2
      have HXB := hid hXb
      have HXS := hid hXs
      have hsX : w.heap.size + 1 + 1 ≤ X.heap.size := by have := HB2.out.size; have := (Array.getElem?_eq_some_iff.1 BY.out).1; omega
      clear hX hXb hXs hXn hrow2
      go_wp2_with (first | (at_builtin; refine wpList_append_moveN rfl (.tmp 48) (.tmp 50) 26 rfl (w.heap.size + 1 + 1) 28 i0 Z9 9 112 Try.underlying26 hi0 hz0 hz1 hz2 rfl (by decide) (.slice u1 i u3) i (MS.flatMap Nv.cs) rfl (HR2.out.alloc _) ⟨X.heap.size, 0, none⟩ 1 1 (Nv.cs M) rfl rfl (by decide) (news9 X M) (one9 M) (by unfold maxLen; omega) (by omega) (by simp; omega) ?_; intro v' w3 ho3 hm3; obtain ⟨vb, vc, rfl⟩ := Joins.ownsRow_form ho3.out (by omega)))
      have hold : ∀ k, k < w.heap.size + 1 + 1 → w3.heap[k]? = wr.heap[k]? := fun k hk => by
        have hyl := (Array.getElem?_eq_some_iff.1 BY.out).1
        have hne : (Value.slice u1 i u3).ownBlock ≠ some k := fun e => by have := (HRN.out.row.lt k e).1; omega
        have := HB2.out.size
        have := HXS.out
        exact (moved_old' hm3.out (by simp; omega) hne).trans ((heap_alloc_old X _ (by omega)).trans ((HXB.out.block k (by omega)).trans (HB2.out.block k (by omega))))
      have hs3 : X.heap.size ≤ w3.heap.size := by rcases hm3.out with ⟨_, h⟩ | ⟨_, h⟩ <;> (have := h.size; simp at this; omega)
      have hbel : Below w.heap.size w w3 := by
        have hsz := BK.out.size
        have hsz2 := HB2.out.size
        have hsx := HXS.out
        refine ⟨?_, ?_, ?_, by omega, fun k hk => (hold k (by omega)).trans (BK.out.block k hk)⟩
        · rcases hm3.out with ⟨_, h⟩ | ⟨_, h⟩ <;> exact h.os.trans (HXB.out.os.trans (HB2.out.os.trans BK.out.os))
        · rcases hm3.out with ⟨_, h⟩ | ⟨_, h⟩ <;> exact h.tape.trans (HXB.out.tape.trans (HB2.out.tape.trans BK.out.tape))
        · rcases hm3.out with ⟨_, h⟩ | ⟨_, h⟩ <;> exact h.output.trans (HXB.out.output.trans (HB2.out.output.trans BK.out.output))
      have hnx := HRN.out.next' HB2.out HM.out HXB.out _ (by rw [HML.out]; exact ho3.out) hm3.out
      have hex : ∃ MS us A, RowN (w.heap.size + 1 + 1) B w3 (.slice (some ⟨vb, 0, none⟩) (i + 1) vc) MS us A ∧ TrnL (ts.take (i + 1)) us ∧ ∀ b, A b → b < B ∨ w.heap.size + 1 + 1 ≤ b := by
        refine ⟨MS ++ [M], us ++ [u], _, hnx, ?_, fun b hb => ?_⟩
        · rw [List.take_succ_eq_append_getElem hlt]
          exact HTL.out.snoc HT.out
        · rcases hb with hb | hb
          · exact HA.out b hb
          · right; have := (Array.getElem?_eq_some_iff.1 BY.out).1; omega
      have hmb2 : m2 ≤ n0 + 1 + (nodesL (ts.take (i + 1)) : Nat) := by have := HM2.out.2; have := HMB.out; have h1 := nodesL_take ts i hlt; omega
      have hmb3 : m2 ≤ 1000000 := by have h2 := nodesL_take_le ts (i + 1); have := HNO.out; omega
      exact ⟨⟨i + 1, m2, _, _, rfl, rfl, by push_cast; rfl, by omega, ⟨by have := HM2.out.1; omega, hmb3⟩, hmb2, hex, hbel, (hold _ (by omega)).trans BX.out, (hold _ (by omega)).trans BY.out⟩, by simp [intOf]; omega⟩
    · have b1 : decide ((i : Int) < (s2 : Int)) = false := by simp; omega
      obtain rfl : i = s2 := by omega
      obtain ⟨MS, us, A, hRN, hTL, hA⟩ := HI.out
      have htk : ts.take i = ts := by rw [HL.out, List.take_length]
      rw [htk] at hTL
      have hmb2 : m ≤ n0 + ((1 + nodesL ts : Nat) : Int) := by have := HMB.out; rw [htk] at this; push_cast; omega
      have hml : MS.length = i := by have := hRN.len; have h1 := hTL.len; have := HL.out; omega
      have HRN := hid hRN
      have HTL := hid hTL
      have HA := hid hA
      have HML := hid hml
      clear HI hRN hTL hA hml htk HMB HIH HNO
      by_cases c5 : fl = true ∧ k = 5
      · obtain ⟨rfl, rfl⟩ := c5
        obtain ⟨W1, hW1⟩ : ∃ W1, W1 = wr := ⟨_, rfl⟩
        subst hW1
        have hul := HRN.out.len
        have HUL := hid hul
        clear hul
        have sb : IntKind.i64.wrap ((i : Int) - 1) = (i : Int) - 1 := by simp [IntKind.wrap, IntKind.bits, IntKind.signed]; omega
        go_wp2_with fail
        go_loopw [13, 14] (fun u y wq => ∃ (j q : Nat) (z : Int) (v1 : Option Addr) (v3 : Nat), u = .slice v1 j v3 ∧ y = .int .i64 z ∧ Hid (z = (q : Int) - 1) ∧ (-1 ≤ z ∧ z < 1000000) ∧ Hid (j + q = i) ∧ Hid (∃ MS' us', RowN W1.heap.size B wq (.slice v1 j v3) MS' us' A ∧ MS' = MS.reverse.take j ∧ us' = us.reverse.take j) ∧ Hid (RowN (w.heap.size + 1 + 1) B wq (.slice u1 i u3) MS us A) ∧ Hid (Below w.heap.size w wq) ∧ Hid (Below W1.heap.size W1 wq)) (fun _ y _ => ((intOf y) + 1).toNat)
        case atStart => exact ⟨0, i, (i : Int) - 1, none, 0, rfl, rfl, by exact rfl, by omega, by show _ = _; omega, by exact ⟨[], [], ⟨World.ownsRow_nil _ _ _ _, rfl, fun j h => by simp at h, HRN.out.inA, HRN.out.low, fun b hb => by cases hb⟩, by simp, by simp⟩, HRN, BK, by exact Below.refl _ _⟩
        case round =>
          obtain ⟨j, q, z, v1, v3, rfl, rfl, HZ', hzb, HJQ, HO, HRN', BK2, BW⟩ := hrel
          cases q with
          | zero =>
            have hz : z = -1 := by have := HZ'.out; omega
            subst hz
            have hj : j = i := by have := HJQ.out; omega
            subst hj
            obtain ⟨MS', us', hR2, hM', hU'⟩ := HO.out
            have e1 : us.reverse.take j = us.reverse := by rw [List.take_of_length_le]; simp; have := HUL.out; have := HML.out; omega
            rw [e1] at hU'
            subst hU'
            have hXX := (Array.getElem?_eq_some_iff.1 BX.out).1
            have hYY := (Array.getElem?_eq_some_iff.1 BY.out).1
            have bx2 := (BW.out.block _ hXX).trans BX.out
            have by2 := (BW.out.block _ hYY).trans BY.out
            have BY2 := hid by2
            obtain ⟨o0, o1, o2, o3, o4, o5, o6, o7, o8⟩ := nine' bx2
            obtain ⟨q0, q1, q2, q3, q4, q5, q6, q7, q8⟩ := nine' by2
            have fx3 := Joins.unfrozen_of_block bx2 3
            have f0 := Joins.unfrozen_of_block by2 0
            have f1 := Joins.unfrozen_of_block by2 1
            have f2 := Joins.unfrozen_of_block by2 2
            have f3 := Joins.unfrozen_of_block by2 3
            have f4 := Joins.unfrozen_of_block by2 4
            have f5 := Joins.unfrozen_of_block by2 5
            have f6 := Joins.unfrozen_of_block by2 6
            have f7 := Joins.unfrozen_of_block by2 7
            have f8 := Joins.unfrozen_of_block by2 8
            have HR2 := hid hR2
            clear HZ' hzb HJQ HO hM' e1 bx2 by2 hR2
            go_wp2
            obtain ⟨X, hX⟩ : ∃ X, X = wr.setCell ⟨w.heap.size, 3, none⟩ (.slice v1 j v3) := ⟨_, rfl⟩
            rw [← hX]
            have hXo : ∀ k, k ≠ w.heap.size → X.heap[k]? = wr.heap[k]? := fun k hk => by rw [hX]; exact Below.heap_setCell _ _ _ _ hk
            have hXs : X.heap.size = wr.heap.size := by rw [hX]; simp [World.setCell]
            have hXb : Below w.heap.size w X := by rw [hX]; exact BK2.out.setCell (by exact Nat.le_refl _) _
            obtain ⟨y1, y2, y3, y4⟩ := nineSet X (w.heap.size + 1) (.int .i64 5) (.slice r1 r2 r3) (.int .i64 a2) (.slice v1 j v3) (.int .i64 a4) (.int .i64 a5) (.bool a6) (.int .i64 a7) (.string a8) ((hXo _ (by omega)).trans BY2.out)
            obtain ⟨Y, hY⟩ : ∃ Y, Y = ((((((((((((((((((X).setCell ⟨w.heap.size + 1, 0, none⟩ (.int .i64 5))).setCell ⟨w.heap.size + 1, 1, none⟩ (.slice r1 r2 r3))).setCell ⟨w.heap.size + 1, 2, none⟩ (.int .i64 a2))).setCell ⟨w.heap.size + 1, 3, none⟩ (.slice v1 j v3))).setCell ⟨w.heap.size + 1, 4, none⟩ (.int .i64 a4))).setCell ⟨w.heap.size + 1, 5, none⟩ (.int .i64 a5))).setCell ⟨w.heap.size + 1, 6, none⟩ (.bool a6))).setCell ⟨w.heap.size + 1, 7, none⟩ (.int .i64 a7))).setCell ⟨w.heap.size + 1, 8, none⟩ (.string a8)) := ⟨_, rfl⟩
            rw [← hY] at y1 y2 y3 y4
            have y4' := y4 hXb (by omega)
            rw [← hY]
            refine bodyPost_ret (res23 _ _ (w.heap.size + 1) _ (.int .i64 m) rfl rfl y1 rfl) rfl ?_
            have hwk : ∀ b, b < B → wr.heap[b]? = w0.heap[b]? := fun b hb => (BK2.out.block b (by omega)).trans (HW.out b hb)
            exact ⟨⟨5, r1, r2, r3, a2, v1, j, v3, a4, a5, a6, a7, a8⟩, .mk 5 R a2 us.reverse a4 a5 a6 a7 a8, m, rfl, fin23 hB (by omega) HR2.out HA.out HOK.out HRL.out (HRW.out wr hwk) hRk hXo y2 (y3.trans hXs), .mk HTL.out (.inr ⟨rfl, rfl⟩) (fun _ => rfl), ⟨by omega, hmb2⟩, y4'⟩
          | succ p =>
            have hz : z = (p : Int) := by have := HZ'.out; omega
            subst hz
            have hjp : j + (p + 1) = i := HJQ.out
            have hp1 : p < MS.length := by have := HML.out; omega
            have hp2 : p < us.length := by have := HUL.out; omega
            have HRNo := HRN'.out
            obtain ⟨b, cap, hfm⟩ : ∃ b cap, Value.slice u1 i u3 = .slice (some ⟨b, 0, none⟩) i cap := by
              have := Joins.ownsRow_forms HRNo.row
              rw [HML.out] at this
              rcases this with ⟨e, h0⟩ | ⟨b, cap, e⟩
              · omega
              · exact ⟨b, cap, e⟩
            simp only [Value.slice.injEq] at hfm
            obtain ⟨hu1, _, hu3⟩ := hfm
            subst hu1 hu3
            obtain ⟨n0', n1', n2', n3', n4', n5', n6', n7', n8'⟩ := HRNo.cells p hp1
            simp only [Nat.zero_add] at n0' n1' n2' n3' n4' n5' n6' n7' n8'
            have htp := HRNo.tp p hp2 hp1
            obtain ⟨MS', us', hR2, hM', hU'⟩ := HO.out
            have em : MS.reverse.take (j + 1) = MS.reverse.take j ++ [MS[p]] := by
              rw [List.take_succ_eq_append_getElem (by simp; have := HML.out; omega), List.getElem_reverse]
              congr 3
              have := HML.out; omega
            have eu : us.reverse.take (j + 1) = us.reverse.take j ++ [us[p]] := by
              rw [List.take_succ_eq_append_getElem (by simp; have := HML.out; have := HUL.out; omega), List.getElem_reverse]
              congr 3
              have := HML.out; have := HUL.out; omega
            obtain ⟨M, hMp⟩ : ∃ M, M = MS[p] := ⟨_, rfl⟩
            obtain ⟨u, hup⟩ : ∃ u, u = us[p] := ⟨_, rfl⟩
            rw [← hMp] at n0' n1' n2' n3' n4' n5' n6' n7' n8' htp em
            rw [← hup] at htp eu
            have hml2 : MS'.length = j := by rw [hM']; simp; have := HML.out; omega
            have HR2 := hid hR2
            have HTP := hid htp
            have HEM := hid em
            have HEU := hid eu
            have HM' := hid hM'
            have HU' := hid hU'
            have HML2 := hid hml2
            have hrow2 : wr.ownsRow W1.heap.size 28 9 (.slice v1 j v3) j (MS'.flatMap Nv.cs) := by have h := hR2.row; rw [hml2] at h; exact h
            have HROW := hid hrow2
            have g1 : decide ((p : Int) ≥ 0) = true := by simp
            have g1' : decide (0 ≤ (p : Int)) = true := by simp
            have g2 : (p : Int) < (i : Int) := by omega
            have ad2 : IntKind.i64.wrap ((p : Int) - 1) = (p : Int) - 1 := by simp [IntKind.wrap, IntKind.bits, IntKind.signed]; omega
            have hsW : W1.heap.size ≤ wr.heap.size := BW.out.size
            clear hMp hup hR2 htp em eu hM' hU' hml2 hrow2 HZ' HRNo hp1 hp2 HO
            go_wp2_with (first | (at_builtin; refine wpList_append_moveN rfl (.tmp 65) (.tmp 70) 26 rfl W1.heap.size 28 i0 Z9 9 112 Try.underlying26 hi0 hz0 hz1 hz2 rfl (by decide) (.slice v1 j v3) j (MS'.flatMap Nv.cs) rfl (HROW.out.alloc _) ⟨wr.heap.size, 0, none⟩ 1 1 (Nv.cs M) rfl rfl (by decide) (news9 wr M) (one9 M) (by unfold maxLen; omega) (by omega) (by simp; omega) ?_; intro v' w3 ho3 hm3; obtain ⟨vb, vc, rfl⟩ := Joins.ownsRow_form ho3.out (by omega)))
            have hold : ∀ k, k < W1.heap.size → w3.heap[k]? = wr.heap[k]? := fun k hk => by
              have hne : (Value.slice v1 j v3).ownBlock ≠ some k := fun e => by have := (HROW.out.lt k e).1; omega
              exact (moved_old' hm3.out (by simp; omega) hne).trans (heap_alloc_old wr _ (by omega))
            have hs3 : wr.heap.size ≤ w3.heap.size := by rcases hm3.out with ⟨_, h⟩ | ⟨_, h⟩ <;> (have := h.size; simp at this; omega)
            have hbw : Below W1.heap.size wr w3 := by
              refine ⟨?_, ?_, ?_, hs3, fun k hk => hold k hk⟩
              · rcases hm3.out with ⟨_, h⟩ | ⟨_, h⟩ <;> exact h.os
              · rcases hm3.out with ⟨_, h⟩ | ⟨_, h⟩ <;> exact h.tape
              · rcases hm3.out with ⟨_, h⟩ | ⟨_, h⟩ <;> exact h.output
            have hnx := HR2.out.push HTP.out _ (by rw [HML2.out]; exact ho3.out) hm3.out
            have hR1 := HRN'.out
            have hrn2 : RowN (w.heap.size + 1 + 1) B w3 (.slice (some ⟨b, 0, none⟩) i u3) MS us A := by
              have hbl : b < W1.heap.size := (HRN.out.row.lt b rfl).2
              refine ⟨row_kept hR1.row (fun b' hb' => ?_), hR1.len, fun j h h' => (hR1.tp j h h').kept (fun b' hb' => hold b' (HRN.out.low b' hb')) (fun _ h => h), hR1.inA, fun b' hb' => by have := hR1.low b' hb'; omega, hR1.out⟩
              have : b = b' := by simpa [Value.ownBlock] using hb'
              subst this
              exact hold b hbl
            refine ⟨⟨j + 1, p, _, _, _, rfl, rfl, by exact rfl, by omega, by show _ = _; omega, by exact ⟨_, _, hnx, by rw [HEM.out, HM'.out], by rw [HEU.out, HU'.out]⟩, hrn2, by exact BK2.out.trans (hbw.mono (by have := BK.out.size; omega)), by exact BW.out.trans hbw⟩, by simp [intOf] <;> omega⟩
      · obtain ⟨q0, q1, q2, q3, q4, q5, q6, q7, q8⟩ := nine' BY.out
        have fx := fun j => Joins.unfrozen_of_block BX.out j
        have fx3 := fx 3
        have fx6 := fx 6
        have fy := fun j => Joins.unfrozen_of_block BY.out j
        have f0 := fy 0
        have f1 := fy 1
        have f2 := fy 2
        have f3 := fy 3
        have f4 := fy 4
        have f5 := fy 5
        have f6 := fy 6
        have f7 := fy 7
        have f8 := fy 8
        clear fx fy
        by_cases c6 : fl = true ∧ k = 6
        · obtain ⟨rfl, rfl⟩ := c6
          have hRN := HRN.out
          clear HRN c5
          have k6 : ((6 : Int) == 5) = false := by decide
          go_wp2
          obtain ⟨X, hX⟩ : ∃ X, X = (wr.setCell ⟨w.heap.size, 6, none⟩ (.bool (!a6))).setCell ⟨w.heap.size, 3, none⟩ (.slice u1 i u3) := ⟨_, rfl⟩
          rw [← hX]
          have hXo : ∀ k, k ≠ w.heap.size → X.heap[k]? = wr.heap[k]? := fun k hk => by rw [hX]; exact (Below.heap_setCell _ _ _ _ hk).trans (Below.heap_setCell _ _ _ _ hk)
          have hXs : X.heap.size = wr.heap.size := by rw [hX]; simp [World.setCell]
          have hXb : Below w.heap.size w X := by rw [hX]; exact (BK.out.setCell (by exact Nat.le_refl _) _).setCell (by exact Nat.le_refl _) _
          obtain ⟨y1, y2, y3, y4⟩ := nineSet X (w.heap.size + 1) (.int .i64 6) (.slice r1 r2 r3) (.int .i64 a2) (.slice u1 i u3) (.int .i64 a4) (.int .i64 a5) (.bool (!a6)) (.int .i64 a7) (.string a8) ((hXo _ (by omega)).trans BY.out)
          obtain ⟨Y, hY⟩ : ∃ Y, Y = ((((((((((((((((((X).setCell ⟨w.heap.size + 1, 0, none⟩ (.int .i64 6))).setCell ⟨w.heap.size + 1, 1, none⟩ (.slice r1 r2 r3))).setCell ⟨w.heap.size + 1, 2, none⟩ (.int .i64 a2))).setCell ⟨w.heap.size + 1, 3, none⟩ (.slice u1 i u3))).setCell ⟨w.heap.size + 1, 4, none⟩ (.int .i64 a4))).setCell ⟨w.heap.size + 1, 5, none⟩ (.int .i64 a5))).setCell ⟨w.heap.size + 1, 6, none⟩ (.bool (!a6)))).setCell ⟨w.heap.size + 1, 7, none⟩ (.int .i64 a7))).setCell ⟨w.heap.size + 1, 8, none⟩ (.string a8)) := ⟨_, rfl⟩
          rw [← hY] at y1 y2 y3 y4
          have y4' := y4 hXb (by omega)
          rw [← hY]
          refine bodyPost_ret (res23 _ _ (w.heap.size + 1) _ (.int .i64 m) rfl rfl y1 rfl) rfl ?_
          have hwk : ∀ b, b < B → wr.heap[b]? = w0.heap[b]? := fun b hb => (BK.out.block b (by omega)).trans (HW.out b hb)
          exact ⟨⟨6, r1, r2, r3, a2, u1, i, u3, a4, a5, (!a6), a7, a8⟩, .mk 6 R a2 us a4 a5 (!a6) a7 a8, m, rfl, fin23 hB (Nat.le_refl _) hRN HA.out HOK.out HRL.out (HRW.out wr hwk) hRk hXo y2 (y3.trans hXs), .mk HTL.out (.inl rfl) (fun h => absurd rfl h), ⟨by omega, hmb2⟩, y4'⟩
        · have hRN := HRN.out
          have kk : fl = false ∨ (fl = true ∧ (k == 5) = false ∧ (k == 6) = false) := by
            cases fl with
            | false => exact .inl rfl
            | true => right; simp at c5 c6; simp [c5, c6]
          clear HRN c5 c6
          rcases kk with rfl | ⟨rfl, k5, k6⟩
          · go_wp2
            obtain ⟨X, hX⟩ : ∃ X, X = wr.setCell ⟨w.heap.size, 3, none⟩ (.slice u1 i u3) := ⟨_, rfl⟩
            rw [← hX]
            have hXo : ∀ k, k ≠ w.heap.size → X.heap[k]? = wr.heap[k]? := fun k hk => by rw [hX]; exact Below.heap_setCell _ _ _ _ hk
            have hXs : X.heap.size = wr.heap.size := by rw [hX]; simp [World.setCell]
            have hXb : Below w.heap.size w X := by rw [hX]; exact BK.out.setCell (by exact Nat.le_refl _) _
            obtain ⟨y1, y2, y3, y4⟩ := nineSet X (w.heap.size + 1) (.int .i64 k) (.slice r1 r2 r3) (.int .i64 a2) (.slice u1 i u3) (.int .i64 a4) (.int .i64 a5) (.bool a6) (.int .i64 a7) (.string a8) ((hXo _ (by omega)).trans BY.out)
            obtain ⟨Y, hY⟩ : ∃ Y, Y = ((((((((((((((((((X).setCell ⟨w.heap.size + 1, 0, none⟩ (.int .i64 k))).setCell ⟨w.heap.size + 1, 1, none⟩ (.slice r1 r2 r3))).setCell ⟨w.heap.size + 1, 2, none⟩ (.int .i64 a2))).setCell ⟨w.heap.size + 1, 3, none⟩ (.slice u1 i u3))).setCell ⟨w.heap.size + 1, 4, none⟩ (.int .i64 a4))).setCell ⟨w.heap.size + 1, 5, none⟩ (.int .i64 a5))).setCell ⟨w.heap.size + 1, 6, none⟩ (.bool a6))).setCell ⟨w.heap.size + 1, 7, none⟩ (.int .i64 a7))).setCell ⟨w.heap.size + 1, 8, none⟩ (.string a8)) := ⟨_, rfl⟩
            rw [← hY] at y1 y2 y3 y4
            have y4' := y4 hXb (by omega)
            rw [← hY]
            refine bodyPost_ret (res23 _ _ (w.heap.size + 1) _ (.int .i64 m) rfl rfl y1 rfl) rfl ?_
            have hwk : ∀ b, b < B → wr.heap[b]? = w0.heap[b]? := fun b hb => (BK.out.block b (by omega)).trans (HW.out b hb)
            exact ⟨⟨k, r1, r2, r3, a2, u1, i, u3, a4, a5, a6, a7, a8⟩, .mk k R a2 us a4 a5 a6 a7 a8, m, rfl, fin23 hB (Nat.le_refl _) hRN HA.out HOK.out HRL.out (HRW.out wr hwk) hRk hXo y2 (y3.trans hXs), .mk HTL.out (.inl rfl) (fun _ => rfl), ⟨by omega, hmb2⟩, y4'⟩
          · go_wp2
            obtain ⟨X, hX⟩ : ∃ X, X = wr.setCell ⟨w.heap.size, 3, none⟩ (.slice u1 i u3) := ⟨_, rfl⟩
            rw [← hX]
            have hXo : ∀ k, k ≠ w.heap.size → X.heap[k]? = wr.heap[k]? := fun k hk => by rw [hX]; exact Below.heap_setCell _ _ _ _ hk
            have hXs : X.heap.size = wr.heap.size := by rw [hX]; simp [World.setCell]
            have hXb : Below w.heap.size w X := by rw [hX]; exact BK.out.setCell (by exact Nat.le_refl _) _
            obtain ⟨y1, y2, y3, y4⟩ := nineSet X (w.heap.size + 1) (.int .i64 k) (.slice r1 r2 r3) (.int .i64 a2) (.slice u1 i u3) (.int .i64 a4) (.int .i64 a5) (.bool a6) (.int .i64 a7) (.string a8) ((hXo _ (by omega)).trans BY.out)
            obtain ⟨Y, hY⟩ : ∃ Y, Y = ((((((((((((((((((X).setCell ⟨w.heap.size + 1, 0, none⟩ (.int .i64 k))).setCell ⟨w.heap.size + 1, 1, none⟩ (.slice r1 r2 r3))).setCell ⟨w.heap.size + 1, 2, none⟩ (.int .i64 a2))).setCell ⟨w.heap.size + 1, 3, none⟩ (.slice u1 i u3))).setCell ⟨w.heap.size + 1, 4, none⟩ (.int .i64 a4))).setCell ⟨w.heap.size + 1, 5, none⟩ (.int .i64 a5))).setCell ⟨w.heap.size + 1, 6, none⟩ (.bool a6))).setCell ⟨w.heap.size + 1, 7, none⟩ (.int .i64 a7))).setCell ⟨w.heap.size + 1, 8, none⟩ (.string a8)) := ⟨_, rfl⟩
            rw [← hY] at y1 y2 y3 y4
            have y4' := y4 hXb (by omega)
            rw [← hY]
            refine bodyPost_ret (res23 _ _ (w.heap.size + 1) _ (.int .i64 m) rfl rfl y1 rfl) rfl ?_
            have hwk : ∀ b, b < B → wr.heap[b]? = w0.heap[b]? := fun b hb => (BK.out.block b (by omega)).trans (HW.out b hb)
            exact ⟨⟨k, r1, r2, r3, a2, u1, i, u3, a4, a5, a6, a7, a8⟩, .mk k R a2 us a4 a5 a6 a7 a8, m, rfl, fin23 hB (Nat.le_refl _) hRN HA.out HOK.out HRL.out (HRW.out wr hwk) hRk hXo y2 (y3.trans hXs), .mk HTL.out (.inl rfl) (fun _ => rfl), ⟨by omega, hmb2⟩, y4'⟩
end Go.Proofs.Ytnpocciioedgpaa
/- HELPERS: rows of bools: which places the parses end at; are two rows alike? -/
namespace Go.Proofs.Ytnpocciioedgpaa
open Go.RowKit
set_option linter.unusedVariables false
set_option linter.unusedSimpArgs false
/-- a row of bools in memory -/
def BR (w : World) (b n : Nat) (f : Nat → Bool) : Prop := ∃ arr : Array Value, w.heap[b]? = some (.cells arr 4 (0, 0)) ∧ arr.size = n ∧ ∀ i, i < n → arr[i]? = some (.bool (f i))
theorem BR.cell {w : World} {b n : Nat} {f : Nat → Bool} (h : BR w b n f) {i : Nat} (hi : i < n) : w.cell? ⟨b, i, none⟩ = some (.bool (f i)) := by
  obtain ⟨arr, h1, h2, h3⟩ := h
  rw [Joins.cell_of_block h1 i]
  exact h3 i hi
theorem BR.free {w : World} {b n : Nat} {f : Nat → Bool} (h : BR w b n f) (i : Nat) : w.frozen? ⟨b, i, none⟩ = false := by
  obtain ⟨arr, h1, h2, h3⟩ := h
  exact Joins.unfrozen_of_block h1 i
theorem BR.kept {w w' : World} {b n : Nat} {f : Nat → Bool} (h : BR w b n f) (hk : w'.heap[b]? = w.heap[b]?) : BR w' b n f := by
  obtain ⟨arr, h1, h2, h3⟩ := h
  exact ⟨arr, hk.trans h1, h2, h3⟩
theorem BR.as {w : World} {b n : Nat} {f g : Nat → Bool} (h : BR w b n f) (he : ∀ i, i < n → f i = g i) : BR w b n g := by
  obtain ⟨arr, h1, h2, h3⟩ := h
  exact ⟨arr, h1, h2, fun i hi => by rw [← he i hi]; exact h3 i hi⟩
theorem BR.lt {w : World} {b n : Nat} {f : Nat → Bool} (h : BR w b n f) : b < w.heap.size := by
  obtain ⟨arr, h1, h2, h3⟩ := h
  exact (Array.getElem?_eq_some_iff.1 h1).1
theorem BR.set {w : World} {b n : Nat} {f : Nat → Bool} (h : BR w b n f) (i : Nat) (x : Bool) : BR (w.setCell ⟨b, i, none⟩ (.bool x)) b n (fun j => if j = i then x else f j) := by
  obtain ⟨arr, h1, h2, h3⟩ := h
  refine ⟨arr.setIfInBounds i (.bool x), Joins.block_setCell (i := i) h1 _, by simp [h2], fun j hj => ?_⟩
  by_cases e : j = i
  · subst e; simp [h2, hj]
  · rw [Array.getElem?_setIfInBounds_ne (by omega)]; simp [e]; exact h3 j hj
theorem info4 : (Try.prog.info? 4).map (fun i => (i.zero, i.size, i.bytes)) = some (some (.bool false), 1, 1) := by kernel_rfl
theorem makeB (c : Nat) (hc : c ≤ 10000) (w : World) : (Instr.makeSlice 47 (.int .i64 (c : Int)) (.int .i64 (c : Int))).run Try.prog w = .ok (.slice (some ⟨w.heap.size, 0, none⟩) c c) (w.alloc (.cells (madeCells #[.bool false] c) 4)) :=
  run_make_row' (P := Try.prog) 47 4 (.bool false) 1 Try.underlying47 info4 rfl .i64 .i64 c (by omega) (by omega) w
theorem BR.made (w : World) (c : Nat) : BR (w.alloc (.cells (madeCells #[.bool false] c) 4)) w.heap.size c (fun _ => false) :=
  ⟨_, heap_alloc_new w _, by simp [madeCells], fun i hi => by simp [madeCells, hi, Nat.mod_one]⟩
/-- the ends of parses in memory -/
theorem PR.ends {N : Nat} {w : World} {cs : List Value} {l : List (Int × List Int)} {F : List Nat} (h : PR N w cs l F) : ∀ (i : Nat) (hi : i < l.length), cs[i * 2]? = some (.int .i64 l[i].1) := by
  induction h with
  | nil => intro i hi; simp at hi
  | cons h hl ih =>
    intro i hi
    cases i with
    | zero => simp
    | succ i =>
      have := ih i (by simpa using hi)
      rw [show (i + 1) * 2 = i * 2 + 1 + 1 by omega]
      simpa using this
theorem Parsed.ends {N : Nat} {w : World} {pv : Value} {l : List (Int × List Int)} (h : Parsed N w pv l) : (pv = .slice none 0 0 ∧ l = []) ∨ ∃ b cap, pv = .slice (some ⟨b, 0, none⟩) l.length cap ∧ b < w.heap.size ∧ N ≤ b ∧ ∀ i (hi : i < l.length), w.cell? ⟨b, i * 2, none⟩ = some (.int .i64 l[i].1) := by
  obtain ⟨cs, F, h1, h2⟩ := h
  rcases Joins.ownsRow_forms h1 with ⟨e, h0⟩ | ⟨b, cap, e⟩
  · exact .inl ⟨e, List.length_eq_zero_iff.1 h0⟩
  · have hlt := h1.lt b (by rw [e]; rfl)
    rw [e] at h1
    refine .inr ⟨b, cap, e, hlt.2, hlt.1, fun i hi => ?_⟩
    have hl : cs.length = l.length * 2 := h1.1
    rw [h1.cellAt (i * 2) (by omega), h2.ends i hi]
set_option maxRecDepth 100000 in
set_option maxHeartbeats 4000000 in
theorem ends22 (N : Nat) (pv : Value) (l : List (Int × List Int)) (n : Nat) (hn : n ≤ 64) (hl : l.length ≤ 65) (w : World) (hP : Parsed N w pv l) :
    Calls Try.prog 22 #[pv, .int .i64 (n : Int)] w fun e w' => e = .returned (.slice (some ⟨w.heap.size, 0, none⟩) (n + 1) (n + 1)) ∧ BR w' w.heap.size (n + 1) (fun q => decide ((q : Int) ∈ l.map Prod.fst)) ∧ Below w.heap.size w w' := by
  obtain ⟨pa, pc, rfl, hE⟩ : ∃ pa pc, pv = .slice pa l.length pc ∧ (0 < l.length → ∃ b, pa = some ⟨b, 0, none⟩ ∧ b < w.heap.size ∧ ∀ i (hi : i < l.length), w.cell? ⟨b, i * 2, none⟩ = some (.int .i64 l[i].1)) := by
    rcases hP.ends with ⟨rfl, rfl⟩ | ⟨b, cap, rfl, h1, _, h2⟩
    · exact ⟨none, 0, rfl, fun h => by simp at h⟩
    · exact ⟨_, cap, rfl, fun _ => ⟨b, rfl, h1, h2⟩⟩
  clear hP
  obtain ⟨m, hm⟩ : ∃ m, m = l.length := ⟨_, rfl⟩
  rw [← hm]
  have hmk := makeB (n + 1) (by omega) w
  rw [show ((n + 1 : Nat) : Int) = (n : Int) + 1 by push_cast; rfl] at hmk
  have ad : IntKind.i64.wrap ((n : Int) + 1) = (n : Int) + 1 := by simp [IntKind.wrap, IntKind.bits, IntKind.signed]; omega
  have h0 := BR.made w (n + 1)
  have hB0 := Joins.below_alloc1 w (.cells (madeCells #[.bool false] (n + 1)) 4)
  obtain ⟨V0, hV0⟩ : ∃ V, V = w.alloc (.cells (madeCells #[.bool false] (n + 1)) 4) := ⟨_, rfl⟩
  rw [← hV0] at h0 hB0 hmk
  obtain ⟨nb, hnb⟩ : ∃ nb, nb = w.heap.size := ⟨_, rfl⟩
  rw [← hnb] at h0 hmk ⊢
  have H0 := hid h0
  have HB0 := hid hB0
  have HM := hid hm
  have HE := hid hE
  have HNB := hid hnb
  have hml : m ≤ 65 := by omega
  clear h0 hB0 hV0 hm hE hnb hl
  go_enter Try.func22, Try.ntmps22
  go_wp2
  go_loopw [6] (fun x wq => ∃ i : Nat, x = .int .i64 (i : Int) ∧ i ≤ m ∧ Hid (BR wq nb (n + 1) (fun q => decide ((q : Int) ∈ (l.take i).map Prod.fst)) ∧ Below w.heap.size w wq)) (fun x _ => m - (intOf x).toNat)
  case atStart => exact ⟨0, rfl, by omega, by exact ⟨H0.out.as (by intro i hi; simp), by have := HB0.out; rw [HNB.out] at *; exact this⟩⟩
  case round =>
    obtain ⟨i, rfl, hi, HI⟩ := hrel
    by_cases hlt : i < m
    · have b1 : decide ((i : Int) < (m : Int)) = true := by simp; omega
      have b2 : (i : Int) < (m : Int) := by omega
      have hil : i < l.length := by rw [← HM.out]; exact hlt
      obtain ⟨b, rfl, hbs, hc⟩ := HE.out (by omega)
      have c0 := ((HI.out.2.cell (p := ⟨b, i * 2, none⟩) hbs).trans (hc i hil))
      have htk : l.take (i + 1) = l.take i ++ [l[i]] := List.take_succ_eq_append_getElem hil
      obtain ⟨x, hx⟩ : ∃ x, x = l[i].1 := ⟨_, rfl⟩
      rw [← hx] at c0
      have hmem : ∀ q : Int, q ∈ (l.take (i + 1)).map Prod.fst ↔ q ∈ (l.take i).map Prod.fst ∨ q = x := fun q => by
        rw [htk, List.map_append, List.mem_append, List.map_cons, List.map_nil, List.mem_singleton, hx]
      have HMEM := hid hmem
      have ad1 : IntKind.i64.wrap ((i : Int) + 1) = (i : Int) + 1 := by simp [IntKind.wrap, IntKind.bits, IntKind.signed]; omega
      clear hc htk hx hmem
      by_cases hr : 0 ≤ x ∧ x ≤ (n : Int)
      · have g1 : decide (x ≥ 0) = true := by simp; omega
        have g1' : decide (0 ≤ x) = true := by simp; omega
        have g2 : decide (x ≤ (n : Int)) = true := by simp; omega
        obtain ⟨xn, rfl⟩ : ∃ xn : Nat, x = (xn : Int) := ⟨x.toNat, by omega⟩
        have g3 : (xn : Int) < ((n + 1 : Nat) : Int) := by omega
        have c1 := HI.out.1.cell (i := xn) (by omega)
        have f1 := HI.out.1.free xn
        obtain ⟨z, hz⟩ : ∃ z, z = decide (((xn : Nat) : Int) ∈ (l.take i).map Prod.fst) := ⟨_, rfl⟩
        simp only [← hz] at c1
        clear hz
        go_wp2
        refine ⟨⟨i + 1, by push_cast; rfl, by omega, ?_⟩, by simp [intOf]; omega⟩
        refine ⟨(HI.out.1.set xn true).as (fun q hq => ?_), HI.out.2.setCell (by show w.heap.size ≤ nb; have := HNB.out; omega) _⟩
        by_cases e : q = xn
        · subst e
          rw [if_pos rfl]
          exact (decide_eq_true ((HMEM.out _).2 (.inr rfl))).symm
        · rw [if_neg e]
          rw [Bool.eq_iff_iff, decide_eq_true_eq, decide_eq_true_eq, HMEM.out]
          exact ⟨.inl, fun h => h.elim id (fun h => absurd h (by omega))⟩
      · have hnot : ∀ q : Nat, q < n + 1 → (q : Int) ≠ x := fun q hq e => hr (by omega)
        have HNOT := hid hnot
        have hfin : BR wr nb (n + 1) (fun q => decide ((q : Int) ∈ (l.take (i + 1)).map Prod.fst)) := HI.out.1.as (fun q hq => by
          have := HNOT.out q hq
          rw [Bool.eq_iff_iff, decide_eq_true_eq, decide_eq_true_eq, HMEM.out]
          exact ⟨.inl, fun h => h.elim id (fun h => absurd h this)⟩)
        have HFIN := hid hfin
        clear hfin hnot
        by_cases hr1 : 0 ≤ x
        · have g1 : decide (x ≥ 0) = true := by simp; omega
          have g1' : decide (0 ≤ x) = true := by simp; omega
          have g2 : decide (x ≤ (n : Int)) = false := by simp; omega
          clear hr
          go_wp2
          exact ⟨⟨i + 1, by push_cast; rfl, by omega, by exact ⟨HFIN.out, HI.out.2⟩⟩, by simp [intOf]; omega⟩
        · have g1 : decide (x ≥ 0) = false := by simp; omega
          have g1' : decide (0 ≤ x) = false := by simp; omega
          clear hr
          go_wp2
          exact ⟨⟨i + 1, by push_cast; rfl, by omega, by exact ⟨HFIN.out, HI.out.2⟩⟩, by simp [intOf]; omega⟩
    · have b1 : decide ((i : Int) < (m : Int)) = false := by simp; omega
      obtain rfl : i = m := by omega
      have hfin := HI.out
      rw [HM.out, List.take_length] at hfin
      have HF := hid hfin
      clear hfin HI
      go_wp2
      go_ret
      exact ⟨rfl, HF.out.1, by rw [HNB.out]; exact HF.out.2⟩
set_option maxRecDepth 100000 in
set_option maxHeartbeats 4000000 in
theorem alike21 (a b n ca cb : Nat) (f g : Nat → Bool) (hn : n ≤ 10000) (w : World) (ha : BR w a n f) (hb : BR w b n g) :
    Calls Try.prog 21 #[.slice (some ⟨a, 0, none⟩) n ca, .slice (some ⟨b, 0, none⟩) n cb] w fun e w' => e = .returned (.bool (decide (∀ i, i < n → f i = g i))) ∧ Below w.heap.size w w' := by
  have HA := hid ha
  have HB := hid hb
  obtain ⟨R, hR⟩ : ∃ R, R = decide (∀ i, i < n → f i = g i) := ⟨_, rfl⟩
  rw [← hR]
  have HR := hid hR
  clear ha hb hR
  go_enter Try.func21, Try.ntmps21
  go_wp2
  go_loopw [5] (fun x wq => ∃ i : Nat, x = .int .i64 (i : Int) ∧ i ≤ n ∧ Hid (∀ j, j < i → f j = g j) ∧ Hid (BR wq a n f) ∧ Hid (BR wq b n g) ∧ Hid (Below w.heap.size w wq)) (fun x _ => n - (intOf x).toNat)
  case atStart => exact ⟨0, rfl, by omega, by intro j hj; omega, HA, HB, by exact Below.refl _ _⟩
  case round =>
    obtain ⟨i, rfl, hi, HS, HA', HB', HW⟩ := hrel
    by_cases hlt : i < n
    · have b1 : decide ((i : Int) < (n : Int)) = true := by simp; omega
      have b2 : (i : Int) < (n : Int) := by omega
      have ad1 : IntKind.i64.wrap ((i : Int) + 1) = (i : Int) + 1 := by simp [IntKind.wrap, IntKind.bits, IntKind.signed]; omega
      have c0 := HA'.out.cell hlt
      have c1 := HB'.out.cell hlt
      by_cases he : f i = g i
      · have hs1 : ∀ j, j < i + 1 → f j = g j := fun j hj => by
          by_cases e : j = i
          · subst e; exact he
          · exact HS.out j (by omega)
        have HS1 := hid hs1
        rw [he] at c0
        obtain ⟨z, hz⟩ : ∃ z, z = g i := ⟨_, rfl⟩
        rw [← hz] at c0 c1
        have g1 : (z != z) = false := by simp
        clear he hs1 hz
        go_wp2_with fail
        go_quiet (fail)
        go_wp2
        exact ⟨⟨i + 1, by push_cast; rfl, by omega, HS1, HA', HB', by exact below_drewN HW.out _⟩, by simp [intOf]; omega⟩
      · have e0 : R = false := by rw [HR.out]; simp; exact ⟨i, hlt, he⟩
        have g1 : (f i != g i) = true := by simpa using he
        subst e0
        obtain ⟨z, hz⟩ : ∃ z, z = g i := ⟨_, rfl⟩
        obtain ⟨y, hy⟩ : ∃ y, y = f i := ⟨_, rfl⟩
        rw [← hz] at c1 g1
        rw [← hy] at c0 g1
        have hyz : (y = true ∧ z = false) ∨ (y = false ∧ z = true) := by cases y <;> cases z <;> simp_all
        clear he hz hy g1
        rcases hyz with ⟨rfl, rfl⟩ | ⟨rfl, rfl⟩
        · go_wp2_with fail
          go_quiet (fail)
          go_wp2
          go_ret
          exact ⟨rfl, below_drewN HW.out _⟩
        · go_wp2_with fail
          go_quiet (fail)
          go_wp2
          go_ret
          exact ⟨rfl, below_drewN HW.out _⟩
    · have b1 : decide ((i : Int) < (n : Int)) = false := by simp; omega
      obtain rfl : i = n := by omega
      have e0 : R = true := by rw [HR.out]; simp; exact HS.out
      subst e0
      have g2 : ((i : Int) == (i : Int)) = true := by simp
      go_wp2
      go_ret
      exact ⟨by first | rfl | simp, HW.out⟩
end Go.Proofs.Ytnpocciioedgpaa
