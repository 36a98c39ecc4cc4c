/- HELPERS: Pw, Rd, Re, Ua, Ub, Rf, Rg, Rh, Rj, Ev, Ax. -/
import Derived.Test.YtnpocciioedgpaaK05
import Derived.Laws.Rows
/- HELPERS: meaning.Parses, of any tree and text. -/
namespace Go.Proofs.Ytnpocciioedgpaa
open Go.RowKit
set_option linter.unusedVariables false
set_option linter.unusedSimpArgs false
/-- the error that a call gives -/
def errP (t : Tn) (tn : Nat) (at_ : Int) : Int := if 64 < tn then 2 else if t.sound = false then 50 else if 2000 < t.sz then 3 else if at_ < 0 ∨ (tn : Int) < at_ then 1 else 0
theorem fine_gi : ∀ (t : Tn), t.fine = true → 0 ≤ t.gi ∧ t.gi ≤ 500 := by
  have key : ∀ (ts : List Tn) (m : Int), (∀ t ∈ ts, t.gi ≤ 500) → m ≤ 500 → giL ts m ≤ 500 := by
    intro ts
    induction ts with
    | nil => intro m _ h; simpa [giL] using h
    | cons t ts ih => intro m h1 h2; simp only [giL]; exact ih _ (fun u hu => h1 u (by simp [hu])) (by have := h1 t (by simp); omega)
  have hix : ∀ {k : Int} {R : List (Int × Int)} {a : Int} {n : Nat} {mn mx : Int} {lz : Bool} {ix : Int} {nm : ByteArray}, nodeB k R a n mn mx lz ix nm = true → 0 ≤ ix ∧ ix ≤ 500 := fun h => by
    have FN := fine_node h
    rename_i k _ _ _ _ _ _ _ _
    by_cases h7 : k = 7
    · have := FN.grp h7; omega
    · have := FN.idx h7; omega
  intro t
  obtain ⟨d, hd⟩ : ∃ d, t.depth ≤ d := ⟨_, Nat.le_refl _⟩
  induction d generalizing t with
  | zero => cases t; simp [Tn.depth] at hd
  | succ d ih =>
    cases t with
    | mk k R a s mn mx lz ix nm =>
      intro hf
      simp only [Tn.fine, Bool.and_eq_true] at hf
      simp only [Tn.depth] at hd
      have hi := hix hf.1
      have hs : ∀ u ∈ s, u.gi ≤ 500 := by
        intro u hu
        have hdu : u.depth ≤ d := by
          have : ∀ (l : List Tn), u ∈ l → u.depth ≤ depthL l := by
            intro l
            induction l with
            | nil => intro h; cases h
            | cons v l ihl =>
              intro h
              simp only [List.mem_cons] at h
              simp only [depthL]
              rcases h with rfl | h
              · omega
              · have := ihl h; omega
          have := this s hu
          omega
        obtain ⟨i, hi2, rfl⟩ := List.mem_iff_getElem.1 hu
        exact (ih _ hdu (fineL_get hf.2 i hi2)).2
      simp only [Tn.gi]
      exact ⟨by have := (giL_ge s ix).1; omega, key s ix hs hi.2⟩
theorem sound_parts {t : Tn} (h : t.sound = true) : t.fine = true ∧ t.depth ≤ 10000 ∧ t.nodes ≤ 200000 := by
  simp only [Tn.sound, Bool.and_eq_true, decide_eq_true_eq] at h
  exact ⟨h.1.1, h.1.2, h.2⟩
/-- how many notes -/
abbrev Tn.notes (t : Tn) : Nat := (2 * t.gi + 2).toNat
/-- the walks of a sound, small tree -/
theorem walks31 (N : Nv) (t : Tn) (tx : List Int) (ad : Option Addr) (tn tcap p : Nat) (w : World) (hTI : TI w w.heap.size N t) (hs : t.sound = true) (hz : t.sz ≤ 2000) (htx : Look.TextAt w.heap.size w ad tn tx) (htc : tn ≤ tcap) (htn : tn ≤ 64) (hp : p ≤ tn) :
    Calls Try.prog 31 #[N.v, .slice ad tn tcap] w fun e w' => ∃ g l, e = .returned (pt g) ∧ PS t t.notes tx p l ∧ l.length ≤ 65 ∧ Calls Try.prog 32 #[pt g, .int .i64 (p : Int)] w' fun e2 w'' => ∃ pv, e2 = .returned pv ∧ Parsed w.heap.size w'' pv l ∧ Below w.heap.size w w'' := by
  obtain ⟨hf, _, hno⟩ := sound_parts hs
  have hgi := fine_gi t hf
  have hBG := fun A => begin53 hTI (w.heap.size + 1 + 1) t.notes A (by omega) hf hno (by simp only [Tn.notes]; omega)
  refine (newWalks31g N.nd N.k tx ad tn tcap t.notes t.gi w htx htn (by simp only [Tn.notes]; omega) hgi (fun w' hb => greatestg52 hTI w' hb.size (fun b hb2 => hb.block b hb2))
    (fun n W F FE w' => Gw W ∧ ∃ lo LE, BgR (w.heap.size + 1 + 1) t.notes lo [] (fun E => Beg E t 1 (.once 1 .through) n W) W.ags LE FE w') (fun n W F FE w' w'' h h1 h2 => by obtain ⟨hg, lo, LE, hB⟩ := h; exact ⟨hg, lo, LE, hB.stab h1 h2⟩)
    (fun A w' v F0 hb hO hR hg hF => ?_)).mono ?_
  · refine (hBG A w' v 1 (.once 1 .through) F0 hb.size (fun b hb2 => hb.block b hb2) hO hR hg ⟨by simp [Way.tg], by simp [Way.few]⟩ (by omega) ?_).mono ?_
    · have : t.sz * t.sz ≤ 2000 * 2000 := Nat.mul_le_mul hz hz
      omega
    · rintro e w'' ⟨u, F, FE, n1, W, rfl, hM, ⟨LE, hB⟩, hE, h1, h2, h3, h4⟩
      exact ⟨u, F, FE, n1, W, rfl, hM, ⟨h3, _, LE, hB⟩, hE⟩
  · rintro e w' ⟨g, u, F, FE, B, C, n1, W, rfl, rfl, hW, htv, hh, hwh, hCK, hR, ⟨hgw, lo, LE, hB⟩, aF, aE, aB, hb⟩
    obtain ⟨l, h1, h2, h3⟩ := walks_from t t.notes (w.heap.size + 1 + 1) p tx ad tn tcap lo n1 W u F FE B C LE w w' htx htc htn hb rfl hW htv hh hwh hCK hR hgw hB aF aE aB hp
    exact ⟨_, l, rfl, h1, h2, h3⟩
theorem PR.le {N N' : Nat} {w : World} {cs : List Value} {l : List (Int × List Int)} {F : List Nat} (h : PR N w cs l F) (hN : N' ≤ N) : PR N' w cs l F := by
  induction h with
  | nil => exact .nil
  | cons h hl ih => exact .cons (Joins.ownsRow_le h hN) ih
/-- what a call answers -/
def Answers (t : Tn) (tx : List Int) (tn : Nat) (at_ : Int) (w : World) (e : Ending) (w' : World) : Prop :=
  ∃ pv l, e = .returned (.tuple #[pv, .int .i64 (errP t tn at_)]) ∧ Parsed w.heap.size w' pv l ∧ (errP t tn at_ = 0 → PS t t.notes tx at_.toNat l ∧ l.length ≤ 65) ∧ (errP t tn at_ ≠ 0 → pv = .slice none 0 0 ∧ l = []) ∧ Below w.heap.size w w'
theorem answers_none {t : Tn} {tx : List Int} {tn : Nat} {at_ x : Int} {w w' : World} (hx : errP t tn at_ = x) (h0 : x ≠ 0) (hb : Below w.heap.size w w') : Answers t tx tn at_ w (.returned (.tuple #[.slice none 0 0, .int .i64 x])) w' := by
  subst hx
  exact ⟨.slice none 0 0, [], rfl, ⟨[], [], World.ownsRow_nil _ _ _ _, .nil⟩, fun h => absurd h h0, fun _ => ⟨rfl, rfl⟩, hb⟩
set_option maxRecDepth 100000 in
set_option maxHeartbeats 4000000 in
theorem parses13g (N : Nv) (t : Tn) (tx : List Int) (ad : Option Addr) (tn tcap : Nat) (at_ : Int) (w : World) (hTI : TI w w.heap.size N t) (htx : Look.TextAt w.heap.size w ad tn tx) (htc : tn ≤ tcap) :
    Calls Try.prog 13 #[N.v, .slice ad tn tcap, .int .i64 at_] w fun e w' => Answers t tx tn at_ w e w' := by
  have htm : tn ≤ 35184372088832 := htx.2.1
  have hb0 : Below w.heap.size w (w.alloc (.cells #[.int .i64 N.k, .slice N.r1 N.r2 N.r3, .int .i64 N.a2, .slice N.s1 N.s2 N.s3, .int .i64 N.a4, .int .i64 N.a5, .bool N.a6, .int .i64 N.a7, .string N.a8] 28)) := Joins.below_alloc1 w _
  have HB0 := hid hb0
  by_cases c1 : 64 < tn
  · have e1 : errP t tn at_ = 2 := by simp [errP, c1]
    have HA : ∀ w', Below w.heap.size w w' → Answers t tx tn at_ w (.returned (.tuple #[.slice none 0 0, .int .i64 2])) w' := fun w' h => answers_none e1 (by decide) h
    have HHA := hid HA
    have b1 : decide ((tn : Int) > 64) = true := by simp; omega
    have b1' : decide (64 < (tn : Int)) = true := by simp; omega
    obtain ⟨k, r1, r2, r3, a2, s1, s2, s3, a4, a5, a6, a7, a8⟩ := N
    obtain ⟨Q, hQ⟩ : ∃ Q, Q = Answers t tx tn at_ w := ⟨_, rfl⟩
    rw [← hQ] at HHA ⊢
    clear HA hTI htx e1 hQ hb0
    go_enter Try.func13, Try.ntmps13
    go_wp2
    try go_ret2
    exact HHA.out _ HB0.out
  have b1 : decide ((tn : Int) > 64) = false := by simp; omega
  have b1' : decide (64 < (tn : Int)) = false := by simp; omega
  have hT1 : ∀ w1, Below w.heap.size w w1 → TI w1 w1.heap.size N t := fun w1 h => (hTI.kept fun b hb => h.block b hb).le h.size
  have H29 := sound29g (hT1 _ hb0)
  cases hs : t.sound with
  | false =>
    have e1 : errP t tn at_ = 50 := by simp [errP, c1, hs]
    have HA : ∀ w', Below w.heap.size w w' → Answers t tx tn at_ w (.returned (.tuple #[.slice none 0 0, .int .i64 50])) w' := fun w' h => answers_none e1 (by decide) h
    have HHA := hid HA
    rw [hs] at H29
    obtain ⟨k, r1, r2, r3, a2, s1, s2, s3, a4, a5, a6, a7, a8⟩ := N
    obtain ⟨Q, hQ⟩ : ∃ Q, Q = Answers t tx tn at_ w := ⟨_, rfl⟩
    rw [← hQ] at HHA ⊢
    dsimp only at H29
    simp only [Bool.false_eq_true, if_false] at H29
    clear HA hTI htx e1 hQ hb0 hT1 hs
    go_enter Try.func13, Try.ntmps13
    go_wp2_with (first | (go_at_call 29; (with_reducible refine H29.mono ?_); rintro e w1 ⟨rfl, hb1⟩; have HB1 := hid hb1; clear hb1 H29))
    try go_ret2
    exact HHA.out _ (HB0.out.trans (Joins.below_le HB1.out (by simp)))
  | true =>
    obtain ⟨hf, _, hno⟩ := sound_parts hs
    have hT2 : ∀ w1, Below w.heap.size w w1 → Calls Try.prog 30 #[N.v] w1 fun e w' => e = .returned (.int .i64 (min 2001 t.sz : Nat)) ∧ Below w1.heap.size w1 w' := fun w1 h => size30g hTI hf hno w1 h.size (fun b hb => h.block b hb)
    have hnode : ∀ w1, Below (w.alloc (.cells #[.int .i64 N.k, .slice N.r1 N.r2 N.r3, .int .i64 N.a2, .slice N.s1 N.s2 N.s3, .int .i64 N.a4, .int .i64 N.a5, .bool N.a6, .int .i64 N.a7, .string N.a8] 28)).heap.size (w.alloc (.cells #[.int .i64 N.k, .slice N.r1 N.r2 N.r3, .int .i64 N.a2, .slice N.s1 N.s2 N.s3, .int .i64 N.a4, .int .i64 N.a5, .bool N.a6, .int .i64 N.a7, .string N.a8] 28)) w1 → w1.heap[w.heap.size]? = some (.cells #[.int .i64 N.k, .slice N.r1 N.r2 N.r3, .int .i64 N.a2, .slice N.s1 N.s2 N.s3, .int .i64 N.a4, .int .i64 N.a5, .bool N.a6, .int .i64 N.a7, .string N.a8] 28 (0, 0)) := fun w1 h => (h.block w.heap.size (by simp)).trans (heap_alloc_new w _)
    rw [hs] at H29
    simp only [if_true] at H29
    have HN := hid hnode
    have HT2 := hid hT2
    by_cases c3 : 2000 < t.sz
    · have e1 : errP t tn at_ = 3 := by simp [errP, c1, hs, c3]
      have HA : ∀ w', Below w.heap.size w w' → Answers t tx tn at_ w (.returned (.tuple #[.slice none 0 0, .int .i64 3])) w' := fun w' h => answers_none e1 (by decide) h
      have HHA := hid HA
      have b3 : decide (((min 2001 t.sz : Nat) : Int) > 2000) = true := by simp; omega
      have b3' : decide (2000 < ((min 2001 t.sz : Nat) : Int)) = true := by simp; omega
      obtain ⟨r, hr⟩ : ∃ r, r = min 2001 t.sz := ⟨_, rfl⟩
      rw [← hr] at HT2 b3 b3'
      obtain ⟨k, r1, r2, r3, a2, s1, s2, s3, a4, a5, a6, a7, a8⟩ := N
      obtain ⟨Q, hQ⟩ : ∃ Q, Q = Answers t tx tn at_ w := ⟨_, rfl⟩
      rw [← hQ] at HHA ⊢
      dsimp only at H29 HN
      clear HA hTI htx e1 hQ hb0 hT1 hT2 hnode hs hf hno hr
      go_enter Try.func13, Try.ntmps13
      go_wp2_with (first | (go_at_call 29; (with_reducible refine H29.mono ?_); rintro e w1 ⟨rfl, hb1⟩; obtain ⟨o0, o1, o2, o3, o4, o5, o6, o7, o8⟩ := nine' (HN.out w1 hb1); have HC1 := HT2.out w1 (HB0.out.trans (Joins.below_le hb1 (by simp))); have HB1 := hid hb1; clear hb1 H29) | (go_at_call 30; (with_reducible refine HC1.mono ?_); rintro e w2 ⟨rfl, hb2⟩; have HB2 := hid hb2; clear hb2 HC1))
      try go_ret2
      exact HHA.out _ (HB0.out.trans (Joins.below_le (HB1.out.trans (Joins.below_le HB2.out HB1.out.size)) (by simp)))
    · have b3 : decide (((min 2001 t.sz : Nat) : Int) > 2000) = false := by simp; omega
      have b3' : decide (2000 < ((min 2001 t.sz : Nat) : Int)) = false := by simp; omega
      obtain ⟨r, hr⟩ : ∃ r, r = min 2001 t.sz := ⟨_, rfl⟩
      rw [← hr] at HT2 b3 b3'
      by_cases c4 : at_ < 0 ∨ (tn : Int) < at_
      · have e1 : errP t tn at_ = 1 := by simp [errP, c1, hs, c3, c4]
        have HA : ∀ w', Below w.heap.size w w' → Answers t tx tn at_ w (.returned (.tuple #[.slice none 0 0, .int .i64 1])) w' := fun w' h => answers_none e1 (by decide) h
        have HHA := hid HA
        obtain ⟨k, r1, r2, r3, a2, s1, s2, s3, a4, a5, a6, a7, a8⟩ := N
        obtain ⟨Q, hQ⟩ : ∃ Q, Q = Answers t tx tn at_ w := ⟨_, rfl⟩
        rw [← hQ] at HHA ⊢
        dsimp only at H29 HN
        clear HA hTI htx e1 hQ hb0 hT1 hT2 hnode hs hf hno hr
        by_cases c5 : at_ < 0
        · have b5 : decide (at_ < 0) = true := by simp; omega
          go_enter Try.func13, Try.ntmps13
          go_wp2_with (first | (go_at_call 29; (with_reducible refine H29.mono ?_); rintro e w1 ⟨rfl, hb1⟩; obtain ⟨o0, o1, o2, o3, o4, o5, o6, o7, o8⟩ := nine' (HN.out w1 hb1); have HC1 := HT2.out w1 (HB0.out.trans (Joins.below_le hb1 (by simp))); have HB1 := hid hb1; clear hb1 H29) | (go_at_call 30; (with_reducible refine HC1.mono ?_); rintro e w2 ⟨rfl, hb2⟩; have HB2 := hid hb2; clear hb2 HC1))
          try go_ret2
          exact HHA.out _ (HB0.out.trans (Joins.below_le (HB1.out.trans (Joins.below_le HB2.out HB1.out.size)) (by simp)))
        · have b5 : decide (at_ < 0) = false := by simp; omega
          have b6 : decide (at_ > (tn : Int)) = true := by simp; omega
          have b6' : decide ((tn : Int) < at_) = true := by simp; omega
          go_enter Try.func13, Try.ntmps13
          go_wp2_with (first | (go_at_call 29; (with_reducible refine H29.mono ?_); rintro e w1 ⟨rfl, hb1⟩; obtain ⟨o0, o1, o2, o3, o4, o5, o6, o7, o8⟩ := nine' (HN.out w1 hb1); have HC1 := HT2.out w1 (HB0.out.trans (Joins.below_le hb1 (by simp))); have HB1 := hid hb1; clear hb1 H29) | (go_at_call 30; (with_reducible refine HC1.mono ?_); rintro e w2 ⟨rfl, hb2⟩; have HB2 := hid hb2; clear hb2 HC1))
          try go_ret2
          exact HHA.out _ (HB0.out.trans (Joins.below_le (HB1.out.trans (Joins.below_le HB2.out HB1.out.size)) (by simp)))
      · have e1 : errP t tn at_ = 0 := by simp [errP, c1, hs, c3, c4]
        obtain ⟨p, hp⟩ : ∃ p : Nat, at_ = (p : Int) := ⟨at_.toNat, by omega⟩
        have b5 : decide (at_ < 0) = false := by simp; omega
        have b6 : decide (at_ > (tn : Int)) = false := by simp; omega
        have b6' : decide ((tn : Int) < at_) = false := by simp; omega
        have hT3 : ∀ w1, Below w.heap.size w w1 → Calls Try.prog 31 #[N.v, .slice ad tn tcap] w1 fun e w' => ∃ g l, e = .returned (pt g) ∧ PS t t.notes tx p l ∧ l.length ≤ 65 ∧ Calls Try.prog 32 #[pt g, .int .i64 at_] w' fun e2 w'' => ∃ pv, e2 = .returned pv ∧ Parsed w1.heap.size w'' pv l ∧ Below w1.heap.size w1 w'' := fun w1 h => by
          rw [hp]
          exact walks31 N t tx ad tn tcap p w1 (hT1 w1 h) hs (by omega) (text_below htx h h.size) htc (by omega) (by omega)
        have HT3 := hid hT3
        have HA : ∀ (w1 w' : World) (pv : Value) (l : List (Int × List Int)), Below w.heap.size w w1 → PS t t.notes tx p l → l.length ≤ 65 → Parsed w1.heap.size w' pv l → Below w1.heap.size w1 w' → Answers t tx tn at_ w (.returned (.tuple #[pv, .int .i64 0])) w' := fun w1 w' pv l h1 h2 h3 h4 h5 => by
          refine ⟨pv, l, by rw [e1], ?_, fun _ => ⟨by rw [hp]; exact h2, h3⟩, fun h => absurd e1 h, h1.trans (Joins.below_le h5 h1.size)⟩
          obtain ⟨cs, F, q1, q2⟩ := h4
          refine ⟨cs, F, Joins.ownsRow_le q1 h1.size, ?_⟩
          exact q2.le h1.size
        have HHA := hid HA
        obtain ⟨k, r1, r2, r3, a2, s1, s2, s3, a4, a5, a6, a7, a8⟩ := N
        obtain ⟨Q, hQ⟩ : ∃ Q, Q = Answers t tx tn at_ w := ⟨_, rfl⟩
        rw [← hQ] at HHA ⊢
        dsimp only at H29 HN
        clear HA hTI htx e1 hQ hb0 hT1 hT2 hT3 hnode hs hf hno hr hp
        go_enter Try.func13, Try.ntmps13
        go_wp2_with (first | (go_at_call 29; (with_reducible refine H29.mono ?_); rintro e w1 ⟨rfl, hb1⟩; obtain ⟨o0, o1, o2, o3, o4, o5, o6, o7, o8⟩ := nine' (HN.out w1 hb1); have HC1 := HT2.out w1 (HB0.out.trans (Joins.below_le hb1 (by simp))); have HB1 := hid hb1; clear hb1 H29) | (go_at_call 30; (with_reducible refine HC1.mono ?_); rintro e w2 ⟨rfl, hb2⟩; obtain ⟨p0, p1, p2, p3, p4, p5, p6, p7, p8⟩ := nine' (HN.out w2 (HB1.out.trans (Joins.below_le hb2 HB1.out.size))); have HC2 := HT3.out w2 (HB0.out.trans (Joins.below_le (HB1.out.trans (Joins.below_le hb2 HB1.out.size)) (by simp))); have HB2 := hid hb2; clear hb2 HC1 o0 o1 o2 o3 o4 o5 o6 o7 o8) | (go_at_call 31; (with_reducible refine HC2.mono ?_); rintro e w3 ⟨g, l, rfl, hps, hln, hC3⟩; have HPS := hid hps; have HLN := hid hln; clear HC2 hps hln) | (go_at_call 32; (with_reducible refine hC3.mono ?_); rintro e w4 ⟨pv, rfl, hP, hB⟩; obtain ⟨cs, FF, hrow, hPR⟩ := hP; obtain ⟨q1, q2, q3, rfl⟩ := row_slice hrow; have HP4 : Hid (Parsed w2.heap.size w4 (.slice q1 q2 q3) l) := ⟨cs, FF, hrow, hPR⟩; have HB4 := hid hB; clear hB hC3 hrow hPR))
        try go_ret2
        exact HHA.out w2 w4 _ l (HB0.out.trans (Joins.below_le (HB1.out.trans (Joins.below_le HB2.out HB1.out.size)) (by simp))) HPS.out HLN.out HP4.out HB4.out
end Go.Proofs.Ytnpocciioedgpaa
/- HELPERS: captures lie within. -/
namespace Go.Proofs.Ytnpocciioedgpaa
open Go.RowKit
set_option linter.unusedVariables false
set_option linter.unusedSimpArgs false
/-- what is noted is as before -/
theorem Ex.notes {tx : List Int} {E : Nat → Way} {W : Way} {p : Nat} {s s' : Sg} (h : Ex tx E W p s s') : s'.notes = s.notes := by
  induction h with
  | through p s => rfl
  | skip h => rfl
  | once h hd ih => exact ih
  | @noted c d p s s' hd ih =>
    show s'.notes.set c (s.notes.getD c 0) = s.notes
    rw [ih]
    show (s.notes.set c (p : Int)).set c (s.notes.getD c 0) = s.notes
    rw [List.set_set]
    by_cases hc : c < s.notes.length
    · rw [show s.notes.getD c 0 = s.notes[c] by simp [List.getD_eq_getElem?_getD, hc], List.set_getElem_self]
    · exact List.set_eq_of_length_le (by omega)
  | over h => rfl
  | other h hr => rfl
  | rune h hr hd ih => exact ih
  | fails h => rfl
  | holds h hd ih => exact ih
  | @inOrder l p ss h ih =>
    have key : ∀ i, i ≤ l.length → (ss i).notes = (ss 0).notes := by
      intro i
      induction i with
      | zero => intro _; rfl
      | succ i ihi => intro hi; rw [ih i (by omega), ihi (by omega)]
    exact key _ (Nat.le_refl _)
  | again h ih => exact ih
mutual
/-- each group that is open is closed on the way, the last first -/
def Way.cl (A : Nat → List Nat → Prop) : Way → List Nat → Prop
  | .through, O => O = []
  | .once _ d, O => d.cl A O
  | .noted c d, O => (∃ i, 1 ≤ i ∧ c = 2 * i ∧ d.cl A (i :: O)) ∨ ∃ i O', 1 ≤ i ∧ c = 2 * i + 1 ∧ O = i :: O' ∧ d.cl A O'
  | .runeOf _ d, O => d.cl A O
  | .ifHolds _ d, O => d.cl A O
  | .inOrder l, O => clL A l O
  | .again b, O => A b O
def clL (A : Nat → List Nat → Prop) : List Way → List Nat → Prop
  | [], _ => True
  | d :: l, O => d.cl A O ∧ clL A l O
end
theorem clL_get {A : Nat → List Nat → Prop} {O : List Nat} : ∀ {l : List Way}, clL A l O → ∀ (i : Nat) (hi : i < l.length), (l[i]'hi).cl A O := by
  intro l
  induction l with
  | nil => intro _ i hi; simp at hi
  | cons e l ih =>
    intro h i hi
    simp only [clL] at h
    cases i with
    | zero => exact h.1
    | succ i => exact ih h.2 i (by simpa using hi)
theorem clL_snoc {A : Nat → List Nat → Prop} {O : List Nat} {d : Way} (hd : d.cl A O) : ∀ {l : List Way}, clL A l O → clL A (l ++ [d]) O := by
  intro l
  induction l with
  | nil => intro _; simp [clL, hd]
  | cons e l ih => intro h; simp only [clL, List.cons_append] at h ⊢; exact ⟨h.1, ih h.2⟩
mutual
theorem cl_mono {A A' : Nat → List Nat → Prop} (hA : ∀ b O, A b O → A' b O) : ∀ (W : Way) (O : List Nat), W.cl A O → W.cl A' O
  | .through, O, h => by simp only [Way.cl] at h ⊢; exact h
  | .once n d, O, h => by simp only [Way.cl] at h ⊢; exact cl_mono hA d O h
  | .noted _ d, O, h => by
    simp only [Way.cl] at h ⊢
    rcases h with ⟨i, h1, h2, h3⟩ | ⟨i, O', h1, h2, h3, h4⟩
    · exact .inl ⟨i, h1, h2, cl_mono hA d _ h3⟩
    · exact .inr ⟨i, O', h1, h2, h3, cl_mono hA d _ h4⟩
  | .runeOf _ d, O, h => by simp only [Way.cl] at h ⊢; exact cl_mono hA d O h
  | .ifHolds _ d, O, h => by simp only [Way.cl] at h ⊢; exact cl_mono hA d O h
  | .inOrder l, O, h => by simp only [Way.cl] at h ⊢; exact clL_mono hA l O h
  | .again b, O, h => by simp only [Way.cl] at h ⊢; exact hA b O h
theorem clL_mono {A A' : Nat → List Nat → Prop} (hA : ∀ b O, A b O → A' b O) : ∀ (l : List Way) (O : List Nat), clL A l O → clL A' l O
  | [], O, h => by simp [clL]
  | d :: l, O, h => by simp only [clL] at h ⊢; exact ⟨cl_mono hA d O h.1, clL_mono hA l O h.2⟩
end
/-- what is noted, in the midst of a walk -/
structure Mid (p0 K p : Nat) (O : List Nat) (ν : List Int) : Prop where
  len : ν.length = K
  zero : ν.getD 0 0 = (p0 : Int)
  le : p0 ≤ p
  opn : ∀ i, 1 ≤ i → 2 * i + 1 < K → i ∈ O → (p0 : Int) ≤ ν.getD (2 * i) 0 ∧ ν.getD (2 * i) 0 ≤ (p : Int)
  cls : ∀ i, 1 ≤ i → 2 * i + 1 < K → i ∉ O → (ν.getD (2 * i) 0 = -1 ∧ ν.getD (2 * i + 1) 0 = -1) ∨ ((p0 : Int) ≤ ν.getD (2 * i) 0 ∧ ν.getD (2 * i) 0 ≤ ν.getD (2 * i + 1) 0 ∧ ν.getD (2 * i + 1) 0 ≤ (p : Int))
/-- the captures of a parse lie within -/
structure Within (p0 K : Nat) (e : Int × List Int) : Prop where
  len : e.2.length = K
  zero : e.2.getD 0 0 = (p0 : Int)
  one : e.2.getD 1 0 = e.1
  grp : ∀ i, 1 ≤ i → 2 * i + 1 < K → (e.2.getD (2 * i) 0 = -1 ∧ e.2.getD (2 * i + 1) 0 = -1) ∨ ((p0 : Int) ≤ e.2.getD (2 * i) 0 ∧ e.2.getD (2 * i) 0 ≤ e.2.getD (2 * i + 1) 0 ∧ e.2.getD (2 * i + 1) 0 ≤ e.1)
theorem getD_set_ne {l : List Int} {i j : Nat} {x : Int} (h : i ≠ j) : (l.set i x).getD j 0 = l.getD j 0 := by
  simp only [List.getD_eq_getElem?_getD, List.getElem?_set_ne h]
theorem getD_set_eq {l : List Int} {i : Nat} {x : Int} (h : i < l.length) : (l.set i x).getD i 0 = x := by
  simp only [List.getD_eq_getElem?_getD, List.getElem?_set_self h]
  rfl
theorem Mid.on {p0 K p q : Nat} {O : List Nat} {ν : List Int} (h : Mid p0 K p O ν) (hq : p ≤ q) : Mid p0 K q O ν :=
  ⟨h.len, h.zero, by have := h.le; omega, fun i a b c => by have := h.opn i a b c; omega, fun i a b c => by have := h.cls i a b c; omega⟩
theorem Mid.begins {p0 K p : Nat} {O : List Nat} {ν : List Int} (h : Mid p0 K p O ν) (j : Nat) (hj : 1 ≤ j) : Mid p0 K p (j :: O) (ν.set (2 * j) (p : Int)) := by
  refine ⟨by simp [h.len], by rw [getD_set_ne (by omega)]; exact h.zero, h.le, fun i a b c => ?_, fun i a b c => ?_⟩
  · by_cases hi : i = j
    · subst hi
      rw [getD_set_eq (by rw [h.len]; omega)]
      have := h.le
      omega
    · rw [getD_set_ne (by omega)]
      simp only [List.mem_cons, hi, false_or] at c
      exact h.opn i a b c
  · simp only [List.mem_cons, not_or] at c
    rw [getD_set_ne (by omega), getD_set_ne (by omega)]
    exact h.cls i a b c.2
theorem Mid.closes {p0 K p j : Nat} {O : List Nat} {ν : List Int} (h : Mid p0 K p (j :: O) ν) (hj : 1 ≤ j) : Mid p0 K p O (ν.set (2 * j + 1) (p : Int)) := by
  refine ⟨by simp [h.len], by rw [getD_set_ne (by omega)]; exact h.zero, h.le, fun i a b c => ?_, fun i a b c => ?_⟩
  · rw [getD_set_ne (by omega)]
    exact h.opn i a b (by simp [c])
  · by_cases hi : i = j
    · subst hi
      have := h.opn i a b (by simp)
      rw [getD_set_ne (by omega), getD_set_eq (by rw [h.len]; omega)]
      exact .inr ⟨this.1, this.2, Int.le_refl _⟩
    · rw [getD_set_ne (by omega), getD_set_ne (by omega)]
      exact h.cls i a b (by simp [hi, c])
/-- the captures of what comes through lie within -/
theorem ex_within {tx : List Int} {E : Nat → Way} {A : Nat → List Nat → Prop} (hE : ∀ b O, A b O → (E b).cl A O) {p0 K : Nat} (hK : 2 ≤ K) {W : Way} {p : Nat} {s s' : Sg} (h : Ex tx E W p s s') : ∀ O, W.cl A O → Mid p0 K p O s.notes → (∀ e ∈ s.parses, Within p0 K e) → ∀ e ∈ s'.parses, Within p0 K e := by
  induction h with
  | through p s =>
    intro O hO hM hP e he
    simp only [Way.cl] at hO
    subst hO
    simp only [List.mem_append, List.mem_singleton] at he
    rcases he with he | rfl
    · exact hP e he
    · refine ⟨by simp [hM.len], by rw [getD_set_ne (by omega)]; exact hM.zero, getD_set_eq (by rw [hM.len]; omega), fun i a b => ?_⟩
      show ((s.notes.set 1 (p : Int)).getD (2 * i) 0 = -1 ∧ _) ∨ _
      rw [getD_set_ne (by omega), getD_set_ne (by omega)]
      exact hM.cls i a b (by simp)
  | skip h => intro O hO hM hP; exact hP
  | once h hd ih => intro O hO hM hP; simp only [Way.cl] at hO; exact ih O hO hM hP
  | noted hd ih =>
    intro O hO hM hP
    simp only [Way.cl] at hO
    rcases hO with ⟨i, h1, rfl, h3⟩ | ⟨i, O', h1, rfl, rfl, h4⟩
    · exact ih _ h3 (hM.begins i h1) hP
    · exact ih _ h4 (hM.closes h1) hP
  | over h => intro O hO hM hP; exact hP
  | other h hr => intro O hO hM hP; exact hP
  | rune h hr hd ih => intro O hO hM hP; simp only [Way.cl] at hO; exact ih O hO (hM.on (by omega)) hP
  | fails h => intro O hO hM hP; exact hP
  | holds h hd ih => intro O hO hM hP; simp only [Way.cl] at hO; exact ih O hO hM hP
  | @inOrder l p ss h ih =>
    intro O hO hM hP
    simp only [Way.cl] at hO
    have key : ∀ i, i ≤ l.length → (ss i).notes = (ss 0).notes ∧ ∀ e ∈ (ss i).parses, Within p0 K e := by
      intro i
      induction i with
      | zero => intro _; exact ⟨rfl, hP⟩
      | succ i ihi =>
        intro hi
        obtain ⟨a, b⟩ := ihi (by omega)
        exact ⟨(h i (by omega)).notes.trans a, ih i (by omega) O (clL_get hO i (by omega)) (by rw [a]; exact hM) b⟩
    exact (key _ (Nat.le_refl _)).2
  | again h ih => intro O hO hM hP; simp only [Way.cl] at hO; exact ih O (hE _ O hO) hM hP
mutual
/-- its groups are counted from one on -/
def Tn.from1 : Tn → Prop
  | .mk k R a s mn mx lz ix nm => (k = 7 → 1 ≤ ix) ∧ from1L s
def from1L : List Tn → Prop
  | [] => True
  | t :: ts => t.from1 ∧ from1L ts
end
theorem from1L_snoc {t : Tn} : ∀ {ts : List Tn}, from1L (ts ++ [t]) ↔ from1L ts ∧ t.from1 := by
  intro ts
  induction ts with
  | nil => simp [from1L]
  | cons u ts ih => simp only [List.cons_append, from1L, ih, and_assoc]
/-- more loops, each right -/
structure Mor (E : Nat → Way) (A A' : Nat → List Nat → Prop) : Prop where
  sub : ∀ b O, A b O → A' b O
  new : ∀ b O, A' b O → A b O ∨ (E b).cl A' O
section
variable {E : Nat → Way}
theorem Mor.refl (A : Nat → List Nat → Prop) : Mor E A A := ⟨fun _ _ h => h, fun _ _ h => .inl h⟩
theorem Mor.trans {A A1 A2 : Nat → List Nat → Prop} (h : Mor E A A1) (h' : Mor E A1 A2) : Mor E A A2 :=
  ⟨fun b O hb => h'.sub b O (h.sub b O hb), fun b O hb => by
    rcases h'.new b O hb with hb | hb
    · rcases h.new b O hb with hb | hb
      · exact .inl hb
      · exact .inr (cl_mono h'.sub _ _ hb)
    · exact .inr hb⟩
/-- to begin this closes what was opened -/
def ClM (E : Nat → Way) (B W : Way) : Prop := ∀ A O, B.cl A O → ∃ A', Mor E A A' ∧ W.cl A' O
theorem ClM.self (B : Way) : ClM E B B := fun A O h => ⟨A, .refl A, h⟩
theorem ClM.seq {B W W' : Way} (h : ClM E B W) (h' : ClM E W W') : ClM E B W' := fun A O hb => by
  obtain ⟨A1, m1, h1⟩ := h A O hb
  obtain ⟨A2, m2, h2⟩ := h' A1 O h1
  exact ⟨A2, m1.trans m2, h2⟩
theorem ClM.map {B W W' : Way} (h : ClM E B W) (hW : ∀ A O, W.cl A O → W'.cl A O) : ClM E B W' := fun A O hb => by
  obtain ⟨A1, m1, h1⟩ := h A O hb
  exact ⟨A1, m1, hW _ _ h1⟩
theorem ClM.round {n : Int} {b : Nat} {B : Way} (lz : Bool) (h : ClM E (Dcd lz n b B) (E b)) {A : Nat → List Nat → Prop} {O : List Nat} (hB : B.cl A O) : ∃ A', Mor E A A' ∧ (E b).cl A' O ∧ (Dcd lz n b B).cl A' O := by
  have hD : (Dcd lz n b B).cl (fun x P => A x P ∨ (x = b ∧ P = O)) O := by
    have hB' := cl_mono (A' := fun x P => A x P ∨ (x = b ∧ P = O)) (fun x P hx => .inl hx) B O hB
    simp only [Way.cl]
    cases lz <;> simp [clL, hB', Way.cl]
  obtain ⟨A1, m1, h1⟩ := h _ O hD
  refine ⟨A1, ⟨fun x P hx => m1.sub x P (.inl hx), fun x P hx => ?_⟩, h1, cl_mono m1.sub _ _ hD⟩
  rcases m1.new x P hx with (hx | ⟨rfl, rfl⟩) | hx
  · exact .inl hx
  · exact .inr h1
  · exact .inr hx
theorem Beg.closes {t : Tn} {n n1 : Int} {B W : Way} (h : Beg E t n B n1 W) : t.from1 → ClM E B W := by
  refine Beg.rec (motive_1 := fun t n B n1 W _ => t.from1 → ClM E B W) (motive_2 := fun ts n B n1 W _ => from1L ts → ClM E B W)
    (motive_3 := fun ts n B n1 Ws _ => from1L ts → ∀ A O, B.cl A O → ∃ A', Mor E A A' ∧ clL A' Ws O)
    (motive_4 := fun t c n B n1 W _ => t.from1 → ClM E B W) (motive_5 := fun t lz B c n n1 W _ => t.from1 → ClM E B W)
    ?_ ?_ ?_ ?_ ?_ ?_ ?_ ?_ ?_ ?_ ?_ ?_ ?_ ?_ ?_ ?_ ?_ h
  · intro R a s mn mx lz ix nm n B _
    exact (ClM.self B).map fun _ _ h => by simp only [Way.cl]; exact h
  · intro R a s mn mx lz ix nm n B _
    exact (ClM.self B).map fun _ _ h => by simp only [Way.cl]; exact h
  · intro R a s mn mx lz ix nm n B _
    exact (ClM.self B).map fun _ _ h => by simp only [Way.cl]; exact h
  · intro R a s mn mx lz ix nm n n' B W _ h hf
    simp only [Tn.from1] at hf
    exact h hf.2
  · intro R a s mn mx lz ix nm n n' B Ws _ h hf A O hb
    simp only [Tn.from1] at hf
    obtain ⟨A1, m1, h1⟩ := h hf.2 A O hb
    exact ⟨A1, m1, by simp only [Way.cl]; exact h1⟩
  · intro R a t mn mx lz i nm n n' B W _ h hf A O hb
    simp only [Tn.from1, from1L] at hf
    have hi : 1 ≤ i := by have := hf.1 trivial; omega
    obtain ⟨A1, m1, h1⟩ := h hf.2.1 A (i :: O) (by simp only [Way.cl]; exact .inr ⟨i, O, hi, rfl, rfl, hb⟩)
    exact ⟨A1, m1, by simp only [Way.cl]; exact .inl ⟨i, hi, rfl, h1⟩⟩
  · intro R a t lz ix nm n n2 b B _ h hf A O hb
    simp only [Tn.from1, from1L] at hf
    obtain ⟨A1, m1, _, h1⟩ := (h hf.2.1).round lz hb
    exact ⟨A1, m1, h1⟩
  · intro R a t c lz ix nm n n2 n3 b B W3 _ _ h hT hf
    simp only [Tn.from1, from1L] at hf
    refine ClM.seq (fun A O hb => ?_) (hT hf.2.1)
    obtain ⟨A1, m1, h1, _⟩ := (h hf.2.1).round lz hb
    exact ⟨A1, m1, h1⟩
  · intro R a t c m lz ix nm n n1 n2 B W1 W2 _ _ hO hT hf
    simp only [Tn.from1, from1L] at hf
    exact (hO hf.2.1).seq (hT hf.2.1)
  · intro n B _
    exact .self B
  · intro t ts n n1 n2 B W1 W2 _ _ h h2 hf
    simp only [from1L] at hf
    exact (h hf.2).seq (h2 hf.1)
  · intro n B _ A O hb
    exact ⟨A, .refl A, by simp [clL]⟩
  · intro t ts n n1 n2 B W2 Ws _ _ hl hl2 hf A O hb
    rw [from1L_snoc] at hf
    obtain ⟨A1, m1, h1⟩ := hl hf.1 A O hb
    obtain ⟨A2, m2, h2⟩ := hl2 hf.2 A1 O (cl_mono m1.sub _ _ hb)
    exact ⟨A2, m1.trans m2, clL_snoc h2 (clL_mono m2.sub _ _ h1)⟩
  · intro t n W _
    exact .self W
  · intro t c n n1 n2 W W1 W2 _ _ h h2 hf
    exact (h hf).seq (h2 hf)
  · intro t lz B n _
    exact .self B
  · intro t lz B c n n1 n2 W1 W2 _ _ h h2 hf A O hb
    obtain ⟨A1, m1, h1⟩ := ((h hf).seq (h2 hf)) A O hb
    have hb1 := cl_mono m1.sub _ _ hb
    refine ⟨A1, m1, ?_⟩
    simp only [Way.cl]
    cases lz <;> simp [clL, h1, hb1]
end
/-- THE CAPTURES of the parses of a tree lie within -/
theorem PS.within {t : Tn} {K : Nat} {tx : List Int} {p : Nat} {l : List (Int × List Int)} (h : PS t K tx p l) (hK : 2 ≤ K) (hf : t.from1) : ∀ e ∈ l, Within p K e := by
  obtain ⟨E, W, n1, s', hB, hE, hg, hx, rfl⟩ := h.ex
  obtain ⟨A, hM, hc⟩ := hB.closes hf (fun _ _ => False) [] (by simp [Way.cl])
  refine ex_within (A := A) (fun b O hb => ?_) hK hx [] hc ⟨by simp, getD_set_eq (by simp; omega), Nat.le_refl _, fun i _ _ hi => (by cases hi), fun i a b _ => .inl ?_⟩ (fun e he => by cases he)
  · rcases hM.new b O hb with h | h
    · exact h.elim
    · exact h
  · show ((List.replicate K (-1)).set 0 (p : Int)).getD (2 * i) 0 = -1 ∧ ((List.replicate K (-1)).set 0 (p : Int)).getD (2 * i + 1) 0 = -1
    rw [getD_set_ne (by omega), getD_set_ne (by omega)]
    simp only [List.getD_eq_getElem?_getD, List.getElem?_replicate]
    rw [if_pos (by omega), if_pos (by omega)]
    simp
mutual
theorem Tn.fine_from1 : ∀ (t : Tn), t.fine = true → t.from1
  | .mk k R a s mn mx lz ix nm, h => by
    simp only [Tn.fine, Bool.and_eq_true] at h
    simp only [Tn.from1]
    exact ⟨fun hk => ((fine_node h.1).grp hk).2.1, fineL_from1 s h.2⟩
theorem fineL_from1 : ∀ (ts : List Tn), fineL ts = true → from1L ts
  | [], _ => by simp [from1L]
  | t :: ts, h => by
    simp only [fineL, Bool.and_eq_true] at h
    simp only [from1L]
    exact ⟨t.fine_from1 h.1, fineL_from1 ts h.2⟩
end
end Go.Proofs.Ytnpocciioedgpaa
/- HELPERS: tables from place to place: what they say of a tree. -/
namespace Go.Proofs.Ytnpocciioedgpaa
open Go.RowKit
set_option linter.unusedVariables false
set_option linter.unusedSimpArgs false
/-- from i to k, by way of places below j -/
def Pth (R : Nat → Nat → Prop) : Nat → Nat → Nat → Prop
  | 0, i, k => k = i ∨ R i k
  | j + 1, i, k => Pth R j i k ∨ (Pth R j i j ∧ Pth R j j k)
theorem Pth.up {R : Nat → Nat → Prop} {i k : Nat} (h : k = i ∨ R i k) : ∀ j, Pth R j i k := by
  intro j
  induction j with
  | zero => exact h
  | succ j ih => exact .inl ih
theorem Pth.trans {R : Nat → Nat → Prop} : ∀ {j i v k : Nat}, v < j → Pth R j i v → Pth R j v k → Pth R j i k := by
  intro j
  induction j with
  | zero => intro i v k hv; omega
  | succ j ih =>
    intro i v k hv h1 h2
    by_cases hj : v = j
    · subst hj
      have a : Pth R v i v := h1.elim id And.left
      have b : Pth R v v k := h2.elim id And.right
      exact .inr ⟨a, b⟩
    · have hv : v < j := by omega
      rcases h1 with h1 | ⟨h1, h1'⟩ <;> rcases h2 with h2 | ⟨h2, h2'⟩
      · exact .inl (ih hv h1 h2)
      · exact .inr ⟨ih hv h1 h2, h2'⟩
      · exact .inr ⟨h1, ih hv h1' h2⟩
      · exact .inr ⟨h1, h2'⟩
theorem Pth.iter {R : Nat → Nat → Prop} : ∀ {j i k : Nat}, Pth R j i k → ∃ c, Iter R c i k := by
  intro j
  induction j with
  | zero =>
    intro i k h
    rcases h with h | h
    · exact ⟨0, h⟩
    · exact ⟨1, k, h, rfl⟩
  | succ j ih =>
    intro i k h
    rcases h with h | ⟨h1, h2⟩
    · exact ih h
    · obtain ⟨a, ha⟩ := ih h1
      obtain ⟨b, hb⟩ := ih h2
      exact ⟨a + b, ha.add hb⟩
theorem Iter.pth {R : Nat → Nat → Prop} {n : Nat} (hR : ∀ i k, i < n → R i k → k < n) : ∀ {c i k : Nat}, i < n → Iter R c i k → Pth R n i k := by
  intro c
  induction c with
  | zero => intro i k _ h; exact Pth.up (.inl h) n
  | succ c ih =>
    intro i k hi h
    obtain ⟨r, h1, h2⟩ := h
    have hr := hR i r hi h1
    exact Pth.trans hr (Pth.up (.inr h1) n) (ih hr h2)
/-- a table -/
abbrev Tb := Nat → Nat → Bool
def Tb.stays : Tb := fun i k => decide (k = i)
def Tb.or (a b : Tb) : Tb := fun i k => a i k || b i k
def Tb.thr (n : Nat) (a b : Tb) : Tb := fun i k => (List.range n).any fun j => a i j && b j k
/-- the loop of often, so many rounds -/
def Tb.oft (a : Tb) : Nat → Tb
  | 0 => Tb.or a Tb.stays
  | j + 1 => fun i k => oft a j i k || (oft a j i j && oft a j j k)
def Tb.pow (n : Nat) (a : Tb) : Nat → Tb
  | 0 => Tb.stays
  | c + 1 => Tb.thr n (pow n a c) a
/-- as often as c, and up to m times more -/
def Tb.upTo (n : Nat) (a : Tb) (c : Nat) : Nat → Tb
  | 0 => pow n a c
  | m + 1 => Tb.or (upTo n a c m) (pow n a (c + (m + 1)))
/-- a table says what a relation says, at these places -/
def Says (n : Nat) (a : Tb) (R : Nat → Nat → Prop) : Prop := ∀ i k, i < n → k < n → (a i k = true ↔ R i k)
/-- a relation does not lead out -/
def Stay (n : Nat) (R : Nat → Nat → Prop) : Prop := ∀ i k, i < n → R i k → k < n
theorem Says.stays (n : Nat) : Says n Tb.stays fun p q => q = p := fun i k _ _ => by simp [Tb.stays]
theorem Says.or {n : Nat} {a b : Tb} {R S : Nat → Nat → Prop} (h : Says n a R) (h' : Says n b S) : Says n (Tb.or a b) fun p q => R p q ∨ S p q := fun i k hi hk => by
  simp only [Tb.or, Bool.or_eq_true, h i k hi hk, h' i k hi hk]
theorem Says.thr {n : Nat} {a b : Tb} {R S : Nat → Nat → Prop} (h : Says n a R) (h' : Says n b S) (hR : Stay n R) : Says n (Tb.thr n a b) fun p q => ∃ r, R p r ∧ S r q := fun i k hi hk => by
  simp only [Tb.thr, List.any_eq_true, List.mem_range, Bool.and_eq_true]
  constructor
  · rintro ⟨j, hj, h1, h2⟩
    exact ⟨j, (h i j hi hj).1 h1, (h' j k hj hk).1 h2⟩
  · rintro ⟨j, h1, h2⟩
    have hj := hR i j hi h1
    exact ⟨j, hj, (h i j hi hj).2 h1, (h' j k hj hk).2 h2⟩
theorem Says.oft {n : Nat} {a : Tb} {R : Nat → Nat → Prop} (h : Says n a R) : ∀ j, j ≤ n → Says n (Tb.oft a j) (Pth R j) := by
  intro j
  induction j with
  | zero =>
    intro _ i k hi hk
    simp only [Tb.oft, Pth]
    rw [(h.or (Says.stays n)) i k hi hk, or_comm]
  | succ j ih =>
    intro hj i k hi hk
    have ih := ih (by omega)
    simp only [Tb.oft, Pth, Bool.or_eq_true, Bool.and_eq_true, ih i k hi hk, ih i j hi (by omega), ih j k (by omega) hk]
theorem Says.often {n : Nat} {a : Tb} {R : Nat → Nat → Prop} (h : Says n a R) (hR : Stay n R) : Says n (Tb.oft a n) fun p q => ∃ c, Iter R c p q := fun i k hi hk =>
  (h.oft n (Nat.le_refl _) i k hi hk).trans ⟨fun h => h.iter, fun ⟨c, h⟩ => h.pth hR hi⟩
theorem Stay.iter {n : Nat} {R : Nat → Nat → Prop} (hR : Stay n R) : ∀ c, Stay n (Iter R c) := by
  intro c
  induction c with
  | zero => intro i k hi h; simp only [Iter] at h; omega
  | succ c ih => intro i k hi h; obtain ⟨r, h1, h2⟩ := h; exact ih r k (hR i r hi h1) h2
theorem Says.to {n : Nat} {a : Tb} {R S : Nat → Nat → Prop} (h : Says n a R) (h' : ∀ p q, R p q ↔ S p q) : Says n a S := fun i k hi hk => (h i k hi hk).trans (h' i k)
theorem Says.pow {n : Nat} {a : Tb} {R : Nat → Nat → Prop} (h : Says n a R) (hR : Stay n R) : ∀ c, Says n (Tb.pow n a c) (Iter R c) := by
  intro c
  induction c with
  | zero => exact (Says.stays n).to fun p q => by simp [Iter]
  | succ c ih =>
    refine (ih.thr h (hR.iter c)).to fun p q => ?_
    constructor
    · rintro ⟨r, h1, h2⟩
      exact h1.add (show Iter R 1 r q from ⟨q, h2, rfl⟩)
    · intro h
      obtain ⟨r, h1, x, h2, h3⟩ := Iter.split (a := c) (b := 1) h
      simp only [Iter] at h3
      subst h3
      exact ⟨r, h1, h2⟩
theorem Says.upTo {n : Nat} {a : Tb} {R : Nat → Nat → Prop} (h : Says n a R) (hR : Stay n R) (c : Nat) : ∀ m, Says n (Tb.upTo n a c m) fun p q => ∃ d, c ≤ d ∧ d ≤ c + m ∧ Iter R d p q := by
  intro m
  induction m with
  | zero => exact (h.pow hR c).to fun p q => ⟨fun h => ⟨c, Nat.le_refl _, Nat.le_refl _, h⟩, fun ⟨d, h1, h2, h3⟩ => (show d = c by omega) ▸ h3⟩
  | succ m ih =>
    refine (ih.or (h.pow hR (c + (m + 1)))).to fun p q => ⟨?_, ?_⟩
    · rintro (⟨d, h1, h2, h3⟩ | h)
      · exact ⟨d, h1, by omega, h3⟩
      · exact ⟨_, by omega, by omega, h⟩
    · rintro ⟨d, h1, h2, h3⟩
      by_cases hd : d = c + (m + 1)
      · subst hd; exact .inr h3
      · exact .inl ⟨d, h1, by omega, h3⟩
mutual
/-- the table of a tree -/
def tab (tx : List Int) : Tn → Tb
  | .mk k R a s mn mx lz ix nm =>
    if k = 1 then Tb.stays
    else if k = 2 then fun p q => decide (p < tx.length) && hasB R (tx.getD p 0) && decide (q = p + 1)
    else if k = 3 then fun p q => heldB tx a p && decide (q = p)
    else if k = 4 ∨ k = 7 then tabC tx Tb.stays s
    else if k = 5 then tabA tx (fun _ _ => false) s
    else if k = 6 then
      (if mx = 0 then Tb.stays else if mx < 0 then Tb.thr (tx.length + 1) (Tb.pow (tx.length + 1) (tabH tx s) mn.toNat) (Tb.oft (tabH tx s) (tx.length + 1)) else Tb.upTo (tx.length + 1) (tabH tx s) mn.toNat (mx - mn).toNat)
    else fun _ _ => false
def tabC (tx : List Int) : Tb → List Tn → Tb
  | a, [] => a
  | a, t :: ts => tabC tx (Tb.thr (tx.length + 1) a (tab tx t)) ts
def tabA (tx : List Int) : Tb → List Tn → Tb
  | a, [] => a
  | a, t :: ts => tabA tx (Tb.or a (tab tx t)) ts
def tabH (tx : List Int) : List Tn → Tb
  | [] => fun _ _ => false
  | t :: _ => tab tx t
end
mutual
theorem Mt.stay {tx : List Int} : ∀ (t : Tn), Stay (tx.length + 1) (Mt tx t)
  | .mk k R a s mn mx lz ix nm, p, q, hp, h => by
    simp only [Mt] at h
    rcases h with h | h | h | h | h | h | ⟨_, c, _, _, h⟩
    · omega
    · omega
    · omega
    · exact MtC.stay s p q hp h.2
    · exact MtA.stay s p q hp h.2
    · exact MtH.stay s p q hp h.2
    · exact Stay.iter (MtH.stay s) c p q hp h
theorem MtC.stay {tx : List Int} : ∀ (ts : List Tn), Stay (tx.length + 1) (MtC tx ts)
  | [], p, q, hp, h => by simp only [MtC] at h; omega
  | t :: ts, p, q, hp, h => by
    simp only [MtC] at h
    obtain ⟨r, h1, h2⟩ := h
    exact MtC.stay ts r q (Mt.stay t p r hp h1) h2
theorem MtA.stay {tx : List Int} : ∀ (ts : List Tn), Stay (tx.length + 1) (MtA tx ts)
  | [], p, q, hp, h => by simp [MtA] at h
  | t :: ts, p, q, hp, h => by
    simp only [MtA] at h
    rcases h with h | h
    · exact Mt.stay t p q hp h
    · exact MtA.stay ts p q hp h
theorem MtH.stay {tx : List Int} : ∀ (ts : List Tn), Stay (tx.length + 1) (MtH tx ts)
  | [], p, q, hp, h => by simp [MtH] at h
  | t :: _, p, q, hp, h => by simp only [MtH] at h; exact Mt.stay t p q hp h
end
mutual
/-- THE TABLE of a fine tree says what it takes -/
theorem tab_says {tx : List Int} : ∀ (t : Tn), t.fine = true → Says (tx.length + 1) (tab tx t) (Mt tx t)
  | .mk k R a s mn mx lz ix nm, h => by
    simp only [Tn.fine, Bool.and_eq_true] at h
    have FN := fine_node h.1
    rcases FN.kind with rfl | rfl | rfl | rfl | rfl | rfl | rfl
    · simp only [tab]
      exact (Says.stays _).to fun p q => by simp [Mt]
    · intro p q _ _
      have := FN.cls rfl
      simp [tab, Mt, this]
      constructor
      · rintro ⟨⟨a, b⟩, c⟩; exact ⟨a, b, c⟩
      · rintro ⟨a, b, c⟩; exact ⟨⟨a, b⟩, c⟩
    · intro p q _ _
      simp [tab, Mt]
    · simp only [tab]
      refine (tabC_says s h.2 Tb.stays (fun p q => q = p) (Says.stays _) (fun i k hi h => by omega)).to fun p q => ?_
      simp [Mt]
    · simp only [tab]
      refine (tabA_says s h.2 (fun _ _ => false) (fun p q => False) (fun i k _ _ => by simp)).to fun p q => ?_
      simp [Mt]
    · obtain ⟨h1, h2, h3, h4⟩ := FN.rep rfl
      have hs := tabH_says (tx := tx) s h.2
      have hst := MtH.stay (tx := tx) s
      by_cases c0 : mx = 0
      · subst c0
        have e : tab tx (.mk 6 R a s mn 0 lz ix nm) = Tb.stays := by simp [tab]
        rw [e]
        refine (Says.stays _).to fun p q => ?_
        simp [Mt]
        constructor
        · rintro rfl; exact ⟨0, by omega, rfl, rfl⟩
        · rintro ⟨c, _, rfl, h⟩; exact h
      · by_cases c1 : mx < 0
        · have e : tab tx (.mk 6 R a s mn mx lz ix nm) = Tb.thr (tx.length + 1) (Tb.pow (tx.length + 1) (tabH tx s) mn.toNat) (Tb.oft (tabH tx s) (tx.length + 1)) := by simp [tab, c0, c1]
          rw [e]
          refine ((hs.pow hst mn.toNat).thr (hs.often hst) (hst.iter _)).to fun p q => ?_
          simp [Mt, c1]
          constructor
          · rintro ⟨r, a1, c, a2⟩
            exact ⟨mn.toNat + c, by omega, a1.add a2⟩
          · rintro ⟨c, a1, a2⟩
            obtain ⟨d, rfl⟩ : ∃ d, c = mn.toNat + d := ⟨c - mn.toNat, by omega⟩
            obtain ⟨r, b1, b2⟩ := a2.split
            exact ⟨r, b1, d, b2⟩
        · have e : tab tx (.mk 6 R a s mn mx lz ix nm) = Tb.upTo (tx.length + 1) (tabH tx s) mn.toNat (mx - mn).toNat := by simp [tab, c0, c1]
          rw [e]
          refine (hs.upTo hst mn.toNat (mx - mn).toNat).to fun p q => ?_
          simp [Mt, c1]
          constructor
          · rintro ⟨d, a1, a2, a3⟩
            exact ⟨d, by omega, by omega, a3⟩
          · rintro ⟨d, a1, a2, a3⟩
            exact ⟨d, by omega, by omega, a3⟩
    · have h1 := (FN.grp rfl).1
      match s, h1, h.2 with
      | [t], _, h2 =>
        simp only [tab]
        refine (tabC_says [t] h2 Tb.stays (fun p q => q = p) (Says.stays _) (fun i k hi h => by omega)).to fun p q => ?_
        simp [Mt, MtH, MtC]
theorem tabC_says {tx : List Int} : ∀ (ts : List Tn), fineL ts = true → ∀ (a : Tb) (R : Nat → Nat → Prop), Says (tx.length + 1) a R → Stay (tx.length + 1) R → Says (tx.length + 1) (tabC tx a ts) fun p q => ∃ r, R p r ∧ MtC tx ts r q
  | [], _, a, R, h, _ => by
    simp only [tabC]
    exact h.to fun p q => by simp [MtC]
  | t :: ts, hf, a, R, h, hR => by
    simp only [fineL, Bool.and_eq_true] at hf
    simp only [tabC]
    refine (tabC_says ts hf.2 _ _ (h.thr (tab_says t hf.1) hR) (fun i k hi ⟨r, h1, h2⟩ => Mt.stay t r k (hR i r hi h1) h2)).to fun p q => ?_
    simp only [MtC]
    constructor
    · rintro ⟨r, ⟨x, h1, h2⟩, h3⟩; exact ⟨x, h1, r, h2, h3⟩
    · rintro ⟨x, h1, r, h2, h3⟩; exact ⟨r, ⟨x, h1, h2⟩, h3⟩
theorem tabA_says {tx : List Int} : ∀ (ts : List Tn), fineL ts = true → ∀ (a : Tb) (R : Nat → Nat → Prop), Says (tx.length + 1) a R → Says (tx.length + 1) (tabA tx a ts) fun p q => R p q ∨ MtA tx ts p q
  | [], _, a, R, h => by
    simp only [tabA]
    exact h.to fun p q => by simp [MtA]
  | t :: ts, hf, a, R, h => by
    simp only [fineL, Bool.and_eq_true] at hf
    simp only [tabA]
    refine (tabA_says ts hf.2 _ _ (h.or (tab_says t hf.1))).to fun p q => ?_
    simp only [MtA, or_assoc]
theorem tabH_says {tx : List Int} : ∀ (ts : List Tn), fineL ts = true → Says (tx.length + 1) (tabH tx ts) (MtH tx ts)
  | [], _ => fun i k _ _ => by simp [tabH, MtH]
  | t :: ts, hf => by
    simp only [fineL, Bool.and_eq_true] at hf
    simp only [tabH]
    exact (tab_says t hf.1).to fun p q => by simp [MtH]
end
end Go.Proofs.Ytnpocciioedgpaa
/- HELPERS: trees that lie in some blocks; rows of them. -/
namespace Go.Proofs.Ytnpocciioedgpaa
open Go.RowKit
set_option linter.unusedVariables false
set_option linter.unusedSimpArgs false
/-- a row of ranges in blocks of A -/
def RP (w : World) (A : Nat → Prop) (ad : Option Addr) (R : List (Int × Int)) : Prop :=
  R ≠ [] → ∃ b o, ad = some ⟨b, o, none⟩ ∧ A b ∧ ∀ i (hi : i < R.length), w.cell? ⟨b, o + i * 2, none⟩ = some (.int .i64 R[i].1) ∧ w.cell? ⟨b, o + i * 2 + 1, none⟩ = some (.int .i64 R[i].2)
/-- a tree lies in blocks of A -/
inductive TP (w : World) (A : Nat → Prop) : Nv → Tn → Prop
  | mk {N : Nv} {R : List (Int × Int)} {ts : List Tn} {ND : Nat → Nv} (ok : N.ok) (hr : N.r2 = R.length) (hR : RP w A N.r1 R) (hRk : ∀ x ∈ R, I64ok x.1 ∧ I64ok x.2) (hs : N.s2 = ts.length)
      (hS : 0 < ts.length → ∃ b o, N.s1 = some ⟨b, o, none⟩ ∧ A b ∧ ∀ i, i < ts.length → N9 w b o i (ND i)) (hk : ∀ i (hi : i < ts.length), TP w A (ND i) ts[i]) :
      TP w A N (.mk N.k R N.a2 ts N.a4 N.a5 N.a6 N.a7 N.a8)
theorem RP.kept {w w' : World} {A A' : Nat → Prop} {ad : Option Addr} {R : List (Int × Int)} (h : RP w A ad R) (hk : ∀ b, A b → w'.heap[b]? = w.heap[b]?) (hA : ∀ b, A b → A' b) : RP w' A' ad R := fun hn => by
  obtain ⟨b, o, h1, h2, h3⟩ := h hn
  exact ⟨b, o, h1, hA b h2, fun i hi => ⟨(cell_eq (hk b h2) _).trans (h3 i hi).1, (cell_eq (hk b h2) _).trans (h3 i hi).2⟩⟩
theorem TP.kept {w w' : World} {A A' : Nat → Prop} {N : Nv} {t : Tn} (h : TP w A N t) (hk : ∀ b, A b → w'.heap[b]? = w.heap[b]?) (hA : ∀ b, A b → A' b) : TP w' A' N t := by
  induction h with
  | mk ok hr hR hRk hs hS hkk ih =>
    refine .mk ok hr (hR.kept hk hA) hRk hs (fun hp => ?_) ih
    obtain ⟨b, o, h1, h2, h3⟩ := hS hp
    exact ⟨b, o, h1, hA b h2, fun i hi => (h3 i hi).kept (hk b h2)⟩
theorem TI.tp {w : World} {B : Nat} {N : Nv} {t : Tn} (h : TI w B N t) : TP w (fun b => b < B) N t := by
  induction h with
  | mk ok hr hR hRk hs hS hkk ih => exact .mk ok hr hR hRk hs hS ih
theorem TP.ti {w : World} {A : Nat → Prop} {B : Nat} {N : Nv} {t : Tn} (h : TP w A N t) (hA : ∀ b, A b → b < B) : TI w B N t := by
  induction h with
  | mk ok hr hR hRk hs hS hkk ih =>
    refine .mk ok hr (fun hn => ?_) hRk hs (fun hp => ?_) ih
    · obtain ⟨b, o, h1, h2, h3⟩ := hR hn; exact ⟨b, o, h1, hA b h2, h3⟩
    · obtain ⟨b, o, h1, h2, h3⟩ := hS hp; exact ⟨b, o, h1, hA b h2, h3⟩
theorem TP.ok {w : World} {A : Nat → Prop} {N : Nv} {t : Tn} (h : TP w A N t) : N.ok := by cases h; assumption
theorem flat9 (MS : List Nv) : ∀ (j k : Nat) (hj : j < MS.length), k < 9 → (MS.flatMap Nv.cs)[j * 9 + k]? = (Nv.cs MS[j])[k]? := by
  induction MS with
  | nil => intro j k hj; simp at hj
  | cons M MS ih =>
    intro j k hj hk
    rw [List.flatMap_cons]
    have e9 : (Nv.cs M).length = 9 := rfl
    cases j with
    | zero => rw [List.getElem?_append_left (by rw [e9]; omega)]; simp
    | succ j =>
      rw [List.getElem?_append_right (by rw [e9]; omega)]
      have := ih j k (by simpa using hj) hk
      rw [e9, show (j + 1) * 9 + k - 9 = j * 9 + k by omega, this]
      rfl
theorem flat9_len (MS : List Nv) : (MS.flatMap Nv.cs).length = MS.length * 9 := by
  induction MS with
  | nil => rfl
  | cons M MS ih =>
    have e9 : (Nv.cs M).length = 9 := rfl
    rw [List.flatMap_cons, List.length_append, ih, e9, List.length_cons]
    omega
/-- a row of trees that grows: their node's cells lie in it, what is below them in blocks of A -/
structure RowN (base B : Nat) (w : World) (uv : Value) (MS : List Nv) (us : List Tn) (A : Nat → Prop) : Prop where
  row : w.ownsRow base 28 9 uv MS.length (MS.flatMap Nv.cs)
  len : MS.length = us.length
  tp : ∀ j (h : j < us.length) (h' : j < MS.length), TP w A MS[j] us[j]
  inA : ∀ b, b < B → A b
  low : ∀ b, A b → b < w.heap.size
  out : ∀ b, uv.ownBlock = some b → ¬ A b
/-- such a row as the list of a node -/
theorem RowN.node {base B : Nat} {w : World} {uv : Value} {MS : List Nv} {us : List Tn} {A : Nat → Prop} (h : RowN base B w uv MS us A) {N : Nv} {R : List (Int × Int)} (ok : N.ok) (hr : N.r2 = R.length) (hR : RP w A N.r1 R) (hRk : ∀ x ∈ R, I64ok x.1 ∧ I64ok x.2) (hu : uv = .slice N.s1 N.s2 N.s3) :
    TP w (fun b => A b ∨ uv.ownBlock = some b) N (.mk N.k R N.a2 us N.a4 N.a5 N.a6 N.a7 N.a8) := by
  have hs2 : N.s2 = us.length := by
    rcases Joins.ownsRow_forms h.row with ⟨e, h0⟩ | ⟨b, cap, e⟩
    · rw [e] at hu
      simp only [Value.slice.injEq] at hu
      have := h.len
      omega
    · rw [e] at hu
      simp only [Value.slice.injEq] at hu
      have := h.len
      omega
  refine .mk (ND := fun i => MS.getD i default) ok hr (hR.kept (fun _ _ => rfl) (fun b hb => .inl hb)) hRk hs2 (fun hp => ?_) (fun i hi => ?_)
  · rcases Joins.ownsRow_forms h.row with ⟨e, h0⟩ | ⟨b, cap, e⟩
    · have := h.len; omega
    · rw [e] at hu
      simp only [Value.slice.injEq] at hu
      refine ⟨b, 0, hu.1.symm, .inr (by rw [e]; rfl), fun i hi => ?_⟩
      have hl := h.len
      have hrow := h.row
      rw [e] at hrow
      have c : ∀ k, k < 9 → w.cell? ⟨b, 0 + i * 9 + k, none⟩ = (Nv.cs (MS.getD i default))[k]? := fun k hk => by
        rw [Nat.zero_add, hrow.cellAt (i * 9 + k) (by omega), flat9 MS i k (by omega) hk]
        simp [List.getD_eq_getElem?_getD, List.getElem?_eq_getElem (show i < MS.length by omega)]
      exact ⟨c 0 (by omega), c 1 (by omega), c 2 (by omega), c 3 (by omega), c 4 (by omega), c 5 (by omega), c 6 (by omega), c 7 (by omega), c 8 (by omega)⟩
  · have hl := h.len
    rw [List.getD_eq_getElem?_getD, List.getElem?_eq_getElem (show i < MS.length by omega)]
    exact (h.tp i hi (by omega)).kept (fun _ _ => rfl) (fun b hb => .inl hb)
theorem RowN.nil (base B : Nat) (w : World) (hB : B ≤ w.heap.size) : RowN base B w (.slice none 0 0) [] [] (fun b => b < B) :=
  ⟨World.ownsRow_nil _ _ _ _, rfl, fun j h => by simp at h, fun b hb => hb, fun b hb => by omega, fun b hb => by cases hb⟩
/-- one more -/
theorem RowN.next {base B : Nat} {w w' w2 w3 : World} {uv v' : Value} {MS : List Nv} {us : List Tn} {A : Nat → Prop} (h : RowN base B w uv MS us A) {M : Nv} {u : Tn} (hw : w.heap.size ≤ w'.heap.size) (hk1 : ∀ b, b < w.heap.size → w'.heap[b]? = w.heap[b]?) (hb : Below w'.heap.size w' w2) (hM : TP w2 (fun b => b < B ∨ w'.heap.size ≤ b ∧ b < w2.heap.size) M u) (o : Obj)
    (ho : w3.ownsRow base 28 9 v' (MS.length + 1) (MS.flatMap Nv.cs ++ Nv.cs M)) (hm : Moved (w2.alloc o) w3 uv v') : RowN base B w3 v' (MS ++ [M]) (us ++ [u]) (fun b => A b ∨ w'.heap.size ≤ b ∧ b < w2.heap.size) := by
  have hub : ∀ k, uv.ownBlock = some k → k < w.heap.size := fun k hk => (h.row.lt k hk).2
  have s2 := hb.size
  have e3 : ∀ k, k < w2.heap.size → uv.ownBlock ≠ some k → w3.heap[k]? = w2.heap[k]? := fun k hk hn => by
    have e : (w2.alloc o).heap[k]? = w2.heap[k]? := heap_alloc_old w2 o hk
    rcases hm with ⟨_, h⟩ | ⟨_, h⟩
    · exact (h.block k (by simp; omega) (fun h => hn h.symm)).trans e
    · exact (h.block k (by simp; omega) (by simp)).trans e
  have hs3 : w2.heap.size ≤ w3.heap.size := by rcases hm with ⟨_, h⟩ | ⟨_, h⟩ <;> (have := h.size; simp at this; omega)
  have hout : ∀ b, (A b ∨ w'.heap.size ≤ b ∧ b < w2.heap.size) → uv.ownBlock ≠ some b := fun b hA e => by
    rcases hA with hA | hA
    · exact h.out b e hA
    · have := hub b e; omega
  have hlow : ∀ b, (A b ∨ w'.heap.size ≤ b ∧ b < w2.heap.size) → b < w2.heap.size := fun b hA => by
    rcases hA with hA | hA
    · have := h.low b hA; omega
    · omega
  refine ⟨?_, by simp [h.len], fun j hj hj' => ?_, fun b hb => .inl (h.inA b hb), fun b hA => by have := hlow b hA; omega, fun b hb hA => ?_⟩
  · rw [List.length_append, List.flatMap_append]
    simpa using ho
  · by_cases hjl : j < us.length
    · have hl := h.len
      rw [List.getElem_append_left (by omega), List.getElem_append_left hjl]
      exact (h.tp j hjl (by omega)).kept (fun b hA => (e3 b (hlow b (.inl hA)) (hout b (.inl hA))).trans ((hb.block b (by have := h.low b hA; omega)).trans (hk1 b (h.low b hA)))) (fun b hA => .inl hA)
    · have hl := h.len
      simp only [List.length_append, List.length_cons, List.length_nil] at hj hj'
      have e : j = us.length := by omega
      subst e
      rw [List.getElem_append_right (by omega), List.getElem_append_right (Nat.le_refl _)]
      simp only [Nat.sub_self, hl, List.getElem_cons_zero]
      refine hM.kept (fun b hA => ?_) (fun b hA => ?_)
      · rcases hA with hA | hA
        · exact e3 b (by have := h.low b (h.inA b hA); omega) (hout b (.inl (h.inA b hA)))
        · exact e3 b hA.2 (hout b (.inr hA))
      · rcases hA with hA | hA
        · exact .inl (h.inA b hA)
        · exact .inr hA
  · rcases hm with ⟨h0, _⟩ | ⟨h0, _⟩
    · rw [h0] at hb
      exact hout b hA hb
    · rw [h0] at hb
      simp at hb
      have := hlow b hA
      omega
end Go.Proofs.Ytnpocciioedgpaa
/- HELPERS: a tree without its groups. -/
namespace Go.Proofs.Ytnpocciioedgpaa
open Go.RowKit
set_option linter.unusedVariables false
set_option linter.unusedSimpArgs false
abbrev Z9 : Value := .agg #[.int .i64 0, .slice none 0 0, .int .i64 0, .slice none 0 0, .int .i64 0, .int .i64 0, .bool false, .int .i64 0, .string ⟨#[]⟩]
theorem info28 : (Try.prog.info? 28).map (fun i => (i.zero, i.size, i.bytes)) = some (some Z9, 9, 112) := by kernel_rfl
theorem news9 (w2 : World) (M : Nv) : ∀ j y, (Nv.cs M)[j]? = some y → (w2.alloc (.cells #[.int .i64 M.k, .slice M.r1 M.r2 M.r3, .int .i64 M.a2, .slice M.s1 M.s2 M.s3, .int .i64 M.a4, .int .i64 M.a5, .bool M.a6, .int .i64 M.a7, .string M.a8] 28)).cell? ((⟨w2.heap.size, 0, none⟩ : Addr).add j) = some y := by
  intro j y hj
  have h := heap_alloc_new w2 (.cells #[.int .i64 M.k, .slice M.r1 M.r2 M.r3, .int .i64 M.a2, .slice M.s1 M.s2 M.s3, .int .i64 M.a4, .int .i64 M.a5, .bool M.a6, .int .i64 M.a7, .string M.a8] 28)
  rw [show ((⟨w2.heap.size, 0, none⟩ : Addr).add j) = ⟨w2.heap.size, j, none⟩ by by_cases e : j = 0 <;> simp [Addr.add, e]]
  rw [Joins.cell_of_block h j]
  simpa using hj
theorem one9 (M : Nv) : ∀ u ∈ Nv.cs M, u.oneCell' = true := by
  intro u hu
  simp only [Nv.cs, List.mem_cons, List.not_mem_nil, or_false] at hu
  rcases hu with rfl | rfl | rfl | rfl | rfl | rfl | rfl | rfl | rfl <;> rfl
theorem moved_old' {w w' : World} {v v' : Value} {k : Nat} (h : Moved w w' v v') (hk : k < w.heap.size) (hn : v.ownBlock ≠ some k) : w'.heap[k]? = w.heap[k]? := by
  rcases h with ⟨_, h⟩ | ⟨_, h⟩
  · exact h.block k hk (fun e => hn e.symm)
  · exact h.block k hk (by simp)
set_option maxHeartbeats 1000000 in
theorem nineSet (X : World) (b : Nat) {c0 c1 c2 c3 c4 c5 c6 c7 c8 : Value} {t : TypeId} (v0 v1 v2 v3 v4 v5 v6 v7 v8 : Value) (h : X.heap[b]? = some (.cells #[c0, c1, c2, c3, c4, c5, c6, c7, c8] t (0, 0))) :
    ((((((((((((((((((X).setCell ⟨b, 0, none⟩ v0)).setCell ⟨b, 1, none⟩ v1)).setCell ⟨b, 2, none⟩ v2)).setCell ⟨b, 3, none⟩ v3)).setCell ⟨b, 4, none⟩ v4)).setCell ⟨b, 5, none⟩ v5)).setCell ⟨b, 6, none⟩ v6)).setCell ⟨b, 7, none⟩ v7)).setCell ⟨b, 8, none⟩ v8).heap[b]? = some (.cells #[v0, v1, v2, v3, v4, v5, v6, v7, v8] t (0, 0)) ∧ (∀ k, k ≠ b → ((((((((((((((((((X).setCell ⟨b, 0, none⟩ v0)).setCell ⟨b, 1, none⟩ v1)).setCell ⟨b, 2, none⟩ v2)).setCell ⟨b, 3, none⟩ v3)).setCell ⟨b, 4, none⟩ v4)).setCell ⟨b, 5, none⟩ v5)).setCell ⟨b, 6, none⟩ v6)).setCell ⟨b, 7, none⟩ v7)).setCell ⟨b, 8, none⟩ v8).heap[k]? = X.heap[k]?) ∧ ((((((((((((((((((X).setCell ⟨b, 0, none⟩ v0)).setCell ⟨b, 1, none⟩ v1)).setCell ⟨b, 2, none⟩ v2)).setCell ⟨b, 3, none⟩ v3)).setCell ⟨b, 4, none⟩ v4)).setCell ⟨b, 5, none⟩ v5)).setCell ⟨b, 6, none⟩ v6)).setCell ⟨b, 7, none⟩ v7)).setCell ⟨b, 8, none⟩ v8).heap.size = X.heap.size ∧ ∀ {B0 : Nat} {w : World}, Below B0 w X → B0 ≤ b → Below B0 w ((((((((((((((((((X).setCell ⟨b, 0, none⟩ v0)).setCell ⟨b, 1, none⟩ v1)).setCell ⟨b, 2, none⟩ v2)).setCell ⟨b, 3, none⟩ v3)).setCell ⟨b, 4, none⟩ v4)).setCell ⟨b, 5, none⟩ v5)).setCell ⟨b, 6, none⟩ v6)).setCell ⟨b, 7, none⟩ v7)).setCell ⟨b, 8, none⟩ v8) := by
  refine ⟨?_, fun k hk => ?_, by simp [World.setCell], fun hB hb => ?_⟩
  · have h0 : (X.setCell ⟨b, 0, none⟩ v0).heap[b]? = some (.cells #[v0, c1, c2, c3, c4, c5, c6, c7, c8] t (0, 0)) := Joins.block_setCell (i := 0) h v0
    have h1 : ((X.setCell ⟨b, 0, none⟩ v0).setCell ⟨b, 1, none⟩ v1).heap[b]? = some (.cells #[v0, v1, c2, c3, c4, c5, c6, c7, c8] t (0, 0)) := Joins.block_setCell (i := 1) h0 v1
    have h2 : (((X.setCell ⟨b, 0, none⟩ v0).setCell ⟨b, 1, none⟩ v1).setCell ⟨b, 2, none⟩ v2).heap[b]? = some (.cells #[v0, v1, v2, c3, c4, c5, c6, c7, c8] t (0, 0)) := Joins.block_setCell (i := 2) h1 v2
    have h3 : ((((X.setCell ⟨b, 0, none⟩ v0).setCell ⟨b, 1, none⟩ v1).setCell ⟨b, 2, none⟩ v2).setCell ⟨b, 3, none⟩ v3).heap[b]? = some (.cells #[v0, v1, v2, v3, c4, c5, c6, c7, c8] t (0, 0)) := Joins.block_setCell (i := 3) h2 v3
    have h4 : (((((X.setCell ⟨b, 0, none⟩ v0).setCell ⟨b, 1, none⟩ v1).setCell ⟨b, 2, none⟩ v2).setCell ⟨b, 3, none⟩ v3).setCell ⟨b, 4, none⟩ v4).heap[b]? = some (.cells #[v0, v1, v2, v3, v4, c5, c6, c7, c8] t (0, 0)) := Joins.block_setCell (i := 4) h3 v4
    have h5 : ((((((X.setCell ⟨b, 0, none⟩ v0).setCell ⟨b, 1, none⟩ v1).setCell ⟨b, 2, none⟩ v2).setCell ⟨b, 3, none⟩ v3).setCell ⟨b, 4, none⟩ v4).setCell ⟨b, 5, none⟩ v5).heap[b]? = some (.cells #[v0, v1, v2, v3, v4, v5, c6, c7, c8] t (0, 0)) := Joins.block_setCell (i := 5) h4 v5
    have h6 : (((((((X.setCell ⟨b, 0, none⟩ v0).setCell ⟨b, 1, none⟩ v1).setCell ⟨b, 2, none⟩ v2).setCell ⟨b, 3, none⟩ v3).setCell ⟨b, 4, none⟩ v4).setCell ⟨b, 5, none⟩ v5).setCell ⟨b, 6, none⟩ v6).heap[b]? = some (.cells #[v0, v1, v2, v3, v4, v5, v6, c7, c8] t (0, 0)) := Joins.block_setCell (i := 6) h5 v6
    have h7 : ((((((((X.setCell ⟨b, 0, none⟩ v0).setCell ⟨b, 1, none⟩ v1).setCell ⟨b, 2, none⟩ v2).setCell ⟨b, 3, none⟩ v3).setCell ⟨b, 4, none⟩ v4).setCell ⟨b, 5, none⟩ v5).setCell ⟨b, 6, none⟩ v6).setCell ⟨b, 7, none⟩ v7).heap[b]? = some (.cells #[v0, v1, v2, v3, v4, v5, v6, v7, c8] t (0, 0)) := Joins.block_setCell (i := 7) h6 v7
    have h8 : (((((((((X.setCell ⟨b, 0, none⟩ v0).setCell ⟨b, 1, none⟩ v1).setCell ⟨b, 2, none⟩ v2).setCell ⟨b, 3, none⟩ v3).setCell ⟨b, 4, none⟩ v4).setCell ⟨b, 5, none⟩ v5).setCell ⟨b, 6, none⟩ v6).setCell ⟨b, 7, none⟩ v7).setCell ⟨b, 8, none⟩ v8).heap[b]? = some (.cells #[v0, v1, v2, v3, v4, v5, v6, v7, v8] t (0, 0)) := Joins.block_setCell (i := 8) h7 v8
    exact h8
  · have k0 : (X.setCell ⟨b, 0, none⟩ v0).heap[k]? = X.heap[k]? := Below.heap_setCell _ _ _ _ hk
    have k1 : ((X.setCell ⟨b, 0, none⟩ v0).setCell ⟨b, 1, none⟩ v1).heap[k]? = (X.setCell ⟨b, 0, none⟩ v0).heap[k]? := Below.heap_setCell _ _ _ _ hk
    have k2 : (((X.setCell ⟨b, 0, none⟩ v0).setCell ⟨b, 1, none⟩ v1).setCell ⟨b, 2, none⟩ v2).heap[k]? = ((X.setCell ⟨b, 0, none⟩ v0).setCell ⟨b, 1, none⟩ v1).heap[k]? := Below.heap_setCell _ _ _ _ hk
    have k3 : ((((X.setCell ⟨b, 0, none⟩ v0).setCell ⟨b, 1, none⟩ v1).setCell ⟨b, 2, none⟩ v2).setCell ⟨b, 3, none⟩ v3).heap[k]? = (((X.setCell ⟨b, 0, none⟩ v0).setCell ⟨b, 1, none⟩ v1).setCell ⟨b, 2, none⟩ v2).heap[k]? := Below.heap_setCell _ _ _ _ hk
    have k4 : (((((X.setCell ⟨b, 0, none⟩ v0).setCell ⟨b, 1, none⟩ v1).setCell ⟨b, 2, none⟩ v2).setCell ⟨b, 3, none⟩ v3).setCell ⟨b, 4, none⟩ v4).heap[k]? = ((((X.setCell ⟨b, 0, none⟩ v0).setCell ⟨b, 1, none⟩ v1).setCell ⟨b, 2, none⟩ v2).setCell ⟨b, 3, none⟩ v3).heap[k]? := Below.heap_setCell _ _ _ _ hk
    have k5 : ((((((X.setCell ⟨b, 0, none⟩ v0).setCell ⟨b, 1, none⟩ v1).setCell ⟨b, 2, none⟩ v2).setCell ⟨b, 3, none⟩ v3).setCell ⟨b, 4, none⟩ v4).setCell ⟨b, 5, none⟩ v5).heap[k]? = (((((X.setCell ⟨b, 0, none⟩ v0).setCell ⟨b, 1, none⟩ v1).setCell ⟨b, 2, none⟩ v2).setCell ⟨b, 3, none⟩ v3).setCell ⟨b, 4, none⟩ v4).heap[k]? := Below.heap_setCell _ _ _ _ hk
    have k6 : (((((((X.setCell ⟨b, 0, none⟩ v0).setCell ⟨b, 1, none⟩ v1).setCell ⟨b, 2, none⟩ v2).setCell ⟨b, 3, none⟩ v3).setCell ⟨b, 4, none⟩ v4).setCell ⟨b, 5, none⟩ v5).setCell ⟨b, 6, none⟩ v6).heap[k]? = ((((((X.setCell ⟨b, 0, none⟩ v0).setCell ⟨b, 1, none⟩ v1).setCell ⟨b, 2, none⟩ v2).setCell ⟨b, 3, none⟩ v3).setCell ⟨b, 4, none⟩ v4).setCell ⟨b, 5, none⟩ v5).heap[k]? := Below.heap_setCell _ _ _ _ hk
    have k7 : ((((((((X.setCell ⟨b, 0, none⟩ v0).setCell ⟨b, 1, none⟩ v1).setCell ⟨b, 2, none⟩ v2).setCell ⟨b, 3, none⟩ v3).setCell ⟨b, 4, none⟩ v4).setCell ⟨b, 5, none⟩ v5).setCell ⟨b, 6, none⟩ v6).setCell ⟨b, 7, none⟩ v7).heap[k]? = (((((((X.setCell ⟨b, 0, none⟩ v0).setCell ⟨b, 1, none⟩ v1).setCell ⟨b, 2, none⟩ v2).setCell ⟨b, 3, none⟩ v3).setCell ⟨b, 4, none⟩ v4).setCell ⟨b, 5, none⟩ v5).setCell ⟨b, 6, none⟩ v6).heap[k]? := Below.heap_setCell _ _ _ _ hk
    have k8 : (((((((((X.setCell ⟨b, 0, none⟩ v0).setCell ⟨b, 1, none⟩ v1).setCell ⟨b, 2, none⟩ v2).setCell ⟨b, 3, none⟩ v3).setCell ⟨b, 4, none⟩ v4).setCell ⟨b, 5, none⟩ v5).setCell ⟨b, 6, none⟩ v6).setCell ⟨b, 7, none⟩ v7).setCell ⟨b, 8, none⟩ v8).heap[k]? = ((((((((X.setCell ⟨b, 0, none⟩ v0).setCell ⟨b, 1, none⟩ v1).setCell ⟨b, 2, none⟩ v2).setCell ⟨b, 3, none⟩ v3).setCell ⟨b, 4, none⟩ v4).setCell ⟨b, 5, none⟩ v5).setCell ⟨b, 6, none⟩ v6).setCell ⟨b, 7, none⟩ v7).heap[k]? := Below.heap_setCell _ _ _ _ hk
    exact k8.trans (k7.trans (k6.trans (k5.trans (k4.trans (k3.trans (k2.trans (k1.trans k0)))))))
  · exact ((((((((hB.setCell (by exact hb) v0).setCell (by exact hb) v1).setCell (by exact hb) v2).setCell (by exact hb) v3).setCell (by exact hb) v4).setCell (by exact hb) v5).setCell (by exact hb) v6).setCell (by exact hb) v7).setCell (by exact hb) v8
mutual
/-- a tree without its groups -/
def Tn.bare : Tn → Tn
  | .mk k R a s mn mx lz ix nm => if k = 7 then (match bareL s with | t :: _ => t | [] => .mk k R a [] mn mx lz ix nm) else .mk k R a (bareL s) mn mx lz ix nm
def bareL : List Tn → List Tn
  | [] => []
  | t :: ts => t.bare :: bareL ts
end
theorem bareL_map (ts : List Tn) : bareL ts = ts.map Tn.bare := by
  induction ts with
  | nil => rfl
  | cons t ts ih => simp [bareL, ih]
set_option maxRecDepth 100000 in
set_option maxHeartbeats 8000000 in
theorem bare24 {w0 : World} {B : Nat} {N : Nv} {t : Tn} (h : TI w0 B N t) : t.fine = true → t.nodes ≤ 200000 → ∀ (w : World), B ≤ w.heap.size → (∀ b, b < B → w.heap[b]? = w0.heap[b]?) →
    Calls Try.prog 24 #[N.v] w fun e w' => ∃ M : Nv, e = .returned M.v ∧ TP w' (fun b => b < B ∨ w.heap.size ≤ b ∧ b < w'.heap.size) M t.bare ∧ Below w.heap.size w w' := by
  induction h with
  | @mk N R ts ND ok hr hR hRk hs hS hk ih =>
  intro hf hno w hB hw
  simp only [Tn.fine, Bool.and_eq_true] at hf
  simp only [Tn.nodes] at hno
  have FN := fine_node hf.1
  have hfg := fineL_get hf.2
  have IH : ∀ i (hi : i < ts.length) (w : World), B ≤ w.heap.size → (∀ b, b < B → w.heap[b]? = w0.heap[b]?) → Calls Try.prog 24 #[(ND i).v] w fun e w' => ∃ M : Nv, e = .returned M.v ∧ TP w' (fun b => b < B ∨ w.heap.size ≤ b ∧ b < w'.heap.size) M ts[i].bare ∧ Below w.heap.size w w' := fun i hi => ih i hi (hfg i hi) (by have := nodes_get ts i hi; omega)
  have hlen : ts.length ≤ 200000 := by have := nodes_ge ts; omega
  have hRw : ∀ w1 : World, (∀ b, b < B → w1.heap[b]? = w0.heap[b]?) → RP w1 (fun b => b < B) N.r1 R := fun w1 h1 => (show RP w0 (fun b => b < B) N.r1 R from hR).kept h1 (fun b hb => hb)
  have hok := ok
  have HRL0 := hid hr
  obtain ⟨N', hN'⟩ : ∃ N' : Nv, N' = N := ⟨_, rfl⟩
  obtain ⟨k, r1, r2, r3, a2, s1, s2, s3, a4, a5, a6, a7, a8⟩ := N
  simp only at hs hS
  have HW := hid hw
  have HS := hid hS
  have HIH := hid IH
  have HL := hid hs
  have HRW := hid hRw
  by_cases k7 : k = 7
  · subst k7
    obtain ⟨h1, _, _⟩ := FN.grp rfl
    obtain ⟨t, rfl⟩ : ∃ t, ts = [t] := List.length_eq_one_iff.1 h1
    have e0 : (Tn.mk 7 R a2 [t] a4 a5 a6 a7 a8).bare = t.bare := by simp [Tn.bare, bareL]
    rw [e0]
    obtain ⟨b, o, hs1, hb, hc⟩ := HS.out (by simp)
    have hs2 : s2 = 1 := hs
    subst hs1 hs2
    obtain ⟨n0, n1, n2, n3, n4, n5, n6, n7, n8⟩ := (hc 0 (by simp)).kept (hw b hb)
    simp only [Nat.zero_mul, Nat.add_zero] at n0 n1 n2 n3 n4 n5 n6 n7 n8
    have HC := HIH.out 0 (by simp) ((w.alloc (.cells #[.int .i64 7, .slice r1 r2 r3, .int .i64 a2, .slice (some ⟨b, o, none⟩) 1 s3, .int .i64 a4, .int .i64 a5, .bool a6, .int .i64 a7, .string a8] 28)).alloc (.cells #[.int .i64 0, .slice none 0 0, .int .i64 0, .slice none 0 0, .int .i64 0, .int .i64 0, .bool false, .int .i64 0, .string ⟨#[]⟩] 28)) (by simp; omega) (fun b hb => (heap_alloc_old _ _ (by simp; omega)).trans ((heap_alloc_old w _ (by omega)).trans (hw b hb)))
    have hbl : b < w.heap.size := by omega
    have i1 : (0 : Int) < 1 := by decide
    obtain ⟨P, hP⟩ : ∃ P, P = ND 0 := ⟨_, rfl⟩
    rw [← hP] at HC n0 n1 n2 n3 n4 n5 n6 n7 n8
    clear ok hr hR hk hS hw ih hs hf FN hfg IH hRw hno hlen hok hc hP HS HIH HL HRW HW
    go_enter Try.func24, Try.ntmps24
    go_wp2_with (first | (go_at_call 24; (with_reducible refine HC.mono ?_); rintro e w2 ⟨M, rfl, hM, hb2⟩; have hY : w2.heap[w.heap.size + 1]? = some (.cells #[.int .i64 0, .slice none 0 0, .int .i64 0, .slice none 0 0, .int .i64 0, .int .i64 0, .bool false, .int .i64 0, .string ⟨#[]⟩] 28 (0, 0)) := (hb2.block (w.heap.size + 1) (by simp)).trans (two_new w _ _ _); have f0 := Joins.unfrozen_of_block hY 0; have f1 := Joins.unfrozen_of_block hY 1; have f2 := Joins.unfrozen_of_block hY 2; have f3 := Joins.unfrozen_of_block hY 3; have f4 := Joins.unfrozen_of_block hY 4; have f5 := Joins.unfrozen_of_block hY 5; have f6 := Joins.unfrozen_of_block hY 6; have f7 := Joins.unfrozen_of_block hY 7; have f8 := Joins.unfrozen_of_block hY 8; obtain ⟨q0, q1, q2, q3, q4, q5, q6, q7, q8⟩ := nine' hY; have HYY := hid hY; have HM := hid hM; have HB2 := hid hb2; clear hY hM hb2 HC))
    obtain ⟨y1, y2, y3, y4⟩ := nineSet w2 (w.heap.size + 1) (.int .i64 M.k) (.slice M.r1 M.r2 M.r3) (.int .i64 M.a2) (.slice M.s1 M.s2 M.s3) (.int .i64 M.a4) (.int .i64 M.a5) (.bool M.a6) (.int .i64 M.a7) (.string M.a8) HYY.out
    obtain ⟨Y, hY⟩ : ∃ Y, Y = ((((((((((((((((((w2).setCell ⟨w.heap.size + 1, 0, none⟩ (.int .i64 M.k))).setCell ⟨w.heap.size + 1, 1, none⟩ (.slice M.r1 M.r2 M.r3))).setCell ⟨w.heap.size + 1, 2, none⟩ (.int .i64 M.a2))).setCell ⟨w.heap.size + 1, 3, none⟩ (.slice M.s1 M.s2 M.s3))).setCell ⟨w.heap.size + 1, 4, none⟩ (.int .i64 M.a4))).setCell ⟨w.heap.size + 1, 5, none⟩ (.int .i64 M.a5))).setCell ⟨w.heap.size + 1, 6, none⟩ (.bool M.a6))).setCell ⟨w.heap.size + 1, 7, none⟩ (.int .i64 M.a7))).setCell ⟨w.heap.size + 1, 8, none⟩ (.string M.a8)) := ⟨_, rfl⟩
    rw [← hY] at y1 y2 y3 y4
    have y4' := y4 ((below_two' w _ _).trans (Joins.below_le HB2.out (by simp; omega))) (by omega)
    rw [← hY]
    refine bodyPost_ret (results_cell_row rfl _ _ (w.heap.size + 1) 28 _ (0, 0) _ rfl y1 Try.underlying28 rfl (by kernel_rfl)) rfl ?_
    have hs2 := HB2.out.size
    simp at hs2
    refine ⟨M, rfl, HM.out.kept (fun b hb => y2 b ?_) (fun b hb => ?_), y4'⟩
    · rcases hb with hb | hb
      · omega
      · have := hb.1; simp at this; omega
    · rcases hb with hb | hb
      · exact .inl hb
      · right; have := hb.1; simp at this; omega
  · have k7' : (k == 7) = false := by simpa using k7
    have hm2 : s2 ≤ 200000 := by omega
    have e0 : (Tn.mk k R a2 ts a4 a5 a6 a7 a8).bare = .mk k R a2 (ts.map Tn.bare) a4 a5 a6 a7 a8 := by simp only [Tn.bare, k7, if_false, bareL_map]
    rw [e0]
    obtain ⟨i0, hi0, hz0, hz1, hz2⟩ := info_parts info28
    have HOK := hid hok
    have HRL : Hid (r2 = R.length) := HRL0.out
    clear HRL0
    clear ok hr hR hk hS hw ih hs hf FN hfg IH hRw hno hlen hok
    go_enter Try.func24, Try.ntmps24
    go_wp2_with fail
    go_loopw [3, 4] (fun u y wq => ∃ (i : Nat) (u1 : Option Addr) (u3 : Nat), u = .slice u1 i u3 ∧ y = .int .i64 (i : Int) ∧ i ≤ s2 ∧ Hid (∃ MS A, RowN (w.heap.size + 1 + 1) B wq (.slice u1 i u3) MS ((ts.take i).map Tn.bare) A ∧ ∀ b, A b → b < B ∨ w.heap.size + 1 + 1 ≤ b) ∧ Hid (Below w.heap.size w wq) ∧ Hid (wq.heap[w.heap.size]? = some (.cells #[.int .i64 k, .slice r1 r2 r3, .int .i64 a2, .slice s1 s2 s3, .int .i64 a4, .int .i64 a5, .bool a6, .int .i64 a7, .string a8] 28 (0, 0))) ∧ Hid (wq.heap[w.heap.size + 1]? = some (.cells #[.int .i64 0, .slice none 0 0, .int .i64 0, .slice none 0 0, .int .i64 0, .int .i64 0, .bool false, .int .i64 0, .string ⟨#[]⟩] 28 (0, 0)))) (fun _ y _ => s2 - (intOf y).toNat)
    case atStart => exact ⟨0, none, 0, rfl, rfl, by omega, by exact ⟨[], _, RowN.nil _ B _ (by simp; omega), fun b hb => .inl hb⟩, below_two' w _ _, (heap_alloc_old _ _ (by simp)).trans (heap_alloc_new w _), two_new w _ _ _⟩
    case round =>
      obtain ⟨i, u1, u3, rfl, rfl, hi, HI, BK, BX, BY⟩ := hrel
      obtain ⟨o0, o1, o2, o3, o4, o5, o6, o7, o8⟩ := nine' BX.out
      by_cases hil : i < s2
      · have b1 : decide ((i : Int) < (s2 : Int)) = true := by simp; omega
        have b2 : (i : Int) < (s2 : Int) := by omega
        have hlt : i < ts.length := by rw [← HL.out]; exact hil
        obtain ⟨b, o, hs1, hb, hc⟩ := HS.out (by omega)
        subst hs1
        have hwk : ∀ b, b < B → wr.heap[b]? = w0.heap[b]? := fun b hb => (BK.out.block b (by omega)).trans (HW.out b hb)
        obtain ⟨n0, n1, n2, n3, n4, n5, n6, n7, n8⟩ := (hc i hlt).kept (hwk b hb)
        have HC := HIH.out i hlt wr (by have := BK.out.size; omega) hwk
        obtain ⟨MS, A, hRN, hA⟩ := HI.out
        obtain ⟨P, hP⟩ : ∃ P, P = ND i := ⟨_, rfl⟩
        rw [← hP] at HC n0 n1 n2 n3 n4 n5 n6 n7 n8
        have ad1 : IntKind.i64.wrap ((i : Int) + 1) = (i : Int) + 1 := by simp [IntKind.wrap, IntKind.bits, IntKind.signed]; omega
        have hml : MS.length = i := by have := hRN.len; simp at this; omega
        have HRN := hid hRN
        have HA := hid hA
        have HML := hid hml
        clear hP hwk hc hRN hA hml HI
        go_wp2_with (first | (go_at_call 24; (with_reducible refine HC.mono ?_); rintro e w2 ⟨M, rfl, hM, hb2⟩; have hrow2 : w2.ownsRow (w.heap.size + 1 + 1) 28 9 (.slice u1 i u3) i (MS.flatMap Nv.cs) := (by have h := row_kept HRN.out.row (fun b hb => hb2.block b (HRN.out.row.lt b hb).2); rw [HML.out] at h; exact h); have HR2 := hid hrow2; have HM := hid hM; have HB2 := hid hb2; have hs2' : w.heap.size + 1 + 1 ≤ w2.heap.size := (by have := hb2.size; have := (Array.getElem?_eq_some_iff.1 BY.out).1; omega); clear hrow2 hM hb2 HC) | (at_builtin; refine wpList_append_moveN rfl (.tmp 20) (.tmp 27) 26 rfl (w.heap.size + 1 + 1) 28 i0 Z9 9 112 Try.underlying26 hi0 hz0 hz1 hz2 rfl (by decide) (.slice u1 i u3) i (MS.flatMap Nv.cs) rfl (HR2.out.alloc _) ⟨w2.heap.size, 0, none⟩ 1 1 (Nv.cs M) rfl rfl (by decide) (news9 w2 M) (one9 M) (by unfold maxLen; omega) (by omega) (by simp; omega) ?_; intro v' w3 ho3 hm3; obtain ⟨vb, vc, rfl⟩ := Joins.ownsRow_form ho3.out (by omega)))
        have hold : ∀ k, k < w.heap.size + 1 + 1 → w3.heap[k]? = wr.heap[k]? := fun k hk => by
          have hyl := (Array.getElem?_eq_some_iff.1 BY.out).1
          have hne : (Value.slice u1 i u3).ownBlock ≠ some k := fun e => by have := (HRN.out.row.lt k e).1; omega
          exact (moved_old' hm3.out (by simp; omega) hne).trans ((heap_alloc_old w2 _ (by omega)).trans (HB2.out.block k (by omega)))
        have hs3 : w2.heap.size ≤ w3.heap.size := by rcases hm3.out with ⟨_, h⟩ | ⟨_, h⟩ <;> (have := h.size; simp at this; omega)
        have hbel : Below w.heap.size w w3 := by
          have hsz := BK.out.size
          have hsz2 := HB2.out.size
          refine ⟨?_, ?_, ?_, by omega, fun k hk => (hold k (by omega)).trans (BK.out.block k hk)⟩
          · rcases hm3.out with ⟨_, h⟩ | ⟨_, h⟩ <;> exact h.os.trans (HB2.out.os.trans BK.out.os)
          · rcases hm3.out with ⟨_, h⟩ | ⟨_, h⟩ <;> exact h.tape.trans (HB2.out.tape.trans BK.out.tape)
          · rcases hm3.out with ⟨_, h⟩ | ⟨_, h⟩ <;> exact h.output.trans (HB2.out.output.trans BK.out.output)
        have hnx := HRN.out.next (w' := wr) (Nat.le_refl _) (fun b hb => rfl) HB2.out HM.out _ (by rw [HML.out]; exact ho3.out) hm3.out
        have hex : ∃ MS A, RowN (w.heap.size + 1 + 1) B w3 (.slice (some ⟨vb, 0, none⟩) (i + 1) vc) MS ((ts.take (i + 1)).map Tn.bare) A ∧ ∀ b, A b → b < B ∨ w.heap.size + 1 + 1 ≤ b := by
          refine ⟨MS ++ [M], fun b => A b ∨ wr.heap.size ≤ b ∧ b < w2.heap.size, ?_, fun b hb => ?_⟩
          · rw [List.take_succ_eq_append_getElem hlt, List.map_append]
            exact hnx
          · rcases hb with hb | hb
            · exact HA.out b hb
            · right; have := (Array.getElem?_eq_some_iff.1 BY.out).1; omega
        exact ⟨⟨i + 1, _, _, rfl, by push_cast; rfl, by omega, hex, hbel, (hold _ (by omega)).trans BX.out, (hold _ (by omega)).trans BY.out⟩, by simp [intOf]; omega⟩
      · have b1 : decide ((i : Int) < (s2 : Int)) = false := by simp; omega
        obtain rfl : i = s2 := by omega
        obtain ⟨q0, q1, q2, q3, q4, q5, q6, q7, q8⟩ := nine' BY.out
        have fx := fun j => Joins.unfrozen_of_block BX.out j
        have fx3 := fx 3
        have fy := fun j => Joins.unfrozen_of_block BY.out j
        have f0 := fy 0
        have f1 := fy 1
        have f2 := fy 2
        have f3 := fy 3
        have f4 := fy 4
        have f5 := fy 5
        have f6 := fy 6
        have f7 := fy 7
        have f8 := fy 8
        clear fx fy
        go_wp2
        obtain ⟨X, hX⟩ : ∃ X, X = wr.setCell ⟨w.heap.size, 3, none⟩ (.slice u1 i u3) := ⟨_, rfl⟩
        rw [← hX]
        have hXo : ∀ k, k ≠ w.heap.size → X.heap[k]? = wr.heap[k]? := fun k hk => by rw [hX]; exact Below.heap_setCell _ _ _ _ hk
        have hXs : X.heap.size = wr.heap.size := by rw [hX]; simp [World.setCell]
        have hXb : Below w.heap.size w X := by rw [hX]; exact BK.out.setCell (by exact Nat.le_refl _) _
        obtain ⟨y1, y2, y3, y4⟩ := nineSet X (w.heap.size + 1) (.int .i64 k) (.slice r1 r2 r3) (.int .i64 a2) (.slice u1 i u3) (.int .i64 a4) (.int .i64 a5) (.bool a6) (.int .i64 a7) (.string a8) ((hXo _ (by omega)).trans BY.out)
        obtain ⟨Y, hY⟩ : ∃ Y, Y = ((((((((((((((((((X).setCell ⟨w.heap.size + 1, 0, none⟩ (.int .i64 k))).setCell ⟨w.heap.size + 1, 1, none⟩ (.slice r1 r2 r3))).setCell ⟨w.heap.size + 1, 2, none⟩ (.int .i64 a2))).setCell ⟨w.heap.size + 1, 3, none⟩ (.slice u1 i u3))).setCell ⟨w.heap.size + 1, 4, none⟩ (.int .i64 a4))).setCell ⟨w.heap.size + 1, 5, none⟩ (.int .i64 a5))).setCell ⟨w.heap.size + 1, 6, none⟩ (.bool a6))).setCell ⟨w.heap.size + 1, 7, none⟩ (.int .i64 a7))).setCell ⟨w.heap.size + 1, 8, none⟩ (.string a8)) := ⟨_, rfl⟩
        rw [← hY] at y1 y2 y3 y4
        have y4' := y4 hXb (by omega)
        rw [← hY]
        refine bodyPost_ret (results_cell_row rfl _ _ (w.heap.size + 1) 28 _ (0, 0) _ rfl y1 Try.underlying28 rfl (by kernel_rfl)) rfl ?_
        obtain ⟨MS, A, hRN, hA⟩ := HI.out
        have hyl := (Array.getElem?_eq_some_iff.1 BY.out).1
        have hkeep : ∀ k, k ≠ w.heap.size → k ≠ w.heap.size + 1 → Y.heap[k]? = wr.heap[k]? := fun k h1 h2 => (y2 k h2).trans (hXo k h1)
        have hAk : ∀ k, A k → Y.heap[k]? = wr.heap[k]? := fun k hk => by
          rcases hA k hk with h | h
          · exact hkeep k (by omega) (by omega)
          · exact hkeep k (by omega) (by omega)
        have htk : (ts.take i).map Tn.bare = ts.map Tn.bare := by rw [HL.out, List.take_length]
        rw [htk] at hRN
        have hcap : i ≤ u3 ∧ u3 ≤ maxLen := by
          rcases hRN.row.2 with ⟨e, h0⟩ | ⟨g, cap, cur, e, _, _, h2, h3, _⟩
          · simp only [Value.slice.injEq] at e
            obtain ⟨_, rfl, rfl⟩ := e
            exact ⟨Nat.le_refl _, by simp [maxLen]⟩
          · simp only [Value.slice.injEq] at e
            obtain ⟨_, e2, rfl⟩ := e
            exact ⟨by omega, h3⟩
        have hwk : ∀ b, b < B → wr.heap[b]? = w0.heap[b]? := fun b hb => (BK.out.block b (by omega)).trans (HW.out b hb)
        have hTP := hRN.node (N := ⟨k, r1, r2, r3, a2, u1, i, u3, a4, a5, a6, a7, a8⟩) (R := R) ⟨HOK.out.k, HOK.out.a2, HOK.out.a4, HOK.out.a5, HOK.out.a7, HOK.out.a8, HOK.out.r, hcap⟩ HRL.out ((HRW.out wr hwk).kept (fun _ _ => rfl) (fun b hb => hRN.inA b hb)) hRk rfl
        refine ⟨⟨k, r1, r2, r3, a2, u1, i, u3, a4, a5, a6, a7, a8⟩, rfl, hTP.kept (fun b hb => ?_) (fun b hb => ?_), y4'⟩
        · rcases hb with hb | hb
          · exact hAk b hb
          · have := (hRN.row.lt b hb).1
            exact hkeep b (by omega) (by omega)
        · rcases hb with hb | hb
          · rcases hA b hb with h | h
            · exact .inl h
            · right; have := hRN.low b hb; omega
          · right; have := hRN.row.lt b hb; omega
end Go.Proofs.Ytnpocciioedgpaa
/- HELPERS: a tree that is turned, or without its groups, takes the same. -/
namespace Go.Proofs.Ytnpocciioedgpaa
open Go.RowKit
set_option linter.unusedVariables false
set_option linter.unusedSimpArgs false
mutual
/-- alternatives the other way round, loops lazy or not -/
inductive Trn : Tn → Tn → Prop
  | mk {k : Int} {R : List (Int × Int)} {a : Int} {s s' s2 : List Tn} {mn mx : Int} {lz lz' : Bool} {ix : Int} {nm : ByteArray} (h : TrnL s s') (hr : s2 = s' ∨ (k = 5 ∧ s2 = s'.reverse)) (hz : k ≠ 6 → lz' = lz) : Trn (.mk k R a s mn mx lz ix nm) (.mk k R a s2 mn mx lz' ix nm)
inductive TrnL : List Tn → List Tn → Prop
  | nil : TrnL [] []
  | cons {t t' : Tn} {ts ts' : List Tn} (h : Trn t t') (hs : TrnL ts ts') : TrnL (t :: ts) (t' :: ts')
end
theorem mtA_mem {tx : List Int} {p q : Nat} : ∀ {ts : List Tn}, MtA tx ts p q ↔ ∃ t ∈ ts, Mt tx t p q := by
  intro ts
  induction ts with
  | nil => simp [MtA]
  | cons t ts ih => simp [MtA, ih]
/-- THE TURNED TREE takes the same -/
theorem Trn.same {tx : List Int} {t t' : Tn} (h : Trn t t') : Mt tx t = Mt tx t' := by
  refine Trn.rec (motive_1 := fun t t' _ => Mt tx t = Mt tx t') (motive_2 := fun ts ts' _ => MtC tx ts = MtC tx ts' ∧ MtA tx ts = MtA tx ts' ∧ MtH tx ts = MtH tx ts') ?_ ?_ ?_ h
  · intro k R a s s' s2 mn mx lz lz' ix nm _ hr hz ih
    obtain ⟨h1, h2, h3⟩ := ih
    funext p q
    rcases hr with rfl | ⟨rfl, rfl⟩
    · simp only [Mt, h1, h2, h3]
    · have hA : MtA tx s p q ↔ MtA tx s'.reverse p q := by rw [h2, mtA_mem, mtA_mem]; simp
      simp [Mt, hA]
  · exact ⟨rfl, rfl, rfl⟩
  · intro t t' ts ts' _ _ h ⟨h1, h2, h3⟩
    refine ⟨?_, ?_, ?_⟩ <;> funext p q <;> simp only [MtC, MtA, MtH, h, h1, h2]
mutual
/-- THE TREE WITHOUT ITS GROUPS takes the same -/
theorem Tn.bare_same {tx : List Int} : ∀ (t : Tn), t.fine = true → Mt tx t.bare = Mt tx t
  | .mk k R a s mn mx lz ix nm, h => by
    simp only [Tn.fine, Bool.and_eq_true] at h
    have FN := fine_node h.1
    obtain ⟨h1, h2, h3⟩ := bareL_same (tx := tx) s h.2
    funext p q
    by_cases hk : k = 7
    · subst hk
      have hl := (FN.grp rfl).1
      match s, hl, h3 with
      | [t], _, h3 =>
        simp only [bareL, mtH_one] at h3
        simp [Tn.bare, bareL, Mt, mtH_one, h3]
    · simp [Tn.bare, hk, Mt, h1, h2, h3]
theorem bareL_same {tx : List Int} : ∀ (ts : List Tn), fineL ts = true → MtC tx (bareL ts) = MtC tx ts ∧ MtA tx (bareL ts) = MtA tx ts ∧ MtH tx (bareL ts) = MtH tx ts
  | [], _ => ⟨rfl, rfl, rfl⟩
  | t :: ts, hf => by
    simp only [fineL, Bool.and_eq_true] at hf
    have h := Tn.bare_same (tx := tx) t hf.1
    obtain ⟨h1, h2, h3⟩ := bareL_same (tx := tx) ts hf.2
    refine ⟨?_, ?_, ?_⟩ <;> funext p q <;> simp only [bareL, MtC, MtA, MtH, h, h1, h2]
end
theorem nodup_le : ∀ {l m : List Int}, l.Nodup → (∀ x ∈ l, x ∈ m) → l.length ≤ m.length := by
  intro l
  induction l with
  | nil => intro m _ _; simp
  | cons a l ih =>
    intro m hn hm
    simp only [List.nodup_cons] at hn
    have ha := hm a (by simp)
    have h1 := ih (m := m.erase a) hn.2 fun x hx => (List.mem_erase_of_ne (show x ≠ a from fun e => hn.1 (by rw [← e]; exact hx))).2 (hm x (by simp [hx]))
    rw [List.length_erase_of_mem ha] at h1
    have := List.length_pos_of_mem ha
    simp only [List.length_cons]
    omega
/-- the parses of trees that take the same have the same ends -/
theorem PS.same {t u : Tn} {K K' : Nat} {tx : List Int} {p : Nat} {l m : List (Int × List Int)} (h : PS t K tx p l) (h' : PS u K' tx p m) (hM : Mt tx t = Mt tx u) : (∀ q : Int, q ∈ l.map Prod.fst ↔ q ∈ m.map Prod.fst) ∧ l.length = m.length := by
  obtain ⟨a1, a2, a3⟩ := h.ends
  obtain ⟨b1, b2, b3⟩ := h'.ends
  have key : ∀ q : Int, q ∈ l.map Prod.fst ↔ q ∈ m.map Prod.fst := by
    intro q
    constructor
    · intro hq
      have hq' := hq
      simp only [List.mem_map] at hq
      obtain ⟨e, he, rfl⟩ := hq
      obtain ⟨x, hx⟩ := a2 e he
      rw [hx] at hq' ⊢
      exact (b3 x).2 (hM ▸ (a3 x).1 hq')
    · intro hq
      have hq' := hq
      simp only [List.mem_map] at hq
      obtain ⟨e, he, rfl⟩ := hq
      obtain ⟨x, hx⟩ := b2 e he
      rw [hx] at hq' ⊢
      exact (a3 x).2 (hM ▸ (b3 x).1 hq')
  refine ⟨key, ?_⟩
  have h1 := nodup_le a1 (fun q hq => (key q).1 hq)
  have h2 := nodup_le b1 (fun q hq => (key q).2 hq)
  simp only [List.length_map] at h1 h2
  omega
end Go.Proofs.Ytnpocciioedgpaa
/- HELPERS: ways that do the same, the one with some things more. -/
namespace Go.Proofs.Ytnpocciioedgpaa
open Go.RowKit
set_option linter.unusedVariables false
set_option linter.unusedSimpArgs false
/-- what goes with what: things, loops; things that are more on the left, the first thing behind each, its body; whether notes are kept; what is alike in notes and parses -/
structure Mat where
  C : Int → Int → Prop
  L : Nat → Nat → Prop
  X : Int → Int → Prop
  Bd : Int → Way
  drop : Bool
  NR : List Int → List Int → Prop
  PR : List (Int × List Int) → List (Int × List Int) → Prop
/-- the first thing that is not more -/
inductive Hdp (G : Mat) : Way → Int → Prop
  | once {n n' : Int} {d : Way} (h : G.C n n') : Hdp G (.once n d) n
  | more {m n0 : Int} {d : Way} (hX : G.X m n0) (h : Hdp G d n0) : Hdp G (.once m d) n0
  | noted {c : Nat} {n0 : Int} {d : Way} (h : Hdp G d n0) : Hdp G (.noted c d) n0
/-- two ways do the same -/
inductive Sim (G : Mat) : Way → Way → Prop
  | through : Sim G .through .through
  | once {n n' : Int} {d d' : Way} (hC : G.C n n') (h : Sim G d d') : Sim G (.once n d) (.once n' d')
  | more {m n0 : Int} {d W' : Way} (hX : G.X m n0) (hb : G.Bd m = d) (hh : Hdp G d n0) (h : Sim G d W') : Sim G (.once m d) W'
  | noted {c : Nat} {d d' : Way} (hk : G.drop = false) (h : Sim G d d') : Sim G (.noted c d) (.noted c d')
  | dropped {c : Nat} {d W' : Way} (hk : G.drop = true) (h : Sim G d W') : Sim G (.noted c d) W'
  | runeOf {R : Rng} {d d' : Way} (h : Sim G d d') : Sim G (.runeOf R d) (.runeOf R d')
  | ifHolds {a : Int} {d d' : Way} (h : Sim G d d') : Sim G (.ifHolds a d) (.ifHolds a d')
  | inOrder {l l' : List Way} (hl : l.length = l'.length) (h : ∀ i (hi : i < l.length) (hi' : i < l'.length), Sim G (l[i]'hi) (l'[i]'hi')) : Sim G (.inOrder l) (.inOrder l')
  | again {b b' : Nat} (h : G.L b b') : Sim G (.again b) (.again b')
/-- what must hold of what goes with what -/
structure Mat.Ok (G : Mat) (E E' : Nat → Way) : Prop where
  one : ∀ n n' m m', G.C n n' → G.C m m' → (n = m ↔ n' = m')
  noC : ∀ m n0 n', G.X m n0 → ¬ G.C m n'
  oneX : ∀ m n0 n1, G.X m n0 → G.X m n1 → n0 = n1
  loop : ∀ b b', G.L b b' → Sim G (E b) (E' b')
  set : ∀ c x ν ν', G.drop = false → G.NR ν ν' → G.NR (ν.set c x) (ν'.set c x)
  setL : ∀ c x ν ν', G.drop = true → G.NR ν ν' → G.NR (ν.set c x) ν'
  par : ∀ (p : Nat) ν ν' l l', G.NR ν ν' → G.PR l l' → G.PR (l ++ [((p : Int), ν.set 1 (p : Int))]) (l' ++ [((p : Int), ν'.set 1 (p : Int))])
/-- two states are alike, but for what is pending -/
structure Alk (G : Mat) (P : Int → Int → Prop) (s s' : Sg) : Prop where
  dn : ∀ n n' q, G.C n n' → ((n, q) ∈ s.done ↔ (n', q) ∈ s'.done)
  ex : ∀ m n0 q, G.X m n0 → (m, q) ∈ s.done → (n0, q) ∈ s.done ∨ P m q
  nt : G.NR s.notes s'.notes
  pr : G.PR s.parses s'.parses
abbrev NoP : Int → Int → Prop := fun _ _ => False
section
variable {G : Mat} {tx : List Int} {E E' : Nat → Way}
theorem Alk.none {P : Int → Int → Prop} {s s' : Sg} (h : Alk G P s s') (hP : ∀ m q, ¬ P m q) : Alk G NoP s s' :=
  ⟨h.dn, fun m n0 q a b => by rcases h.ex m n0 q a b with c | c; exact .inl c; exact absurd c (hP m q), h.nt, h.pr⟩
theorem Hdp.fn (hG : G.Ok E E') {W : Way} {a b : Int} (h : Hdp G W a) : Hdp G W b → a = b := by
  induction h with
  | @once n n' d h =>
    intro h2
    cases h2 with
    | once _ => rfl
    | more hX _ => exact absurd h (hG.noC _ _ _ hX)
  | more hX h ih =>
    intro h2
    cases h2 with
    | once h3 => exact absurd h3 (hG.noC _ _ _ hX)
    | more _ h3 => exact ih h3
  | noted h ih =>
    intro h2
    cases h2 with
    | noted h3 => exact ih h3
theorem noted_self (s : Sg) (c : Nat) (x : Int) : { s with notes := (s.notes.set c x).set c (s.notes.getD c 0) } = s := by
  have : (s.notes.set c x).set c (s.notes.getD c 0) = s.notes := by
    rw [List.set_set]
    by_cases hc : c < s.notes.length
    · rw [show s.notes.getD c 0 = s.notes[c] by simp [List.getD_eq_getElem?_getD, hc], List.set_getElem_self]
    · exact List.set_eq_of_length_le (by omega)
  rw [this]
/-- where the first thing was done, nothing is done on the other side -/
theorem sim_skip (hG : G.Ok E E') {W W' : Way} (h : Sim G W W') : ∀ (n0 n0' : Int) (p : Nat) (s' : Sg), Hdp G W n0 → G.C n0 n0' → (n0', (p : Int)) ∈ s'.done → Ex tx E' W' p s' s' := by
  induction h with
  | through => intro n0 n0' p s' hh; cases hh
  | @once n n' d d' hC h ih =>
    intro n0 n0' p s' hh hc hd
    cases hh with
    | once _ => rw [← (hG.one _ _ _ _ hC hc).1 rfl] at hd; exact .skip hd
    | more hX _ => exact absurd hC (hG.noC _ _ _ hX)
  | more hX hb hh h ih =>
    intro n0 n0' p s' h2 hc hd
    cases h2 with
    | once h3 => exact absurd h3 (hG.noC _ _ _ hX)
    | more hX2 h3 => exact ih _ _ p s' h3 hc hd
  | @noted c d d' hk h ih =>
    intro n0 n0' p s' hh hc hd
    cases hh with
    | noted hh =>
      have this : Ex tx E' (.noted c d') p s' { s' with notes := (s'.notes.set c (p : Int)).set c (s'.notes.getD c 0) } := Ex.noted (c := c) (ih n0 n0' p { s' with notes := s'.notes.set c (p : Int) } hh hc hd)
      rw [noted_self] at this
      exact this
  | dropped hk h ih =>
    intro n0 n0' p s' hh hc hd
    cases hh with
    | noted hh => exact ih n0 n0' p s' hh hc hd
  | runeOf h ih => intro n0 n0' p s' hh; cases hh
  | ifHolds h ih => intro n0 n0' p s' hh; cases hh
  | inOrder hl h ih => intro n0 n0' p s' hh; cases hh
  | again h => intro n0 n0' p s' hh; cases hh
theorem Hdp.c {W : Way} {n0 : Int} (h : Hdp G W n0) : ∃ n0', G.C n0 n0' := by
  induction h with
  | once h => exact ⟨_, h⟩
  | more _ _ ih => exact ih
  | noted _ ih => exact ih
/-- what is pending at a way -/
def Pend (G : Mat) (P : Int → Int → Prop) (W : Way) (p : Nat) : Prop := ∀ m q, P m q → q = (p : Int) ∧ (∃ n0, G.X m n0 ∧ Hdp G W n0) ∧ SizeOf.sizeOf W ≤ SizeOf.sizeOf (G.Bd m)
theorem Pend.no (W : Way) (p : Nat) : Pend G NoP W p := fun m q h => h.elim
theorem Alk.settle (hG : G.Ok E E') {P : Int → Int → Prop} {W : Way} {p : Nat} {n0 : Int} {s s' : Sg} (h : Alk G P s s') (hP : Pend G P W p) (hh : Hdp G W n0) (hd : (n0, (p : Int)) ∈ s.done) : Alk G NoP s s' :=
  ⟨h.dn, fun m n1 q a b => by
    rcases h.ex m n1 q a b with c | c
    · exact .inl c
    · obtain ⟨rfl, ⟨n2, h1, h2⟩, _⟩ := hP m q c
      rw [hG.oneX m n1 n2 a h1, h2.fn hG hh]
      exact .inl hd, h.nt, h.pr⟩
theorem Pend.none {P : Int → Int → Prop} {W : Way} {p : Nat} (hP : Pend G P W p) (hW : ∀ n0, ¬ Hdp G W n0) : ∀ m q, ¬ P m q := fun m q h => by
  obtain ⟨_, ⟨n0, _, h2⟩, _⟩ := hP m q h
  exact hW n0 h2
/-- TWO WAYS that do the same do the same -/
theorem sim_ex (hG : G.Ok E E') {W : Way} {p : Nat} {s s1 : Sg} (h : Ex tx E W p s s1) : ∀ (W' : Way) (s' : Sg) (P : Int → Int → Prop), Sim G W W' → Alk G P s s' → Pend G P W p → ∃ s1', Ex tx E' W' p s' s1' ∧ Alk G NoP s1 s1' := by
  induction h with
  | through p s =>
    intro W' s' P hS hA hP
    have hA := hA.none (hP.none fun n0 h => by cases h)
    cases hS
    exact ⟨_, .through p s', hA.dn, hA.ex, hA.nt, hG.par p _ _ _ _ hA.nt hA.pr⟩
  | @skip n d p s h =>
    intro W' s' P hS hA hP
    cases hS with
    | once hC hS => exact ⟨s', .skip ((hA.dn _ _ _ hC).1 h), hA.settle hG hP (.once hC) h⟩
    | @more _ n0 _ _ hX hb hh hS =>
      have hd : (n0, (p : Int)) ∈ s.done := by
        rcases hA.ex _ _ _ hX h with hd | hp
        · exact hd
        · have := (hP _ _ hp).2.2
          rw [hb] at this
          simp at this
          omega
      obtain ⟨n0', hC⟩ := hh.c
      exact ⟨s', sim_skip hG hS n0 n0' p s' hh hC ((hA.dn _ _ _ hC).1 hd), hA.settle hG hP (.more hX hh) hd⟩
  | @once n d p s s1 h hd ih =>
    intro W' s' P hS hA hP
    cases hS with
    | @once _ n' _ d' hC hS =>
      have hn : (n', (p : Int)) ∉ s'.done := fun hm => h ((hA.dn _ _ _ hC).2 hm)
      have hA1 : Alk G P { s with done := s.done ++ [(n, (p : Int))] } { s' with done := s'.done ++ [(n', (p : Int))] } := by
        refine ⟨fun a a' q ha => ?_, fun m n0 q hX hm => ?_, hA.nt, hA.pr⟩
        · simp only [List.mem_append, List.mem_singleton, Prod.mk.injEq]
          rw [hA.dn a a' q ha, hG.one a a' n n' ha hC]
        · simp only [List.mem_append, List.mem_singleton, Prod.mk.injEq] at hm ⊢
          rcases hm with hm | ⟨rfl, rfl⟩
          · rcases hA.ex m n0 q hX hm with hm | hm
            · exact .inl (.inl hm)
            · exact .inr hm
          · exact absurd hC (hG.noC _ _ _ hX)
      have hA2 := hA1.settle hG hP (.once hC) (by simp)
      obtain ⟨s1', hx, hA3⟩ := ih d' _ NoP hS hA2 (Pend.no _ _)
      exact ⟨s1', .once hn hx, hA3⟩
    | @more _ n0 _ _ hX hb hh hS =>
      have hA1 : Alk G (fun m q => P m q ∨ (m = n ∧ q = (p : Int))) { s with done := s.done ++ [(n, (p : Int))] } s' := by
        refine ⟨fun a a' q ha => ?_, fun m n1 q hX1 hm => ?_, hA.nt, hA.pr⟩
        · simp only [List.mem_append, List.mem_singleton, Prod.mk.injEq]
          rw [← hA.dn a a' q ha]
          constructor
          · rintro (hm | ⟨rfl, _⟩)
            · exact hm
            · exact absurd ha (hG.noC _ _ _ hX)
          · exact .inl
        · simp only [List.mem_append, List.mem_singleton, Prod.mk.injEq] at hm ⊢
          rcases hm with hm | hm
          · rcases hA.ex m n1 q hX1 hm with hm | hm
            · exact .inl (.inl hm)
            · exact .inr (.inl hm)
          · exact .inr (.inr hm)
      obtain ⟨s1', hx, hA3⟩ := ih W' s' _ hS hA1 (fun m q hm => by
        rcases hm with hm | ⟨rfl, rfl⟩
        · obtain ⟨a, ⟨n2, b1, b2⟩, c⟩ := hP m q hm
          refine ⟨a, ⟨n2, b1, ?_⟩, ?_⟩
          · rw [← (Hdp.more hX hh).fn hG b2]
            exact hh
          · simp at c
            omega
        · exact ⟨rfl, ⟨n0, hX, hh⟩, by rw [hb]; exact Nat.le_refl _⟩)
      exact ⟨s1', hx, hA3⟩
  | @noted c d p s s1 hd ih =>
    intro W' s' P hS hA hP
    have hPd : Pend G P d p := fun m q hm => by
      obtain ⟨a, ⟨n2, b1, b2⟩, e⟩ := hP m q hm
      cases b2 with
      | noted b2 => exact ⟨a, ⟨n2, b1, b2⟩, by simp at e; omega⟩
    have hno : s1.notes.set c (s.notes.getD c 0) = s.notes := (Ex.noted hd).notes
    cases hS with
    | @noted _ _ d' hk hS =>
      obtain ⟨s1', hx, hA3⟩ := ih d' { s' with notes := s'.notes.set c (p : Int) } P hS ⟨hA.dn, hA.ex, hG.set c _ _ _ hk hA.nt, hA.pr⟩ hPd
      have hx2 := Ex.noted (c := c) (s := s') hx
      refine ⟨_, hx2, hA3.dn, hA3.ex, ?_, hA3.pr⟩
      have e2 := hx2.notes
      simp only at e2 ⊢
      rw [hno, e2]
      exact hA.nt
    | dropped hk hS =>
      obtain ⟨s1', hx, hA3⟩ := ih W' s' P hS ⟨hA.dn, hA.ex, hG.setL c _ _ _ hk hA.nt, hA.pr⟩ hPd
      refine ⟨s1', hx, hA3.dn, hA3.ex, ?_, hA3.pr⟩
      show G.NR (s1.notes.set c (s.notes.getD c 0)) s1'.notes
      rw [hno, hx.notes]
      exact hA.nt
  | over h =>
    intro W' s' P hS hA hP
    have hA := hA.none (hP.none fun n0 h => by cases h)
    cases hS with | runeOf hS => exact ⟨s', .over h, hA⟩
  | other h hr =>
    intro W' s' P hS hA hP
    have hA := hA.none (hP.none fun n0 h => by cases h)
    cases hS with | runeOf hS => exact ⟨s', .other h hr, hA⟩
  | rune h hr hd ih =>
    intro W' s' P hS hA hP
    have hA := hA.none (hP.none fun n0 h => by cases h)
    cases hS with
    | runeOf hS =>
      obtain ⟨s1', hx, hA3⟩ := ih _ s' NoP hS hA (Pend.no _ _)
      exact ⟨s1', .rune h hr hx, hA3⟩
  | fails h =>
    intro W' s' P hS hA hP
    have hA := hA.none (hP.none fun n0 h => by cases h)
    cases hS with | ifHolds hS => exact ⟨s', .fails h, hA⟩
  | holds h hd ih =>
    intro W' s' P hS hA hP
    have hA := hA.none (hP.none fun n0 h => by cases h)
    cases hS with
    | ifHolds hS =>
      obtain ⟨s1', hx, hA3⟩ := ih _ s' NoP hS hA (Pend.no _ _)
      exact ⟨s1', .holds h hx, hA3⟩
  | @inOrder l p ss h ih =>
    intro W' s' P hS hA hP
    have hA := hA.none (hP.none fun n0 h => by cases h)
    cases hS with
    | @inOrder _ l' hl hS =>
      have key : ∀ m, m ≤ l.length → ∃ tt : Nat → Sg, tt 0 = s' ∧ (∀ i (hi : i < l'.length), i < m → Ex tx E' (l'[i]'hi) p (tt i) (tt (i + 1))) ∧ Alk G NoP (ss m) (tt m) := by
        intro m
        induction m with
        | zero => intro _; exact ⟨fun _ => s', rfl, fun i _ hi => by omega, hA⟩
        | succ m im =>
          intro hm
          obtain ⟨tt, t0, t1, t2⟩ := im (by omega)
          obtain ⟨x, hx, hA3⟩ := ih m (by omega) _ (tt m) NoP (hS m (by omega) (by omega)) t2 (Pend.no _ _)
          refine ⟨fun i => if i ≤ m then tt i else x, by simp [t0], fun i hi him => ?_, by show Alk G NoP _ (if m + 1 ≤ m then _ else _); rw [if_neg (by omega)]; exact hA3⟩
          by_cases e : i = m
          · subst e
            show Ex tx E' _ p (if i ≤ i then _ else _) (if i + 1 ≤ i then _ else _)
            rw [if_pos (Nat.le_refl _), if_neg (by omega)]
            exact hx
          · simp only [show i ≤ m by omega, show i + 1 ≤ m by omega, if_true]
            exact t1 i hi (by omega)
      obtain ⟨tt, t0, t1, t2⟩ := key _ (Nat.le_refl _)
      refine ⟨tt l'.length, ?_, by rw [← hl]; exact t2⟩
      rw [← t0]
      exact .inOrder tt fun i hi => t1 i hi (by omega)
  | again h ih =>
    intro W' s' P hS hA hP
    have hA := hA.none (hP.none fun n0 h => by cases h)
    cases hS with
    | again hL =>
      obtain ⟨s1', hx, hA3⟩ := ih _ s' NoP (hG.loop _ _ hL) hA (Pend.no _ _)
      exact ⟨s1', .again hx, hA3⟩
end
end Go.Proofs.Ytnpocciioedgpaa
/- HELPERS: a tree that is turned, or without its groups, may be where the tree may. -/
namespace Go.Proofs.Ytnpocciioedgpaa
open Go.RowKit
set_option linter.unusedVariables false
set_option linter.unusedSimpArgs false
theorem repN_mono {mn mx : Int} {a b : Nat} (h : a ≤ b) : repN mn mx a ≤ repN mn mx b := by
  unfold repN
  split
  · have := Nat.mul_le_mul_left (max mn.toNat 1) h
    omega
  · have h1 := Nat.mul_le_mul_left mn.toNat h
    have h2 := Nat.mul_le_mul_left (mx - mn).toNat (show 1 + a ≤ 1 + b by omega)
    omega
/-- no more than another in all that bounds -/
structure Less (u t : Tn) : Prop where
  fine : u.fine = true
  nodes : u.nodes ≤ t.nodes
  depth : u.depth ≤ t.depth
  sz : u.sz ≤ t.sz
theorem Less.sound {u t : Tn} (h : Less u t) (ht : t.sound = true) : u.sound = true := by
  obtain ⟨_, h2, h3⟩ := sound_parts ht
  have := h.nodes
  have := h.depth
  simp only [Tn.sound, h.fine, Bool.true_and, Bool.and_eq_true, decide_eq_true_eq]
  exact ⟨by omega, by omega⟩
mutual
theorem Tn.bare_less : ∀ (t : Tn), t.fine = true → Less t.bare t
  | .mk k R a s mn mx lz ix nm, h => by
    simp only [Tn.fine, Bool.and_eq_true] at h
    have FN := fine_node h.1
    obtain ⟨h1, h2, h3, h4, h5⟩ := bareL_less s h.2
    by_cases hk : k = 7
    · subst hk
      have hl := (FN.grp rfl).1
      obtain ⟨t, rfl⟩ : ∃ t, s = [t] := List.length_eq_one_iff.1 hl
      simp only [bareL, fineL, nodesL, depthL, szL, Bool.and_true, Nat.add_zero, Nat.max_zero] at h1 h2 h3 h4
      refine ⟨?_, ?_, ?_, ?_⟩ <;> simp [Tn.bare, bareL, Tn.nodes, Tn.depth, Tn.sz, nodesL, depthL, szL, h1] <;> omega
    · have e : (Tn.mk k R a s mn mx lz ix nm).bare = .mk k R a (bareL s) mn mx lz ix nm := by simp [Tn.bare, hk]
      rw [e]
      refine ⟨?_, ?_, ?_, ?_⟩
      · simp only [Tn.fine, Bool.and_eq_true]
        exact ⟨by rw [h5]; exact h.1, h1⟩
      · simp only [Tn.nodes]; omega
      · simp only [Tn.depth]; omega
      · simp only [Tn.sz]
        split
        · exact repN_mono h4
        · omega
theorem bareL_less : ∀ (ts : List Tn), fineL ts = true → fineL (bareL ts) = true ∧ nodesL (bareL ts) ≤ nodesL ts ∧ depthL (bareL ts) ≤ depthL ts ∧ szL (bareL ts) ≤ szL ts ∧ (bareL ts).length = ts.length
  | [], _ => by simp [bareL, fineL]
  | t :: ts, h => by
    simp only [fineL, Bool.and_eq_true] at h
    have h0 := t.bare_less h.1
    obtain ⟨h1, h2, h3, h4, h5⟩ := bareL_less ts h.2
    have := h0.nodes
    have := h0.depth
    have := h0.sz
    refine ⟨by simp [bareL, fineL, h0.fine, h1], ?_, ?_, ?_, by simp [bareL, h5]⟩ <;> simp only [bareL, nodesL, depthL, szL] <;> omega
end
/-- rows in the other order -/
theorem fineL_all (ts : List Tn) : fineL ts = ts.all Tn.fine := by
  induction ts with
  | nil => rfl
  | cons t ts ih => simp [fineL, ih]
theorem nodesL_app (ts us : List Tn) : nodesL (ts ++ us) = nodesL ts + nodesL us := by
  induction ts with
  | nil => simp [nodesL]
  | cons t ts ih => simp only [List.cons_append, nodesL, ih]; omega
theorem szL_app (ts us : List Tn) : szL (ts ++ us) = szL ts + szL us := by
  induction ts with
  | nil => simp [szL]
  | cons t ts ih => simp only [List.cons_append, szL, ih]; omega
theorem depthL_app (ts us : List Tn) : depthL (ts ++ us) = max (depthL ts) (depthL us) := by
  induction ts with
  | nil => simp [depthL]
  | cons t ts ih => simp only [List.cons_append, depthL, ih]; omega
theorem rev_same (ts : List Tn) : fineL ts.reverse = fineL ts ∧ nodesL ts.reverse = nodesL ts ∧ depthL ts.reverse = depthL ts ∧ szL ts.reverse = szL ts := by
  refine ⟨by rw [fineL_all, fineL_all, List.all_reverse], ?_⟩
  induction ts with
  | nil => simp
  | cons t ts ih =>
    obtain ⟨h1, h2, h3⟩ := ih
    rw [List.reverse_cons, nodesL_app, depthL_app, szL_app, h1, h2, h3]
    simp only [nodesL, depthL, szL]
    exact ⟨by omega, by omega, by omega⟩
theorem nodeB_lazy {R : List (Int × Int)} {a : Int} {n : Nat} {mn mx : Int} {lz lz' : Bool} {ix : Int} {nm : ByteArray} : nodeB 6 R a n mn mx lz ix nm = nodeB 6 R a n mn mx lz' ix nm := by
  simp [nodeB, bareB]
/-- the turned tree may be where the tree may -/
theorem Trn.less {t t' : Tn} (h : Trn t t') : t.fine = true → Less t' t := by
  refine Trn.rec (motive_1 := fun t t' _ => t.fine = true → Less t' t) (motive_2 := fun ts ts' _ => fineL ts = true → fineL ts' = true ∧ nodesL ts' ≤ nodesL ts ∧ depthL ts' ≤ depthL ts ∧ szL ts' ≤ szL ts ∧ ts'.length = ts.length) ?_ ?_ ?_ h
  · intro k R a s s' s2 mn mx lz lz' ix nm _ hr hz ih hf
    simp only [Tn.fine, Bool.and_eq_true] at hf
    obtain ⟨h1, h2, h3, h4, h5⟩ := ih hf.2
    obtain ⟨g1, g2, g3, g4, g5⟩ : fineL s2 = true ∧ nodesL s2 ≤ nodesL s ∧ depthL s2 ≤ depthL s ∧ szL s2 ≤ szL s ∧ s2.length = s.length := by
      rcases hr with rfl | ⟨_, rfl⟩
      · exact ⟨h1, h2, h3, h4, h5⟩
      · obtain ⟨r1, r2, r3, r4⟩ := rev_same s'
        exact ⟨by rw [r1]; exact h1, by omega, by omega, by omega, by simp [h5]⟩
    have hn : nodeB k R a s2.length mn mx lz' ix nm = true := by
      rw [g5]
      by_cases hk : k = 6
      · subst hk
        rw [nodeB_lazy (lz' := lz)]
        exact hf.1
      · rw [hz hk]
        exact hf.1
    refine ⟨?_, ?_, ?_, ?_⟩
    · simp only [Tn.fine, Bool.and_eq_true]
      exact ⟨hn, g1⟩
    · simp only [Tn.nodes]; omega
    · simp only [Tn.depth]; omega
    · simp only [Tn.sz]
      split
      · exact repN_mono g4
      · omega
  · intro _; simp [fineL]
  · intro t t' ts ts' _ _ h hs hf
    simp only [fineL, Bool.and_eq_true] at hf
    have h0 := h hf.1
    obtain ⟨h1, h2, h3, h4, h5⟩ := hs hf.2
    have := h0.nodes
    have := h0.depth
    have := h0.sz
    refine ⟨by simp [fineL, h0.fine, h1], ?_, ?_, ?_, by simp [h5]⟩ <;> simp only [nodesL, depthL, szL] <;> omega
end Go.Proofs.Ytnpocciioedgpaa
/- HELPERS: ways that do the same, as they are made side by side. -/
namespace Go.Proofs.Ytnpocciioedgpaa
open Go.RowKit
set_option linter.unusedVariables false
set_option linter.unusedSimpArgs false
/-- what holds of the things so far -/
structure MInv (n n' : Int) (G : Mat) : Prop where
  le : ∀ a a', G.C a a' → a ≤ n ∧ a' ≤ n'
  xle : ∀ m n0, G.X m n0 → m ≤ n
  one : ∀ a a' m m', G.C a a' → G.C m m' → (a = m ↔ a' = m')
  noC : ∀ m n0 a', G.X m n0 → ¬ G.C m a'
  oneX : ∀ m n0 n1, G.X m n0 → G.X m n1 → n0 = n1
/-- more things, more loops -/
structure Grow (E E' : Nat → Way) (n n' : Int) (G : Mat) (n1 n1' : Int) (G' : Mat) : Prop where
  l1 : n ≤ n1
  l2 : n' ≤ n1'
  dr : G'.drop = G.drop
  nr : G'.NR = G.NR
  pr : G'.PR = G.PR
  c : ∀ a a', G.C a a' → G'.C a a'
  x : ∀ m n0, G.X m n0 → G'.X m n0
  bd : ∀ m, m ≤ n → G'.Bd m = G.Bd m
  l : ∀ b b', G.L b b' → G'.L b b'
  new : ∀ b b', G'.L b b' → G.L b b' ∨ Sim G' (E b) (E' b')
section
variable {E E' : Nat → Way} {n n' n1 n1' n2 n2' : Int} {G G1 G2 : Mat}
theorem Grow.refl (n n' : Int) (G : Mat) : Grow E E' n n' G n n' G := ⟨Int.le_refl _, Int.le_refl _, rfl, rfl, rfl, fun _ _ h => h, fun _ _ h => h, fun _ _ => rfl, fun _ _ h => h, fun _ _ h => .inl h⟩
theorem Hdp.up (hc : ∀ a a', G.C a a' → G1.C a a') (hx : ∀ m n0, G.X m n0 → G1.X m n0) {W : Way} {h0 : Int} (h : Hdp G W h0) : Hdp G1 W h0 := by
  induction h with
  | once h => exact .once (hc _ _ h)
  | more hX _ ih => exact .more (hx _ _ hX) ih
  | noted _ ih => exact .noted ih
theorem Sim.up (hI : MInv n n' G) (hd : G1.drop = G.drop) (hc : ∀ a a', G.C a a' → G1.C a a') (hx : ∀ m n0, G.X m n0 → G1.X m n0) (hb : ∀ m, m ≤ n → G1.Bd m = G.Bd m) (hl : ∀ b b', G.L b b' → G1.L b b') {W W' : Way} (h : Sim G W W') : Sim G1 W W' := by
  induction h with
  | through => exact .through
  | once hC _ ih => exact .once (hc _ _ hC) ih
  | more hX hb2 hh _ ih => exact .more (hx _ _ hX) ((hb _ (hI.xle _ _ hX)).trans hb2) (hh.up hc hx) ih
  | noted hk _ ih => exact .noted (hd.trans hk) ih
  | dropped hk _ ih => exact .dropped (hd.trans hk) ih
  | runeOf _ ih => exact .runeOf ih
  | ifHolds _ ih => exact .ifHolds ih
  | inOrder hl _ ih => exact .inOrder hl ih
  | again h => exact .again (hl _ _ h)
theorem Grow.sim (h : Grow E E' n n' G n1 n1' G1) (hI : MInv n n' G) {W W' : Way} (hS : Sim G W W') : Sim G1 W W' := hS.up hI h.dr h.c h.x h.bd h.l
theorem Grow.trans (h : Grow E E' n n' G n1 n1' G1) (h' : Grow E E' n1 n1' G1 n2 n2' G2) (hI : MInv n1 n1' G1) : Grow E E' n n' G n2 n2' G2 :=
  ⟨Int.le_trans h.l1 h'.l1, Int.le_trans h.l2 h'.l2, h'.dr.trans h.dr, h'.nr.trans h.nr, h'.pr.trans h.pr, fun a a' x => h'.c _ _ (h.c _ _ x), fun a a' x => h'.x _ _ (h.x _ _ x), fun m hm => (h'.bd m (Int.le_trans hm h.l1)).trans (h.bd m hm), fun b b' x => h'.l _ _ (h.l _ _ x), fun b b' x => by
    rcases h'.new b b' x with x | x
    · rcases h.new b b' x with x | x
      · exact .inl x
      · exact .inr (h'.sim hI x)
    · exact .inr x⟩
/-- one more pair of things -/
def Mat.pair (G : Mat) (n n' : Int) : Mat := { G with C := fun a a' => G.C a a' ∨ (a = n + 1 ∧ a' = n' + 1) }
/-- one more thing on the left -/
def Mat.extra (G : Mat) (n h0 : Int) (d : Way) : Mat := { G with X := fun m n0 => G.X m n0 ∨ (m = n + 1 ∧ n0 = h0), Bd := upd G.Bd (n + 1) d }
/-- one more pair of loops -/
def Mat.loops (G : Mat) (b b' : Nat) : Mat := { G with L := fun x x' => G.L x x' ∨ (x = b ∧ x' = b') }
theorem MInv.pair (h : MInv n n' G) : MInv (n + 1) (n' + 1) (G.pair n n') := by
  refine ⟨fun a a' hc => ?_, fun m n0 hx => by have := h.xle m n0 hx; omega, fun a a' m m' h1 h2 => ?_, fun m n0 a' hx hc => ?_, h.oneX⟩
  · rcases hc with hc | hc
    · have := h.le a a' hc; omega
    · omega
  · rcases h1 with h1 | h1 <;> rcases h2 with h2 | h2
    · exact h.one a a' m m' h1 h2
    · have := h.le a a' h1; omega
    · have := h.le m m' h2; omega
    · omega
  · have := h.xle m n0 hx
    rcases hc with hc | hc
    · exact h.noC m n0 a' hx hc
    · omega
theorem MInv.extra (h : MInv n n' G) (h0 : Int) (d : Way) : MInv (n + 1) n' (G.extra n h0 d) := by
  refine ⟨fun a a' hc => by have := h.le a a' hc; omega, fun m n0 hx => ?_, h.one, fun m n0 a' hx hc => ?_, fun m n0 n1 h1 h2 => ?_⟩
  · rcases hx with hx | hx
    · have := h.xle m n0 hx; omega
    · omega
  · have := h.le m a' hc
    rcases hx with hx | hx
    · exact h.noC m n0 a' hx hc
    · omega
  · rcases h1 with h1 | h1 <;> rcases h2 with h2 | h2
    · exact h.oneX m n0 n1 h1 h2
    · have := h.xle m n0 h1; omega
    · have := h.xle m n1 h2; omega
    · omega
theorem MInv.loops (h : MInv n n' G) (b b' : Nat) : MInv n n' (G.loops b b') := ⟨h.le, h.xle, h.one, h.noC, h.oneX⟩
theorem Grow.pair (n n' : Int) (G : Mat) : Grow E E' n n' G (n + 1) (n' + 1) (G.pair n n') := ⟨by omega, by omega, rfl, rfl, rfl, fun _ _ h => .inl h, fun _ _ h => h, fun _ _ => rfl, fun _ _ h => h, fun _ _ h => .inl h⟩
theorem Grow.extra (n n' : Int) (G : Mat) (h0 : Int) (d : Way) : Grow E E' n n' G (n + 1) n' (G.extra n h0 d) :=
  ⟨by omega, by omega, rfl, rfl, rfl, fun _ _ h => h, fun _ _ h => .inl h, fun m hm => by show upd G.Bd (n + 1) d m = _; simp only [upd]; rw [if_neg (by omega)], fun _ _ h => h, fun _ _ h => .inl h⟩
/-- to begin these side by side keeps them alike -/
def SM (E E' : Nat → Way) (dp : Bool) (n : Int) (B : Way) (n1 : Int) (W : Way) (n' : Int) (B' : Way) (n1' : Int) (W' : Way) : Prop :=
  ∀ G, G.drop = dp → MInv n n' G → Sim G B B' → (∃ h, Hdp G B h) → ∃ G', MInv n1 n1' G' ∧ Grow E E' n n' G n1 n1' G' ∧ Sim G' W W' ∧ ∃ h, Hdp G' W h
theorem SM.self (dp : Bool) (n n' : Int) (B B' : Way) : SM E E' dp n B n B n' B' n' B' := fun G hdp hI hS hH => ⟨G, hI, .refl _ _ _, hS, hH⟩
theorem SM.seq {dp : Bool} {B W V B' W' V' : Way} (h : SM E E' dp n B n1 W n' B' n1' W') (h' : SM E E' dp n1 W n2 V n1' W' n2' V') : SM E E' dp n B n2 V n' B' n2' V' := fun G hdp hI hS hH => by
  obtain ⟨G1, i1, g1, s1, d1⟩ := h G hdp hI hS hH
  obtain ⟨G2, i2, g2, s2, d2⟩ := h' G1 (g1.dr.trans hdp) i1 s1 d1
  exact ⟨G2, i2, g1.trans g2 i1, s2, d2⟩
/-- both do it as one thing more -/
theorem SM.pair {dp : Bool} {B W B' W' : Way} (h : ∀ G, G.drop = dp → MInv n n' G → Sim G B B' → (∃ h, Hdp G B h) → ∃ G', MInv n1 n1' G' ∧ Grow E E' n n' G n1 n1' G' ∧ Sim G' W W') : SM E E' dp n B (n1 + 1) (.once (n1 + 1) W) n' B' (n1' + 1) (.once (n1' + 1) W') := fun G hdp hI hS hH => by
  obtain ⟨G1, i1, g1, s1⟩ := h G hdp hI hS hH
  have g2 := Grow.pair (E := E) (E' := E') n1 n1' G1
  exact ⟨_, i1.pair, g1.trans g2 i1, .once (.inr ⟨rfl, rfl⟩) (g2.sim i1 s1), _, .once (.inr ⟨rfl, rfl⟩)⟩
/-- the left does it as one thing more -/
theorem SM.extra {dp : Bool} {B W B' W' : Way} (h : SM E E' dp n B n1 W n' B' n1' W') : SM E E' dp n B (n1 + 1) (.once (n1 + 1) W) n' B' n1' W' := fun G hdp hI hS hH => by
  obtain ⟨G1, i1, g1, s1, h0, d1⟩ := h G hdp hI hS hH
  have g2 := Grow.extra (E := E) (E' := E') n1 n1' G1 h0 W
  have d2 : Hdp (G1.extra n1 h0 W) W h0 := d1.up g2.c g2.x
  exact ⟨_, i1.extra h0 W, g1.trans g2 i1, .more (.inr ⟨rfl, rfl⟩) (by show upd G1.Bd (n1 + 1) W (n1 + 1) = W; simp [upd]) d2 (g2.sim i1 s1), h0, .more (.inr ⟨rfl, rfl⟩) d2⟩
/-- loops side by side -/
theorem SM.round {dp : Bool} {b b' : Nat} {B B' : Way} {lz : Bool} (h : SM E E' dp (n + 1) (Dcd lz n b B) n2 (E b) (n' + 1) (Dcd lz n' b' B') n2' (E' b')) (G : Mat) (hdp : G.drop = dp) (hI : MInv n n' G) (hS : Sim G B B') :
    ∃ G', MInv n2 n2' G' ∧ Grow E E' n n' G n2 n2' G' ∧ Sim G' (E b) (E' b') ∧ Sim G' (Dcd lz n b B) (Dcd lz n' b' B') ∧ (∃ h, Hdp G' (E b) h) ∧ ∃ h, Hdp G' (Dcd lz n b B) h := by
  obtain ⟨G0, hG0⟩ : ∃ G0, G0 = (G.loops b b').pair n n' := ⟨_, rfl⟩
  have hI0 : MInv (n + 1) (n' + 1) G0 := by rw [hG0]; exact (hI.loops b b').pair
  have hC : G0.C (n + 1) (n' + 1) := by rw [hG0]; exact .inr ⟨rfl, rfl⟩
  have hL : G0.L b b' := by rw [hG0]; exact .inr ⟨rfl, rfl⟩
  have hB : Sim G0 B B' := by rw [hG0]; exact hS.up (G1 := (G.loops b b').pair n n') hI rfl (fun _ _ h => Or.inl h) (fun _ _ h => h) (fun _ _ => rfl) (fun _ _ h => Or.inl h)
  have hD : Sim G0 (Dcd lz n b B) (Dcd lz n' b' B') := by
    refine .once hC (.inOrder (by cases lz <;> rfl) fun i hi hi' => ?_)
    cases lz
    · match i, hi, hi' with
      | 0, _, _ => exact .again hL
      | 1, _, _ => exact hB
      | i + 2, hi, _ => exact absurd (show i + 2 < 2 from hi) (by omega)
    · match i, hi, hi' with
      | 0, _, _ => exact hB
      | 1, _, _ => exact .again hL
      | i + 2, hi, _ => exact absurd (show i + 2 < 2 from hi) (by omega)
  obtain ⟨G1, i1, g1, s1, d1⟩ := h G0 (by rw [hG0]; exact hdp) hI0 hD ⟨_, .once hC⟩
  refine ⟨G1, i1, ⟨by have := g1.l1; omega, by have := g1.l2; omega, by rw [g1.dr, hG0]; rfl, by rw [g1.nr, hG0]; rfl, by rw [g1.pr, hG0]; rfl, fun a a' x => g1.c _ _ (by rw [hG0]; exact .inl x), fun m n0 x => g1.x _ _ (by rw [hG0]; exact x), fun m hm => (g1.bd m (by omega)).trans (by rw [hG0]; rfl), fun x x' hx => g1.l _ _ (by rw [hG0]; exact .inl hx), fun x x' hx => ?_⟩, s1, g1.sim hI0 hD, d1, _, .once (g1.c _ _ hC)⟩
  rcases g1.new x x' hx with hx | hx
  · rw [hG0] at hx
    rcases hx with hx | ⟨rfl, rfl⟩
    · exact .inl hx
    · exact .inr s1
  · exact .inr hx
end
end Go.Proofs.Ytnpocciioedgpaa
/- HELPERS: a way is gone by reckoning; the example's. -/
namespace Go.Proofs.Ytnpocciioedgpaa
open Go.RowKit
set_option linter.unusedVariables false
set_option linter.unusedSimpArgs false
def ev (tx : List Int) (E : Nat → Way) : Nat → Way → Nat → Sg → Option Sg
  | 0, _, _, _ => none
  | f + 1, .through, p, s => some { s with parses := s.parses ++ [((p : Int), s.notes.set 1 (p : Int))] }
  | f + 1, .once n d, p, s => if (n, (p : Int)) ∈ s.done then some s else ev tx E f d p { s with done := s.done ++ [(n, (p : Int))] }
  | f + 1, .noted c d, p, s => (ev tx E f d p { s with notes := s.notes.set c (p : Int) }).map fun s' => { s' with notes := s'.notes.set c (s.notes.getD c 0) }
  | f + 1, .runeOf L d, p, s => if tx.length ≤ p then some s else if (rightB L && hasB L (tx.getD p 0)) = true then ev tx E f d (p + 1) s else some s
  | f + 1, .ifHolds a d, p, s => if heldB tx a p = true then ev tx E f d p s else some s
  | f + 1, .inOrder l, p, s => l.foldl (fun o d => o.bind (ev tx E f d p)) (some s)
  | f + 1, .again b, p, s => ev tx E f (E b) p s
theorem fold_none {α β : Type} (g : β → α → Option α) (l : List β) : l.foldl (fun o d => o.bind (g d)) none = none := by
  induction l with
  | nil => rfl
  | cons d l ih => simpa using ih
theorem fold_steps {P : Way → Sg → Sg → Prop} {g : Way → Sg → Option Sg} (hg : ∀ d s s', g d s = some s' → P d s s') : ∀ (l : List Way) (s s' : Sg), l.foldl (fun o d => o.bind (g d)) (some s) = some s' → ∃ ss : Nat → Sg, ss 0 = s ∧ ss l.length = s' ∧ ∀ i (hi : i < l.length), P (l[i]'hi) (ss i) (ss (i + 1)) := by
  intro l
  induction l with
  | nil => intro s s' h; simp at h; subst h; exact ⟨fun _ => s, rfl, rfl, fun i hi => by simp at hi⟩
  | cons d l ih =>
    intro s s' h
    simp only [List.foldl_cons, Option.bind_some] at h
    cases hd : g d s with
    | none => rw [hd, fold_none] at h; cases h
    | some s1 =>
      rw [hd] at h
      obtain ⟨ss, h1, h2, h3⟩ := ih s1 s' h
      refine ⟨fun i => match i with | 0 => s | i + 1 => ss i, rfl, h2, fun i hi => ?_⟩
      cases i with
      | zero => show P d s (ss 0); rw [h1]; exact hg d s s1 hd
      | succ i => exact h3 i (by simpa using hi)
theorem ev_sound {tx : List Int} {E : Nat → Way} : ∀ (f : Nat) (W : Way) (p : Nat) (s s' : Sg), ev tx E f W p s = some s' → Ex tx E W p s s' := by
  intro f
  induction f with
  | zero => intro W p s s' h; simp [ev] at h
  | succ f ih =>
    intro W p s s' h
    cases W with
    | through => simp only [ev, Option.some.injEq] at h; subst h; exact .through p s
    | once n d =>
      simp only [ev] at h
      split at h
      · rename_i hm; simp at h; subst h; exact .skip hm
      · rename_i hm; exact .once hm (ih _ _ _ _ h)
    | noted c d =>
      simp only [ev, Option.map_eq_some_iff] at h
      obtain ⟨s1, h1, rfl⟩ := h
      exact .noted (ih _ _ _ _ h1)
    | runeOf L d =>
      simp only [ev] at h
      split at h
      · rename_i hm; simp at h; subst h; exact .over hm
      · rename_i hm
        split at h
        · rename_i hr; exact .rune (by omega) hr (ih _ _ _ _ h)
        · rename_i hr; simp at h; subst h; exact .other (by omega) (by simpa using hr)
    | ifHolds a d =>
      simp only [ev] at h
      split at h
      · rename_i h2; exact .holds h2 (ih _ _ _ _ h)
      · rename_i h2; simp only [Option.some.injEq] at h; subst h; exact .fails (by simpa using h2)
    | inOrder l =>
      simp only [ev] at h
      obtain ⟨ss, rfl, rfl, h3⟩ := fold_steps (P := fun d s s' => Ex tx E d p s s') (fun d s s' hd => ih d p s s' hd) l s s' h
      exact .inOrder ss h3
    | again b => exact .again (ih _ _ _ _ h)
/-- the ways of (|a)+, its loop's box being b -/
def Dw (b : Nat) : Way := .once 2 (.inOrder [.again b, .once 1 .through])
def Ww (b : Nat) : Way := .once 6 (.noted 2 (.once 5 (.inOrder [.once 3 (.noted 3 (Dw b)), .once 4 (.runeOf [(97, 97)] (.noted 3 (Dw b)))])))
theorem example_goes (b : Nat) : ∃ s', Ex [97] (fun _ => Ww b) (Ww b) 0 ⟨[], [0, -1, -1, -1], []⟩ s' ∧ s'.parses = [(0, [0, 0, 0, 0]), (1, [0, 1, 0, 1])] := by
  have h : (ev [97] (fun _ => Ww b) 40 (Ww b) 0 ⟨[], [0, -1, -1, -1], []⟩).map (·.parses) = some [(0, [0, 0, 0, 0]), (1, [0, 1, 0, 1])] := by rfl
  obtain ⟨s', h1, h2⟩ := Option.map_eq_some_iff.1 h
  exact ⟨s', ev_sound 40 _ _ _ _ h1, h2⟩
theorem Ww_few (b : Nat) : (Ww b).few false := by simp [Ww, Dw, Way.few, Ways.few]
end Go.Proofs.Ytnpocciioedgpaa
/- HELPERS: the document's example holds, by the parses of any tree. -/
namespace Go.Proofs.Ytnpocciioedgpaa
open Go.RowKit
set_option linter.unusedVariables false
set_option linter.unusedSimpArgs false
/-- a way is gone in one way -/
theorem Ex.det {tx : List Int} {E : Nat → Way} {W : Way} {p : Nat} {s s1 : Sg} (h : Ex tx E W p s s1) : ∀ {s2 : Sg}, Ex tx E W p s s2 → s1 = s2 := by
  induction h with
  | through p s => intro s2 h2; cases h2; rfl
  | skip h => intro s2 h2; cases h2 with | skip _ => rfl | once hn _ => exact absurd h hn
  | once h hd ih => intro s2 h2; cases h2 with | skip hn => exact absurd hn h | once _ hd2 => exact ih hd2
  | noted hd ih => intro s2 h2; cases h2 with | noted hd2 => rw [ih hd2]
  | over h => intro s2 h2; cases h2 with | over _ => rfl | other h3 _ => omega | rune h3 _ _ => omega
  | other h hr => intro s2 h2; cases h2 with | over h3 => omega | other _ _ => rfl | rune _ h3 _ => rw [hr] at h3; cases h3
  | rune h hr hd ih => intro s2 h2; cases h2 with | over h3 => omega | other _ h3 => rw [hr] at h3; cases h3 | rune _ _ hd2 => exact ih hd2
  | fails h => intro s2 h2; cases h2 with | fails _ => rfl | holds h3 _ => rw [h] at h3; cases h3
  | holds h hd ih => intro s2 h2; cases h2 with | fails h3 => rw [h] at h3; cases h3 | holds _ hd2 => exact ih hd2
  | @inOrder l p ss h ih =>
    intro s2 h2
    obtain ⟨tt, e0, e1, h3⟩ : ∃ tt : Nat → Sg, tt 0 = ss 0 ∧ tt l.length = s2 ∧ ∀ i (hi : i < l.length), Ex tx E (l[i]'hi) p (tt i) (tt (i + 1)) := by
      generalize hs : ss 0 = s0 at h2
      cases h2 with | inOrder tt h3 => exact ⟨tt, rfl, rfl, h3⟩
    have key : ∀ i, i ≤ l.length → ss i = tt i := by
      intro i
      induction i with
      | zero => intro _; exact e0.symm
      | succ i ihi =>
        intro hi
        have := h3 i (by omega)
        rw [← ihi (by omega)] at this
        exact ih i (by omega) this
    rw [key _ (Nat.le_refl _), e1]
  | again h ih => intro s2 h2; cases h2 with | again h3 => exact ih h3
theorem Ex.env {tx : List Int} {E E' : Nat → Way} {A : Nat → Prop} (hA : ∀ b, A b → E b = E' b ∧ ∀ x ∈ (E b).ags, A x) {W : Way} {p : Nat} {s s1 : Sg} (h : Ex tx E W p s s1) : (∀ x ∈ W.ags, A x) → Ex tx E' W p s s1 := by
  induction h with
  | through p s => intro _; exact .through p s
  | skip h => intro _; exact .skip h
  | once h hd ih => intro ha; exact .once h (ih fun x hx => ha x (by simpa [Way.ags] using hx))
  | noted hd ih => intro ha; exact .noted (ih fun x hx => ha x (by simpa [Way.ags] using hx))
  | over h => intro _; exact .over h
  | other h hr => intro _; exact .other h hr
  | rune h hr hd ih => intro ha; exact .rune h hr (ih fun x hx => ha x (by simpa [Way.ags] using hx))
  | fails h => intro _; exact .fails h
  | holds h hd ih => intro ha; exact .holds h (ih fun x hx => ha x (by simpa [Way.ags] using hx))
  | @inOrder l p ss h ih =>
    intro ha
    refine .inOrder ss fun i hi => ih i hi fun x hx => ha x ?_
    simp only [Way.ags]
    have : ∀ (l : List Way) (i : Nat) (hi : i < l.length), x ∈ (l[i]'hi).ags → x ∈ agsL l := by
      intro l
      induction l with
      | nil => intro i hi; simp at hi
      | cons d l ihl =>
        intro i hi hx
        cases i with
        | zero => simp at hx; simp [agsL, hx]
        | succ i => simp [agsL, ihl i (by simpa using hi) (by simpa using hx)]
    exact this l i hi hx
  | @again b p s s1 h ih =>
    intro ha
    obtain ⟨e, h2⟩ := hA b (ha b (by simp [Way.ags]))
    have := ih h2
    rw [e] at this
    exact .again this
abbrev E0 : ByteArray := ⟨#[]⟩
abbrev nE : Nd := ⟨none, 0, 0, 0, none, 0, 0, 0, 0, false, 0, E0⟩
abbrev nC (rb : Nat) : Nd := ⟨some ⟨rb, 0, none⟩, 1, 1, 0, none, 0, 0, 0, 0, false, 0, E0⟩
abbrev nA (sb : Nat) : Nd := ⟨none, 0, 0, 0, some ⟨sb, 0, none⟩, 2, 2, 0, 0, false, 0, E0⟩
abbrev nG (sb : Nat) : Nd := ⟨none, 0, 0, 0, some ⟨sb, 0, none⟩, 1, 1, 0, 0, false, 1, E0⟩
abbrev nR (sb : Nat) : Nd := ⟨none, 0, 0, 0, some ⟨sb, 0, none⟩, 1, 1, 1, -1, false, 0, E0⟩
/-- a node with its kind -/
abbrev Nd.nv (N : Nd) (k : Int) : Nv := ⟨k, N.r1, N.r2, N.r3, N.a2, N.s1, N.s2, N.s3, N.a4, N.a5, N.a6, N.a7, N.a8⟩
/-- the example's tree -/
def tE : Tn := .mk 1 [] 0 [] 0 0 false 0 E0
def tC : Tn := .mk 2 [(97, 97)] 0 [] 0 0 false 0 E0
def tA : Tn := .mk 5 [] 0 [tE, tC] 0 0 false 0 E0
def tG : Tn := .mk 7 [] 0 [tA] 0 0 false 1 E0
def tR : Tn := .mk 6 [] 0 [tG] 1 (-1) false 0 E0
/-- the example's lists -/
structure Tre (w : World) (rb s1 s2 s3 : Nat) : Prop where
  r : w.heap[rb]? = some (.cells #[.int .i64 97, .int .i64 97] 70 (0, 0))
  c0 : N9 w s1 0 0 (nE.nv 1)
  c1 : N9 w s1 0 1 ((nC rb).nv 2)
  c2 : N9 w s2 0 0 ((nA s1).nv 5)
  c3 : N9 w s3 0 0 ((nG s2).nv 7)
  l1 : s1 < w.heap.size
  l2 : s2 < w.heap.size
  l3 : s3 < w.heap.size
theorem ok_small (N : Nv) (h1 : I64ok N.k) (h2 : I64ok N.a2) (h3 : I64ok N.a4) (h4 : I64ok N.a5) (h5 : I64ok N.a7) (h6 : N.a8.size ≤ 10) (h7 : N.r2 ≤ N.r3 ∧ N.r3 ≤ 10) (h8 : N.s2 ≤ N.s3 ∧ N.s3 ≤ 10) : N.ok :=
  ⟨h1, h2, h3, h4, h5, by unfold maxLen; omega, ⟨h7.1, by unfold maxLen; omega⟩, ⟨h8.1, by unfold maxLen; omega⟩⟩
theorem Tre.ti {w : World} {rb s1 s2 s3 : Nat} (h : Tre w rb s1 s2 s3) : TI w w.heap.size ((nR s3).nv 6) tR := by
  have hE : TI w w.heap.size (nE.nv 1) tE := .mk (N := nE.nv 1) (R := []) (ts := []) (ND := fun _ => default) (ok_small _ (by decide) (by decide) (by decide) (by decide) (by decide) (by decide) (by decide) (by decide)) rfl (fun h => absurd rfl h) (fun x hx => by cases hx) rfl (fun h => by simp at h) (fun i hi => by simp at hi)
  have hC : TI w w.heap.size ((nC rb).nv 2) tC := .mk (N := (nC rb).nv 2) (R := [(97, 97)]) (ts := []) (ND := fun _ => default) (ok_small _ (by dsimp only; decide) (by dsimp only; decide) (by dsimp only; decide) (by dsimp only; decide) (by dsimp only; decide) (by dsimp only; decide) (by show 1 ≤ 1 ∧ 1 ≤ 10; decide) (by show 0 ≤ 0 ∧ 0 ≤ 10; decide)) rfl (fun _ => ⟨rb, 0, rfl, (Array.getElem?_eq_some_iff.1 h.r).1, fun i hi => by
      have e : i = 0 := by simp at hi; omega
      subst e
      exact ⟨Joins.cell_of_block h.r 0, Joins.cell_of_block h.r 1⟩⟩) (fun x hx => by simp at hx; subst hx; decide) rfl (fun h => by simp at h) (fun i hi => by simp at hi)
  have hA : TI w w.heap.size ((nA s1).nv 5) tA := .mk (N := (nA s1).nv 5) (R := []) (ts := [tE, tC]) (ND := fun i => if i = 0 then nE.nv 1 else (nC rb).nv 2) (ok_small _ (by dsimp only; decide) (by dsimp only; decide) (by dsimp only; decide) (by dsimp only; decide) (by dsimp only; decide) (by dsimp only; decide) (by show 0 ≤ 0 ∧ 0 ≤ 10; decide) (by show 2 ≤ 2 ∧ 2 ≤ 10; decide)) rfl (fun h => absurd rfl h) (fun x hx => by cases hx) rfl (fun _ => ⟨s1, 0, rfl, h.l1, fun i hi => by
      match i, hi with
      | 0, _ => exact h.c0
      | 1, _ => exact h.c1⟩) (fun i hi => by
      match i, hi with
      | 0, _ => exact hE
      | 1, _ => exact hC)
  have hG : TI w w.heap.size ((nG s2).nv 7) tG := .mk (N := (nG s2).nv 7) (R := []) (ts := [tA]) (ND := fun i => (nA s1).nv 5) (ok_small _ (by dsimp only; decide) (by dsimp only; decide) (by dsimp only; decide) (by dsimp only; decide) (by dsimp only; decide) (by dsimp only; decide) (by show 0 ≤ 0 ∧ 0 ≤ 10; decide) (by show 1 ≤ 1 ∧ 1 ≤ 10; decide)) rfl (fun h => absurd rfl h) (fun x hx => by cases hx) rfl (fun _ => ⟨s2, 0, rfl, h.l2, fun i hi => by
      match i, hi with
      | 0, _ => exact h.c2⟩) (fun i hi => by
      match i, hi with
      | 0, _ => exact hA)
  exact .mk (N := (nR s3).nv 6) (R := []) (ts := [tG]) (ND := fun i => (nG s2).nv 7) (ok_small _ (by dsimp only; decide) (by dsimp only; decide) (by dsimp only; decide) (by dsimp only; decide) (by dsimp only; decide) (by dsimp only; decide) (by show 0 ≤ 0 ∧ 0 ≤ 10; decide) (by show 1 ≤ 1 ∧ 1 ≤ 10; decide)) rfl (fun h => absurd rfl h) (fun x hx => by cases hx) rfl (fun _ => ⟨s3, 0, rfl, h.l3, fun i hi => by
      match i, hi with
      | 0, _ => exact h.c3⟩) (fun i hi => by
      match i, hi with
      | 0, _ => exact hG)
abbrev theParses : List (Int × List Int) := [(0, [0, 0, 0, 0]), (1, [0, 1, 0, 1])]
/-- to begin a count -/
theorem Beg.rep {E : Nat → Way} {R : List (Int × Int)} {a : Int} {s : List Tn} {mn mx : Int} {lz : Bool} {ix : Int} {nm : ByteArray} {n n' : Int} {B W : Way} (h : Beg E (.mk 6 R a s mn mx lz ix nm) n B n' W) :
    ∃ t, s = [t] ∧ ((∃ b, mn = 0 ∧ mx = -1 ∧ Beg E t (n + 1) (Dcd lz n b B) n' (E b) ∧ W = Dcd lz n b B) ∨ (∃ (b c : Nat) (n2 : Int), mn = (c : Int) + 1 ∧ mx = -1 ∧ Beg E t (n + 1) (Dcd lz n b B) n2 (E b) ∧ BegT E t c n2 (E b) n' W) ∨
      (∃ (c m : Nat) (n1 : Int) (W1 : Way), mn = (c : Int) ∧ mx = (c : Int) + (m : Int) ∧ BegO E t lz B m n n1 W1 ∧ BegT E t c n1 W1 n' W)) := by
  generalize hT : Tn.mk 6 R a s mn mx lz ix nm = T at h
  cases h with
  | any0 h => simp only [Tn.mk.injEq] at hT; obtain ⟨_, rfl, rfl, rfl, rfl, rfl, rfl, rfl, rfl⟩ := hT; exact ⟨_, rfl, .inl ⟨_, rfl, rfl, h, rfl⟩⟩
  | any h hT2 => simp only [Tn.mk.injEq] at hT; obtain ⟨_, rfl, rfl, rfl, rfl, rfl, rfl, rfl, rfl⟩ := hT; exact ⟨_, rfl, .inr (.inl ⟨_, _, _, rfl, rfl, h, hT2⟩)⟩
  | bnd hO hT2 => simp only [Tn.mk.injEq] at hT; obtain ⟨_, rfl, rfl, rfl, rfl, rfl, rfl, rfl, rfl⟩ := hT; exact ⟨_, rfl, .inr (.inr ⟨_, _, _, _, rfl, rfl, hO, hT2⟩)⟩
  | _ => simp only [Tn.mk.injEq] at hT; exact absurd hT.1 (by decide)
theorem Beg.group {E : Nat → Way} {R : List (Int × Int)} {a : Int} {s : List Tn} {mn mx : Int} {lz : Bool} {ix : Int} {nm : ByteArray} {n n' : Int} {B W : Way} (h : Beg E (.mk 7 R a s mn mx lz ix nm) n B n' W) :
    ∃ (t : Tn) (i : Nat) (n1 : Int) (W1 : Way), s = [t] ∧ ix = (i : Int) ∧ n' = n1 + 1 ∧ W = .once (n1 + 1) (.noted (2 * i) W1) ∧ Beg E t n (.noted (2 * i + 1) B) n1 W1 := by
  generalize hT : Tn.mk 7 R a s mn mx lz ix nm = T at h
  cases h with
  | grp h => simp only [Tn.mk.injEq] at hT; obtain ⟨_, rfl, rfl, rfl, rfl, rfl, rfl, rfl, rfl⟩ := hT; exact ⟨_, _, _, _, rfl, rfl, rfl, rfl, h⟩
  | _ => simp only [Tn.mk.injEq] at hT; exact absurd hT.1 (by decide)
theorem Beg.alts {E : Nat → Way} {R : List (Int × Int)} {a : Int} {s : List Tn} {mn mx : Int} {lz : Bool} {ix : Int} {nm : ByteArray} {n n' : Int} {B W : Way} (h : Beg E (.mk 5 R a s mn mx lz ix nm) n B n' W) :
    ∃ (n1 : Int) (Ws : List Way), n' = n1 + 1 ∧ W = .once (n1 + 1) (.inOrder Ws) ∧ BegA E s n B n1 Ws := by
  generalize hT : Tn.mk 5 R a s mn mx lz ix nm = T at h
  cases h with
  | alt h => simp only [Tn.mk.injEq] at hT; obtain ⟨_, rfl, rfl, rfl, rfl, rfl, rfl, rfl, rfl⟩ := hT; exact ⟨_, _, rfl, rfl, h⟩
  | _ => simp only [Tn.mk.injEq] at hT; exact absurd hT.1 (by decide)
theorem Beg.empties {E : Nat → Way} {R : List (Int × Int)} {a : Int} {s : List Tn} {mn mx : Int} {lz : Bool} {ix : Int} {nm : ByteArray} {n n' : Int} {B W : Way} (h : Beg E (.mk 1 R a s mn mx lz ix nm) n B n' W) : n' = n + 1 ∧ W = .once (n + 1) B := by
  generalize hT : Tn.mk 1 R a s mn mx lz ix nm = T at h
  cases h with
  | empty => exact ⟨rfl, rfl⟩
  | _ => simp only [Tn.mk.injEq] at hT; exact absurd hT.1 (by decide)
theorem Beg.classes {E : Nat → Way} {R : List (Int × Int)} {a : Int} {s : List Tn} {mn mx : Int} {lz : Bool} {ix : Int} {nm : ByteArray} {n n' : Int} {B W : Way} (h : Beg E (.mk 2 R a s mn mx lz ix nm) n B n' W) : n' = n + 1 ∧ W = .once (n + 1) (.runeOf R B) := by
  generalize hT : Tn.mk 2 R a s mn mx lz ix nm = T at h
  cases h with
  | cls => simp only [Tn.mk.injEq] at hT; obtain ⟨_, rfl, rfl, rfl, rfl, rfl, rfl, rfl, rfl⟩ := hT; exact ⟨rfl, rfl⟩
  | _ => simp only [Tn.mk.injEq] at hT; exact absurd hT.1 (by decide)
theorem BegA.last {E : Nat → Way} {ts : List Tn} {t : Tn} {n n2 : Int} {B : Way} {Ws : List Way} (h : BegA E (ts ++ [t]) n B n2 Ws) : ∃ n1 Ws1 W, Ws = Ws1 ++ [W] ∧ BegA E ts n B n1 Ws1 ∧ Beg E t n1 B n2 W := by
  generalize hT : ts ++ [t] = T at h
  cases h with
  | nil => simp at hT
  | snoc h h2 =>
    obtain ⟨rfl, e⟩ := List.append_inj' hT rfl
    simp at e
    subst e
    exact ⟨_, _, _, rfl, h, h2⟩
theorem BegA.none {E : Nat → Way} {n n2 : Int} {B : Way} {Ws : List Way} (h : BegA E [] n B n2 Ws) : n2 = n ∧ Ws = [] := by
  generalize hT : ([] : List Tn) = T at h
  cases h with
  | nil => exact ⟨rfl, rfl⟩
  | snoc h h2 => simp at hT
theorem ps_example {l : List (Int × List Int)} (h : PS tR 4 [97] 0 l) : l = theParses := by
  obtain ⟨E, W, n1, s', hb, hE, hg, hx, rfl⟩ := h.ex
  obtain ⟨t, e1, h | ⟨b, c, n2, e2, e3, h, hT⟩ | ⟨c, m, n3, W1, e2, e3, _⟩⟩ := Beg.rep hb
  · obtain ⟨b, e2, _⟩ := h
    simp at e2
  · simp at e1
    subst e1
    have hc : c = 0 := by omega
    subst hc
    cases hT
    obtain ⟨t, i, n4, W4, e1, e4, rfl, e5, h⟩ := Beg.group h
    simp at e1
    subst e1
    have hi : i = 1 := by omega
    subst hi
    obtain ⟨n5, Ws, rfl, rfl, hA5⟩ := Beg.alts h
    obtain ⟨n6, Ws1, W6, rfl, hA6, h6⟩ := BegA.last (ts := [tE]) (t := tC) hA5
    obtain ⟨n7, Ws2, W7, rfl, hA7, h7⟩ := BegA.last (ts := []) (t := tE) hA6
    obtain ⟨rfl, rfl⟩ := BegA.none hA7
    obtain ⟨rfl, rfl⟩ := Beg.empties h7
    obtain ⟨rfl, rfl⟩ := Beg.classes h6
    have hW : E b = Ww b := e5
    obtain ⟨s2, hx2, hp2⟩ := example_goes b
    have hx3 : Ex [97] (fun _ => Ww b) (E b) 0 ⟨[], [0, -1, -1, -1], []⟩ s' := Ex.env (A := fun x => x = b) (fun x hxb => by subst hxb; exact ⟨hW, by rw [hW]; intro y hy; simpa [Ww, Dw, Way.ags, agsL] using hy⟩) hx (by rw [hW]; intro y hy; simpa [Ww, Dw, Way.ags, agsL] using hy)
    rw [hW] at hx3
    rw [hx3.det hx2, hp2]
  · omega
theorem parsesR {w : World} {rb s1 s2 s3 tb tcap : Nat} (h : Tre w rb s1 s2 s3) (ht : w.heap[tb]? = some (.cells #[.int .i64 97] 3 (0, 0))) (htc : 1 ≤ tcap) :
    Calls Try.prog 13 #[(nR s3).v 6, .slice (some ⟨tb, 0, none⟩) 1 tcap, .int .i64 0] w fun e w' => ∃ pv, e = .returned (.tuple #[pv, .int .i64 0]) ∧ Parsed w.heap.size w' pv theParses ∧ Below w.heap.size w w' := by
  refine (parses13g ((nR s3).nv 6) tR [97] (some ⟨tb, 0, none⟩) 1 tcap 0 w h.ti ⟨rfl, by omega, .inr ⟨tb, 0, rfl, (Array.getElem?_eq_some_iff.1 ht).1, fun k hk => ?_⟩⟩ htc).mono ?_
  · have e : k = 0 := by omega
    subst e
    exact bx0 (t := 3) ht
  · rintro e w' ⟨pv, l, he, hP, h0, _, hb⟩
    have e0 : errP tR 1 0 = 0 := by simp [errP, tR, tG, tA, tE, tC, Tn.sound, Tn.fine, fineL, nodeB, bareB, Tn.depth, depthL, Tn.nodes, nodesL, Tn.sz, szL, repN, rightB, rightFrom, okG, dom, gapB, empty_list]
    rw [e0] at he
    have hl := ps_example (by have := (h0 e0).1; exact this)
    subst hl
    exact ⟨pv, he, hP, hb⟩
set_option maxRecDepth 100000 in
set_option maxHeartbeats 4000000 in
theorem one26 (w : World) : Calls Try.prog 26 #[.int .i64 97] w fun e w' => e = .returned ((nC (w.heap.size + 1)).v 2) ∧ Below w.heap.size w w' ∧ w'.heap[w.heap.size + 1]? = some (.cells #[.int .i64 97, .int .i64 97] 70 (0, 0)) ∧ w'.heap.size = w.heap.size + 1 + 1 := by
  go_enter Try.func26, Try.ntmps26
  go_wp2
  have s1 : (w.alloc ((nC (w.heap.size + 1)).o 2)).heap.size = w.heap.size + 1 := by simp
  have K3 : ((w.alloc ((nC (w.heap.size + 1)).o 2)).alloc (.cells #[.int .i64 97, .int .i64 97] 70)).heap[w.heap.size]? = some (.cells (#[.int .i64 2, .slice (some ⟨w.heap.size + 1, 0, none⟩) 1 1, .int .i64 0, .slice none 0 0, .int .i64 0, .int .i64 0, .bool false, .int .i64 0, .string E0]) 28 (0, 0)) := (heap_alloc_old _ _ (by omega)).trans (heap_alloc_new w _)
  refine bodyPost_ret (results_cell_row rfl _ _ w.heap.size 28 _ (0, 0) _ rfl K3 Try.underlying28 rfl (by kernel_rfl)) rfl ?_
  refine ⟨rfl, below_two' w _ _, ?_, by simp⟩
  have K4 : ((w.alloc ((nC (w.heap.size + 1)).o 2)).alloc (.cells #[.int .i64 97, .int .i64 97] 70)).heap[(w.alloc ((nC (w.heap.size + 1)).o 2)).heap.size]? = some (.cells #[.int .i64 97, .int .i64 97] 70 (0, 0)) := heap_alloc_new _ _
  rw [s1] at K4
  exact K4
theorem six_new (w : World) (o1 o2 o3 o4 o5 o6 : Obj) : ((((((w.alloc o1).alloc o2).alloc o3).alloc o4).alloc o5).alloc o6).heap[w.heap.size]? = some o1 ∧ ((((((w.alloc o1).alloc o2).alloc o3).alloc o4).alloc o5).alloc o6).heap[w.heap.size + 1 + 1]? = some o3 ∧ ((((((w.alloc o1).alloc o2).alloc o3).alloc o4).alloc o5).alloc o6).heap[w.heap.size + 1 + 1 + 1 + 1]? = some o5 ∧
    ((((((w.alloc o1).alloc o2).alloc o3).alloc o4).alloc o5).alloc o6).heap[w.heap.size + 1 + 1 + 1 + 1 + 1]? = some o6 ∧ Below w.heap.size w ((((((w.alloc o1).alloc o2).alloc o3).alloc o4).alloc o5).alloc o6) ∧ ((((((w.alloc o1).alloc o2).alloc o3).alloc o4).alloc o5).alloc o6).heap.size = w.heap.size + 6 := by
  have s1 : (w.alloc o1).heap.size = w.heap.size + 1 := by simp
  have s2 : ((w.alloc o1).alloc o2).heap.size = w.heap.size + 1 + 1 := by simp
  have s3 : (((w.alloc o1).alloc o2).alloc o3).heap.size = w.heap.size + 1 + 1 + 1 := by simp
  have s4 : ((((w.alloc o1).alloc o2).alloc o3).alloc o4).heap.size = w.heap.size + 1 + 1 + 1 + 1 := by simp
  have s5 : (((((w.alloc o1).alloc o2).alloc o3).alloc o4).alloc o5).heap.size = w.heap.size + 1 + 1 + 1 + 1 + 1 := by simp
  refine ⟨?_, ?_, ?_, ?_, ?_, by simp⟩
  · exact (heap_alloc_old _ _ (by omega)).trans ((heap_alloc_old _ _ (by omega)).trans ((heap_alloc_old _ _ (by omega)).trans ((heap_alloc_old _ _ (by omega)).trans ((heap_alloc_old _ _ (by omega)).trans (heap_alloc_new w o1)))))
  · refine (heap_alloc_old _ _ (by omega)).trans ((heap_alloc_old _ _ (by omega)).trans ((heap_alloc_old _ _ (by omega)).trans ?_))
    rw [← s2]; exact heap_alloc_new _ _
  · refine (heap_alloc_old _ _ (by omega)).trans ?_
    rw [← s4]; exact heap_alloc_new _ _
  · rw [← s5]; exact heap_alloc_new _ _
  · exact (below_two' w o1 o2).trans (Joins.below_le ((below_two' _ o3 o4).trans (Joins.below_le (below_two' _ o5 o6) (by simp; try omega))) (by simp; try omega))
set_option maxRecDepth 100000 in
set_option maxHeartbeats 4000000 in
theorem awake8 (w : World) : Calls Try.prog 8 #[] w fun e w' => e = .returned (.bool true) ∧ Below w.heap.size w w' := by
  have HO := one26 w
  go_enter Try.func8, Try.ntmps8
  go_upto_region 2 with (first | (go_at_call 26; (with_reducible refine HO.mono ?_); rintro e w1 ⟨rfl, hb1, hr1, hs1⟩; have HB1 := hid hb1; have HR1 := hid hr1; have HS1 := hid hs1; clear hb1 hr1 hs1 HO))
  obtain ⟨z, hz⟩ : ∃ z, z = w1.heap.size := ⟨_, rfl⟩
  obtain ⟨h1, h2, h3, h4, h5, h6⟩ := six_new w1 (.cells #[.int .i64 1, .slice none 0 0, .int .i64 0, .slice none 0 0, .int .i64 0, .int .i64 0, .bool false, .int .i64 0, .string E0, .int .i64 2, .slice (some ⟨w.heap.size + 1, 0, none⟩) 1 1, .int .i64 0, .slice none 0 0, .int .i64 0, .int .i64 0, .bool false, .int .i64 0, .string E0] 28) ((nA w1.heap.size).o 5) ((nA w1.heap.size).o 5) ((nG (w1.heap.size + 1 + 1)).o 7) ((nG (w1.heap.size + 1 + 1)).o 7) (.cells #[.int .i64 97] 3)
  have hT : Tre _ (w.heap.size + 1) w1.heap.size (w1.heap.size + 1 + 1) (w1.heap.size + 1 + 1 + 1 + 1) := ⟨(h5.block _ (by have := HS1.out; omega)).trans HR1.out,
    ⟨Joins.cell_of_block h1 0, Joins.cell_of_block h1 1, Joins.cell_of_block h1 2, Joins.cell_of_block h1 3, Joins.cell_of_block h1 4, Joins.cell_of_block h1 5, Joins.cell_of_block h1 6, Joins.cell_of_block h1 7, Joins.cell_of_block h1 8⟩,
    ⟨Joins.cell_of_block h1 9, Joins.cell_of_block h1 10, Joins.cell_of_block h1 11, Joins.cell_of_block h1 12, Joins.cell_of_block h1 13, Joins.cell_of_block h1 14, Joins.cell_of_block h1 15, Joins.cell_of_block h1 16, Joins.cell_of_block h1 17⟩,
    ⟨Joins.cell_of_block h2 0, Joins.cell_of_block h2 1, Joins.cell_of_block h2 2, Joins.cell_of_block h2 3, Joins.cell_of_block h2 4, Joins.cell_of_block h2 5, Joins.cell_of_block h2 6, Joins.cell_of_block h2 7, Joins.cell_of_block h2 8⟩,
    ⟨Joins.cell_of_block h3 0, Joins.cell_of_block h3 1, Joins.cell_of_block h3 2, Joins.cell_of_block h3 3, Joins.cell_of_block h3 4, Joins.cell_of_block h3 5, Joins.cell_of_block h3 6, Joins.cell_of_block h3 7, Joins.cell_of_block h3 8⟩,
    by omega, by omega, by omega⟩
  have HC := parsesR hT h4 (Nat.le_refl 1)
  have HXB := hid h5
  clear h1 h2 h3 h4 h5 h6 hT
  go_upto_region 4 with (first | (go_at_call 13; (with_reducible refine HC.mono ?_); rintro e w2 ⟨pv, rfl, hP, hb2⟩; obtain ⟨cs, FF, hrow, hPR⟩ := hP; obtain ⟨pb, pcap, rfl⟩ := Joins.ownsRow_form hrow (by decide); have HP := hid hrow; have HQ := hid hPR; have HB2 := hid hb2; clear hb2 HC hrow hPR))
  have hQ := HQ.out
  cases hQ with
  | @cons _ _ cv0 _ _ F1 hc0 hQ1 =>
    cases hQ1 with
    | @cons _ _ cv1 _ _ F2 hc1 hQ2 =>
      cases hQ2
      obtain ⟨d0, k0, rfl⟩ := Joins.ownsRow_form hc0 (by decide)
      obtain ⟨d1, k1, rfl⟩ := Joins.ownsRow_form hc1 (by decide)
      have p0 : w2.cell? ⟨pb, 0, none⟩ = some (.int .i64 0) := HP.out.cellAt 0 (by decide)
      have p1 : w2.cell? ⟨pb, 1, none⟩ = some (.slice (some ⟨d0, 0, none⟩) 4 k0) := HP.out.cellAt 1 (by decide)
      have p2 : w2.cell? ⟨pb, 2, none⟩ = some (.int .i64 1) := HP.out.cellAt 2 (by decide)
      have p3 : w2.cell? ⟨pb, 3, none⟩ = some (.slice (some ⟨d1, 0, none⟩) 4 k1) := HP.out.cellAt 3 (by decide)
      have q3 : w2.cell? ⟨d0, 3, none⟩ = some (.int .i64 0) := hc0.cellAt 3 (by decide)
      have r2 : w2.cell? ⟨d1, 2, none⟩ = some (.int .i64 0) := hc1.cellAt 2 (by decide)
      have r3 : w2.cell? ⟨d1, 3, none⟩ = some (.int .i64 1) := hc1.cellAt 3 (by decide)
      clear hc0 hc1 HP HQ
      go_wp2
      go_ret
      exact ⟨rfl, HB1.out.trans (Joins.below_le (HXB.out.trans (Joins.below_le HB2.out (by simp; try omega))) HB1.out.size)⟩
end Go.Proofs.Ytnpocciioedgpaa
