/- HELPERS: to begin a tree: what is asked of one, and the steps. -/
import Derived.Test.YtdidopgenhpakaaTj
import Derived.Test.YtdidopgenhpakaaMi
import Derived.Test.YtdidopgenhpakaaZS06
/- HELPERS: a tree's greatest index; its size when its counts are unfolded. -/
namespace Go.Proofs.Ytdidopgenhpakaa
open Go.RowKit
set_option linter.unusedVariables false
set_option linter.unusedSimpArgs false
mutual
/-- the greatest index -/
def Tn.gi : Tn → Int
  | .mk _ _ _ s _ _ _ ix _ => giL s ix
def giL : List Tn → Int → Int
  | [], m => m
  | t :: ts, m => giL ts (max m t.gi)
end
theorem giL_drop (ts : List Tn) (i : Nat) (hi : i < ts.length) (m : Int) : giL (ts.drop i) m = giL (ts.drop (i + 1)) (max m ts[i].gi) := by
  rw [List.drop_eq_getElem_cons hi]
  simp only [giL]
/-- the size of a count, by that of what is counted -/
def repN (mn mx : Int) (n : Nat) : Nat := if mx = -1 then max mn.toNat 1 * n + 1 else max 1 (mn.toNat * n + (mx - mn).toNat * (1 + n))
mutual
/-- the size -/
def Tn.sz : Tn → Nat
  | .mk k _ _ s mn mx _ _ _ => if k = 6 then repN mn mx (szL s) else 1 + szL s
def szL : List Tn → Nat
  | [] => 0
  | t :: ts => t.sz + szL ts
end
theorem szL_take (ts : List Tn) : ∀ (i : Nat) (hi : i < ts.length), szL (ts.take (i + 1)) = szL (ts.take i) + ts[i].sz := by
  induction ts with
  | nil => intro i hi; simp at hi
  | cons t ts ih =>
    intro i hi
    cases i with
    | zero => simp [szL]
    | succ i =>
      have h := ih i (by simpa using hi)
      simp only [List.take_succ_cons, szL, List.getElem_cons_succ] at h ⊢
      omega
theorem repN_cap (C : Nat) (mn mx : Int) (n : Nat) : min C (repN mn mx (min C n)) = min C (repN mn mx n) := by
  by_cases hn : n ≤ C
  · rw [Nat.min_eq_right hn]
  · have hc : min C n = C := by omega
    rw [hc]
    unfold repN
    by_cases hx : mx = -1
    · simp only [hx, if_true]
      have h1 : C ≤ max mn.toNat 1 * C := Nat.le_mul_of_pos_left _ (by omega)
      have h2 : n ≤ max mn.toNat 1 * n := Nat.le_mul_of_pos_left _ (by omega)
      omega
    · simp only [hx, if_false]
      generalize mn.toNat = a
      generalize (mx - mn).toNat = b
      by_cases ha : a = 0
      · subst ha
        by_cases hb : b = 0
        · subst hb; simp
        · have h1 : 1 + C ≤ b * (1 + C) := Nat.le_mul_of_pos_left _ (by omega)
          have h2 : 1 + n ≤ b * (1 + n) := Nat.le_mul_of_pos_left _ (by omega)
          omega
      · have h1 : C ≤ a * C := Nat.le_mul_of_pos_left _ (by omega)
        have h2 : n ≤ a * n := Nat.le_mul_of_pos_left _ (by omega)
        omega
/-- what may be of a fine node's fields -/
structure FineNZ (k : Int) (R : List (Int × Int)) (a : Int) (n : Nat) (mn mx : Int) (lz : Bool) (ix : Int) (nm : ByteArray) : Prop where
  kind : k = 1 ∨ k = 2 ∨ k = 3 ∨ k = 4 ∨ k = 5 ∨ k = 6 ∨ k = 7
  leaf : k = 1 ∨ k = 2 ∨ k = 3 → n = 0
  rep : k = 6 → n = 1 ∧ 0 ≤ mn ∧ mn ≤ 1000 ∧ (mx = -1 ∨ mn ≤ mx ∧ mx ≤ 1000)
  grp : k = 7 → n = 1 ∧ 1 ≤ ix ∧ ix ≤ 500
  idx : k ≠ 7 → ix = 0
  two : k = 4 ∨ k = 5 → 2 ≤ n
  cls : k = 2 → rightB R = true
  ast : k = 3 → assertB a = true
theorem fine_nodeZ {k : Int} {R : List (Int × Int)} {a : Int} {n : Nat} {mn mx : Int} {lz : Bool} {ix : Int} {nm : ByteArray} (h : nodeB k R a n mn mx lz ix nm = true) : FineNZ k R a n mn mx lz ix nm := by
  have hk : k = 1 ∨ k = 2 ∨ k = 3 ∨ k = 4 ∨ k = 5 ∨ k = 6 ∨ k = 7 := by
    by_cases h' : k ≠ 1 ∧ k ≠ 2 ∧ k ≠ 3 ∧ k ≠ 4 ∧ k ≠ 5 ∧ k ≠ 6 ∧ k ≠ 7
    · rw [nodeB_ne h'] at h; cases h
    · omega
  rcases hk with rfl | rfl | rfl | rfl | rfl | rfl | rfl <;> simp [nodeB, bareB] at h <;> refine ⟨by omega, by omega, by omega, by omega, by omega, by omega, ?_, ?_⟩ <;> first | (intro h'; omega) | (intro _; exact h.1)
end Go.Proofs.Ytdidopgenhpakaa
/- HELPERS: which ways beginning a tree makes, as data. -/
namespace Go.Proofs.Ytdidopgenhpakaa
open Go.RowKit
set_option linter.unusedVariables false
set_option linter.unusedSimpArgs false
mutual
/-- the loops that a way names -/
def Way.ags : Way → List Nat
  | .through => []
  | .once _ d => d.ags
  | .noted _ d => d.ags
  | .runeOf _ d => d.ags
  | .ifHolds _ d => d.ags
  | .inOrder l => agsL l
  | .again b => [b]
def agsL : List Way → List Nat
  | [] => []
  | d :: l => d.ags ++ agsL l
end
theorem agsL_snoc (l : List Way) (d : Way) : agsL (l ++ [d]) = agsL l ++ d.ags := by
  induction l with
  | nil => simp [agsL]
  | cons e l ih => simp [agsL, ih]
mutual
/-- to begin a tree: so many things are there, that is behind it; then so many, this way. E: what the loops go round -/
inductive Beg (E : Nat → Way) : Tn → Int → Way → Int → Way → Prop
  | empty {R : List (Int × Int)} {a : Int} {s : List Tn} {mn mx : Int} {lz : Bool} {ix : Int} {nm : ByteArray} {n : Int} {B : Way} : Beg E (.mk 1 R a s mn mx lz ix nm) n B (n + 1) (.once (n + 1) B)
  | cls {R : List (Int × Int)} {a : Int} {s : List Tn} {mn mx : Int} {lz : Bool} {ix : Int} {nm : ByteArray} {n : Int} {B : Way} : Beg E (.mk 2 R a s mn mx lz ix nm) n B (n + 1) (.once (n + 1) (.runeOf R B))
  | ast {R : List (Int × Int)} {a : Int} {s : List Tn} {mn mx : Int} {lz : Bool} {ix : Int} {nm : ByteArray} {n : Int} {B : Way} : Beg E (.mk 3 R a s mn mx lz ix nm) n B (n + 1) (.once (n + 1) (.ifHolds a B))
  | cat {R : List (Int × Int)} {a : Int} {s : List Tn} {mn mx : Int} {lz : Bool} {ix : Int} {nm : ByteArray} {n n' : Int} {B W : Way} (h : BegC E s n B n' W) : Beg E (.mk 4 R a s mn mx lz ix nm) n B n' W
  | alt {R : List (Int × Int)} {a : Int} {s : List Tn} {mn mx : Int} {lz : Bool} {ix : Int} {nm : ByteArray} {n n' : Int} {B : Way} {Ws : List Way} (h : BegA E s n B n' Ws) : Beg E (.mk 5 R a s mn mx lz ix nm) n B (n' + 1) (.once (n' + 1) (.inOrder Ws))
  | grp {R : List (Int × Int)} {a : Int} {t : Tn} {mn mx : Int} {lz : Bool} {i : Nat} {nm : ByteArray} {n n' : Int} {B W : Way} (h : Beg E t n (.noted (2 * i + 1) B) n' W) : Beg E (.mk 7 R a [t] mn mx lz (i : Int) nm) n B (n' + 1) (.once (n' + 1) (.noted (2 * i) W))
  | any0 {R : List (Int × Int)} {a : Int} {t : Tn} {lz : Bool} {ix : Int} {nm : ByteArray} {n n2 : Int} {b : Nat} {B : Way} (h : Beg E t (n + 1) (Dcd lz n b B) n2 (E b)) : Beg E (.mk 6 R a [t] 0 (-1) lz ix nm) n B n2 (Dcd lz n b B)
  | any {R : List (Int × Int)} {a : Int} {t : Tn} {c : Nat} {lz : Bool} {ix : Int} {nm : ByteArray} {n n2 n3 : Int} {b : Nat} {B W3 : Way} (h : Beg E t (n + 1) (Dcd lz n b B) n2 (E b)) (hT : BegT E t c n2 (E b) n3 W3) : Beg E (.mk 6 R a [t] ((c : Int) + 1) (-1) lz ix nm) n B n3 W3
  | bnd {R : List (Int × Int)} {a : Int} {t : Tn} {c m : Nat} {lz : Bool} {ix : Int} {nm : ByteArray} {n n1 n2 : Int} {B W1 W2 : Way} (hO : BegO E t lz B m n n1 W1) (hT : BegT E t c n1 W1 n2 W2) : Beg E (.mk 6 R a [t] (c : Int) ((c : Int) + (m : Int)) lz ix nm) n B n2 W2
/-- one behind another: from the last to the first -/
inductive BegC (E : Nat → Way) : List Tn → Int → Way → Int → Way → Prop
  | nil {n : Int} {B : Way} : BegC E [] n B n B
  | cons {t : Tn} {ts : List Tn} {n n1 n2 : Int} {B W1 W2 : Way} (h : BegC E ts n B n1 W1) (h2 : Beg E t n1 W1 n2 W2) : BegC E (t :: ts) n B n2 W2
/-- beside one another: from the first to the last -/
inductive BegA (E : Nat → Way) : List Tn → Int → Way → Int → List Way → Prop
  | nil {n : Int} {B : Way} : BegA E [] n B n []
  | snoc {t : Tn} {ts : List Tn} {n n1 n2 : Int} {B W2 : Way} {Ws : List Way} (h : BegA E ts n B n1 Ws) (h2 : Beg E t n1 B n2 W2) : BegA E (ts ++ [t]) n B n2 (Ws ++ [W2])
/-- so many copies -/
inductive BegT (E : Nat → Way) : Tn → Nat → Int → Way → Int → Way → Prop
  | zero {t : Tn} {n : Int} {W : Way} : BegT E t 0 n W n W
  | succ {t : Tn} {c : Nat} {n n1 n2 : Int} {W W1 W2 : Way} (h : BegT E t c n W n1 W1) (h2 : Beg E t n1 W1 n2 W2) : BegT E t (c + 1) n W n2 W2
/-- so many that may be left -/
inductive BegO (E : Nat → Way) : Tn → Bool → Way → Nat → Int → Int → Way → Prop
  | zero {t : Tn} {lz : Bool} {B : Way} {n : Int} : BegO E t lz B 0 n n B
  | succ {t : Tn} {lz : Bool} {B : Way} {c : Nat} {n n1 n2 : Int} {W1 W2 : Way} (h : BegO E t lz B c n n1 W1) (h2 : Beg E t n1 W1 n2 W2) : BegO E t lz B (c + 1) n (n2 + 1) (.once (n2 + 1) (.inOrder (if lz = true then [B, W2] else [W2, B])))
end
/-- the loops that were made, in memory: what each goes round; what holds of them -/
structure BgR (g K lo : Nat) (AG : List Nat) (R : (Nat → Way) → Prop) (AW : List Nat) (LE : List (Nat × Way)) (FE : List Nat) (w : World) : Prop where
  env : ∀ p ∈ LE, p.1 ∈ FE ∧ ∃ v F, Bx w p.1 84 v ∧ Rep g K AL w v p.2 F ∧ ∀ k ∈ F, k ∈ FE
  low : ∀ k ∈ FE, k < w.heap.size
  isc : ∀ k ∈ FE, IsC w k
  fresh : ∀ p ∈ LE, lo ≤ p.1
  nd : (LE.map Prod.fst).Nodup
  rel : ∀ E : Nat → Way, (∀ p ∈ LE, E p.1 = p.2) → R E
  agw : ∀ b ∈ AW, b ∈ AG ∨ b ∈ LE.map Prod.fst
  agl : ∀ p ∈ LE, ∀ b ∈ p.2.ags, b ∈ AG ∨ b ∈ LE.map Prod.fst
  wf : ∀ p ∈ LE, Gw p.2 ∧ p.2.ua = []
theorem BgR.stab {g K lo : Nat} {AG : List Nat} {R : (Nat → Way) → Prop} {AW : List Nat} {LE : List (Nat × Way)} {FE : List Nat} {w w' : World} (h : BgR g K lo AG R AW LE FE w) (hs : w.heap.size ≤ w'.heap.size) (hk : ∀ k ∈ FE, w'.heap[k]? = w.heap[k]?) : BgR g K lo AG R AW LE FE w' := by
  refine ⟨fun p hp => ?_, fun k hkk => Nat.lt_of_lt_of_le (h.low k hkk) hs, fun k hkk => ?_, h.fresh, h.nd, h.rel, h.agw, h.agl, h.wf⟩
  · obtain ⟨h1, v, F, h2, h3, h4⟩ := h.env p hp
    exact ⟨h1, v, F, (hk _ h1).trans h2, h3.kept fun k hkk => hk k (h4 k hkk), h4⟩
  · obtain ⟨c, t, x, e⟩ := h.isc k hkk
    exact ⟨c, t, x, (hk k hkk).trans e⟩
theorem BgR.seq {g K lo lo' : Nat} {AG A1 A2 : List Nat} {R1 R2 R : (Nat → Way) → Prop} {LE1 LE2 : List (Nat × Way)} {FE1 FE2 : List Nat} {w : World} (h1 : BgR g K lo AG R1 A1 LE1 FE1 w) (h2 : BgR g K lo' A1 R2 A2 LE2 FE2 w) (hlo : lo ≤ lo') (hb : ∀ p ∈ LE1, p.1 < lo')
    (hR : ∀ E, R1 E → R2 E → R E) : BgR g K lo AG R A2 (LE1 ++ LE2) (FE1 ++ FE2) w := by
  refine ⟨fun p hp => ?_, fun k hk => ?_, fun k hk => ?_, fun p hp => ?_, ?_, fun E hE => hR E (h1.rel E fun p hp => hE p (by simp [hp])) (h2.rel E fun p hp => hE p (by simp [hp])), fun b hb2 => ?_, fun p hp b hb2 => ?_, fun p hp => by rcases List.mem_append.1 hp with hp | hp; exact h1.wf p hp; exact h2.wf p hp⟩
  · rcases List.mem_append.1 hp with hp | hp
    · obtain ⟨a1, v, F, a2, a3, a4⟩ := h1.env p hp
      exact ⟨by simp [a1], v, F, a2, a3, fun k hk => by simp [a4 k hk]⟩
    · obtain ⟨a1, v, F, a2, a3, a4⟩ := h2.env p hp
      exact ⟨by simp [a1], v, F, a2, a3, fun k hk => by simp [a4 k hk]⟩
  · rcases List.mem_append.1 hk with hk | hk
    · exact h1.low k hk
    · exact h2.low k hk
  · rcases List.mem_append.1 hk with hk | hk
    · exact h1.isc k hk
    · exact h2.isc k hk
  · rcases List.mem_append.1 hp with hp | hp
    · exact h1.fresh p hp
    · exact Nat.le_trans hlo (h2.fresh p hp)
  · rw [List.map_append, List.nodup_append]
    refine ⟨h1.nd, h2.nd, fun a ha b hb2 e => ?_⟩
    simp only [List.mem_map] at ha hb2
    obtain ⟨p, hp, rfl⟩ := ha
    obtain ⟨q, hq, rfl⟩ := hb2
    have := hb p hp
    have := h2.fresh q hq
    omega
  · rw [List.map_append]
    rcases h2.agw b hb2 with h | h
    · rcases h1.agw b h with h | h
      · exact .inl h
      · right; simp only [List.mem_append]; exact .inl h
    · right; simp only [List.mem_append]; exact .inr h
  · rw [List.map_append]
    rcases List.mem_append.1 hp with hp | hp
    · rcases h1.agl p hp b hb2 with h | h
      · exact .inl h
      · right; simp only [List.mem_append]; exact .inl h
    · rcases h2.agl p hp b hb2 with h | h
      · rcases h1.agw b h with h | h
        · exact .inl h
        · right; simp only [List.mem_append]; exact .inl h
      · right; simp only [List.mem_append]; exact .inr h
theorem BgR.ofLow {g K lo : Nat} {AG : List Nat} {R : (Nat → Way) → Prop} {AW : List Nat} {LE : List (Nat × Way)} {FE : List Nat} {w : World} (h : BgR g K lo AG R AW LE FE w) : ∀ p ∈ LE, p.1 < w.heap.size := fun p hp => h.low _ (h.env p hp).1
/-- nothing was made -/
theorem BgR.nil (g K lo : Nat) (AG AW : List Nat) (R : (Nat → Way) → Prop) (w : World) (hR : ∀ E, R E) (hA : ∀ b ∈ AW, b ∈ AG) : BgR g K lo AG R AW [] [] w :=
  ⟨fun p hp => (by cases hp), fun k hk => (by cases hk), fun k hk => (by cases hk), fun p hp => (by cases hp), by simp, fun E _ => hR E, fun b hb => .inl (hA b hb), fun p hp => (by cases hp), fun p hp => (by cases hp)⟩
theorem BgR.imp {g K lo : Nat} {AG : List Nat} {R R' : (Nat → Way) → Prop} {AW AW' : List Nat} {LE : List (Nat × Way)} {FE : List Nat} {w : World} (h : BgR g K lo AG R AW LE FE w) (hR : ∀ E, R E → R' E) (hA : ∀ b ∈ AW', b ∈ AG ∨ b ∈ AW) : BgR g K lo AG R' AW' LE FE w :=
  ⟨h.env, h.low, h.isc, h.fresh, h.nd, fun E hE => hR E (h.rel E hE), fun b hb => by rcases hA b hb with h1 | h1; exact .inl h1; exact h.agw b h1, h.agl, h.wf⟩
/-- the claim on a way: which relation made it -/
def JB (g K lo : Nat) (AG ub : List Nat) (bd : Int → Prop) (R : Int → Way → (Nat → Way) → Prop) : Jd where
  p n W FE w := bd n ∧ (Gw W ∧ ∀ b ∈ W.ua, b ∈ ub) ∧ ∃ LE, BgR g K lo AG (R n W) W.ags LE FE w
  stab := fun ⟨h, hg, LE, h2⟩ hs hk => ⟨h, hg, LE, h2.stab hs hk⟩
  low := fun ⟨h, hg, LE, h2⟩ => h2.low
/-- the claim on a row of ways -/
def JBl (g K lo : Nat) (AG : List Nat) (bd : Int → Prop) (R : Int → List Way → (Nat → Way) → Prop) : Jl where
  p n l FE w := bd n ∧ GwL l ∧ ∃ LE, BgR g K lo AG (R n l) (agsL l) LE FE w
  stab := fun ⟨h, hg, LE, h2⟩ hs hk => ⟨h, hg, LE, h2.stab hs hk⟩
  low := fun ⟨h, hg, LE, h2⟩ => h2.low
theorem quad {a b : Nat} {n n' : Int} (ha : 1 ≤ a) (hab : a ≤ b) (h : n' + a ≤ n + b) : n' + 3 * ((a * a : Nat) : Int) ≤ n + 3 * ((b * b : Nat) : Int) := by
  obtain ⟨d, rfl⟩ : ∃ d, b = a + d := ⟨b - a, by omega⟩
  have e : (a + d) * (a + d) = a * a + a * d + (d * a + d * d) := by rw [Nat.add_mul, Nat.mul_add, Nat.mul_add]
  have h1 : d ≤ a * d := Nat.le_mul_of_pos_left _ ha
  have h2 : a * a ≤ a * a + a * d + (d * a + d * d) := by omega
  rw [e]
  generalize a * a = x at *
  generalize a * d = y at *
  generalize d * a + d * d = u at *
  push_cast
  omega
end Go.Proofs.Ytdidopgenhpakaa
/- HELPERS: where walks can come through: all of it is found, once each. -/
namespace Go.Proofs.Ytdidopgenhpakaa
open Go.RowKit
set_option linter.unusedVariables false
set_option linter.unusedSimpArgs false
/-- a way can come through at a place, in so many steps -/
inductive Rch (tx : List Int) (E : Nat → Way) : Nat → Way → Nat → Nat → Prop
  | through {p : Nat} : Rch tx E 0 .through p p
  | once {k : Nat} {n : Int} {d : Way} {p q : Nat} (h : Rch tx E k d p q) : Rch tx E (k + 1) (.once n d) p q
  | noted {k c : Nat} {d : Way} {p q : Nat} (h : Rch tx E k d p q) : Rch tx E (k + 1) (.noted c d) p q
  | rune {k : Nat} {R : Rng} {d : Way} {p q : Nat} (hp : p < tx.length) (hr : (rightB R && hasB R (tx.getD p 0)) = true) (h : Rch tx E k d (p + 1) q) : Rch tx E (k + 1) (.runeOf R d) p q
  | holds {k : Nat} {a : Int} {d : Way} {p q : Nat} (hh : heldB tx a p = true) (h : Rch tx E k d p q) : Rch tx E (k + 1) (.ifHolds a d) p q
  | inOrder {k : Nat} {l : List Way} {p q : Nat} (d : Way) (hd : d ∈ l) (h : Rch tx E k d p q) : Rch tx E (k + 1) (.inOrder l) p q
  | again {k b : Nat} {p q : Nat} (h : Rch tx E k (E b) p q) : Rch tx E (k + 1) (.again b) p q
/-- it can -/
def Can (tx : List Int) (E : Nat → Way) (W : Way) (p q : Nat) : Prop := ∃ k, Rch tx E k W p q
section
variable {tx : List Int} {E : Nat → Way}
theorem can_once {n : Int} {d : Way} {p q : Nat} : Can tx E (.once n d) p q ↔ Can tx E d p q := ⟨fun ⟨k, h⟩ => by cases h with | once h => exact ⟨_, h⟩, fun ⟨k, h⟩ => ⟨_, .once h⟩⟩
theorem can_noted {c : Nat} {d : Way} {p q : Nat} : Can tx E (.noted c d) p q ↔ Can tx E d p q := ⟨fun ⟨k, h⟩ => by cases h with | noted h => exact ⟨_, h⟩, fun ⟨k, h⟩ => ⟨_, .noted h⟩⟩
theorem can_rune {R : Rng} {d : Way} {p q : Nat} : Can tx E (.runeOf R d) p q ↔ p < tx.length ∧ (rightB R && hasB R (tx.getD p 0)) = true ∧ Can tx E d (p + 1) q :=
  ⟨fun ⟨k, h⟩ => by cases h with | rune h1 h2 h3 => exact ⟨h1, h2, _, h3⟩, fun ⟨h1, h2, k, h⟩ => ⟨_, .rune h1 h2 h⟩⟩
theorem can_holds {a : Int} {d : Way} {p q : Nat} : Can tx E (.ifHolds a d) p q ↔ heldB tx a p = true ∧ Can tx E d p q :=
  ⟨fun ⟨k, h⟩ => by cases h with | holds h1 h2 => exact ⟨h1, _, h2⟩, fun ⟨h1, k, h⟩ => ⟨_, .holds h1 h⟩⟩
theorem can_order {l : List Way} {p q : Nat} : Can tx E (.inOrder l) p q ↔ ∃ d ∈ l, Can tx E d p q :=
  ⟨fun ⟨k, h⟩ => by cases h with | inOrder d hd h => exact ⟨d, hd, _, h⟩, fun ⟨d, hd, k, h⟩ => ⟨_, .inOrder d hd h⟩⟩
theorem can_again {b : Nat} {p q : Nat} : Can tx E (.again b) p q ↔ Can tx E (E b) p q := ⟨fun ⟨k, h⟩ => by cases h with | again h => exact ⟨_, h⟩, fun ⟨k, h⟩ => ⟨_, .again h⟩⟩
/-- the things that a way comes to first -/
inductive Hd (tx : List Int) (E : Nat → Way) : Way → Nat → Int × Int → Prop
  | once {n : Int} {d : Way} {p : Nat} : Hd tx E (.once n d) p (n, (p : Int))
  | noted {c : Nat} {d : Way} {p : Nat} {h : Int × Int} (hd : Hd tx E d p h) : Hd tx E (.noted c d) p h
  | rune {R : Rng} {d : Way} {p : Nat} {h : Int × Int} (hp : p < tx.length) (hr : (rightB R && hasB R (tx.getD p 0)) = true) (hd : Hd tx E d (p + 1) h) : Hd tx E (.runeOf R d) p h
  | holds {a : Int} {d : Way} {p : Nat} {h : Int × Int} (hh : heldB tx a p = true) (hd : Hd tx E d p h) : Hd tx E (.ifHolds a d) p h
  | inOrder {l : List Way} {p : Nat} {h : Int × Int} (d : Way) (hm : d ∈ l) (hd : Hd tx E d p h) : Hd tx E (.inOrder l) p h
  | again {b p : Nat} {h : Int × Int} (hd : Hd tx E (E b) p h) : Hd tx E (.again b) p h
mutual
/-- each thing has one body; nothing comes through but as thing 1; the loops are among these -/
def Way.one (Bd : Int → Way) (A : Nat → Prop) : Way → Prop
  | .through => False
  | .once n d => Bd n = d ∧ (n = 1 ∧ d = .through ∨ n ≠ 1 ∧ d.one Bd A)
  | .noted _ d => d.one Bd A
  | .runeOf _ d => d.one Bd A
  | .ifHolds _ d => d.one Bd A
  | .inOrder l => oneL Bd A l
  | .again b => A b
def oneL (Bd : Int → Way) (A : Nat → Prop) : List Way → Prop
  | [] => True
  | d :: l => d.one Bd A ∧ oneL Bd A l
end
theorem oneL_get {Bd : Int → Way} {A : Nat → Prop} : ∀ {l : List Way}, oneL Bd A l → ∀ d ∈ l, d.one Bd A := by
  intro l
  induction l with
  | nil => intro _ d hd; cases hd
  | cons e l ih =>
    intro h d hd
    simp only [oneL] at h
    simp only [List.mem_cons] at hd
    rcases hd with rfl | hd
    · exact h.1
    · exact ih h.2 d hd
/-- what going a way does to what was done, and to the ends -/
structure Did (tx : List Int) (E : Nat → Way) (Bd : Int → Way) (W : Way) (p : Nat) (s s' : Sg) : Prop where
  more : ∀ h ∈ s.done, h ∈ s'.done
  hd : ∀ h, Hd tx E W p h → h ∈ s'.done
  new : ∀ (n : Int) (q : Nat), (n, (q : Int)) ∈ s'.done → (n, (q : Int)) ∉ s.done → n ≠ 1 → ∀ h, Hd tx E (Bd n) q h → h ∈ s'.done
  nat : ∀ h ∈ s'.done, h ∈ s.done ∨ ∃ q : Nat, h.2 = (q : Int)
  par : ∃ l : List (Int × List Int), s'.parses = s.parses ++ l ∧ (l.map Prod.fst).Nodup ∧ (∀ q : Nat, ((q : Int) ∈ l.map Prod.fst ↔ (1, (q : Int)) ∈ s'.done ∧ (1, (q : Int)) ∉ s.done)) ∧ ∀ e ∈ l, ∃ q : Nat, e.1 = (q : Int) ∧ Can tx E W p q
theorem Did.refl (tx : List Int) (E : Nat → Way) (Bd : Int → Way) (W : Way) (p : Nat) (s : Sg) (h : ∀ h, Hd tx E W p h → h ∈ s.done) : Did tx E Bd W p s s :=
  ⟨fun _ h => h, h, fun n q h1 h2 => absurd h1 h2, fun _ h => .inl h, ⟨[], by simp, by simp, fun q => by simp, fun e he => by cases he⟩⟩
/-- one after the other -/
theorem Did.trans {Bd : Int → Way} {W1 W2 W : Way} {p : Nat} {s s1 s2 : Sg} (h1 : Did tx E Bd W1 p s s1) (h2 : Did tx E Bd W2 p s1 s2) (hh : ∀ h, Hd tx E W p h → Hd tx E W1 p h ∨ Hd tx E W2 p h) (hc1 : ∀ q, Can tx E W1 p q → Can tx E W p q) (hc2 : ∀ q, Can tx E W2 p q → Can tx E W p q) : Did tx E Bd W p s s2 := by
  refine ⟨fun h hm => h2.more h (h1.more h hm), fun h hm => ?_, fun n q a1 a2 a3 h hm => ?_, fun h hm => ?_, ?_⟩
  · rcases hh h hm with hm | hm
    · exact h2.more h (h1.hd h hm)
    · exact h2.hd h hm
  · by_cases hm1 : (n, (q : Int)) ∈ s1.done
    · exact h2.more h (h1.new n q hm1 a2 a3 h hm)
    · exact h2.new n q a1 hm1 a3 h hm
  · rcases h2.nat h hm with hm | hm
    · exact h1.nat h hm
    · exact .inr hm
  · obtain ⟨l1, e1, n1, p1, c1⟩ := h1.par
    obtain ⟨l2, e2, n2, p2, c2⟩ := h2.par
    refine ⟨l1 ++ l2, by rw [e2, e1, List.append_assoc], ?_, fun q => ?_, fun e he => ?_⟩
    · rw [List.map_append, List.nodup_append]
      refine ⟨n1, n2, fun a ha b hb e => ?_⟩
      subst e
      have hq : ∃ q : Nat, a = (q : Int) := by
        simp only [List.mem_map] at ha
        obtain ⟨x, hx, rfl⟩ := ha
        obtain ⟨q, hq, _⟩ := c1 x hx
        exact ⟨q, hq⟩
      obtain ⟨q, rfl⟩ := hq
      exact (((p2 q).1 hb).2) ((p1 q).1 ha).1
    · rw [List.map_append, List.mem_append, p1 q, p2 q]
      constructor
      · rintro (⟨a, b⟩ | ⟨a, b⟩)
        · exact ⟨h2.more _ a, b⟩
        · exact ⟨a, fun hm => b (h1.more _ hm)⟩
      · rintro ⟨a, b⟩
        by_cases hm : (1, (q : Int)) ∈ s1.done
        · exact .inl ⟨hm, b⟩
        · exact .inr ⟨a, hm⟩
    · rcases List.mem_append.1 he with he | he
      · obtain ⟨q, hq, hc⟩ := c1 e he
        exact ⟨q, hq, hc1 q hc⟩
      · obtain ⟨q, hq, hc⟩ := c2 e he
        exact ⟨q, hq, hc2 q hc⟩
/-- the same way under another name -/
theorem Did.as {Bd : Int → Way} {W1 W : Way} {p p1 : Nat} {s s1 : Sg} (h1 : Did tx E Bd W1 p1 s s1) (hh : ∀ h, Hd tx E W p h → Hd tx E W1 p1 h) (hc1 : ∀ q, Can tx E W1 p1 q → Can tx E W p q) : Did tx E Bd W p s s1 := by
  obtain ⟨l1, e1, n1, p1, c1⟩ := h1.par
  exact ⟨h1.more, fun h hm => h1.hd h (hh h hm), h1.new, h1.nat, l1, e1, n1, p1, fun e he => by obtain ⟨q, hq, hc⟩ := c1 e he; exact ⟨q, hq, hc1 q hc⟩⟩
/-- what is noted is nothing to what is done and the ends -/
theorem Did.noted {Bd : Int → Way} {W : Way} {p : Nat} {s s' : Sg} {a b : List Int} (h : Did tx E Bd W p { s with notes := a } s') : Did tx E Bd W p s { s' with notes := b } := ⟨h.more, h.hd, h.new, h.nat, h.par⟩
/-- so goes every way -/
theorem ex_did {Bd : Int → Way} {A : Nat → Prop} (hE : ∀ b, A b → (E b).one Bd A) {W : Way} {p : Nat} {s s' : Sg} (h : Ex tx E W p s s') : W.one Bd A → Did tx E Bd W p s s' := by
  induction h with
  | through p s => intro ho; simp [Way.one] at ho
  | skip h => intro _; exact Did.refl _ _ _ _ _ _ fun x hx => by cases hx; exact h
  | @once n d p s s' h hd ih =>
    intro ho
    simp only [Way.one] at ho
    obtain ⟨ho1, ⟨rfl, rfl⟩ | ⟨ho2, ho3⟩⟩ := ho
    · cases hd
      refine ⟨fun x hx => by simp [hx], fun x hx => by cases hx; simp, fun n q a1 a2 a3 => ?_, fun x hx => ?_, [((p : Int), s.notes.set 1 (p : Int))], rfl, by simp, fun q => ?_, fun e he => ?_⟩
      · simp only [List.mem_append, List.mem_singleton, Prod.mk.injEq] at a1
        rcases a1 with a1 | a1
        · exact absurd a1 a2
        · exact absurd a1.1 a3
      · simp only [List.mem_append, List.mem_singleton] at hx
        rcases hx with hx | rfl
        · exact .inl hx
        · exact .inr ⟨p, rfl⟩
      · simp only [List.map_cons, List.map_nil, List.mem_singleton, List.mem_append, Prod.mk.injEq, true_and]
        constructor
        · intro e
          refine ⟨.inr e, by rw [e]; exact h⟩
        · rintro ⟨a | a, b⟩
          · exact absurd a b
          · exact a
      · simp only [List.mem_singleton] at he
        subst he
        exact ⟨p, rfl, 1, .once .through⟩
    · have hD := ih ho3
      obtain ⟨l1, e1, n1, p1, c1⟩ := hD.par
      refine ⟨fun x hx => hD.more x (by simp [hx]), fun x hx => by cases hx; exact hD.more _ (by simp), fun m q a1 a2 a3 x hx => ?_, fun x hx => ?_, l1, e1, n1, fun q => ?_, fun e he => ?_⟩
      · by_cases hm : (m, (q : Int)) ∈ s.done ++ [(n, (p : Int))]
        · simp only [List.mem_append, List.mem_singleton, Prod.mk.injEq] at hm
          rcases hm with hm | ⟨rfl, hq⟩
          · exact absurd hm a2
          · have hq : q = p := by omega
            subst hq
            rw [ho1] at hx
            exact hD.hd x hx
        · exact hD.new m q a1 hm a3 x hx
      · rcases hD.nat x hx with hx | hx
        · simp only [List.mem_append, List.mem_singleton] at hx
          rcases hx with hx | rfl
          · exact .inl hx
          · exact .inr ⟨p, rfl⟩
        · exact .inr hx
      · rw [p1 q]
        simp only [List.mem_append, List.mem_singleton, Prod.mk.injEq, not_or]
        constructor
        · rintro ⟨a, b, _⟩; exact ⟨a, b⟩
        · rintro ⟨a, b⟩; exact ⟨a, b, fun hc => ho2 hc.1.symm⟩
      · obtain ⟨q, hq, hc⟩ := c1 e he
        exact ⟨q, hq, can_once.2 hc⟩
  | noted hd ih =>
    intro ho
    simp only [Way.one] at ho
    exact ((ih ho).as (fun x hx => by cases hx with | noted hx => exact hx) (fun q hc => can_noted.2 hc)).noted
  | over h =>
    intro _
    exact Did.refl _ _ _ _ _ _ fun x hx => by cases hx; omega
  | other h hr =>
    intro _
    exact Did.refl _ _ _ _ _ _ fun x hx => by cases hx with | rune h1 h2 h3 => rw [hr] at h2; cases h2
  | rune h hr hd ih =>
    intro ho
    simp only [Way.one] at ho
    exact (ih ho).as (fun x hx => by cases hx with | rune h1 h2 h3 => exact h3) (fun q hc => can_rune.2 ⟨h, hr, hc⟩)
  | fails h =>
    intro _
    exact Did.refl _ _ _ _ _ _ fun x hx => by cases hx with | holds h1 h2 => rw [h] at h1; cases h1
  | holds h hd ih =>
    intro ho
    simp only [Way.one] at ho
    exact (ih ho).as (fun x hx => by cases hx with | holds h1 h2 => exact h2) (fun q hc => can_holds.2 ⟨h, hc⟩)
  | again h ih =>
    intro ho
    simp only [Way.one] at ho
    exact (ih (hE _ ho)).as (fun x hx => by cases hx with | again h => exact h) (fun q hc => can_again.2 hc)
  | @inOrder l p ss h ih =>
    intro ho
    simp only [Way.one] at ho
    have key : ∀ m, m ≤ l.length → Did tx E Bd (.inOrder (l.take m)) p (ss 0) (ss m) := by
      intro m
      induction m with
      | zero => intro _; exact Did.refl _ _ _ _ _ _ fun x hx => by cases hx with | inOrder d hm _ => simp at hm
      | succ m im =>
        intro hm
        refine (im (by omega)).trans (ih m (by omega) (oneL_get ho _ (List.getElem_mem _))) (fun x hx => ?_) (fun q hc => ?_) (fun q hc => ?_)
        · cases hx with
          | inOrder d hd hx =>
            rw [List.take_succ_eq_append_getElem (by omega)] at hd
            simp only [List.mem_append, List.mem_singleton] at hd
            rcases hd with hd | rfl
            · exact .inl (.inOrder d hd hx)
            · exact .inr hx
        · rw [can_order] at hc ⊢
          obtain ⟨d, hd, hc⟩ := hc
          exact ⟨d, by rw [List.take_succ_eq_append_getElem (by omega)]; exact List.mem_append_left _ hd, hc⟩
        · exact can_order.2 ⟨_, by rw [List.take_succ_eq_append_getElem (by omega)]; exact List.mem_append_right _ (List.mem_singleton.2 rfl), hc⟩
    have := key l.length (Nat.le_refl _)
    rwa [List.take_length] at this
/-- what a way comes to first is done, and what it does leads on: so it comes through -/
theorem rch_hd {Bd : Int → Way} {A : Nat → Prop} (hE : ∀ b, A b → (E b).one Bd A) (D : List (Int × Int)) (hD : ∀ (n : Int) (q : Nat), (n, (q : Int)) ∈ D → n ≠ 1 → ∀ h, Hd tx E (Bd n) q h → h ∈ D) : ∀ (k : Nat) (W : Way) (p q : Nat), Rch tx E k W p q → W.one Bd A → (∀ h, Hd tx E W p h → h ∈ D) → (1, (q : Int)) ∈ D := by
  intro k W p q h
  induction h with
  | through => intro ho; simp [Way.one] at ho
  | @once k n d p q h ih =>
    intro ho hh
    have hm := hh _ .once
    simp only [Way.one] at ho
    obtain ⟨ho1, ⟨rfl, rfl⟩ | ⟨ho2, ho3⟩⟩ := ho
    · cases h
      exact hm
    · exact ih ho3 fun x hx => hD n p hm ho2 x (by rw [ho1]; exact hx)
  | noted h ih => intro ho hh; simp only [Way.one] at ho; exact ih ho fun x hx => hh x (.noted hx)
  | rune hp hr h ih => intro ho hh; simp only [Way.one] at ho; exact ih ho fun x hx => hh x (.rune hp hr hx)
  | holds hp h ih => intro ho hh; simp only [Way.one] at ho; exact ih ho fun x hx => hh x (.holds hp hx)
  | inOrder d hd h ih => intro ho hh; simp only [Way.one] at ho; exact ih (oneL_get ho d hd) fun x hx => hh x (.inOrder d hd hx)
  | again h ih => intro ho hh; simp only [Way.one] at ho; exact ih (hE _ ho) fun x hx => hh x (.again hx)
/-- THE ENDS: each place where the way can come through, once -/
theorem ends_iff {Bd : Int → Way} {A : Nat → Prop} (hE : ∀ b, A b → (E b).one Bd A) {W : Way} {p : Nat} {s s' : Sg} (h : Ex tx E W p s s') (ho : W.one Bd A) (h0 : s.done = []) (h1 : s.parses = []) : (s'.parses.map Prod.fst).Nodup ∧ (∀ e ∈ s'.parses, ∃ q : Nat, e.1 = (q : Int)) ∧ ∀ q : Nat, (q : Int) ∈ s'.parses.map Prod.fst ↔ Can tx E W p q := by
  have hD := ex_did hE h ho
  obtain ⟨l, e, n, hp, hc⟩ := hD.par
  rw [h1, List.nil_append] at e
  subst e
  refine ⟨n, fun e he => ?_, fun q => ⟨fun hq => ?_, fun ⟨k, hq⟩ => ?_⟩⟩
  · obtain ⟨q, hq, _⟩ := hc e he
    exact ⟨q, hq⟩
  · simp only [List.mem_map] at hq
    obtain ⟨e, he, hq⟩ := hq
    obtain ⟨q', hq', hcan⟩ := hc e he
    rw [hq] at hq'
    have : q = q' := by omega
    rwa [this]
  · refine (hp q).2 ⟨rch_hd hE s'.done (fun m r hm hm1 x hx => hD.new m r hm (by rw [h0]; simp) hm1 x hx) k W p q hq ho hD.hd, by rw [h0]; simp⟩
end
end Go.Proofs.Ytdidopgenhpakaa
/- HELPERS: the ways of a tree come through where the tree takes what lies between. -/
namespace Go.Proofs.Ytdidopgenhpakaa
open Go.RowKit
set_option linter.unusedVariables false
set_option linter.unusedSimpArgs false
/-- so many times -/
def Iter (R : Nat → Nat → Prop) : Nat → Nat → Nat → Prop
  | 0, p, q => q = p
  | c + 1, p, q => ∃ r, R p r ∧ Iter R c r q
theorem Iter.add {R : Nat → Nat → Prop} : ∀ {a b p r q : Nat}, Iter R a p r → Iter R b r q → Iter R (a + b) p q := by
  intro a
  induction a with
  | zero => intro b p r q h1 h2; simp only [Iter] at h1; subst h1; simpa using h2
  | succ a ih =>
    intro b p r q h1 h2
    simp only [Iter] at h1
    obtain ⟨x, hx, h1⟩ := h1
    rw [show a + 1 + b = (a + b) + 1 by omega]
    exact ⟨x, hx, ih h1 h2⟩
theorem Iter.split {R : Nat → Nat → Prop} : ∀ {a b p q : Nat}, Iter R (a + b) p q → ∃ r, Iter R a p r ∧ Iter R b r q := by
  intro a
  induction a with
  | zero => intro b p q h; exact ⟨p, rfl, by simpa using h⟩
  | succ a ih =>
    intro b p q h
    rw [show a + 1 + b = (a + b) + 1 by omega] at h
    obtain ⟨x, hx, h⟩ := h
    obtain ⟨r, h1, h2⟩ := ih h
    exact ⟨r, ⟨x, hx, h1⟩, h2⟩
mutual
/-- the tree takes what lies between two places of the text -/
def Mt (tx : List Int) : Tn → Nat → Nat → Prop
  | .mk k R a s mn mx lz ix nm, p, q =>
    (k = 1 ∧ q = p) ∨ (k = 2 ∧ p < tx.length ∧ (rightB R && hasB R (tx.getD p 0)) = true ∧ q = p + 1) ∨ (k = 3 ∧ heldB tx a p = true ∧ q = p) ∨ (k = 4 ∧ MtC tx s p q) ∨ (k = 5 ∧ MtA tx s p q) ∨ (k = 7 ∧ MtH tx s p q) ∨
      (k = 6 ∧ ∃ c : Nat, mn ≤ (c : Int) ∧ (mx < 0 ∨ (c : Int) ≤ mx) ∧ Iter (MtH tx s) c p q)
def MtC (tx : List Int) : List Tn → Nat → Nat → Prop
  | [], p, q => q = p
  | t :: ts, p, q => ∃ r, Mt tx t p r ∧ MtC tx ts r q
def MtA (tx : List Int) : List Tn → Nat → Nat → Prop
  | [], p, q => False
  | t :: ts, p, q => Mt tx t p q ∨ MtA tx ts p q
def MtH (tx : List Int) : List Tn → Nat → Nat → Prop
  | [], p, q => False
  | t :: _, p, q => Mt tx t p q
end
theorem mtA_snoc {tx : List Int} {t : Tn} {p q : Nat} : ∀ {ts : List Tn}, MtA tx (ts ++ [t]) p q ↔ MtA tx ts p q ∨ Mt tx t p q := by
  intro ts
  induction ts with
  | nil => simp [MtA]
  | cons u ts ih => simp only [List.cons_append, MtA, ih, or_assoc]
theorem mtH_one (tx : List Int) (t : Tn) (ts : List Tn) : MtH tx (t :: ts) = Mt tx t := by
  funext p q
  simp [MtH]
/-- a way leads over such stretches to what is behind it -/
def Leads (tx : List Int) (E : Nat → Way) (M : Nat → Nat → Prop) (B W : Way) : Prop := (∀ k p q', Rch tx E k W p q' → ∃ q k', k' ≤ k ∧ M p q ∧ Rch tx E k' B q q') ∧ ∀ p q q', M p q → Can tx E B q q' → Can tx E W p q'
section
variable {tx : List Int} {E : Nat → Way}
theorem Leads.to {M M' : Nat → Nat → Prop} {B W : Way} (h : Leads tx E M B W) (h1 : ∀ p q, M p q ↔ M' p q) : Leads tx E M' B W :=
  ⟨fun k p q' hr => by obtain ⟨q, k', a, b, c⟩ := h.1 k p q' hr; exact ⟨q, k', a, (h1 p q).1 b, c⟩, fun p q q' hm => h.2 p q q' ((h1 p q).2 hm)⟩
theorem Leads.self (B : Way) : Leads tx E (fun p q => q = p) B B := ⟨fun k p q' h => ⟨p, k, Nat.le_refl _, rfl, h⟩, fun p q q' h hc => by subst h; exact hc⟩
theorem Leads.seq {M M' : Nat → Nat → Prop} {B W W' : Way} (h : Leads tx E M B W) (h' : Leads tx E M' W W') : Leads tx E (fun p q => ∃ r, M' p r ∧ M r q) B W' :=
  ⟨fun k p q' hr => by
    obtain ⟨r, k1, a1, a2, a3⟩ := h'.1 k p q' hr
    obtain ⟨q, k2, b1, b2, b3⟩ := h.1 k1 r q' a3
    exact ⟨q, k2, by omega, ⟨r, a2, b2⟩, b3⟩, fun p q q' ⟨r, h1, h2⟩ hc => h'.2 p r q' h1 (h.2 r q q' h2 hc)⟩
theorem Leads.once {M : Nat → Nat → Prop} {B W : Way} {n : Int} (h : Leads tx E M B W) : Leads tx E M B (.once n W) :=
  ⟨fun k p q' hr => by
    cases hr with
    | once hr =>
      obtain ⟨q, k', a, b, c⟩ := h.1 _ p q' hr
      exact ⟨q, k', by omega, b, c⟩, fun p q q' hm hc => can_once.2 (h.2 p q q' hm hc)⟩
theorem Leads.noted {M : Nat → Nat → Prop} {B W : Way} {n : Nat} (h : Leads tx E M B W) : Leads tx E M B (.noted n W) :=
  ⟨fun k p q' hr => by
    cases hr with
    | noted hr =>
      obtain ⟨q, k', a, b, c⟩ := h.1 _ p q' hr
      exact ⟨q, k', by omega, b, c⟩, fun p q q' hm hc => can_noted.2 (h.2 p q q' hm hc)⟩
theorem Leads.behind {M : Nat → Nat → Prop} {B W : Way} {n : Nat} (h : Leads tx E M (.noted n B) W) : Leads tx E M B W :=
  ⟨fun k p q' hr => by
    obtain ⟨q, k', a, b, c⟩ := h.1 _ p q' hr
    cases c with
    | noted c => exact ⟨q, _, by omega, b, c⟩, fun p q q' hm hc => h.2 p q q' hm (can_noted.2 hc)⟩
/-- two beside one another -/
theorem Leads.beside {M : Nat → Nat → Prop} {B W : Way} {l : List Way} (h : Leads tx E M B W) (hl : ∀ d, d ∈ l ↔ d = B ∨ d = W) : Leads tx E (fun p q => q = p ∨ M p q) B (.inOrder l) :=
  ⟨fun k p q' hr => by
    cases hr with
    | inOrder d hd hr =>
      rcases (hl d).1 hd with rfl | rfl
      · exact ⟨p, _, by omega, .inl rfl, hr⟩
      · obtain ⟨q, k', a, b, c⟩ := h.1 _ p q' hr
        exact ⟨q, k', by omega, .inr b, c⟩,
  fun p q q' hm hc => by
    rcases hm with rfl | hm
    · exact can_order.2 ⟨B, (hl B).2 (.inl rfl), hc⟩
    · exact can_order.2 ⟨W, (hl W).2 (.inr rfl), h.2 p q q' hm hc⟩⟩
/-- a loop -/
theorem Leads.loop {M : Nat → Nat → Prop} {B : Way} {b : Nat} {lz : Bool} {n : Int} (h : Leads tx E M (Dcd lz n b B) (E b)) : Leads tx E (fun p q => ∃ c, Iter M c p q) B (Dcd lz n b B) := by
  have hl : ∀ d, d ∈ (if lz = true then [B, .again b] else [.again b, B]) ↔ d = B ∨ d = .again b := by
    intro d
    cases lz
    · simp [or_comm]
    · simp
  constructor
  · intro k
    induction k using Nat.strongRecOn with
    | _ k ih =>
    intro p q' hr
    cases hr with
    | once hr =>
      cases hr with
      | inOrder d hd hr =>
        rcases (hl d).1 hd with rfl | rfl
        · exact ⟨p, _, by omega, ⟨0, rfl⟩, hr⟩
        · cases hr with
          | again hr =>
            obtain ⟨r, k1, a1, a2, a3⟩ := h.1 _ p q' hr
            obtain ⟨q, k2, b1, ⟨c, b2⟩, b3⟩ := ih k1 (by omega) r q' a3
            exact ⟨q, k2, by omega, ⟨c + 1, r, a2, b2⟩, b3⟩
  · rintro p q q' ⟨c, hm⟩ hc
    induction c generalizing p with
    | zero => simp only [Iter] at hm; subst hm; exact can_once.2 (can_order.2 ⟨B, (hl B).2 (.inl rfl), hc⟩)
    | succ c ihc =>
      obtain ⟨r, h1, h2⟩ := hm
      exact can_once.2 (can_order.2 ⟨.again b, (hl _).2 (.inr rfl), can_again.2 (h.2 p r q' h1 (ihc r h2))⟩)
/-- THE WAYS OF A TREE lead over what the tree takes -/
theorem Beg.leads {t : Tn} {n n1 : Int} {B W : Way} (h : Beg E t n B n1 W) : Leads tx E (Mt tx t) B W := by
  refine Beg.rec (motive_1 := fun t n B n1 W _ => Leads tx E (Mt tx t) B W) (motive_2 := fun ts n B n1 W _ => Leads tx E (MtC tx ts) B W)
    (motive_3 := fun ts n B n1 Ws _ => (∀ k p q', ∀ d ∈ Ws, Rch tx E k d p q' → ∃ q k', k' ≤ k ∧ MtA tx ts p q ∧ Rch tx E k' B q q') ∧ ∀ p q q', MtA tx ts p q → Can tx E B q q' → ∃ d ∈ Ws, Can tx E d p q')
    (motive_4 := fun t c n B n1 W _ => Leads tx E (Iter (Mt tx t) c) B W) (motive_5 := fun t lz B c n n1 W _ => Leads tx E (fun p q => ∃ d, d ≤ c ∧ Iter (Mt tx t) d p q) B W)
    ?_ ?_ ?_ ?_ ?_ ?_ ?_ ?_ ?_ ?_ ?_ ?_ ?_ ?_ ?_ ?_ ?_ h
  · intro R a s mn mx lz ix nm n B
    exact (Leads.self B).once.to fun p q => by simp [Mt]
  · intro R a s mn mx lz ix nm n B
    refine Leads.once ⟨fun k p q' hr => ?_, fun p q q' hm hc => ?_⟩
    · cases hr with
      | rune h1 h2 hr => exact ⟨p + 1, _, by omega, by simp [Mt]; exact ⟨h1, by simpa using h2⟩, hr⟩
    · simp [Mt] at hm
      obtain ⟨h1, h2, rfl⟩ := hm
      exact can_rune.2 ⟨h1, by simpa using h2, hc⟩
  · intro R a s mn mx lz ix nm n B
    refine Leads.once ⟨fun k p q' hr => ?_, fun p q q' hm hc => ?_⟩
    · cases hr with
      | holds h1 hr => exact ⟨p, _, by omega, by simp [Mt]; exact h1, hr⟩
    · simp [Mt] at hm
      obtain ⟨h1, rfl⟩ := hm
      exact can_holds.2 ⟨h1, hc⟩
  · intro R a s mn mx lz ix nm n n' B W _ h
    exact h.to fun p q => by simp [Mt]
  · intro R a s mn mx lz ix nm n n' B Ws _ hl
    refine Leads.once ⟨fun k p q' hr => ?_, fun p q q' hm hc => ?_⟩
    · cases hr with
      | inOrder d hd hr =>
        obtain ⟨q, k', a, b, c⟩ := hl.1 _ p q' d hd hr
        exact ⟨q, k', by omega, by simp [Mt]; exact b, c⟩
    · simp [Mt] at hm
      exact can_order.2 (hl.2 p q q' hm hc)
  · intro R a t mn mx lz i nm n n' B W _ h
    exact (h.behind.noted.once).to fun p q => by simp [Mt, MtH]
  · intro R a t lz ix nm n n2 b B _ h
    refine h.loop.to fun p q => ?_
    simp [Mt, mtH_one]
  · intro R a t c lz ix nm n n2 n3 b B W3 _ _ h1 hT
    refine ((h1.loop.seq h1).seq hT).to fun p q => ?_
    simp [Mt, mtH_one]
    constructor
    · rintro ⟨r, a1, r2, a2, c', a3⟩
      exact ⟨_, by omega, a1.add (show Iter _ (c' + 1) r q from ⟨r2, a2, a3⟩)⟩
    · rintro ⟨c2, a1, a2⟩
      obtain ⟨d, rfl⟩ : ∃ d, c2 = c + (d + 1) := ⟨c2 - c - 1, by omega⟩
      obtain ⟨r, b1, r2, b2, b3⟩ := a2.split
      exact ⟨r, b1, r2, b2, _, b3⟩
  · intro R a t c m lz ix nm n n1 n2 B W1 W2 _ _ hO hT
    refine (hO.seq hT).to fun p q => ?_
    constructor
    · rintro ⟨r, a1, d, hd, a2⟩
      have : Iter (Mt tx _) _ p q := a1.add a2
      simp only [Mt, mtH_one]
      exact .inr (.inr (.inr (.inr (.inr (.inr ⟨trivial, _, by omega, by omega, this⟩)))))
    · intro hm
      simp [Mt, mtH_one] at hm
      obtain ⟨c2, a1, a2, a3⟩ := hm
      obtain ⟨d, rfl⟩ : ∃ d, c2 = c + d := ⟨c2 - c, by omega⟩
      obtain ⟨r, b1, b2⟩ := a3.split
      exact ⟨r, b1, d, by omega, b2⟩
  · intro n B
    exact (Leads.self B).to fun p q => by simp [MtC]
  · intro t ts n n1 n2 B W1 W2 _ _ h h2
    exact (h.seq h2).to fun p q => by simp [MtC]
  · intro n B
    exact ⟨fun k p q' d hd => (by cases hd), fun p q q' hm => by simp [MtA] at hm⟩
  · intro t ts n n1 n2 B W2 Ws _ _ hl hl2
    refine ⟨fun k p q' d hd hr => ?_, fun p q q' hm hc => ?_⟩
    · rw [List.mem_append, List.mem_singleton] at hd
      rcases hd with hd | rfl
      · obtain ⟨q, k', a, b, c⟩ := hl.1 k p q' d hd hr
        exact ⟨q, k', a, mtA_snoc.2 (.inl b), c⟩
      · obtain ⟨q, k', a, b, c⟩ := hl2.1 k p q' hr
        exact ⟨q, k', a, mtA_snoc.2 (.inr b), c⟩
    · rcases mtA_snoc.1 hm with hm | hm
      · obtain ⟨d, hd, hc⟩ := hl.2 p q q' hm hc
        exact ⟨d, List.mem_append_left _ hd, hc⟩
      · exact ⟨_, List.mem_append_right _ (List.mem_singleton.2 rfl), hl2.2 p q q' hm hc⟩
  · intro t n W
    exact (Leads.self W).to fun p q => by simp [Iter]
  · intro t c n n1 n2 W W1 W2 _ _ h h2
    exact (h.seq h2).to fun p q => by simp [Iter]
  · intro t lz B n
    exact (Leads.self B).to fun p q => ⟨fun e => ⟨0, Nat.le_refl _, e⟩, fun ⟨d, hd, h⟩ => by cases d with | zero => exact h | succ d => omega⟩
  · intro t lz B c n n1 n2 W1 W2 _ _ h h2
    refine (((h.seq h2).beside (fun d => ?_)).once).to fun p q => ?_
    · cases lz
      · simp [or_comm]
      · simp
    · constructor
      · rintro (rfl | ⟨r, h1, d, hd, h2⟩)
        · exact ⟨0, by omega, rfl⟩
        · exact ⟨d + 1, by omega, r, h1, h2⟩
      · rintro ⟨d, hd, h⟩
        cases d with
        | zero => exact .inl h
        | succ d =>
          obtain ⟨r, h1, h2⟩ := h
          exact .inr ⟨r, h1, d, by omega, h2⟩
/-- where the ways of a tree come through -/
theorem Beg.can {t : Tn} {n n1 : Int} {B W : Way} (h : Beg E t n B n1 W) (p q' : Nat) : Can tx E W p q' ↔ ∃ q, Mt tx t p q ∧ Can tx E B q q' :=
  ⟨fun ⟨k, hr⟩ => by obtain ⟨q, k', _, a, b⟩ := (h.leads (tx := tx)).1 k p q' hr; exact ⟨q, a, k', b⟩, fun ⟨q, a, b⟩ => (h.leads (tx := tx)).2 p q q' a b⟩
theorem can_end (p q : Nat) : Can tx E (.once 1 .through) p q ↔ q = p := by
  rw [can_once]
  exact ⟨fun ⟨k, h⟩ => by cases h; rfl, fun h => by subst h; exact ⟨0, .through⟩⟩
end
end Go.Proofs.Ytdidopgenhpakaa
/- HELPERS: a tree's greatest index and its size: both answers. -/
namespace Go.Proofs.Ytdidopgenhpakaa
open Go.RowKit
set_option linter.unusedVariables false
set_option linter.unusedSimpArgs false
set_option maxRecDepth 100000 in
set_option maxHeartbeats 8000000 in
theorem greatest15 {w0 : World} {B : Nat} {N : Nv} {t : Tn} (h : TI w0 B N t) : ∀ (w : World), B ≤ w.heap.size → (∀ b, b < B → w.heap[b]? = w0.heap[b]?) →
    Calls Try.prog 38 #[N.v] w fun e w' => e = .returned (.int .i64 t.gi) ∧ Below w.heap.size w w' := by
  induction h with
  | @mk N R ts ND ok hr hR hRk hs hS hk ih =>
  intro w hB hw
  have hmax := ok.s
  obtain ⟨k, r1, r2, r3, a2, s1, s2, s3, a4, a5, a6, a7, a8⟩ := N
  simp only at hs hS hmax
  simp only [Tn.gi]
  obtain ⟨r, hrr⟩ : ∃ r, r = giL ts a7 := ⟨_, rfl⟩
  rw [← hrr]
  have HR := hid' hrr
  have HW := hid' hw
  have HS := hid' hS
  have IH := hid' ih
  have hm2 : s2 ≤ 9223372036854775807 := by have : maxLen = 9223372036854775807 := rfl; omega
  have HL := hid' hs
  clear ok hr hR hRk hk hS hw hrr ih hmax hs
  go_enter Try.func38, Try.ntmps38
  go_wp2_with fail
  go_loopw [3, 4] (fun u y wq => ∃ i : Nat, y = .int .i64 (i : Int) ∧ i ≤ s2 ∧ (∃ q, u = .int .i64 q ∧ Hid (giL (ts.drop i) q = r)) ∧ Hid (Below w.heap.size w wq) ∧ Hid (wq.heap[w.heap.size]? = some (.cells #[.int .i64 k, .slice r1 r2 r3, .int .i64 a2, .slice s1 s2 s3, .int .i64 a4, .int .i64 a5, .bool a6, .int .i64 a7, .string a8] 25 (0, 0)))) (fun _ y _ => s2 - (intOf y).toNat)
  case atStart => exact ⟨0, rfl, by omega, ⟨a7, rfl, HR.out.symm⟩, Joins.below_alloc1 w _, heap_alloc_new w _⟩
  case round =>
    obtain ⟨i, rfl, hi, ⟨q, rfl, HQ⟩, BK, BX⟩ := hrel
    obtain ⟨o0, o1, o2, o3, o4, o5, o6, o7, o8⟩ := nine' BX.out
    by_cases hil : i < s2
    · have b1 : decide ((i : Int) < (s2 : Int)) = true := by simp; omega
      have b2 : (i : Int) < (s2 : Int) := by omega
      have hlt : i < ts.length := by rw [← HL.out]; exact hil
      obtain ⟨b, o, hs1, hb, hc⟩ := HS.out (by omega)
      subst hs1
      have hwk : ∀ b, b < B → wr.heap[b]? = w0.heap[b]? := fun b hb => (BK.out.block b (by omega)).trans (HW.out b hb)
      obtain ⟨n0, n1, n2, n3, n4, n5, n6, n7, n8⟩ := (hc i hlt).kept (hwk b hb)
      have HC := IH.out i hlt wr (by have := BK.out.size; omega) hwk
      rw [giL_drop ts i hlt q] at HQ
      obtain ⟨g, hg⟩ : ∃ g, g = ts[i].gi := ⟨_, rfl⟩
      rw [← hg] at HC HQ
      obtain ⟨M, hM⟩ : ∃ M, M = ND i := ⟨_, rfl⟩
      rw [← hM] at HC n0 n1 n2 n3 n4 n5 n6 n7 n8
      have ad1 : IntKind.i64.wrap ((i : Int) + 1) = (i : Int) + 1 := by simp [IntKind.wrap, IntKind.bits, IntKind.signed]; omega
      clear hM hg hwk hc hlt
      go_wp2_with (first | (go_at_call 38; (with_reducible refine HC.mono ?_); rintro e w2 ⟨rfl, hb2⟩; have HB2 := hid' hb2; clear hb2 HC))
      refine ⟨⟨i + 1, by push_cast; rfl, by omega, ⟨_, rfl, HQ.out⟩, ?_, ?_⟩, ?_⟩
      · exact BK.out.trans (Joins.below_le HB2.out BK.out.size)
      · exact (HB2.out.block _ (by have := (Array.getElem?_eq_some_iff.1 BX.out).1; omega)).trans BX.out
      · simp [intOf]
        omega
    · have b1 : decide ((i : Int) < (s2 : Int)) = false := by simp; omega
      obtain rfl : i = s2 := by omega
      have e := HQ.out
      rw [HL.out, List.drop_length] at e
      simp only [giL] at e
      go_wp2
      go_ret
      exact ⟨by first | rfl | exact ret_int e, BK.out⟩
set_option maxRecDepth 100000 in
set_option maxHeartbeats 8000000 in
theorem greatestg52 {w0 : World} {B : Nat} {N : Nv} {t : Tn} (h : TI w0 B N t) : ∀ (w : World), B ≤ w.heap.size → (∀ b, b < B → w.heap[b]? = w0.heap[b]?) →
    Calls Try.prog 56 #[N.v] w fun e w' => e = .returned (.int .i64 t.gi) ∧ Below w.heap.size w w' := by
  induction h with
  | @mk N R ts ND ok hr hR hRk hs hS hk ih =>
  intro w hB hw
  have hmax := ok.s
  obtain ⟨k, r1, r2, r3, a2, s1, s2, s3, a4, a5, a6, a7, a8⟩ := N
  simp only at hs hS hmax
  simp only [Tn.gi]
  obtain ⟨r, hrr⟩ : ∃ r, r = giL ts a7 := ⟨_, rfl⟩
  rw [← hrr]
  have HR := hid' hrr
  have HW := hid' hw
  have HS := hid' hS
  have IH := hid' ih
  have hm2 : s2 ≤ 9223372036854775807 := by have : maxLen = 9223372036854775807 := rfl; omega
  have HL := hid' hs
  clear ok hr hR hRk hk hS hw hrr ih hmax hs
  go_enter Try.func56, Try.ntmps56
  go_wp2_with fail
  go_loopw [3, 11] (fun u y wq => ∃ i : Nat, y = .int .i64 (i : Int) ∧ i ≤ s2 ∧ (∃ q, u = .int .i64 q ∧ Hid (giL (ts.drop i) q = r)) ∧ Hid (Below w.heap.size w wq) ∧ Hid (wq.heap[w.heap.size]? = some (.cells #[.int .i64 k, .slice r1 r2 r3, .int .i64 a2, .slice s1 s2 s3, .int .i64 a4, .int .i64 a5, .bool a6, .int .i64 a7, .string a8] 25 (0, 0)))) (fun _ y _ => s2 - (intOf y).toNat)
  case atStart => exact ⟨0, rfl, by omega, ⟨a7, rfl, HR.out.symm⟩, Joins.below_alloc1 w _, heap_alloc_new w _⟩
  case round =>
    obtain ⟨i, rfl, hi, ⟨q, rfl, HQ⟩, BK, BX⟩ := hrel
    obtain ⟨o0, o1, o2, o3, o4, o5, o6, o7, o8⟩ := nine' BX.out
    by_cases hil : i < s2
    · have b1 : decide ((i : Int) < (s2 : Int)) = true := by simp; omega
      have b2 : (i : Int) < (s2 : Int) := by omega
      have hlt : i < ts.length := by rw [← HL.out]; exact hil
      obtain ⟨b, o, hs1, hb, hc⟩ := HS.out (by omega)
      subst hs1
      have hwk : ∀ b, b < B → wr.heap[b]? = w0.heap[b]? := fun b hb => (BK.out.block b (by omega)).trans (HW.out b hb)
      obtain ⟨n0, n1, n2, n3, n4, n5, n6, n7, n8⟩ := (hc i hlt).kept (hwk b hb)
      have HC := IH.out i hlt (wr.alloc (.cells #[.int .i64 (ND i).k, .slice (ND i).r1 (ND i).r2 (ND i).r3, .int .i64 (ND i).a2, .slice (ND i).s1 (ND i).s2 (ND i).s3, .int .i64 (ND i).a4, .int .i64 (ND i).a5, .bool (ND i).a6, .int .i64 (ND i).a7, .string (ND i).a8] 25)) (by have := BK.out.size; simp; omega) (fun b hb => (heap_alloc_old _ _ (by have := BK.out.size; omega)).trans (hwk b hb))
      rw [giL_drop ts i hlt q] at HQ
      obtain ⟨g, hg⟩ : ∃ g, g = ts[i].gi := ⟨_, rfl⟩
      rw [← hg] at HC HQ
      obtain ⟨M, hM⟩ : ∃ M, M = ND i := ⟨_, rfl⟩
      rw [← hM] at HC n0 n1 n2 n3 n4 n5 n6 n7 n8
      have ad1 : IntKind.i64.wrap ((i : Int) + 1) = (i : Int) + 1 := by simp [IntKind.wrap, IntKind.bits, IntKind.signed]; omega
      clear hM hg hwk hc hlt
      go_wp2_with (first | (go_at_call 56; (with_reducible refine HC.mono ?_); rintro e w2 ⟨rfl, hb2⟩; have HB2 := hid' hb2; clear hb2 HC))
      refine ⟨⟨i + 1, by push_cast; rfl, by omega, ⟨_, rfl, HQ.out⟩, ?_, ?_⟩, ?_⟩
      · exact BK.out.trans (Joins.below_le ((Joins.below_alloc1 wr _).trans (Joins.below_le HB2.out (by simp))) BK.out.size)
      · exact (HB2.out.block _ (by have := (Array.getElem?_eq_some_iff.1 BX.out).1; simp; omega)).trans ((heap_alloc_old wr _ (Array.getElem?_eq_some_iff.1 BX.out).1).trans BX.out)
      · simp [intOf]
        omega
    · have b1 : decide ((i : Int) < (s2 : Int)) = false := by simp; omega
      obtain rfl : i = s2 := by omega
      have e := HQ.out
      rw [HL.out, List.drop_length] at e
      simp only [giL] at e
      go_wp2
      go_ret
      exact ⟨by first | rfl | exact ret_int e, BK.out⟩
set_option maxRecDepth 100000 in
set_option maxHeartbeats 8000000 in
theorem refsize28 {w0 : World} {B : Nat} {N : Nv} {t : Tn} (h : TI w0 B N t) : t.fine = true → ∀ (w : World), B ≤ w.heap.size → (∀ b, b < B → w.heap[b]? = w0.heap[b]?) →
    Calls Try.prog 37 #[N.v] w fun e w' => e = .returned (.int .i64 (min 1073741824 t.sz : Nat)) ∧ Below w.heap.size w w' := by
  induction h with
  | @mk N R ts ND ok hr hR hRk hs hS hk ih =>
  intro hf w hB hw
  have hmax := ok.s
  obtain ⟨k, r1, r2, r3, a2, s1, s2, s3, a4, a5, a6, a7, a8⟩ := N
  simp only at hs hS hmax
  simp only [Tn.fine, Bool.and_eq_true] at hf
  have FN := fine_nodeZ hf.1
  have HFG := hid' (fineL_get hf.2)
  simp only [Tn.sz]
  obtain ⟨r, hrr⟩ : ∃ r : Nat, r = min 1073741824 (if k = 6 then repN a4 a5 (szL ts) else 1 + szL ts) := ⟨_, rfl⟩
  rw [← hrr]
  have HR := hid' hrr
  have HW := hid' hw
  have HS := hid' hS
  have IH := hid' ih
  have HFN := hid' FN
  have hm2 : s2 ≤ 9223372036854775807 := by have : maxLen = 9223372036854775807 := rfl; omega
  have HL := hid' hs
  clear ok hr hR hRk hk hS hw hrr ih hmax hs hf FN
  go_enter Try.func37, Try.ntmps37
  go_wp2_with fail
  go_loopw [3, 4] (fun u y wq => ∃ (i q : Nat), y = .int .i64 (i : Int) ∧ i ≤ s2 ∧ u = .int .i64 (q : Int) ∧ q ≤ 1073741824 ∧ Hid (q = min 1073741824 (szL (ts.take i))) ∧ Hid (Below w.heap.size w wq) ∧ Hid (wq.heap[w.heap.size]? = some (.cells #[.int .i64 k, .slice r1 r2 r3, .int .i64 a2, .slice s1 s2 s3, .int .i64 a4, .int .i64 a5, .bool a6, .int .i64 a7, .string a8] 25 (0, 0)))) (fun _ y _ => s2 - (intOf y).toNat)
  case atStart => exact ⟨0, 0, rfl, by omega, rfl, by omega, by show (0 : Nat) = _; simp [szL], Joins.below_alloc1 w _, heap_alloc_new w _⟩
  case round =>
    obtain ⟨i, q, rfl, hi, rfl, hq, HQ, BK, BX⟩ := hrel
    obtain ⟨o0, o1, o2, o3, o4, o5, o6, o7, o8⟩ := nine' BX.out
    by_cases hil : i < s2
    · have b1 : decide ((i : Int) < (s2 : Int)) = true := by simp; omega
      have b2 : (i : Int) < (s2 : Int) := by omega
      have hlt : i < ts.length := by rw [← HL.out]; exact hil
      obtain ⟨b, o, hs1, hb, hc⟩ := HS.out (by omega)
      subst hs1
      have hwk : ∀ b, b < B → wr.heap[b]? = w0.heap[b]? := fun b hb => (BK.out.block b (by omega)).trans (HW.out b hb)
      obtain ⟨n0, n1, n2, n3, n4, n5, n6, n7, n8⟩ := (hc i hlt).kept (hwk b hb)
      have HC := IH.out i hlt (HFG.out i hlt) wr (by have := BK.out.size; omega) hwk
      have hst := szL_take ts i hlt
      obtain ⟨g, hg⟩ : ∃ g, g = min 1073741824 ts[i].sz := ⟨_, rfl⟩
      rw [← hg] at HC
      have hgb : g ≤ 1073741824 := by omega
      have HQ' : Hid (min 1073741824 (q + g) = min 1073741824 (szL (ts.take (i + 1)))) := by
        have h1 := HQ.out
        show _ = _
        omega
      obtain ⟨M, hM⟩ : ∃ M, M = ND i := ⟨_, rfl⟩
      rw [← hM] at HC n0 n1 n2 n3 n4 n5 n6 n7 n8
      have ad1 : IntKind.i64.wrap ((i : Int) + 1) = (i : Int) + 1 := by simp [IntKind.wrap, IntKind.bits, IntKind.signed]; omega
      have ad2 : IntKind.i64.wrap ((q : Int) + (g : Int)) = (q : Int) + (g : Int) := by simp [IntKind.wrap, IntKind.bits, IntKind.signed]; omega
      clear hM hg hwk hc hlt hst HQ
      go_wp2_with (first | (go_at_call 37; (with_reducible refine HC.mono ?_); rintro e w2 ⟨rfl, hb2⟩; have HB2 := hid' hb2; clear hb2 HC))
      refine ⟨⟨i + 1, min 1073741824 (q + g), by push_cast; rfl, by omega, by congr 1; omega, by omega, HQ'.out, ?_, ?_⟩, ?_⟩
      · exact BK.out.trans (Joins.below_le HB2.out BK.out.size)
      · exact (HB2.out.block _ (Array.getElem?_eq_some_iff.1 BX.out).1).trans BX.out
      · simp [intOf]
        omega
    · have b1 : decide ((i : Int) < (s2 : Int)) = false := by simp; omega
      obtain rfl : i = s2 := by omega
      have e := HQ.out
      rw [HL.out, List.take_length] at e
      have hr' := HR.out
      by_cases k6 : k = 6
      · subst k6
        simp only [if_true] at hr'
        obtain ⟨_, m0, m1, mx⟩ := HFN.out.rep rfl
        rw [← repN_cap, ← e] at hr'
        have HR' := hid' hr'
        clear e hr' HR HQ HFN
        rcases mx with rfl | ⟨mx0, mx1⟩
        · by_cases hz : a4 = 0
          · subst hz
            have ad2 : IntKind.i64.wrap (1 + (q : Int)) = 1 + (q : Int) := by simp [IntKind.wrap, IntKind.bits, IntKind.signed]; omega
            go_wp2
            go_ret
            exact ⟨ret_int (by have := HR'.out; simp [repN] at this; omega), BK.out⟩
          · have hz' : (a4 == 0) = false := by simpa using hz
            have hp : 0 ≤ a4 * (q : Int) ∧ a4 * (q : Int) ≤ 1000 * 1073741824 := ⟨Int.mul_nonneg m0 (by omega), Int.mul_le_mul m1 (by omega) (by omega) (by omega)⟩
            have ad1 : IntKind.i64.wrap (a4 * (q : Int)) = a4 * (q : Int) := by simp [IntKind.wrap, IntKind.bits, IntKind.signed]; omega
            have ad2 : IntKind.i64.wrap (a4 * (q : Int) + 1) = a4 * (q : Int) + 1 := by simp [IntKind.wrap, IntKind.bits, IntKind.signed]; omega
            have hre : ((repN a4 (-1) q : Nat) : Int) = a4 * q + 1 := by
              simp only [repN, if_true]
              rw [Nat.max_eq_left (by omega)]
              push_cast
              rw [Int.toNat_of_nonneg m0]
            go_wp2
            go_ret
            exact ⟨ret_int (by have := HR'.out; omega), BK.out⟩
        · have mxn : a5 ≠ -1 := by omega
          have c0 : decide (a5 < 0) = false := by simp; omega
          have hp : 0 ≤ a4 * (q : Int) ∧ a4 * (q : Int) ≤ 1000 * 1073741824 := ⟨Int.mul_nonneg m0 (by omega), Int.mul_le_mul m1 (by omega) (by omega) (by omega)⟩
          have hp2 : 0 ≤ (a5 - a4) * (1 + (q : Int)) ∧ (a5 - a4) * (1 + (q : Int)) ≤ 1000 * 1073741825 := ⟨Int.mul_nonneg (by omega) (by omega), Int.mul_le_mul (by omega) (by omega) (by omega) (by omega)⟩
          have hre : ((repN a4 a5 q : Nat) : Int) = max 1 (a4 * q + (a5 - a4) * (1 + q)) := by
            have e : ((a4.toNat * q + (a5 - a4).toNat * (1 + q) : Nat) : Int) = a4 * q + (a5 - a4) * (1 + q) := by
              push_cast
              rw [Int.toNat_of_nonneg m0, Int.toNat_of_nonneg (by omega)]
            simp only [repN, if_neg mxn]
            generalize a4.toNat * q + (a5 - a4).toNat * (1 + q) = X at e
            omega
          have ad1 : IntKind.i64.wrap (a4 * (q : Int)) = a4 * (q : Int) := by simp [IntKind.wrap, IntKind.bits, IntKind.signed]; omega
          have ad2 : IntKind.i64.wrap (a5 - a4) = a5 - a4 := by simp [IntKind.wrap, IntKind.bits, IntKind.signed]; omega
          have ad3 : IntKind.i64.wrap (1 + (q : Int)) = 1 + (q : Int) := by simp [IntKind.wrap, IntKind.bits, IntKind.signed]; omega
          have ad4 : IntKind.i64.wrap ((a5 - a4) * (1 + (q : Int))) = (a5 - a4) * (1 + (q : Int)) := by simp [IntKind.wrap, IntKind.bits, IntKind.signed]; omega
          have ad5 : IntKind.i64.wrap (a4 * (q : Int) + (a5 - a4) * (1 + (q : Int))) = a4 * (q : Int) + (a5 - a4) * (1 + (q : Int)) := by simp [IntKind.wrap, IntKind.bits, IntKind.signed]; omega
          go_wp2
          go_ret
          exact ⟨ret_int (by have := HR'.out; omega), BK.out⟩
      · have k6' : (k == 6) = false := by simpa using k6
        simp only [k6, if_false] at hr'
        have HR' := hid' hr'
        have HE := hid' e
        by_cases kl : k = 4 ∨ k = 5 ∨ k = 7
        · have ad2 : IntKind.i64.wrap (1 + (q : Int)) = 1 + (q : Int) := by simp [IntKind.wrap, IntKind.bits, IntKind.signed]; omega
          clear e hr' HR HQ HFN k6
          rcases kl with rfl | rfl | rfl
          · go_wp2
            go_ret
            exact ⟨ret_int (by have := HR'.out; have := HE.out; omega), BK.out⟩
          · go_wp2
            go_ret
            exact ⟨ret_int (by have := HR'.out; have := HE.out; omega), BK.out⟩
          · go_wp2
            go_ret
            exact ⟨ret_int (by have := HR'.out; have := HE.out; omega), BK.out⟩
        · have h0 := HFN.out.leaf (by have := HFN.out.kind; omega)
          have k4 : (k == 4) = false := by simp; omega
          have k5 : (k == 5) = false := by simp; omega
          have k7 : (k == 7) = false := by simp; omega
          have ht : ts = [] := List.length_eq_zero_iff.1 h0
          subst ht
          simp only [szL] at hr'
          subst hr'
          clear e HR HQ HFN k6 HR' HE kl h0
          go_wp2
          go_ret
          exact ⟨rfl, BK.out⟩
end Go.Proofs.Ytdidopgenhpakaa
/- HELPERS: a tree's size: the program's answer. -/
namespace Go.Proofs.Ytdidopgenhpakaa
open Go.RowKit
set_option linter.unusedVariables false
set_option linter.unusedSimpArgs false
set_option maxRecDepth 100000 in
set_option maxHeartbeats 4000000 in
theorem sizeRep49g (N : Nv) (q : Nat) (w : World) (m0 : 0 ≤ N.a4) (m1 : N.a4 ≤ 1000) (mx : N.a5 = -1 ∨ N.a4 ≤ N.a5 ∧ N.a5 ≤ 1000) (hq : q ≤ 1000000000) :
    Calls Try.prog 53 #[N.v, .int .i64 (q : Int)] w fun e w' => e = .returned (.int .i64 (repN N.a4 N.a5 q : Nat)) ∧ Below w.heap.size w w' := by
  obtain ⟨k, r1, r2, r3, a2, s1, s2, s3, a4, a5, a6, a7, a8⟩ := N
  simp only at m0 m1 mx
  dsimp only
  rcases mx with rfl | ⟨mx0, mx1⟩
  · have hp : 0 ≤ max a4 1 * (q : Int) ∧ max a4 1 * (q : Int) ≤ 1000 * 1000000000 := ⟨Int.mul_nonneg (by omega) (by omega), Int.mul_le_mul (by omega) (by omega) (by omega) (by omega)⟩
    have ad1 : IntKind.i64.wrap (max a4 1 * (q : Int)) = max a4 1 * (q : Int) := by simp [IntKind.wrap, IntKind.bits, IntKind.signed]; omega
    have ad2 : IntKind.i64.wrap (max a4 1 * (q : Int) + 1) = max a4 1 * (q : Int) + 1 := by simp [IntKind.wrap, IntKind.bits, IntKind.signed]; omega
    have hre : ((repN a4 (-1) q : Nat) : Int) = max a4 1 * q + 1 := by
      simp only [repN, if_true]
      have e : ((max a4.toNat 1 : Nat) : Int) = max a4 1 := by omega
      push_cast
      rw [← e]
    obtain ⟨r, hr⟩ : ∃ r, r = repN a4 (-1) q := ⟨_, rfl⟩
    rw [← hr] at hre ⊢
    have HRE := hid' hre
    clear hre hr
    go_enter Try.func53, Try.ntmps53
    go_wp2
    go_ret
    exact ⟨ret_int HRE.out.symm, Joins.below_alloc1 w _⟩
  · have mxn : a5 ≠ -1 := by omega
    have c0 : (a5 == -1) = false := by simpa using mxn
    have hp : 0 ≤ a4 * (q : Int) ∧ a4 * (q : Int) ≤ 1000 * 1000000000 := ⟨Int.mul_nonneg m0 (by omega), Int.mul_le_mul m1 (by omega) (by omega) (by omega)⟩
    have hp2 : 0 ≤ (a5 - a4) * (1 + (q : Int)) ∧ (a5 - a4) * (1 + (q : Int)) ≤ 1000 * 1000000001 := ⟨Int.mul_nonneg (by omega) (by omega), Int.mul_le_mul (by omega) (by omega) (by omega) (by omega)⟩
    have hre : ((repN a4 a5 q : Nat) : Int) = max (a4 * q + (a5 - a4) * (1 + q)) 1 := by
      have e : ((a4.toNat * q + (a5 - a4).toNat * (1 + q) : Nat) : Int) = a4 * q + (a5 - a4) * (1 + q) := by
        push_cast
        rw [Int.toNat_of_nonneg m0, Int.toNat_of_nonneg (by omega)]
      simp only [repN, if_neg mxn]
      generalize a4.toNat * q + (a5 - a4).toNat * (1 + q) = X at e
      omega
    have ad1 : IntKind.i64.wrap (a4 * (q : Int)) = a4 * (q : Int) := by simp [IntKind.wrap, IntKind.bits, IntKind.signed]; omega
    have ad2 : IntKind.i64.wrap (a5 - a4) = a5 - a4 := by simp [IntKind.wrap, IntKind.bits, IntKind.signed]; omega
    have ad3 : IntKind.i64.wrap (1 + (q : Int)) = 1 + (q : Int) := by simp [IntKind.wrap, IntKind.bits, IntKind.signed]; omega
    have ad4 : IntKind.i64.wrap ((a5 - a4) * (1 + (q : Int))) = (a5 - a4) * (1 + (q : Int)) := by simp [IntKind.wrap, IntKind.bits, IntKind.signed]; omega
    have ad5 : IntKind.i64.wrap (a4 * (q : Int) + (a5 - a4) * (1 + (q : Int))) = a4 * (q : Int) + (a5 - a4) * (1 + (q : Int)) := by simp [IntKind.wrap, IntKind.bits, IntKind.signed]; omega
    obtain ⟨r, hr⟩ : ∃ r, r = repN a4 a5 q := ⟨_, rfl⟩
    rw [← hr] at hre ⊢
    have HRE := hid' hre
    clear hre hr
    go_enter Try.func53, Try.ntmps53
    go_wp2
    go_ret
    exact ⟨ret_int HRE.out.symm, Joins.below_alloc1 w _⟩
set_option maxRecDepth 100000 in
set_option maxHeartbeats 8000000 in
theorem size30g {w0 : World} {B : Nat} {N : Nv} {t : Tn} (h : TI w0 B N t) : t.fine = true → t.nodes ≤ 200000 → ∀ (w : World), B ≤ w.heap.size → (∀ b, b < B → w.heap[b]? = w0.heap[b]?) →
    Calls Try.prog 39 #[N.v] w fun e w' => e = .returned (.int .i64 (min 2001 t.sz : Nat)) ∧ Below w.heap.size w w' := by
  induction h with
  | @mk N R ts ND ok hr hR hRk hs hS hk ih =>
  intro hf hno w hB hw
  obtain ⟨N', hN'⟩ : ∃ N', N' = N := ⟨_, rfl⟩
  obtain ⟨k, r1, r2, r3, a2, s1, s2, s3, a4, a5, a6, a7, a8⟩ := N
  simp only at hs hS
  simp only [Tn.fine, Bool.and_eq_true] at hf
  simp only [Tn.nodes] at hno
  have FN := fine_nodeZ hf.1
  have HFG := hid' (fineL_get hf.2)
  have hts : ts.length ≤ 200000 := by have := nodes_ge ts; omega
  have HNO := hid' hno
  simp only [Tn.sz]
  obtain ⟨r, hrr⟩ : ∃ r : Nat, r = min 2001 (if k = 6 then repN a4 a5 (szL ts) else 1 + szL ts) := ⟨_, rfl⟩
  rw [← hrr]
  have HR := hid' hrr
  have HW := hid' hw
  have HS := hid' hS
  have IH := hid' ih
  have HFN := hid' FN
  have hm2 : s2 ≤ 200000 := by omega
  have HL := hid' hs
  clear ok hr hR hRk hk hS hw hrr ih hs hf FN hts hno
  go_enter Try.func39, Try.ntmps39
  go_wp2_with fail
  go_loopw [3, 10] (fun u y wq => ∃ (i q : Nat), y = .int .i64 (i : Int) ∧ i ≤ s2 ∧ u = .int .i64 (q : Int) ∧ q ≤ i * 2001 ∧ Hid (min 2001 q = min 2001 (szL (ts.take i)) ∧ (i ≤ 1 → q ≤ 2001)) ∧ Hid (Below w.heap.size w wq) ∧ Hid (wq.heap[w.heap.size]? = some (.cells #[.int .i64 k, .slice r1 r2 r3, .int .i64 a2, .slice s1 s2 s3, .int .i64 a4, .int .i64 a5, .bool a6, .int .i64 a7, .string a8] 25 (0, 0)))) (fun _ y _ => s2 - (intOf y).toNat)
  case atStart => exact ⟨0, 0, rfl, by omega, rfl, by omega, ⟨by simp [szL], by omega⟩, Joins.below_alloc1 w _, heap_alloc_new w _⟩
  case round =>
    obtain ⟨i, q, rfl, hi, rfl, hq, HQ, BK, BX⟩ := hrel
    obtain ⟨o0, o1, o2, o3, o4, o5, o6, o7, o8⟩ := nine' BX.out
    by_cases hil : i < s2
    · have b1 : decide ((i : Int) < (s2 : Int)) = true := by simp; omega
      have b2 : (i : Int) < (s2 : Int) := by omega
      have hlt : i < ts.length := by rw [← HL.out]; exact hil
      obtain ⟨b, o, hs1, hb, hc⟩ := HS.out (by omega)
      subst hs1
      have hwk : ∀ b, b < B → wr.heap[b]? = w0.heap[b]? := fun b hb => (BK.out.block b (by omega)).trans (HW.out b hb)
      obtain ⟨n0, n1, n2, n3, n4, n5, n6, n7, n8⟩ := (hc i hlt).kept (hwk b hb)
      have HC := IH.out i hlt (HFG.out i hlt) (by have := nodes_get ts i hlt; have := HNO.out; omega) (wr.alloc (.cells #[.int .i64 (ND i).k, .slice (ND i).r1 (ND i).r2 (ND i).r3, .int .i64 (ND i).a2, .slice (ND i).s1 (ND i).s2 (ND i).s3, .int .i64 (ND i).a4, .int .i64 (ND i).a5, .bool (ND i).a6, .int .i64 (ND i).a7, .string (ND i).a8] 25)) (by have := BK.out.size; simp; omega) (fun b hb => (heap_alloc_old _ _ (by have := BK.out.size; omega)).trans (hwk b hb))
      have hst := szL_take ts i hlt
      obtain ⟨g, hg⟩ : ∃ g, g = min 2001 ts[i].sz := ⟨_, rfl⟩
      rw [← hg] at HC
      have hgb : g ≤ 2001 := by omega
      have HQ' : Hid (min 2001 (q + g) = min 2001 (szL (ts.take (i + 1))) ∧ (i + 1 ≤ 1 → q + g ≤ 2001)) := by
        have h1 := HQ.out.1
        exact ⟨by omega, fun h => by omega⟩
      obtain ⟨M, hM⟩ : ∃ M, M = ND i := ⟨_, rfl⟩
      rw [← hM] at HC n0 n1 n2 n3 n4 n5 n6 n7 n8
      have ad1 : IntKind.i64.wrap ((i : Int) + 1) = (i : Int) + 1 := by simp [IntKind.wrap, IntKind.bits, IntKind.signed]; omega
      have ad2 : IntKind.i64.wrap ((q : Int) + (g : Int)) = (q : Int) + (g : Int) := by simp [IntKind.wrap, IntKind.bits, IntKind.signed]; omega
      clear hM hg hwk hc hlt hst HQ
      go_wp2_with (first | (go_at_call 39; (with_reducible refine HC.mono ?_); rintro e w2 ⟨rfl, hb2⟩; have HB2 := hid' hb2; clear hb2 HC))
      refine ⟨⟨i + 1, q + g, by push_cast; rfl, by omega, by push_cast; rfl, by omega, HQ'.out, ?_, ?_⟩, ?_⟩
      · exact BK.out.trans (Joins.below_le ((Joins.below_alloc1 wr _).trans (Joins.below_le HB2.out (by simp))) BK.out.size)
      · exact (HB2.out.block _ (by have := (Array.getElem?_eq_some_iff.1 BX.out).1; simp; omega)).trans ((heap_alloc_old wr _ (Array.getElem?_eq_some_iff.1 BX.out).1).trans BX.out)
      · simp [intOf]
        omega
    · have b1 : decide ((i : Int) < (s2 : Int)) = false := by simp; omega
      obtain rfl : i = s2 := by omega
      have e := HQ.out.1
      rw [HL.out, List.take_length] at e
      have hr' := HR.out
      have ad2 : IntKind.i64.wrap (1 + (q : Int)) = 1 + (q : Int) := by simp [IntKind.wrap, IntKind.bits, IntKind.signed]; omega
      by_cases k6 : k = 6
      · subst k6
        simp only [if_true] at hr'
        obtain ⟨h1, m0, m1, mx⟩ := HFN.out.rep rfl
        have hq1 := HQ.out.2 (by rw [HL.out, h1]; omega)
        rw [← repN_cap, ← e, repN_cap] at hr'
        have HC := sizeRep49g N' q wr (by rw [hN']; exact m0) (by rw [hN']; exact m1) (by rw [hN']; exact mx) (by omega)
        have hrb : repN a4 a5 q ≤ 8000000 := by
          unfold repN
          split
          · have : max a4.toNat 1 * q ≤ 1000 * 2001 := Nat.mul_le_mul (by omega) hq1
            omega
          · have : a4.toNat * q ≤ 1000 * 2001 := Nat.mul_le_mul (by omega) hq1
            have : (a5 - a4).toNat * (1 + q) ≤ 1000 * 2002 := Nat.mul_le_mul (by omega) (by omega)
            omega
        rw [hN'] at HC
        dsimp only at HC
        generalize repN a4 a5 q = x at HC hr' hrb
        have HR' := hid' hr'
        clear e hr' HR HQ HFN mx hN'
        go_wp2_with (first | (go_at_call 53; (with_reducible refine HC.mono ?_); rintro e w2 ⟨rfl, hb2⟩; have HB2 := hid' hb2; clear hb2 HC))
        go_ret
        exact ⟨ret_int (by have := HR'.out; omega), BK.out.trans (Joins.below_le HB2.out BK.out.size)⟩
      · have k6' : (k == 6) = false := by simpa using k6
        simp only [k6, if_false] at hr'
        have HR' := hid' hr'
        have HE := hid' e
        clear e hr' HR HQ HFN k6
        go_wp2
        go_ret
        exact ⟨ret_int (by have := HR'.out; have := HE.out; omega), BK.out⟩
end Go.Proofs.Ytdidopgenhpakaa
namespace Go.Proofs.Ytdidopgenhpakaa
open Go.RowKit
set_option linter.unusedVariables false
set_option linter.unusedSimpArgs false
abbrev Nv.nd (N : Nv) : Nd := ⟨N.r1, N.r2, N.r3, N.a2, N.s1, N.s2, N.s3, N.a4, N.a5, N.a6, N.a7, N.a8⟩
/-- to begin a tree that lies in memory -/
def BG (g K : Nat) (A : Six) (w0 : World) (B0 : Nat) (N : Nv) (t : Tn) : Prop :=
  ∀ (w : World) (v : Value) (n : Int) (B : Way) (F1 : List Nat), B0 ≤ w.heap.size → (∀ b, b < B0 → w.heap[b]? = w0.heap[b]?) → O7 w g A n → Rep g K AL w v B F1 → g ∉ F1 → Gw B → 0 ≤ n → n + 3 * ((t.sz * t.sz : Nat) : Int) ≤ 900000000 →
    Calls Try.prog 57 #[pt g, N.nd.v N.k, v] w fun e w' => ∃ u F FE n1 W, e = .returned u ∧ Mk g K AL w w' A n1 u W (List.range B0 ++ F1) F ∧ (∃ LE, BgR g K w.heap.size B.ags (fun E => Beg E t n B n1 W) W.ags LE FE w') ∧ (∀ k ∈ FE, k ∈ List.range B0 ++ F1 ∨ w.heap.size ≤ k) ∧ n ≤ n1 ∧ n1 ≤ n + t.sz ∧ Gw W ∧ ∀ b ∈ W.ua, b ∈ B.ua
theorem BG.step {g K : Nat} {A : Six} {w0 : World} {B0 : Nat} {N : Nv} {t : Tn} (h : BG g K A w0 B0 N t) (hg : B0 ≤ g) {w : World} (hB : B0 ≤ w.heap.size) (hk : ∀ b, b < B0 → w.heap[b]? = w0.heap[b]?) {lo : Nat} (hlo : lo ≤ w.heap.size) {AG ub : List Nat} {bd1 bd2 : Int → Prop} {R1 R2 : Int → Way → (Nat → Way) → Prop} {F0 : List Nat}
    (hbd : ∀ n, bd1 n → 0 ≤ n ∧ n + 3 * ((t.sz * t.sz : Nat) : Int) ≤ 900000000 ∧ ∀ n1, n ≤ n1 → n1 ≤ n + t.sz → bd2 n1) (hR : ∀ E n W n1 W1, R1 n W E → Beg E t n W n1 W1 → R2 n1 W1 E) :
    StepJ g K A N.nd N.k (List.range B0) F0 w (JB g K lo AG ub bd1 R1) (JB g K lo AG ub bd2 R2) := by
  intro w' v n B F1 FE hc hO hRp hgF hgE hnF hnE ⟨hb, ⟨hgw, hub⟩, LE, hB1⟩
  obtain ⟨b1, b2, b3⟩ := hbd n hb
  refine (h w' v n B F1 (Nat.le_trans hB hc.size) (fun b hb => (hc.block b (by omega) (by simp; omega)).trans (hk b hb)) hO hRp hgF hgw b1 b2).mono ?_
  rintro e w'' ⟨u, F, FE2, n1, W, rfl, hM, ⟨LE2, hB2⟩, hE2, h1, h2, h3, h4⟩
  refine ⟨u, F, FE ++ FE2, n1, W, rfl, hM, ⟨b3 n1 h1 h2, ⟨h3, fun b hb => hub b (h4 b hb)⟩, LE ++ LE2, ?_⟩, fun k hk => ?_⟩
  · have hst : BgR g K lo AG (R1 n B) B.ags LE FE w'' := hB1.stab hM.chg.size fun k hk => hM.chg.block k (hB1.low k hk) (by simp; intro e; exact hgE (e ▸ hk))
    exact hst.seq hB2 (Nat.le_trans hlo hc.size) hB1.ofLow (fun E e1 e2 => hR E n B n1 W e1 e2)
  · rcases List.mem_append.1 hk with hk | hk
    · exact .inl hk
    · rcases hE2 k hk with h | h
      · exact .inr (.inl h)
      · exact .inr (.inr h)
theorem BgR.par {g K lo lo' : Nat} {AG A1 A2 : List Nat} {R1 R2 R : (Nat → Way) → Prop} {LE1 LE2 : List (Nat × Way)} {FE1 FE2 : List Nat} {w : World} (h1 : BgR g K lo AG R1 A1 LE1 FE1 w) (h2 : BgR g K lo' AG R2 A2 LE2 FE2 w) (hlo : lo ≤ lo') (hb : ∀ p ∈ LE1, p.1 < lo')
    (hR : ∀ E, R1 E → R2 E → R E) : BgR g K lo AG R (A1 ++ A2) (LE1 ++ LE2) (FE1 ++ FE2) w := by
  refine ⟨fun p hp => ?_, fun k hk => ?_, fun k hk => ?_, fun p hp => ?_, ?_, fun E hE => hR E (h1.rel E fun p hp => hE p (by simp [hp])) (h2.rel E fun p hp => hE p (by simp [hp])), fun b hb2 => ?_, fun p hp b hb2 => ?_, fun p hp => by rcases List.mem_append.1 hp with hp | hp; exact h1.wf p hp; exact h2.wf p hp⟩
  · rcases List.mem_append.1 hp with hp | hp
    · obtain ⟨a1, v, F, a2, a3, a4⟩ := h1.env p hp
      exact ⟨by simp [a1], v, F, a2, a3, fun k hk => by simp [a4 k hk]⟩
    · obtain ⟨a1, v, F, a2, a3, a4⟩ := h2.env p hp
      exact ⟨by simp [a1], v, F, a2, a3, fun k hk => by simp [a4 k hk]⟩
  · rcases List.mem_append.1 hk with hk | hk
    · exact h1.low k hk
    · exact h2.low k hk
  · rcases List.mem_append.1 hk with hk | hk
    · exact h1.isc k hk
    · exact h2.isc k hk
  · rcases List.mem_append.1 hp with hp | hp
    · exact h1.fresh p hp
    · exact Nat.le_trans hlo (h2.fresh p hp)
  · rw [List.map_append, List.nodup_append]
    refine ⟨h1.nd, h2.nd, fun a ha b hb2 e => ?_⟩
    simp only [List.mem_map] at ha hb2
    obtain ⟨p, hp, rfl⟩ := ha
    obtain ⟨q, hq, rfl⟩ := hb2
    have := hb p hp
    have := h2.fresh q hq
    omega
  · rw [List.map_append]
    simp only [List.mem_append] at hb2 ⊢
    rcases hb2 with hb2 | hb2
    · rcases h1.agw b hb2 with h | h
      · exact .inl h
      · exact .inr (.inl h)
    · rcases h2.agw b hb2 with h | h
      · exact .inl h
      · exact .inr (.inr h)
  · rw [List.map_append]
    simp only [List.mem_append]
    rcases List.mem_append.1 hp with hp | hp
    · rcases h1.agl p hp b hb2 with h | h
      · exact .inl h
      · exact .inr (.inl h)
    · rcases h2.agl p hp b hb2 with h | h
      · exact .inl h
      · exact .inr (.inr h)
/-- the next alternative -/
theorem BG.stepL {g K : Nat} {A : Six} {w0 : World} {B0 : Nat} {N : Nv} {t : Tn} (h : BG g K A w0 B0 N t) (hg : B0 ≤ g) {w : World} (hB : B0 ≤ w.heap.size) (hk : ∀ b, b < B0 → w.heap[b]? = w0.heap[b]?) {lo : Nat} (hlo : lo ≤ w.heap.size) {bd1 bd2 : Int → Prop} {R1 R2 : Int → List Way → (Nat → Way) → Prop} {F0 : List Nat}
    {f : FuncId} {fi ca : Array Value} {B : Way} (hRp : Rep g K AL w (.func (.func f) fi ca) B F0) (hgF : g ∉ F0) (hgw : Gw B)
    (hbd : ∀ n, bd1 n → 0 ≤ n ∧ n + 3 * ((t.sz * t.sz : Nat) : Int) ≤ 900000000 ∧ ∀ n1, n ≤ n1 → n1 ≤ n + t.sz → bd2 n1) (hR : ∀ E n l n1 W1, R1 n l E → Beg E t n B n1 W1 → R2 n1 (l ++ [W1]) E) :
    StepL g K A N.nd N.k f fi ca (List.range B0 ++ F0) w (JBl g K lo B.ags bd1 R1) (JBl g K lo B.ags bd2 R2) := by
  intro w' n l FE hc hO ⟨hb, hgl, LE, hB1⟩ hgE hnE
  obtain ⟨b1, b2, b3⟩ := hbd n hb
  refine (h w' _ n B F0 (Nat.le_trans hB hc.size) (fun b hb => (hc.block b (by omega) (by simp; omega)).trans (hk b hb)) hO (hRp.kept fun k hk => hc.block k (hRp.low k hk) (by simp; intro e; exact hgF (e ▸ hk))) hgF hgw b1 b2).mono ?_
  rintro e w'' ⟨u, F, FE2, n1, W, rfl, hM, ⟨LE2, hB2⟩, hE2, h1, h2, h3, h4⟩
  refine ⟨u, F, FE ++ FE2, n1, W, rfl, hM, ⟨b3 n1 h1 h2, hgl.snoc h3, LE ++ LE2, ?_⟩, fun k hk => ?_⟩
  · have hst : BgR g K lo B.ags (R1 n l) (agsL l) LE FE w'' := hB1.stab hM.chg.size fun k hk => hM.chg.block k (hB1.low k hk) (by simp; intro e; exact hgE (e ▸ hk))
    rw [agsL_snoc]
    exact hst.par hB2 (Nat.le_trans hlo hc.size) hB1.ofLow (fun E e1 e2 => hR E n l n1 W e1 e2)
  · rcases List.mem_append.1 hk with hk | hk
    · exact .inl hk
    · rcases hE2 k hk with h | h
      · exact .inr (.inl h)
      · exact .inr (.inr h)
theorem Tn.sz_pos : ∀ t : Tn, 1 ≤ t.sz
  | .mk k R a s mn mx lz ix nm => by
    simp only [Tn.sz]
    split
    · unfold repN; split <;> omega
    · omega
theorem sz_get (ts : List Tn) : ∀ (i : Nat) (hi : i < ts.length), ts[i].sz + ts.length ≤ 1 + szL ts := by
  induction ts with
  | nil => intro i hi; simp at hi
  | cons t ts ih =>
    have hl : ts.length ≤ szL ts := by
      clear ih
      induction ts with
      | nil => simp
      | cons u us ih => simp only [szL, List.length_cons]; have := u.sz_pos; omega
    intro i hi
    cases i with
    | zero => simp only [szL, List.getElem_cons_zero, List.length_cons]; omega
    | succ i => have := ih i (by simpa using hi); have := t.sz_pos; simp only [szL, List.getElem_cons_succ, List.length_cons]; omega
theorem giL_ge (ts : List Tn) : ∀ (m : Int), m ≤ giL ts m ∧ ∀ (i : Nat) (hi : i < ts.length), ts[i].gi ≤ giL ts m := by
  induction ts with
  | nil => intro m; exact ⟨by simp [giL], fun i hi => by simp at hi⟩
  | cons t ts ih =>
    intro m
    simp only [giL]
    obtain ⟨h1, h2⟩ := ih (max m t.gi)
    refine ⟨by omega, fun i hi => ?_⟩
    cases i with
    | zero => simp only [List.getElem_cons_zero]; omega
    | succ i => simpa using h2 i (by simpa using hi)
end Go.Proofs.Ytdidopgenhpakaa
