/- HELPERS: Xo, Xf, Xg1, Xg2, Xj, Bt, Bu, Bv, Rr, Bw. -/
import Derived.Test.YtnpocciioedgpaaK08
import Derived.BigRegion
/- HELPERS: a tree unfolded: it may be, its counts are x*, x+, x?, its nodes are few; its parses are there, and they are the tree's. -/
namespace Go.Proofs.Ytnpocciioedgpaa
open Go.RowKit
set_option linter.unusedVariables false
set_option linter.unusedSimpArgs false
theorem nb_loop (mn mx : Int) (lz : Bool) (h : mn = 0 ∧ mx = -1 ∨ mn = 1 ∧ mx = -1 ∨ mn = 0 ∧ mx = 1) : nodeB 6 [] 0 1 mn mx lz 0 ⟨#[]⟩ = true := by
  rcases h with ⟨rfl, rfl⟩ | ⟨rfl, rfl⟩ | ⟨rfl, rfl⟩ <;> simp [nodeB, bareB, ByteArray.toList, ByteArray.toList.loop, ByteArray.size]
theorem nb_empty : nodeB 1 [] 0 0 0 0 false 0 ⟨#[]⟩ = true := by simp [nodeB, bareB, ByteArray.toList, ByteArray.toList.loop, ByteArray.size]
theorem nb_cat (n : Nat) (h : 2 ≤ n) : nodeB 4 [] 0 n 0 0 false 0 ⟨#[]⟩ = true := by simp [nodeB, bareB, ByteArray.toList, ByteArray.toList.loop, ByteArray.size, h]
theorem fineL_allx : ∀ {l : List Tn}, (∀ x ∈ l, x.fine = true) → fineL l = true
  | [], _ => rfl
  | t :: ts, h => by simp only [fineL, Bool.and_eq_true]; exact ⟨h t (List.mem_cons_self ..), fineL_allx fun x hx => h x (List.mem_cons_of_mem _ hx)⟩
theorem fine_row {l : List Tn} (h : ∀ x ∈ l, x.fine = true) : (rowN l).fine = true := by
  match l, h with
  | [], _ => simp only [rowN, Tn.fine, List.length_nil, nb_empty, fineL]; rfl
  | [x], h => exact h x (by simp)
  | x :: y :: l, h =>
    simp only [rowN, Tn.fine, Bool.and_eq_true]
    exact ⟨nb_cat _ (by simp), fineL_allx h⟩
theorem fine_loop {x : Tn} (h : x.fine = true) {mn mx : Int} (lz : Bool) (hm : mn = 0 ∧ mx = -1 ∨ mn = 1 ∧ mx = -1 ∨ mn = 0 ∧ mx = 1) : (loopN x mn mx lz).fine = true := by
  simp only [loopN, Tn.fine, List.length_cons, List.length_nil, Bool.and_eq_true, fineL, h]
  exact ⟨nb_loop mn mx lz hm, by trivial⟩
theorem fine_opt {x : Tn} (h : x.fine = true) (lz : Bool) : ∀ k, (optN x lz k).fine = true
  | 0 => fine_loop h lz (.inr (.inr ⟨rfl, rfl⟩))
  | k + 1 => fine_loop (fine_row fun y hy => by simp at hy; rcases hy with rfl | rfl; exact h; exact fine_opt h lz k) lz (.inr (.inr ⟨rfl, rfl⟩))
theorem fine_spr {x : Tn} (h : x.fine = true) {mn mx : Int} (lz : Bool) (h0 : 0 ≤ mn) : (sprN x mn mx lz).fine = true := by
  unfold sprN
  split
  · split
    · exact fine_loop h lz (by omega)
    · refine fine_row fun y hy => ?_
      rcases List.mem_append.1 hy with hy | hy
      · rw [List.eq_of_mem_replicate hy]; exact h
      · simp at hy; rw [hy]; exact fine_loop h lz (.inr (.inl ⟨rfl, rfl⟩))
  · refine fine_row fun y hy => ?_
    rcases List.mem_append.1 hy with hy | hy
    · rw [List.eq_of_mem_replicate hy]; exact h
    · split at hy
      · simp at hy; rw [hy]; exact fine_opt h lz _
      · cases hy
mutual
/-- the counts are x*, x+, x? -/
def Tn.sfT : Tn → Prop
  | .mk k R a s mn mx lz ix nm => (k = 6 → (mn = 0 ∧ mx = -1 ∨ mn = 1 ∧ mx = -1) ∨ mn = 0 ∧ mx = 1) ∧ sfTL s
def sfTL : List Tn → Prop
  | [] => True
  | t :: ts => t.sfT ∧ sfTL ts
end
theorem sfTL_all : ∀ {l : List Tn}, (∀ x ∈ l, x.sfT) → sfTL l
  | [], _ => trivial
  | t :: ts, h => ⟨h t (List.mem_cons_self ..), sfTL_all fun x hx => h x (List.mem_cons_of_mem _ hx)⟩
mutual
theorem num_sf : ∀ (t : Tn) (n : Nat), t.sfT → (t.num n).sf
  | .mk k R a s mn mx lz ix nm, n, h => by
    simp only [Tn.sfT] at h
    simp only [Tn.num, Lt.sf]
    exact ⟨h.1, numL_sf s (n + 1) h.2⟩
theorem numL_sf : ∀ (ts : List Tn) (n : Nat), sfTL ts → sfL (numL ts n)
  | [], n, h => by simp only [numL, sfL]
  | t :: ts, n, h => by
    simp only [sfTL] at h
    simp only [numL, sfL]
    exact ⟨num_sf t n h.1, numL_sf ts _ h.2⟩
end
theorem sf_row {l : List Tn} (h : ∀ x ∈ l, x.sfT) : (rowN l).sfT := by
  match l, h with
  | [], _ => simp only [rowN, Tn.sfT, sfTL]; exact ⟨fun h => absurd h (by decide), trivial⟩
  | [x], h => exact h x (by simp)
  | x :: y :: l, h =>
    simp only [rowN, Tn.sfT]
    exact ⟨fun h => absurd h (by decide), sfTL_all h⟩
theorem sf_loop {x : Tn} (h : x.sfT) {mn mx : Int} (lz : Bool) (hm : mn = 0 ∧ mx = -1 ∨ mn = 1 ∧ mx = -1 ∨ mn = 0 ∧ mx = 1) : (loopN x mn mx lz).sfT := by
  simp only [loopN, Tn.sfT, sfTL]
  exact ⟨fun _ => by omega, h, trivial⟩
theorem sf_opt {x : Tn} (h : x.sfT) (lz : Bool) : ∀ k, (optN x lz k).sfT
  | 0 => sf_loop h lz (.inr (.inr ⟨rfl, rfl⟩))
  | k + 1 => sf_loop (sf_row fun y hy => by simp at hy; rcases hy with rfl | rfl; exact h; exact sf_opt h lz k) lz (.inr (.inr ⟨rfl, rfl⟩))
theorem sf_spr {x : Tn} (h : x.sfT) {mn mx : Int} (lz : Bool) (h0 : 0 ≤ mn) : (sprN x mn mx lz).sfT := by
  unfold sprN
  split
  · split
    · exact sf_loop h lz (by omega)
    · refine sf_row fun y hy => ?_
      rcases List.mem_append.1 hy with hy | hy
      · rw [List.eq_of_mem_replicate hy]; exact h
      · simp at hy; rw [hy]; exact sf_loop h lz (.inr (.inl ⟨rfl, rfl⟩))
  · refine sf_row fun y hy => ?_
    rcases List.mem_append.1 hy with hy | hy
    · rw [List.eq_of_mem_replicate hy]; exact h
    · split at hy
      · simp at hy; rw [hy]; exact sf_opt h lz _
      · cases hy
mutual
theorem spread_ok : ∀ (t : Tn), t.fine = true → t.spread.fine = true ∧ t.spread.sfT
  | .mk k R a s mn mx lz ix nm, h => by
    simp only [Tn.fine, Bool.and_eq_true] at h
    have hF := fine_node h.1
    obtain ⟨i1, i2⟩ := spreadL_ok s h.2
    by_cases hk : k = 6
    · obtain ⟨q1, q2, q3, q4⟩ := hF.rep hk
      obtain ⟨x, rfl⟩ : ∃ t, s = [t] := List.length_eq_one_iff.1 q1
      simp only [Tn.spread, hk, if_true, spreadL]
      simp only [spreadL, fineL, sfTL, Bool.and_eq_true] at i1 i2
      exact ⟨fine_spr i1.1 lz q2, sf_spr i2.1 lz q2⟩
    · simp only [Tn.spread, if_neg hk, Tn.fine, Tn.sfT, Bool.and_eq_true]
      refine ⟨⟨?_, i1⟩, fun e => absurd e hk, i2⟩
      rw [spreadL_map, List.length_map]
      exact h.1
theorem spreadL_ok : ∀ (ts : List Tn), fineL ts = true → fineL (spreadL ts) = true ∧ sfTL (spreadL ts)
  | [], _ => ⟨rfl, trivial⟩
  | t :: ts, h => by
    simp only [fineL, Bool.and_eq_true] at h
    obtain ⟨a1, a2⟩ := spread_ok t h.1
    obtain ⟨b1, b2⟩ := spreadL_ok ts h.2
    simp only [spreadL, fineL, sfTL, Bool.and_eq_true]
    exact ⟨⟨a1, b1⟩, a2, b2⟩
end
theorem nodes_row (l : List Tn) : (rowN l).nodes ≤ 1 + nodesL l := by
  match l with
  | [] => simp [rowN, Tn.nodes, nodesL]
  | [x] => simp [rowN, nodesL]
  | x :: y :: l => simp [rowN, Tn.nodes]
theorem nodes_repl (x : Tn) : ∀ c, nodesL (List.replicate c x) = c * x.nodes
  | 0 => by simp [nodesL]
  | c + 1 => by rw [List.replicate_succ, nodesL, nodes_repl x c, Nat.succ_mul]; omega
theorem nodes_loop (x : Tn) (mn mx : Int) (lz : Bool) : (loopN x mn mx lz).nodes = 1 + x.nodes := by simp [loopN, Tn.nodes, nodesL]
theorem nodes_opt (x : Tn) (lz : Bool) : ∀ k, (optN x lz k).nodes ≤ (k + 1) * x.nodes + 2 * k + 1
  | 0 => by rw [optN, nodes_loop]; omega
  | k + 1 => by
    have h1 := nodes_opt x lz k
    have h2 := nodes_row [x, optN x lz k]
    rw [optN, nodes_loop]
    simp only [nodesL] at h2
    rw [Nat.succ_mul (k + 1)]
    omega
theorem nodes_spr {x : Tn} {n : Nat} (hx : x.nodes + 2 ≤ 3 * n) {mn mx : Int} (lz : Bool) (h0 : 0 ≤ mn) (h1 : mx = -1 ∨ mn ≤ mx) : (sprN x mn mx lz).nodes + 2 ≤ 3 * repN mn mx n := by
  unfold sprN repN
  by_cases c : mx < 0
  · have hm : mx = -1 := by omega
    rw [if_pos c, if_pos hm]
    split
    · rw [nodes_loop]
      have h3 : max mn.toNat 1 = 1 := by omega
      rw [h3]
      omega
    · have h2 := nodes_row (List.replicate (mn - 1).toNat x ++ [loopN x 1 (-1) lz])
      rw [nodesL_app, nodes_repl] at h2
      simp only [nodesL, nodes_loop] at h2
      have h3 : max mn.toNat 1 = (mn - 1).toNat + 1 := by omega
      rw [h3]
      generalize (mn - 1).toNat = c at *
      have h4 := Nat.mul_le_mul_left c hx
      have h5 : c * (x.nodes + 2) = c * x.nodes + 2 * c := by rw [Nat.mul_add]; omega
      have h6 : c * (3 * n) = 3 * (c * n) := by rw [Nat.mul_left_comm]
      have h7 : (c + 1) * n = c * n + n := Nat.succ_mul _ _
      rw [h5, h6] at h4
      rw [h7]
      clear h5 h6 h7
      generalize c * x.nodes = A at *
      generalize c * n = C at *
      omega
  · have hm : ¬ mx = -1 := by omega
    rw [if_neg c, if_neg hm]
    have h4 := Nat.mul_le_mul_left mn.toNat hx
    have h5 : mn.toNat * (x.nodes + 2) = mn.toNat * x.nodes + 2 * mn.toNat := by rw [Nat.mul_add]; omega
    have h6 : mn.toNat * (3 * n) = 3 * (mn.toNat * n) := by rw [Nat.mul_left_comm]
    rw [h5, h6] at h4
    by_cases d : mn < mx
    · rw [if_pos d]
      have h2 := nodes_row (List.replicate mn.toNat x ++ [optN x lz (mx - mn - 1).toNat])
      rw [nodesL_app, nodes_repl] at h2
      simp only [nodesL] at h2
      have h7 := nodes_opt x lz (mx - mn - 1).toNat
      have e : (mx - mn).toNat = (mx - mn - 1).toNat + 1 := by omega
      rw [e]
      generalize (mx - mn - 1).toNat = k at *
      have h8 := Nat.mul_le_mul_left (k + 1) hx
      have h9 : (k + 1) * (x.nodes + 2) = (k + 1) * x.nodes + 2 * (k + 1) := by rw [Nat.mul_add]; omega
      have h10 : (k + 1) * (3 * n) = 3 * ((k + 1) * n) := by rw [Nat.mul_left_comm]
      have h11 : (k + 1) * (1 + n) = (k + 1) + (k + 1) * n := by rw [Nat.mul_add]; omega
      rw [h9, h10] at h8
      rw [h11]
      generalize (k + 1) * x.nodes = A at *
      generalize (k + 1) * n = C at *
      generalize mn.toNat * x.nodes = A' at *
      generalize mn.toNat * n = C' at *
      omega
    · rw [if_neg d, List.append_nil]
      have e : (mx - mn).toNat = 0 := by omega
      rw [e]
      rcases Nat.lt_or_ge mn.toNat 2 with g | g
      · rcases Nat.lt_or_ge mn.toNat 1 with g' | g'
        · have : mn.toNat = 0 := by omega
          rw [this]; simp [rowN, Tn.nodes, nodesL]
        · have : mn.toNat = 1 := by omega
          rw [this]; simp [rowN]; omega
      · have h2 := nodes_row (List.replicate mn.toNat x)
        rw [nodes_repl] at h2
        generalize mn.toNat * x.nodes = A' at *
        generalize mn.toNat * n = C' at *
        omega
mutual
theorem spread_nodes : ∀ (t : Tn), t.fine = true → t.spread.nodes + 2 ≤ 3 * t.sz
  | .mk k R a s mn mx lz ix nm, h => by
    simp only [Tn.fine, Bool.and_eq_true] at h
    have hF := fine_node h.1
    have i1 := spreadL_nodes s h.2
    by_cases hk : k = 6
    · obtain ⟨q1, q2, q3, q4⟩ := hF.rep hk
      obtain ⟨x, rfl⟩ : ∃ t, s = [t] := List.length_eq_one_iff.1 q1
      simp only [spreadL, nodesL, szL, List.length_cons, List.length_nil] at i1
      simp only [Tn.spread, Tn.sz, hk, if_true, spreadL]
      exact nodes_spr (by simp only [szL]; omega) lz q2 (by omega)
    · simp only [Tn.spread, if_neg hk, Tn.nodes, Tn.sz]
      omega
theorem spreadL_nodes : ∀ (ts : List Tn), fineL ts = true → nodesL (spreadL ts) + 2 * ts.length ≤ 3 * szL ts
  | [], _ => by simp [spreadL, nodesL, szL]
  | t :: ts, h => by
    simp only [fineL, Bool.and_eq_true] at h
    have h1 := spread_nodes t h.1
    have h2 := spreadL_nodes ts h.2
    simp only [spreadL, nodesL, szL, List.length_cons]
    omega
end
/-- a way to begin is there -/
structure BX (t : Nat) (n : Int) (lo : Nat) (n' : Int) (lo' : Nat) (LE : List (Nat × Way)) : Prop where
  n1 : n ≤ n' ∧ n' ≤ n + 2 * (t : Int)
  l1 : lo ≤ lo'
  ke : ∀ p ∈ LE, lo ≤ p.1 ∧ p.1 < lo'
  nd : (LE.map Prod.fst).Nodup
  wf : ∀ p ∈ LE, Gw p.2 ∧ p.2.ua = []
theorem BX.nil (t : Nat) (n : Int) (lo : Nat) : BX t n lo n lo [] := ⟨⟨by omega, by omega⟩, Nat.le_refl _, fun p h => (by cases h), (by simp), fun p h => (by cases h)⟩
theorem BX.one {n : Int} {lo : Nat} (t : Nat) (h : 1 ≤ t) : BX t n lo (n + 1) lo [] := ⟨⟨by omega, by omega⟩, Nat.le_refl _, fun p h => (by cases h), (by simp), fun p h => (by cases h)⟩
theorem BX.seq {t u v : Nat} {n n1 n2 : Int} {lo lo1 lo2 : Nat} {LE LE' : List (Nat × Way)} (h : BX t n lo n1 lo1 LE) (h' : BX u n1 lo1 n2 lo2 LE') (hv : t + u ≤ v) : BX v n lo n2 lo2 (LE ++ LE') := by
  have a1 := h.n1
  have a2 := h'.n1
  have b1 := h.l1
  have b2 := h'.l1
  refine ⟨⟨by omega, by omega⟩, by omega, fun p hp => ?_, ?_, fun p hp => ?_⟩
  · rcases List.mem_append.1 hp with hp | hp
    · have := h.ke p hp; omega
    · have := h'.ke p hp; omega
  · rw [List.map_append, List.nodup_append]
    refine ⟨h.nd, h'.nd, fun x hx y hy => ?_⟩
    obtain ⟨p, hp, rfl⟩ := List.mem_map.1 hx
    obtain ⟨q, hq, rfl⟩ := List.mem_map.1 hy
    have := h.ke p hp
    have := h'.ke q hq
    omega
  · rcases List.mem_append.1 hp with hp | hp
    · exact h.wf p hp
    · exact h'.wf p hp
theorem BX.more {t u : Nat} {n n1 n2 : Int} {lo lo1 : Nat} {LE : List (Nat × Way)} (h : BX t n lo n1 lo1 LE) (h1 : n1 ≤ n2 ∧ n2 ≤ n1 + 2 * ((u : Int) - (t : Int))) : BX u n lo n2 lo1 LE := by
  have := h.n1
  exact ⟨⟨by omega, by omega⟩, h.l1, h.ke, h.nd, h.wf⟩
/-- a loop more -/
theorem BX.loop {t u : Nat} {n n2 : Int} {lo lo1 : Nat} {LE : List (Nat × Way)} {W : Way} (h : BX t (n + 1) (lo + 1) n2 lo1 LE) (hu : t + 1 ≤ u) (hW : Gw W ∧ W.ua = []) : BX u n lo n2 lo1 ((lo, W) :: LE) := by
  have a1 := h.n1
  have b1 := h.l1
  refine ⟨⟨by omega, by omega⟩, by omega, fun p hp => ?_, ?_, fun p hp => ?_⟩
  · rcases List.mem_cons.1 hp with rfl | hp
    · exact ⟨Nat.le_refl _, by show lo < lo1; omega⟩
    · have := h.ke p hp; omega
  · rw [List.map_cons, List.nodup_cons]
    refine ⟨fun hx => ?_, h.nd⟩
    obtain ⟨p, hp, e⟩ := List.mem_map.1 hx
    have := h.ke p hp
    simp only at e
    omega
  · rcases List.mem_cons.1 hp with rfl | hp
    · exact hW
    · exact h.wf p hp
theorem app_all {LE LE' : List (Nat × Way)} {E : Nat → Way} (h : ∀ p ∈ LE ++ LE', E p.1 = p.2) : (∀ p ∈ LE, E p.1 = p.2) ∧ ∀ p ∈ LE', E p.1 = p.2 := ⟨fun p hp => h p (List.mem_append.2 (.inl hp)), fun p hp => h p (List.mem_append.2 (.inr hp))⟩
theorem right_few {R : List (Int × Int)} (h : rightB R = true) : R.length ≤ 1000000 := by
  simp only [rightB, Bool.and_eq_true, decide_eq_true_eq] at h
  omega
mutual
theorem beg_ex : ∀ (t : Tn), t.fine = true → t.sfT → ∀ (n : Int) (B : Way) (lo : Nat), 0 ≤ n → n + 2 * (t.nodes : Int) ≤ 900000000 → Gw B → ∃ n' W lo' LE, BX t.nodes n lo n' lo' LE ∧ Gw W ∧ W.ua = [] ∧ ∀ E : Nat → Way, (∀ p ∈ LE, E p.1 = p.2) → Beg E t n B n' W
  | .mk k R a s mn mx lz ix nm, hf, hs, n, B, lo, hn, hb, hB => by
    simp only [Tn.fine, Bool.and_eq_true] at hf
    simp only [Tn.sfT] at hs
    simp only [Tn.nodes] at hb ⊢
    have hF := fine_node hf.1
    rcases hF.kind with rfl | rfl | rfl | rfl | rfl | rfl | rfl
    · exact ⟨n + 1, .once (n + 1) B, lo, [], .one _ (by omega), hB.once (by omega) (by omega), by simp [Way.ua], fun E _ => .empty⟩
    · exact ⟨n + 1, .once (n + 1) (.runeOf R B), lo, [], .one _ (by omega), (hB.runeOf (right_few (hF.cls rfl))).once (by omega) (by omega), by simp [Way.ua], fun E _ => .cls⟩
    · exact ⟨n + 1, .once (n + 1) (.ifHolds a B), lo, [], .one _ (by omega), hB.ifHolds.once (by omega) (by omega), by simp [Way.ua], fun E _ => .ast⟩
    · obtain ⟨n', W, lo', LE, h1, h2, h3, h4⟩ := begC_ex s hf.2 hs.2 n B lo hn (by omega) hB
      have := h1.n1
      exact ⟨n', W, lo', LE, h1.more ⟨by omega, by omega⟩, h2, h3 (by have := hF.two (.inl rfl); intro e; rw [e] at this; simp at this), fun E hE => .cat (h4 E hE)⟩
    · obtain ⟨n', Ws, lo', LE, h1, h2, h4⟩ := begA_ex s hf.2 hs.2 [] n n B lo lo [] [] 0 hn (by omega) hB (.nil 0 n lo) .nil (fun E _ => .nil)
      rw [Nat.zero_add] at h1
      have := h1.n1
      exact ⟨n' + 1, .once (n' + 1) (.inOrder Ws), lo', LE, h1.more ⟨by omega, by omega⟩, (Gw.inOrder h2).once (by omega) (by omega), by simp [Way.ua], fun E hE => .alt (h4 E hE)⟩
    · obtain ⟨q1, q2, q3, q4⟩ := hF.rep rfl
      obtain ⟨t, rfl⟩ : ∃ t, s = [t] := List.length_eq_one_iff.1 q1
      simp only [fineL, sfTL, Bool.and_eq_true, nodesL] at hf hs hb ⊢
      rcases hs.1 trivial with hm | ⟨rfl, rfl⟩
      · obtain ⟨n2, W2, lo2, LE2, h1, h2, h3, h4⟩ := beg_ex t hf.2.1 hs.2.1 (n + 1) (Dcd lz n lo B) (lo + 1) (by omega) (by omega) ((Gw.pair hB (.again lo)).once (by omega) (by omega))
        have hx : BX (1 + (t.nodes + 0)) n lo n2 lo2 ((lo, W2) :: LE2) := h1.loop (by omega) ⟨h2, h3⟩
        rcases hm with ⟨rfl, rfl⟩ | ⟨rfl, rfl⟩
        · refine ⟨n2, Dcd lz n lo B, lo2, _, hx, (Gw.pair hB (.again lo)).once (by omega) (by omega), by simp [Way.ua], fun E hE => .any0 ?_⟩
          have e : E lo = W2 := hE (lo, W2) (List.mem_cons_self ..)
          rw [e]
          exact h4 E fun p hp => hE p (List.mem_cons_of_mem _ hp)
        · refine ⟨n2, W2, lo2, _, hx, h2, h3, fun E hE => ?_⟩
          have e : E lo = W2 := hE (lo, W2) (List.mem_cons_self ..)
          have h5 := h4 E fun p hp => hE p (List.mem_cons_of_mem _ hp)
          rw [← e] at h5 ⊢
          exact Beg.any (c := 0) h5 .zero
      · obtain ⟨n2, W2, lo2, LE2, h1, h2, h3, h4⟩ := beg_ex t hf.2.1 hs.2.1 n B lo hn (by omega) hB
        have := h1.n1
        refine ⟨n2 + 1, .once (n2 + 1) (.inOrder (if lz = true then [B, W2] else [W2, B])), lo2, LE2, h1.more ⟨by omega, by omega⟩, (Gw.pair hB h2).once (by omega) (by omega), by simp [Way.ua], fun E hE => ?_⟩
        exact Beg.bnd (c := 0) (m := 1) (.succ .zero (h4 E hE)) .zero
    · obtain ⟨q1, q2, q3⟩ := hF.grp rfl
      obtain ⟨t, rfl⟩ : ∃ t, s = [t] := List.length_eq_one_iff.1 q1
      simp only [fineL, sfTL, Bool.and_eq_true, nodesL] at hf hs hb ⊢
      obtain ⟨i, rfl⟩ := Int.eq_ofNat_of_zero_le (show 0 ≤ ix by omega)
      obtain ⟨n', W, lo', LE, h1, h2, h3, h4⟩ := beg_ex t hf.2.1 hs.2.1 n (.noted (2 * i + 1) B) lo hn (by omega) hB.noted
      have := h1.n1
      exact ⟨n' + 1, .once (n' + 1) (.noted (2 * i) W), lo', LE, h1.more ⟨by omega, by omega⟩, h2.noted.once (by omega) (by omega), by simp [Way.ua], fun E hE => .grp (h4 E hE)⟩
theorem begC_ex : ∀ (ts : List Tn), fineL ts = true → sfTL ts → ∀ (n : Int) (B : Way) (lo : Nat), 0 ≤ n → n + 2 * (nodesL ts : Int) ≤ 900000000 → Gw B → ∃ n' W lo' LE, BX (nodesL ts) n lo n' lo' LE ∧ Gw W ∧ (ts ≠ [] → W.ua = []) ∧ ∀ E : Nat → Way, (∀ p ∈ LE, E p.1 = p.2) → BegC E ts n B n' W
  | [], hf, hs, n, B, lo, hn, hb, hB => ⟨n, B, lo, [], .nil _ _ _, hB, fun h => absurd rfl h, fun E _ => .nil⟩
  | t :: ts, hf, hs, n, B, lo, hn, hb, hB => by
    simp only [fineL, Bool.and_eq_true] at hf
    simp only [sfTL] at hs
    simp only [nodesL] at hb ⊢
    obtain ⟨n1, W1, lo1, LE1, h1, h2, h3, h4⟩ := begC_ex ts hf.2 hs.2 n B lo hn (by omega) hB
    have a1 := h1.n1
    obtain ⟨n2, W2, lo2, LE2, g1, g2, g3, g4⟩ := beg_ex t hf.1 hs.1 n1 W1 lo1 (by omega) (by omega) h2
    exact ⟨n2, W2, lo2, LE1 ++ LE2, h1.seq g1 (by omega), g2, fun _ => g3, fun E hE => .cons (h4 E (app_all hE).1) (g4 E (app_all hE).2)⟩
theorem begA_ex : ∀ (ts : List Tn), fineL ts = true → sfTL ts → ∀ (us : List Tn) (n n0 : Int) (B : Way) (lo lo0 : Nat) (Ws : List Way) (LE : List (Nat × Way)) (c : Nat), 0 ≤ n → n + 2 * (nodesL ts : Int) ≤ 900000000 → Gw B → BX c n0 lo0 n lo LE → GwL Ws → (∀ E : Nat → Way, (∀ p ∈ LE, E p.1 = p.2) → BegA E us n0 B n Ws) →
    ∃ n' Ws' lo' LE', BX (c + nodesL ts) n0 lo0 n' lo' LE' ∧ GwL Ws' ∧ ∀ E : Nat → Way, (∀ p ∈ LE', E p.1 = p.2) → BegA E (us ++ ts) n0 B n' Ws'
  | [], hf, hs, us, n, n0, B, lo, lo0, Ws, LE, c, hn, hb, hB, hX, hW, hA => ⟨n, Ws, lo, LE, by simp only [nodesL, Nat.add_zero]; exact hX, hW, fun E hE => by rw [List.append_nil]; exact hA E hE⟩
  | t :: ts, hf, hs, us, n, n0, B, lo, lo0, Ws, LE, c, hn, hb, hB, hX, hW, hA => by
    simp only [fineL, Bool.and_eq_true] at hf
    simp only [sfTL] at hs
    simp only [nodesL] at hb ⊢
    obtain ⟨n1, W1, lo1, LE1, g1, g2, g3, g4⟩ := beg_ex t hf.1 hs.1 n B lo hn (by omega) hB
    have a1 := g1.n1
    obtain ⟨n2, Ws2, lo2, LE2, k1, k2, k3⟩ := begA_ex ts hf.2 hs.2 (us ++ [t]) n1 n0 B lo1 lo0 (Ws ++ [W1]) (LE ++ LE1) (c + t.nodes) (by omega) (by omega) hB (hX.seq g1 (Nat.le_refl _)) (hW.snoc g2) (fun E hE => .snoc (hA E (app_all hE).1) (g4 E (app_all hE).2))
    refine ⟨n2, Ws2, lo2, LE2, by rw [← Nat.add_assoc]; exact k1, k2, fun E hE => ?_⟩
    have := k3 E hE
    rw [List.append_assoc] at this
    exact this
end
/-- the parses of such a tree are there -/
theorem PS.of_sf {t : Tn} (hf : t.fine = true) (hs : t.sfT) (hn : t.nodes ≤ 400000000) (K : Nat) (tx : List Int) (p : Nat) (hp : p ≤ tx.length) : ∃ l, PS t K tx p l := by
  have h1 : Gw (.once 1 .through) := ⟨by simp only [Way.tg]; exact ⟨⟨by omega, by omega⟩, .inl ⟨trivial, trivial⟩⟩, by simp only [Way.few]⟩
  obtain ⟨n1, W, lo, LE, hX, hW, _, hE⟩ := beg_ex t hf hs 1 (.once 1 .through) 0 (by omega) (by omega) h1
  have hEg := envOf_good LE hX.wf
  obtain ⟨s', hx, _⟩ := good_all (tx := tx) (E := envOf LE) (top := 1000000000) (fun b => ⟨(hEg b).1.tg, (hEg b).2⟩) _ ⟨[], (List.replicate K (-1)).set 0 (p : Int), []⟩ W p (Nat.le_refl _) hW.tg hp
  exact ⟨s'.parses, ⟨envOf LE, W, n1, s', hE (envOf LE) (envOf_mem LE hX.nd), hEg, hW, hx, rfl⟩⟩
/-- a tree unfolded has its parses -/
theorem PS.spread_eq {t : Tn} {K : Nat} {tx : List Int} {p : Nat} {l m : List (Int × List Int)} (h : PS t.spread K tx p l) (h' : PS t K tx p m) : l = m := by
  obtain ⟨E, W, n1, s1, hB, hE, hg, hx, rfl⟩ := h.ex
  obtain ⟨E', W', n1', s1', hB', hE', hg', hx', rfl⟩ := h'.ex
  obtain ⟨G0, hG0⟩ : ∃ G0 : Mat, G0 = ⟨fun a a' => a = 1 ∧ a' = 1, fun _ _ => False, fun _ _ => False, fun _ => .through, false, Eq, Eq⟩ := ⟨_, rfl⟩
  obtain ⟨G, hI, hgr, hS, h0, hH⟩ := beg_spread hB' _ _ _ _ hB G0 (by rw [hG0]) (by rw [hG0]; exact ⟨fun a a' h => by simp at h; omega, fun _ _ h => h.elim, fun a a' m m' h1 h2 => by simp at h1 h2; omega, fun _ _ _ h => h.elim, fun _ _ _ h => h.elim⟩) (by rw [hG0]; exact .once ⟨rfl, rfl⟩ .through) ⟨1, by rw [hG0]; exact .once (n' := 1) ⟨rfl, rfl⟩⟩
  have hnr : G.NR = Eq := by rw [hgr.nr, hG0]
  have hpr : G.PR = Eq := by rw [hgr.pr, hG0]
  have hdr : G.drop = false := by rw [hgr.dr, hG0]
  have hok : G.Ok E E' := by
    refine ⟨hI.one, hI.noC, hI.oneX, fun b b' hb => ?_, fun c x ν ν' hd hn => ?_, fun c x ν ν' hd _ => (by rw [hdr] at hd; cases hd), fun q ν ν' a b hn h => ?_⟩
    · rcases hgr.new b b' hb with hb | hb
      · rw [hG0] at hb; exact hb.elim
      · exact hb
    · rw [hnr] at hn ⊢; rw [hn]
    · rw [hpr] at h ⊢
      rw [hnr] at hn
      rw [hn, h]
  obtain ⟨s2, hx2, hA⟩ := sim_ex hok hx W' ⟨[], (List.replicate K (-1)).set 0 (p : Int), []⟩ NoP hS ⟨fun a a' q _ => by simp, fun m n0 q _ hm => by simp at hm, by rw [hnr], by rw [hpr]⟩ (Pend.no _ _)
  have e := hx'.det hx2
  subst e
  have := hA.pr
  rw [hpr] at this
  exact this
/-- THE HUNT'S WALKS over a tree unfolded have the tree's parses -/
theorem hunt_is {t : Tn} {K : Nat} {tx : List Int} {p : Nat} {l out : List (Int × List Int)} (hf : t.fine = true) (hsz : t.sz ≤ 100000) (h : PS t K tx p l) (hp : p ≤ tx.length) (hx : Hx tx (t.spread.num 0).env ((t.spread.num 0).fw (.once 1 .through)) p [] ((List.replicate K (-1)).set 0 (p : Int)) [] out) : out = l := by
  obtain ⟨f1, f2⟩ := spread_ok t hf
  have h3 := spread_nodes t hf
  obtain ⟨l', h'⟩ := PS.of_sf f1 f2 (by omega) K tx p hp
  have e := full_hx (num_nodup _ _) (num_sf _ 0 f2) (by rw [num_tn]; exact h') hp hx
  rw [e]
  exact PS.spread_eq h' h
end Go.Proofs.Ytnpocciioedgpaa
/- HELPERS: the hunt: on, within what stands around it. -/
namespace Go.Proofs.Ytnpocciioedgpaa
open Go.RowKit
set_option linter.unusedVariables false
set_option linter.unusedSimpArgs false
theorem step_post {C : HC} {f : Nat} {A A' : Way} {p q : Nat} {was was' : List (Int × Int)} {caps caps' : List Int} {left : Int} {out : List (Int × List Int)} {W V w' : World} {e : Ending} (h : HPost C f A q was' caps' (left - 1) out V e w') (fr : Fr C W V) (h0 : 0 < left) (hx : ∀ o, Hx C.tx C.E A q was' (caps'.set 0 C.frm) out o → Hx C.tx C.E A' p was (caps.set 0 C.frm) out o) : HPost C (f + 1) A' p was caps left out W e w' := by
  obtain ⟨h1, left', out', h2, h3, h4, h5, h6⟩ := h
  refine ⟨h1, left', out', h2, fun h => by omega, fun _ => ?_, fun h => hx _ (h5 h), fr.trans h6⟩
  simp only [LBv] at h4 ⊢
  by_cases hz : left - 1 ≤ 0
  · have := h3 hz
    omega
  · have := h4 (by omega)
    omega
theorem HIn.caps {C : HC} {W W' : World} {left : Int} {out : List (Int × List Int)} {p q : Nat} {caps caps' : List Int} {cv cv' : Value} {was : List (Int × Int)} {KW : List Int} {wv : Value} {f f' : Nat} (h : HIn C W left out p caps cv was KW wv f) (hm : HM C W' (left - 1) out) (fr : Fr C W W') (hq : q ≤ C.tn) (hc : Rw W' cv' caps') (hl : caps'.length = caps.length) (h2 : left ≤ f') (h0 : 0 < left) : HIn C W' (left - 1) out q caps' cv' was KW wv f' :=
  ⟨hm, hq, hc, by rw [hl]; exact h.capl, fr.row h.wasr, h.kr, by omega, by omega, by have := h.sz; omega⟩
theorem sub_at {W : World} {sa : Option Addr} {sc : Nat} {s : List Lt} (h : Rw W (.slice sa s.length sc) (s.map fun t => (t.lb : Int))) {i : Nat} (hi : i < s.length) : ∃ g, sa = some ⟨g, 0, none⟩ ∧ W.cell? ⟨g, i, none⟩ = some (.int .i64 ((s[i]).lb : Int)) := by
  obtain ⟨g, h1, h2⟩ := sub_cell h (by simp) hi
  refine ⟨g, h1, ?_⟩
  rw [h2]
  simp [List.getD_eq_getElem?_getD, List.getElem?_eq_getElem hi]
theorem fwC_next {s : List Lt} {i : Nat} {B : Way} (hi : i < s.length) : fwC (s.drop i) B = (s[i]).fw (fwC (s.drop (i + 1)) B) := by
  rw [List.drop_eq_getElem_cons hi]
  rfl
set_option maxRecDepth 100000 in
set_option maxHeartbeats 8000000 in
theorem on_up {C : HC} (hk : HCk C) {f : Nat} (hB : Hid (BeginC C f)) (hO : Hid (OnC C f)) (hD : Hid (DecideC C f)) (hf : f ≤ 10000) {W : World} {left : Int} {out : List (Int × List Int)} {lb : Nat} {k : Int} {R : List (Int × Int)} {a : Int} {s : List Lt} {mn mx : Int} {lz : Bool} {ix : Int} {nm : ByteArray} {B : Way} {up : Int} {nth : Nat} {p : Nat} {caps : List Int} {cv : Value} {was : List (Int × Int)} {KW : List Int} {wv : Value}
    (he : (⟨.mk lb k R a s mn mx lz ix nm, B, up, nth⟩ : Pl) ∈ C.L) {i : Nat} (hi : i < s.length) (h : HIn C W left out p caps cv was KW wv (f + 1)) :
    Calls Try.prog 37 #[.pointer (some ⟨C.hb, 0, none⟩), .int .i64 ((s[i]).lb : Int), .int .i64 (p : Int), cv, wv] W (HPost C (f + 1) (subB (.mk lb k R a s mn mx lz ix nm) B i) p was caps left out W) := by
  have hkid := hk.child _ he i (by simpa [Lt.sub] using hi)
  obtain ⟨c, hc⟩ : ∃ c, c = (s[i]).lb := ⟨_, rfl⟩
  rw [← hc]
  have hlb := hk.num _ he
  have hcb := hk.num _ hkid
  simp only [child, Lt.sub] at hcb
  rw [← hc] at hcb
  have hnn := hk.nn
  have htn := hk.tn64
  have hp := h.p64
  simp only [Lt.lb] at hlb
  have hsl : s.length ≤ 300000 := hk.subs _ he
  obtain ⟨-, -, -, -, -, -, k3, -, ku, -, -⟩ := h.hm.cells
  have u3 := ku 3
  obtain ⟨W1, hW1⟩ : ∃ W1, W1 = W.setCell ⟨C.hb, 3, none⟩ (.int .i64 (left - 1)) := ⟨_, rfl⟩
  obtain ⟨hm1, fr1⟩ := h.hm.dec
  rw [← hW1] at hm1 fr1
  obtain ⟨-, -, -, l0, -, -, l3, -, -, -, -⟩ := hm1.cells
  obtain ⟨r1, r3, s1, s2, s3, sa, sc, hP, -, -, hR, ok⟩ := hm1.at he
  have hkP : W1.cell? ⟨C.pb, c * 12 + 10, none⟩ = some (.int .i64 (lb : Int)) ∧ W1.cell? ⟨C.pb, c * 12 + 11, none⟩ = some (.int .i64 (i : Int)) := by
    obtain ⟨M, sa', sc', -, h2, -⟩ := hm1.pl _ hkid
    simp only [child, Lt.sub, P12] at h2
    rw [← hc] at h2
    exact ⟨h2.2.2.2.2.2.2.2.2.2.2.1, h2.2.2.2.2.2.2.2.2.2.2.2⟩
  obtain ⟨c10, c11⟩ := hkP
  obtain ⟨V, hV⟩ : ∃ V, V = W1.alloc (.cells #[.int .i64 k, .slice r1 R.length r3, .int .i64 a, .slice s1 s2 s3, .int .i64 mn, .int .i64 mx, .bool lz, .int .i64 ix, .string nm, .slice sa s.length sc, .int .i64 up, .int .i64 (nth : Int)] 64) := ⟨_, rfl⟩
  obtain ⟨hmV, frV⟩ := hm1.copy (o := .cells #[.int .i64 k, .slice r1 R.length r3, .int .i64 a, .slice s1 s2 s3, .int .i64 mn, .int .i64 mx, .bool lz, .int .i64 ix, .string nm, .slice sa s.length sc, .int .i64 up, .int .i64 (nth : Int)] 64)
  have hY : V.heap[W1.heap.size]? = some (.cells #[.int .i64 k, .slice r1 R.length r3, .int .i64 a, .slice s1 s2 s3, .int .i64 mn, .int .i64 mx, .bool lz, .int .i64 ix, .string nm, .slice sa s.length sc, .int .i64 up, .int .i64 (nth : Int)] 64 (0, 0)) := by rw [hV]; exact heap_alloc_new W1 _
  rw [← hV] at hmV frV
  obtain ⟨-, -, -, v0, -, -, -, -, -, -, -⟩ := hmV.cells
  have hkV : V.cell? ⟨C.pb, c * 12 + 11, none⟩ = some (.int .i64 (i : Int)) := by
    obtain ⟨M, sa', sc', -, h2, -⟩ := hmV.pl _ hkid
    simp only [child, Lt.sub, P12] at h2
    rw [← hc] at h2
    exact h2.2.2.2.2.2.2.2.2.2.2.2
  obtain ⟨y, hy⟩ : ∃ y, y = W1.heap.size := ⟨_, rfl⟩
  rw [← hy] at hY
  obtain ⟨y0, -, -, -, y5, -, y7, y9⟩ := box12' hY
  simp only [P12] at hP
  obtain ⟨p0, p1, p2, p3, p4, p5, p6, p7, p8, p9, p10, p11⟩ := hP
  have frW : Fr C W V := fr1.trans frV
  have HV : Hid (0 < left → HIn C V (left - 1) out p caps cv was KW wv f) := fun h0 => h.caps hmV frW h.p64 (frW.row h.cap) rfl (by have := h.fuel; omega) h0
  have HHM := hid hm1
  have HF1 := hid fr1
  have HFV := hid frW
  have HYV := hid hV
  have HEY := hid hy
  have HW1 := hid hW1
  have hr3 : -100000000000 ≤ left ∧ left ≤ 20000 := ⟨h.lo, by have := h.fuel; omega⟩
  have b1 : (lb : Int) < (C.n : Int) := by omega
  have b2 : (c : Int) < (C.n : Int) := by omega
  have b3 : (i : Int) ≤ 300000 := by omega
  have hp64 : (p : Int) ≤ 64 := by omega
  obtain ⟨ok1, ok2⟩ := ok.k
  obtain ⟨ox1, ox2⟩ := ok.a5
  simp only at ok1 ok2 ox1 ox2
  -- what each call does
  have HN : Hid (k = 4 → (hn : i + 1 < s.length) → 0 < left → Calls Try.prog 18 #[.pointer (some ⟨C.hb, 0, none⟩), .int .i64 ((s[i + 1]).lb : Int), .int .i64 (p : Int), cv, wv] V (HPost C f (subB (.mk lb k R a s mn mx lz ix nm) B i) p was caps (left - 1) out V)) := fun h4 hn h0 => by
    have hkn := hk.child _ he (i + 1) (by simpa [Lt.sub] using hn)
    have := hB.out V (left - 1) out _ p caps cv was KW wv hkn (HV.out h0)
    simp only [child, Lt.sub, subB, if_pos h4] at this ⊢
    rw [fwC_next hn]
    exact this
  have HO0 : Hid (0 < left → Calls Try.prog 37 #[.pointer (some ⟨C.hb, 0, none⟩), .int .i64 (lb : Int), .int .i64 (p : Int), cv, wv] V (HPost C f B p was caps (left - 1) out V)) := fun h0 => hO.out V (left - 1) out _ p caps cv was KW wv he (HV.out h0)
  have HD0 : Hid (k = 6 → mx < 0 → 0 < left → Calls Try.prog 56 #[.pointer (some ⟨C.hb, 0, none⟩), .int .i64 (lb : Int), .int .i64 (p : Int), cv, wv] V (HPost C f (Kd lz lb B) p was caps (left - 1) out V)) := fun h6 hm h0 => by
    subst h6
    exact hD.out V (left - 1) out lb R a _ mn mx lz ix nm B up nth p caps cv was KW wv he hm (HV.out h0)
  have HG : Hid (k = 7 → 1 ≤ ix ∧ 2 * ix + 1 < C.K) := fun h7 => hk.grp _ _ _ _ _ _ _ _ _ _ _ _ _ he h7
  have HK2 := hid hk.k2
  have HCL := hid h.capl
  have HS : Hid (k = 7 → Calls Try.prog 39 #[cv, .int .i64 (2 * ix + 1), .int .i64 (p : Int)] V fun e w' => ∃ v', e = .returned v' ∧ w'.ownsRow V.heap.size 3 1 v' caps.length (I64 (caps.set (2 * ix.toNat + 1) (p : Int))) ∧ Below V.heap.size V w') := fun h7 => by
    have hg := HG.out h7
    have := set39 caps cv (2 * ix.toNat + 1) (p : Int) V (frW.row h.cap).src (by have := h.capl; omega) (by have := h.capl; have := HK2.out; omega)
    rw [show (((2 * ix.toNat + 1 : Nat)) : Int) = 2 * ix + 1 by omega] at this
    exact this
  have HO7 : Hid (0 < left → ∀ w' cv', HM C w' (left - 1) out → Fr C V w' → Rw w' cv' (caps.set (2 * ix.toNat + 1) (p : Int)) → Calls Try.prog 37 #[.pointer (some ⟨C.hb, 0, none⟩), .int .i64 (lb : Int), .int .i64 (p : Int), cv', wv] w' (HPost C f B p was (caps.set (2 * ix.toNat + 1) (p : Int)) (left - 1) out w')) := fun h0 w' cv' hm fr hr =>
    hO.out w' (left - 1) out _ p _ cv' was KW wv he (h.caps hm (frW.trans fr) h.p64 hr (by simp) (by have := h.fuel; omega) h0)
  have HHV := hid hmV
  have HRR : Hid (∀ (hn : i + 1 < s.length), ∃ g, sa = some ⟨g, 0, none⟩ ∧ V.cell? ⟨g, i + 1, none⟩ = some (.int .i64 ((s[i + 1]).lb : Int))) := fun hn => sub_at (frV.row hR) hn
  obtain ⟨sl, hslen⟩ : ∃ sl, sl = s.length := ⟨_, rfl⟩
  have HSL := hid hslen
  rw [← hslen] at y9 p9 hsl hV
  have HYV2 := hid hV
  clear HYV
  have hsl2 : (sl : Int) ≤ 300000 := by omega
  generalize hWB : subB (.mk lb k R a s mn mx lz ix nm) B i = WB at HN
  have HWB := hid hWB
  clear hkid hc hlb hcb hnn htn hp hm1 fr1 hV hY hmV frV hy frW hW1 h hk hB hO hD hf he ok hR hslen hWB ku
  go_enter Try.func37, Try.ntmps37
  go_upto_region 1 with fail
  rw [← HW1.out]
  clear k3 u3
  by_cases hl : left - 1 < 0
  · go_wp2_with fail
    refine bodyPost_ret (results_none rfl _ _ _) rfl ?_
    exact stop_post HHM.out HF1.out (fun h => by omega)
  · have h0 : 0 < left := by omega
    go_upto_region 10 with fail
    rw [← HYV2.out, ← HEY.out]
    clear p0 p1 p2 p3 p4 p5 p6 p7 p8 p9 p10 p11 c10 c11 l0 l3
    have ad1 : IntKind.i64.wrap ((i : Int) + 1) = (i : Int) + 1 := by simp [IntKind.wrap, IntKind.bits, IntKind.signed]; omega
    by_cases h4 : k = 4
    · subst h4
      by_cases hn : i + 1 < sl
      · obtain ⟨g, rfl, gc⟩ := HRR.out (by rw [← HSL.out]; exact hn)
        have HC := HN.out rfl (by rw [← HSL.out]; exact hn) h0
        obtain ⟨x, hx⟩ : ∃ x : Nat, x = (s[i + 1]'(by rw [← HSL.out]; exact hn)).lb := ⟨_, rfl⟩
        rw [← hx] at HC gc
        clear hx
        have q1 : ((i : Int) + 1) < (sl : Int) := by omega
        go_wp2_with (first | (go_at_call 18; (with_reducible refine HC.mono ?_); rintro e w1 hp; have hq := hid (step_post (p := p) (was := was) (caps := caps) hp HFV.out h0 (fun o hx => hx)); obtain ⟨rfl, -⟩ := hp; clear HC))
        go_end0
        exact hq.out
      · have HC := HO0.out h0
        have hB' : WB = B := by
          rw [← HWB.out, subB, if_pos rfl, List.drop_eq_nil_of_le (by rw [← HSL.out]; omega)]
          rfl
        have HBB := hid hB'
        clear hB'
        have q1 : ¬ ((i : Int) + 1) < (sl : Int) := by omega
        go_wp2_with (first | (go_at_call 37; (with_reducible refine HC.mono ?_); rintro e w1 hp; have hq := hid (step_post (p := p) (was := was) (caps := caps) (A' := B) hp HFV.out h0 (fun o hx => hx)); obtain ⟨rfl, -⟩ := hp; clear HC))
        go_end0
        rw [HBB.out]
        exact hq.out
    · have g4 : (k == 4) = false := by simpa using h4
      by_cases h7 : k = 7
      · subst h7
        obtain ⟨hx1, hx2⟩ := HG.out rfl
        have hx3 : ix ≤ 1000 := by have := HK2.out; omega
        have HA := HS.out rfl
        have HIX := hid hx1
        have HWN : Hid (WB = .noted (2 * ix.toNat + 1) B) := hid (by rw [← HWB.out]; simp [subB])
        go_wp2_with (first | (go_at_call 39; (with_reducible refine HA.mono ?_); rintro e w1 ⟨v1, rfl, ho1, hb1⟩; obtain ⟨hm2, fr2⟩ := HHV.out.below hb1; have HC := HO7.out h0 w1 v1 hm2 fr2 (Rw.of ho1 (by have := HCL.out; have := HK2.out; omega)); have HF2 := hid fr2; clear ho1 hb1 hm2 fr2 HA) | (go_at_call 37; (with_reducible refine HC.mono ?_); rintro e w2 hp; have hq := hid (step_post (p := p) (was := was) (caps := caps) (A' := .noted (2 * ix.toNat + 1) B) hp (HFV.out.trans HF2.out) h0 (fun o hx => .noted (by rw [List.set_comm _ _ (by omega)]; exact hx))); obtain ⟨rfl, -⟩ := hp; clear HC))
        go_end0
        rw [HWN.out]
        exact hq.out
      · have g7 : (k == 7) = false := by simpa using h7
        by_cases h6 : k = 6
        · subst h6
          by_cases hm : mx < 0
          · have HC := HD0.out rfl hm h0
            have HWN : Hid (WB = Kd lz lb B) := hid (by rw [← HWB.out]; simp [subB, hm])
            go_wp2_with (first | (go_at_call 56; (with_reducible refine HC.mono ?_); rintro e w1 hp; have hq := hid (step_post (p := p) (was := was) (caps := caps) (A' := Kd lz lb B) hp HFV.out h0 (fun o hx => hx)); obtain ⟨rfl, -⟩ := hp; clear HC))
            go_end0
            rw [HWN.out]
            exact hq.out
          · have HC := HO0.out h0
            have HWN : Hid (WB = B) := hid (by rw [← HWB.out]; simp [subB, hm])
            go_wp2_with (first | (go_at_call 37; (with_reducible refine HC.mono ?_); rintro e w1 hp; have hq := hid (step_post (p := p) (was := was) (caps := caps) (A' := B) hp HFV.out h0 (fun o hx => hx)); obtain ⟨rfl, -⟩ := hp; clear HC))
            go_end0
            rw [HWN.out]
            exact hq.out
        · have g6 : (k == 6) = false := by simpa using h6
          have HC := HO0.out h0
          have HWN : Hid (WB = B) := hid (by rw [← HWB.out]; simp [subB, h4, h7, h6])
          go_wp2_with (first | (go_at_call 37; (with_reducible refine HC.mono ?_); rintro e w1 hp; have hq := hid (step_post (p := p) (was := was) (caps := caps) (A' := B) hp HFV.out h0 (fun o hx => hx)); obtain ⟨rfl, -⟩ := hp; clear HC))
          go_end0
          rw [HWN.out]
          exact hq.out
end Go.Proofs.Ytnpocciioedgpaa
/- HELPERS: the hunt: begin, kind 1. -/
namespace Go.Proofs.Ytnpocciioedgpaa
open Go.RowKit
set_option linter.unusedVariables false
set_option linter.unusedSimpArgs false
set_option maxRecDepth 100000 in
set_option maxHeartbeats 8000000 in
theorem begin_1 {C : HC} (hk : HCk C) {f : Nat} (hB : Hid (BeginC C f)) (hO : Hid (OnC C f)) (hD : Hid (DecideC C f)) (hf : f ≤ 10000) {W : World} {left : Int} {out : List (Int × List Int)} {lb : Nat} {R : List (Int × Int)} {a : Int} {s : List Lt} {mn mx : Int} {lz : Bool} {ix : Int} {nm : ByteArray} {B : Way} {up : Int} {nth : Nat} {p : Nat} {caps : List Int} {cv : Value} {was : List (Int × Int)} {KW : List Int} {wv : Value}
    (he : (⟨.mk lb 1 R a s mn mx lz ix nm, B, up, nth⟩ : Pl) ∈ C.L) (h : HIn C W left out p caps cv was KW wv (f + 1)) :
    Calls Try.prog 18 #[.pointer (some ⟨C.hb, 0, none⟩), .int .i64 (lb : Int), .int .i64 (p : Int), cv, wv] W (HPost C (f + 1) ((Lt.mk lb 1 R a s mn mx lz ix nm).fw B) p was caps left out W) := by
  have hF := node_fine (hk.fine _ he)
  have hlb := hk.num _ he
  have hnn := hk.nn
  have htn := hk.tn64
  have hp := h.p64
  simp only [Lt.lb] at hlb
  obtain ⟨-, -, -, -, -, -, k3, -, ku, -, -⟩ := h.hm.cells
  have u3 := ku 3
  obtain ⟨W1, hW1⟩ : ∃ W1, W1 = W.setCell ⟨C.hb, 3, none⟩ (.int .i64 (left - 1)) := ⟨_, rfl⟩
  obtain ⟨hm1, fr1⟩ := h.hm.dec
  rw [← hW1] at hm1 fr1
  obtain ⟨-, -, -, -, -, -, l3, -, -, -, -⟩ := hm1.cells
  have HHM := hid hm1
  have HF1 := hid fr1
  obtain ⟨key, hkey⟩ : ∃ key : Int, key = 2 * (100 * (lb : Int) + (p : Int)) + 1 := ⟨_, rfl⟩
  have hw1 := fr1.row h.wasr
  obtain ⟨wa, wc, ewv⟩ := hw1.form
  subst ewv
  have hDid := did35 KW wa KW.length wc key W1 _ (hw1.text (by have := h.sz; omega))
  have hAnd := and36 KW (.slice wa KW.length wc) key W1 hw1.src (by have := h.sz; omega)
  have hdec : decide (key ∈ KW) = decide ((kb lb, (p : Int)) ∈ was) := by
    rw [hkey]; exact decide_eq_decide.2 ((h.kr lb p (by omega)).1.symm)
  rw [hdec] at hDid
  have hr3 : -100000000000 ≤ left ∧ left ≤ 20000 := ⟨h.lo, by have := h.fuel; omega⟩
  have HH := hid h
  have hlb3 : (lb : Int) ≤ 300000 := by omega
  have hp64 : (p : Int) ≤ 64 := by omega
  have b1 : (lb : Int) < (C.n : Int) := by omega
  have HK : Hid (KR ((kb lb, (p : Int)) :: was) (KW ++ [key])) := by rw [hkey]; exact hid (h.kr.begun (by omega))
  have HKY := hid hkey
  have HW1 := hid hW1
  obtain ⟨d, hd⟩ : ∃ d, d = decide ((kb lb, (p : Int)) ∈ was) := ⟨_, rfl⟩
  rw [← hd] at hDid
  have HD := hid hd
  obtain ⟨was', hwas⟩ : ∃ was', was' = (kb lb, (p : Int)) :: was := ⟨_, rfl⟩
  rw [← hwas] at HK
  have HXX : Hid (0 < left → d = false → ∀ o, Hx C.tx C.E (B) p was' (caps.set 0 C.frm) out o → Hx C.tx C.E ((Lt.mk lb 1 R a s mn mx lz ix nm).fw B) p was (caps.set 0 C.frm) out o) := fun _ hdf o hx => by
    simp only [Lt.fw]
    refine .once (by simp only [kb]; omega) (of_decide_eq_false (hd.symm.trans hdf)) ?_
    rw [← hwas]
    simpa using hx
  have HSK : Hid (d = true → Hx C.tx C.E ((Lt.mk lb 1 R a s mn mx lz ix nm).fw B) p was (caps.set 0 C.frm) out out) := fun hdt => by
    simp only [Lt.fw]
    exact .skip (by simp only [kb]; omega) (of_decide_eq_true (hd.symm.trans hdt))
  have HHK := hid hk
  have HHE := hid he
  have HFN := hid hF
  have HFF := hid hf
  clear hd hk hf he hF hlb hnn htn hp hm1 fr1 hw1 h hdec hW1 ku hkey hwas
  generalize (Lt.mk lb 1 R a s mn mx lz ix nm).fw B = WB at HXX HSK ⊢
  go_enter Try.func18, Try.ntmps18
  go_upto_region 2 with fail
  rw [← HW1.out, ← HKY.out]
  clear k3 u3
  go_upto_region 3 with (first | (go_at_call 35; (with_reducible refine hDid.mono ?_); rintro e w1 ⟨rfl, rfl⟩))
  by_cases hl : left - 1 < 0
  · go_wp2_with fail
    refine bodyPost_ret (results_none rfl _ _ _) rfl ?_
    exact stop_post HHM.out HF1.out (fun h => by omega)
  · have h0 : 0 < left := by omega
    cases d
    rotate_left
    · go_wp2_with fail
      refine bodyPost_ret (results_none rfl _ _ _) rfl ?_
      exact stop_post HHM.out HF1.out (fun h => HSK.out (by first | rfl | trivial))
    · have HXY := hid (HXX.out h0 rfl)
      clear HXX HSK HD
      go_upto_region 5 with (first | (go_at_call 36; (with_reducible refine hAnd.mono ?_); rintro e w2 ⟨v', rfl, ho, hb⟩; obtain ⟨hm2, fr2⟩ := HHM.out.below hb; have hrow := Rw.of ho (by omega); have hfr := HF1.out.trans fr2; have hin := HH.out.and h0 HK.out hm2 hfr hrow; clear ho hb hm2 fr2))
      clear l3 hAnd hDid
      obtain ⟨r1, r3, s1, s2, s3, sa, sc, hP, hRP, hRk, hR, ok⟩ := hin.hm.at HHE.out
      obtain ⟨-, -, -, k0, -, -, -, -, -, -, -⟩ := hin.hm.cells
      obtain ⟨V, hV⟩ : ∃ V, V = w2.alloc (.cells #[.int .i64 1, .slice r1 R.length r3, .int .i64 a, .slice s1 s2 s3, .int .i64 mn, .int .i64 mx, .bool lz, .int .i64 ix, .string nm, .slice sa s.length sc, .int .i64 up, .int .i64 (nth : Int)] 64) := ⟨_, rfl⟩
      obtain ⟨hmV, frV⟩ := hin.hm.copy (o := .cells #[.int .i64 1, .slice r1 R.length r3, .int .i64 a, .slice s1 s2 s3, .int .i64 mn, .int .i64 mx, .bool lz, .int .i64 ix, .string nm, .slice sa s.length sc, .int .i64 up, .int .i64 (nth : Int)] 64)
      have hY : V.heap[w2.heap.size]? = some (.cells #[.int .i64 1, .slice r1 R.length r3, .int .i64 a, .slice s1 s2 s3, .int .i64 mn, .int .i64 mx, .bool lz, .int .i64 ix, .string nm, .slice sa s.length sc, .int .i64 up, .int .i64 (nth : Int)] 64 (0, 0)) := by rw [hV]; exact heap_alloc_new w2 _
      rw [← hV] at hmV frV
      obtain ⟨y, hy⟩ : ∃ y, y = w2.heap.size := ⟨_, rfl⟩
      rw [← hy] at hY
      have HV := hid (hin.go (f' := f) hmV frV (Int.le_refl _) hin.fuel hin.lo)
      have HFV := hid (hfr.trans frV)
      have HYV := hid hV
      have HEY := hid hy
      have HY : Hid (∀ w', Fr C V w' → w'.heap[y]? = some (.cells #[.int .i64 1, .slice r1 R.length r3, .int .i64 a, .slice s1 s2 s3, .int .i64 mn, .int .i64 mx, .bool lz, .int .i64 ix, .string nm, .slice sa s.length sc, .int .i64 up, .int .i64 (nth : Int)] 64 (0, 0))) := fun w' fr => fr.box _ _ hY
      have HRV : Hid (∀ w', Fr C V w' → Rw w' (.slice sa s.length sc) (s.map fun t => (t.lb : Int))) := fun w' fr => fr.row (frV.row hR)
      have HRP : Hid (∀ w', Fr C V w' → RP w' (fun b => b < C.NB ∧ b ≠ C.hb) r1 R) := fun w' fr => hRP.kept (fun b hb => ((frV.trans fr).low b hb.1 hb.2)) (fun b hb => hb)
      have HRK := hid hRk
      have HOK := hid ok
      simp only [P12] at hP
      obtain ⟨p0, p1, p2, p3, p4, p5, p6, p7, p8, p9, p10, p11⟩ := hP
      clear hin hrow hfr hRP hRk hR ok hV hmV frV hY hy
      go_upto_region 6 with fail
      rw [← HYV.out, ← HEY.out]
      clear p0 p1 p2 p3 p4 p5 p6 p7 p8 p9 p10 p11 k0
      obtain ⟨y0, y1, y2, -, -, -, y7, y9⟩ := box12' (HY.out V (Fr.refl C V))
      have HC := hO.out V (left - 1) out _ p caps cv was' (KW ++ [key]) v' HHE.out HV.out
      simp only [Lt.lb] at HC
      go_wp2_with (first | (go_at_call 37; (with_reducible refine HC.mono ?_); rintro e w1 hp; have hq := hid (step_post hp HFV.out h0 HXY.out); obtain ⟨rfl, -⟩ := hp; clear HC))
      go_end0
      exact hq.out
end Go.Proofs.Ytnpocciioedgpaa
/- HELPERS: the hunt: begin, kind 2. -/
namespace Go.Proofs.Ytnpocciioedgpaa
open Go.RowKit
set_option linter.unusedVariables false
set_option linter.unusedSimpArgs false
/-- the j-th range holds it -/
def inR (R : List (Int × Int)) (c : Int) (j : Nat) : Prop := (R.getD j (0, 0)).1 ≤ c ∧ c ≤ (R.getD j (0, 0)).2
theorem inR_none {R : List (Int × Int)} {c : Int} (h : ∀ j, j < R.length → ¬ inR R c j) : hasB R c = false := by
  rw [hasB, Bool.eq_false_iff]
  intro ha
  obtain ⟨g, hg, h2⟩ := List.any_eq_true.1 ha
  obtain ⟨j, hj, rfl⟩ := List.getElem_of_mem hg
  refine h j hj ?_
  simp only [Bool.and_eq_true, decide_eq_true_eq] at h2
  simpa [inR, List.getD_eq_getElem?_getD, List.getElem?_eq_getElem hj] using h2
theorem inR_some {R : List (Int × Int)} {c : Int} {j : Nat} (hj : j < R.length) (h : inR R c j) : hasB R c = true := by
  rw [hasB]
  refine List.any_eq_true.2 ⟨R[j], List.getElem_mem hj, ?_⟩
  simp only [Bool.and_eq_true, decide_eq_true_eq]
  simpa [inR, List.getD_eq_getElem?_getD, List.getElem?_eq_getElem hj] using h
/-- so many ranges were looked at -/
def ClsI (C : HC) (f : Nat) (R : List (Int × Int)) (c : Int) (B : Way) (p : Nat) (was : List (Int × Int)) (caps : List Int) (left : Int) (out : List (Int × List Int)) (V W : World) (i : Nat) : Prop :=
  (HM C W left out ∧ Fr C V W ∧ ∀ j, j < i → ¬ inR R c j) ∨ ((∃ j, j < i ∧ j < R.length ∧ inR R c j) ∧ HPost C f B (p + 1) was caps left out V (.returned (.tuple #[])) W)
theorem ClsI.mem {C : HC} {f : Nat} {R : List (Int × Int)} {c : Int} {B : Way} {p : Nat} {was : List (Int × Int)} {caps : List Int} {left : Int} {out : List (Int × List Int)} {V W : World} {i : Nat} (h : ClsI C f R c B p was caps left out V W i) : ∃ left' out', HM C W left' out' ∧ Fr C V W := by
  rcases h with ⟨h1, h2, _⟩ | ⟨_, _, left', out', h1, _, _, _, h2⟩
  · exact ⟨_, _, h1, h2⟩
  · exact ⟨left', out', h1, h2⟩
theorem ClsI.out {C : HC} {f : Nat} {R : List (Int × Int)} {c : Int} {B : Way} {p : Nat} {was : List (Int × Int)} {caps : List Int} {left : Int} {out : List (Int × List Int)} {V W : World} {i : Nat} (h : ClsI C f R c B p was caps left out V W i) (hn : ¬ inR R c i) : ClsI C f R c B p was caps left out V W.drew (i + 1) := by
  have hd : Below W.heap.size W W.drew := ⟨rfl, rfl, rfl, Nat.le_refl _, fun _ _ => rfl⟩
  rcases h with ⟨h1, h2, h3⟩ | ⟨⟨j, h4, h5, h6⟩, h7, left', out', h8, h9, h10, h11, h12⟩
  · obtain ⟨a, b⟩ := h1.below hd
    refine .inl ⟨a, h2.trans b, fun j hj => ?_⟩
    by_cases e : j = i
    · subst e; exact hn
    · exact h3 j (by omega)
  · obtain ⟨a, b⟩ := h8.below hd
    exact .inr ⟨⟨j, by omega, h5, h6⟩, h7, left', out', a, h9, h10, h11, h12.trans b⟩
theorem ClsI.first {C : HC} {f : Nat} {R : List (Int × Int)} {c : Int} {B : Way} {p : Nat} {was : List (Int × Int)} {caps : List Int} {left : Int} {out : List (Int × List Int)} {V W : World} {i : Nat} (h : ClsI C f R c B p was caps left out V W i) (hR : rightB R = true) (hi : i < R.length) (hn : inR R c i) : HM C W.drew left out ∧ Fr C V W.drew := by
  have hd : Below W.heap.size W W.drew := ⟨rfl, rfl, rfl, Nat.le_refl _, fun _ _ => rfl⟩
  rcases h with ⟨h1, h2, h3⟩ | ⟨⟨j, h4, h5, h6⟩, _⟩
  · obtain ⟨a, b⟩ := h1.below hd
    exact ⟨a, h2.trans b⟩
  · exfalso
    simp only [rightB, Bool.and_eq_true] at hR
    have := right_lo R 0 hR.2 j i h4 hi
    have a1 := h6.2
    have a2 := hn.1
    omega
theorem HPost.base {C : HC} {f : Nat} {A : Way} {p : Nat} {was : List (Int × Int)} {caps : List Int} {left : Int} {out : List (Int × List Int)} {W V w' : World} {e : Ending} (h : HPost C f A p was caps left out V e w') (fr : Fr C W V) : HPost C f A p was caps left out W e w' := by
  obtain ⟨h1, left', out', h2, h3, h4, h5, h6⟩ := h
  exact ⟨h1, left', out', h2, h3, h4, h5, fr.trans h6⟩
set_option maxRecDepth 100000 in
set_option maxHeartbeats 8000000 in
theorem begin_2 {C : HC} (hk : HCk C) {f : Nat} (hB : Hid (BeginC C f)) (hO : Hid (OnC C f)) (hD : Hid (DecideC C f)) (hf : f ≤ 10000) {W : World} {left : Int} {out : List (Int × List Int)} {lb : Nat} {R : List (Int × Int)} {a : Int} {s : List Lt} {mn mx : Int} {lz : Bool} {ix : Int} {nm : ByteArray} {B : Way} {up : Int} {nth : Nat} {p : Nat} {caps : List Int} {cv : Value} {was : List (Int × Int)} {KW : List Int} {wv : Value}
    (he : (⟨.mk lb 2 R a s mn mx lz ix nm, B, up, nth⟩ : Pl) ∈ C.L) (h : HIn C W left out p caps cv was KW wv (f + 1)) :
    Calls Try.prog 18 #[.pointer (some ⟨C.hb, 0, none⟩), .int .i64 (lb : Int), .int .i64 (p : Int), cv, wv] W (HPost C (f + 1) ((Lt.mk lb 2 R a s mn mx lz ix nm).fw B) p was caps left out W) := by
  have hF := node_fine (hk.fine _ he)
  have hlb := hk.num _ he
  have hnn := hk.nn
  have htn := hk.tn64
  have hp := h.p64
  simp only [Lt.lb] at hlb
  obtain ⟨-, -, -, -, -, -, k3, -, ku, -, -⟩ := h.hm.cells
  have u3 := ku 3
  obtain ⟨W1, hW1⟩ : ∃ W1, W1 = W.setCell ⟨C.hb, 3, none⟩ (.int .i64 (left - 1)) := ⟨_, rfl⟩
  obtain ⟨hm1, fr1⟩ := h.hm.dec
  rw [← hW1] at hm1 fr1
  obtain ⟨-, -, -, -, -, -, l3, -, -, -, -⟩ := hm1.cells
  have HHM := hid hm1
  have HF1 := hid fr1
  obtain ⟨key, hkey⟩ : ∃ key : Int, key = 2 * (100 * (lb : Int) + (p : Int)) + 1 := ⟨_, rfl⟩
  have hw1 := fr1.row h.wasr
  obtain ⟨wa, wc, ewv⟩ := hw1.form
  subst ewv
  have hDid := did35 KW wa KW.length wc key W1 _ (hw1.text (by have := h.sz; omega))
  have hAnd := and36 KW (.slice wa KW.length wc) key W1 hw1.src (by have := h.sz; omega)
  have hdec : decide (key ∈ KW) = decide ((kb lb, (p : Int)) ∈ was) := by
    rw [hkey]; exact decide_eq_decide.2 ((h.kr lb p (by omega)).1.symm)
  rw [hdec] at hDid
  have hr3 : -100000000000 ≤ left ∧ left ≤ 20000 := ⟨h.lo, by have := h.fuel; omega⟩
  have HH := hid h
  have hlb3 : (lb : Int) ≤ 300000 := by omega
  have hp64 : (p : Int) ≤ 64 := by omega
  have b1 : (lb : Int) < (C.n : Int) := by omega
  have HK : Hid (KR ((kb lb, (p : Int)) :: was) (KW ++ [key])) := by rw [hkey]; exact hid (h.kr.begun (by omega))
  have HKY := hid hkey
  have HW1 := hid hW1
  obtain ⟨d, hd⟩ : ∃ d, d = decide ((kb lb, (p : Int)) ∈ was) := ⟨_, rfl⟩
  rw [← hd] at hDid
  have HD := hid hd
  obtain ⟨was', hwas⟩ : ∃ was', was' = (kb lb, (p : Int)) :: was := ⟨_, rfl⟩
  rw [← hwas] at HK
  have HXX : Hid (0 < left → d = false → ∀ o, Hx C.tx C.E (.runeOf R B) p was' (caps.set 0 C.frm) out o → Hx C.tx C.E ((Lt.mk lb 2 R a s mn mx lz ix nm).fw B) p was (caps.set 0 C.frm) out o) := fun _ hdf o hx => by
    simp only [Lt.fw]
    refine .once (by simp only [kb]; omega) (of_decide_eq_false (hd.symm.trans hdf)) ?_
    rw [← hwas]
    simpa using hx
  have HSK : Hid (d = true → Hx C.tx C.E ((Lt.mk lb 2 R a s mn mx lz ix nm).fw B) p was (caps.set 0 C.frm) out out) := fun hdt => by
    simp only [Lt.fw]
    exact .skip (by simp only [kb]; omega) (of_decide_eq_true (hd.symm.trans hdt))
  have HHK := hid hk
  have HHE := hid he
  have HFN := hid hF
  have HFF := hid hf
  clear hd hk hf he hF hlb hnn htn hp hm1 fr1 hw1 h hdec hW1 ku hkey hwas
  generalize (Lt.mk lb 2 R a s mn mx lz ix nm).fw B = WB at HXX HSK ⊢
  go_enter Try.func18, Try.ntmps18
  go_upto_region 2 with fail
  rw [← HW1.out, ← HKY.out]
  clear k3 u3
  go_upto_region 3 with (first | (go_at_call 35; (with_reducible refine hDid.mono ?_); rintro e w1 ⟨rfl, rfl⟩))
  by_cases hl : left - 1 < 0
  · go_wp2_with fail
    refine bodyPost_ret (results_none rfl _ _ _) rfl ?_
    exact stop_post HHM.out HF1.out (fun h => by omega)
  · have h0 : 0 < left := by omega
    cases d
    rotate_left
    · go_wp2_with fail
      refine bodyPost_ret (results_none rfl _ _ _) rfl ?_
      exact stop_post HHM.out HF1.out (fun h => HSK.out (by first | rfl | trivial))
    · have HXY := hid (HXX.out h0 rfl)
      clear HXX HSK HD
      go_upto_region 5 with (first | (go_at_call 36; (with_reducible refine hAnd.mono ?_); rintro e w2 ⟨v', rfl, ho, hb⟩; obtain ⟨hm2, fr2⟩ := HHM.out.below hb; have hrow := Rw.of ho (by omega); have hfr := HF1.out.trans fr2; have hin := HH.out.and h0 HK.out hm2 hfr hrow; clear ho hb hm2 fr2))
      clear l3 hAnd hDid
      obtain ⟨r1, r3, s1, s2, s3, sa, sc, hP, hRP, hRk, hR, ok⟩ := hin.hm.at HHE.out
      obtain ⟨-, -, -, k0, -, -, -, -, -, -, -⟩ := hin.hm.cells
      obtain ⟨V, hV⟩ : ∃ V, V = w2.alloc (.cells #[.int .i64 2, .slice r1 R.length r3, .int .i64 a, .slice s1 s2 s3, .int .i64 mn, .int .i64 mx, .bool lz, .int .i64 ix, .string nm, .slice sa s.length sc, .int .i64 up, .int .i64 (nth : Int)] 64) := ⟨_, rfl⟩
      obtain ⟨hmV, frV⟩ := hin.hm.copy (o := .cells #[.int .i64 2, .slice r1 R.length r3, .int .i64 a, .slice s1 s2 s3, .int .i64 mn, .int .i64 mx, .bool lz, .int .i64 ix, .string nm, .slice sa s.length sc, .int .i64 up, .int .i64 (nth : Int)] 64)
      have hY : V.heap[w2.heap.size]? = some (.cells #[.int .i64 2, .slice r1 R.length r3, .int .i64 a, .slice s1 s2 s3, .int .i64 mn, .int .i64 mx, .bool lz, .int .i64 ix, .string nm, .slice sa s.length sc, .int .i64 up, .int .i64 (nth : Int)] 64 (0, 0)) := by rw [hV]; exact heap_alloc_new w2 _
      rw [← hV] at hmV frV
      obtain ⟨y, hy⟩ : ∃ y, y = w2.heap.size := ⟨_, rfl⟩
      rw [← hy] at hY
      have HV := hid (hin.go (f' := f) hmV frV (Int.le_refl _) hin.fuel hin.lo)
      have HFV := hid (hfr.trans frV)
      have HYV := hid hV
      have HEY := hid hy
      have HY : Hid (∀ w', Fr C V w' → w'.heap[y]? = some (.cells #[.int .i64 2, .slice r1 R.length r3, .int .i64 a, .slice s1 s2 s3, .int .i64 mn, .int .i64 mx, .bool lz, .int .i64 ix, .string nm, .slice sa s.length sc, .int .i64 up, .int .i64 (nth : Int)] 64 (0, 0))) := fun w' fr => fr.box _ _ hY
      have HRV : Hid (∀ w', Fr C V w' → Rw w' (.slice sa s.length sc) (s.map fun t => (t.lb : Int))) := fun w' fr => fr.row (frV.row hR)
      have HRP : Hid (∀ w', Fr C V w' → RP w' (fun b => b < C.NB ∧ b ≠ C.hb) r1 R) := fun w' fr => hRP.kept (fun b hb => ((frV.trans fr).low b hb.1 hb.2)) (fun b hb => hb)
      have HRK := hid hRk
      have HOK := hid ok
      simp only [P12] at hP
      obtain ⟨p0, p1, p2, p3, p4, p5, p6, p7, p8, p9, p10, p11⟩ := hP
      clear hin hrow hfr hRP hRk hR ok hV hmV frV hY hy
      go_upto_region 6 with fail
      rw [← HYV.out, ← HEY.out]
      clear p0 p1 p2 p3 p4 p5 p6 p7 p8 p9 p10 p11 k0
      obtain ⟨y0, y1, y2, -, -, -, y7, y9⟩ := box12' (HY.out V (Fr.refl C V))
      have HRT := hid (HFN.out.cls rfl)
      have HTL := hid HHK.out.tnl
      have hrl : R.length ≤ 5000 := by
        have := HRT.out
        simp only [rightB, Bool.and_eq_true, decide_eq_true_eq] at this
        exact this.1
      have hptn := HV.out.p64
      have htn64 := HHK.out.tn64
      obtain ⟨rl, hrle⟩ : ∃ rl, rl = R.length := ⟨_, rfl⟩
      have HRL := hid hrle
      rw [← hrle] at y1 hrl
      have HY1 : Hid (∀ w', Fr C V w' → w'.cell? ⟨y, 1, none⟩ = some (.slice r1 rl r3)) := fun w' fr => by
        obtain ⟨-, z1, -, -, -, -, -, -⟩ := box12' (HY.out w' fr)
        rw [hrle]
        exact z1
      clear hrle
      by_cases hp : p < C.tn
      · obtain ⟨c, hc⟩ : ∃ c, c = C.tx.getD p 0 := ⟨_, rfl⟩
        have HCC := hid hc
        have HO2 : Hid (∀ w', HM C w' (left - 1) out → Fr C V w' → Calls Try.prog 37 #[.pointer (some ⟨C.hb, 0, none⟩), .int .i64 (lb : Int), .int .i64 ((p : Int) + 1), cv, v'] w' (HPost C f B (p + 1) was' caps (left - 1) out w')) := fun w' hm fr => by
          have h := HV.out.go (f' := f) hm fr (Int.le_refl _) HV.out.fuel HV.out.lo
          have := hO.out w' (left - 1) out _ (p + 1) caps cv was' (KW ++ [key]) v' HHE.out ⟨hm, by omega, h.cap, h.capl, h.wasr, h.kr, h.fuel, h.lo, h.sz⟩
          simp only [Lt.lb] at this
          rw [show (((p + 1 : Nat)) : Int) = (p : Int) + 1 by push_cast; rfl] at this
          exact this
        have HI0 : Hid (ClsI C f R c B p was' caps (left - 1) out V V 0) := hid (.inl ⟨HV.out.hm, Fr.refl C V, fun j hj => by omega⟩)
        have hp1 : (p : Int) < (C.tn : Int) := by omega
        have hp2 : decide ((p : Int) < (C.tn : Int)) = true := by simp; omega
        have hp3 : IntKind.i64.wrap ((p : Int) + 1) = (p : Int) + 1 := by simp [IntKind.wrap, IntKind.bits, IntKind.signed]; omega
        clear hc
        go_wp2_with fail
        go_loopw [13] (fun x wq => ∃ (i : Nat), x = .int .i64 (i : Int) ∧ i ≤ rl ∧ Hid (ClsI C f R c B p was' caps (left - 1) out V wq i)) (fun x _ => rl - (intOf x).toNat)
        case atStart => exact ⟨0, rfl, by omega, HI0⟩
        case round =>
          obtain ⟨i, rfl, hi, HI⟩ := hrel
          clear HI0 y0 y1 y2 y7 y9
          obtain ⟨left', out', hmI, frI⟩ := HI.out.mem
          have z1 := HY1.out _ frI
          obtain ⟨-, -, -, -, v1, -, -, -, -, -, -⟩ := hmI.cells
          by_cases hlt : i < rl
          · have b2 : (i : Int) < (rl : Int) := by omega
            have b3 : decide ((i : Int) < (rl : Int)) = true := by simp; omega
            have ad1 : IntKind.i64.wrap ((i : Int) + 1) = (i : Int) + 1 := by simp [IntKind.wrap, IntKind.bits, IntKind.signed]; omega
            have hil : i < R.length := by rw [← HRL.out]; exact hlt
            obtain ⟨tb, toff, ht, -, t1⟩ := text_cell hmI.tx hp
            rw [← HCC.out] at t1
            rw [ht] at v1
            obtain ⟨rb, ro, rfl, -, hrc⟩ := HRP.out _ frI (by intro e; rw [e] at hil; simp at hil)
            obtain ⟨q1, q2⟩ := hrc i hil
            have HNO : Hid (¬ inR R c i → ClsI C f R c B p was' caps (left - 1) out V wr.drew (i + 1)) := fun hn => HI.out.out hn
            have HYES : Hid (inR R c i → HM C wr.drew (left - 1) out ∧ Fr C V wr.drew) := fun hn => HI.out.first HRT.out hil hn
            have HIR : Hid (∀ lo hi', lo = R[i].1 → hi' = R[i].2 → (inR R c i ↔ lo ≤ c ∧ c ≤ hi')) := fun lo hi' h1 h2 => by
              subst h1 h2
              simp [inR, List.getD_eq_getElem?_getD, List.getElem?_eq_getElem hil]
            obtain ⟨lo, hlo⟩ : ∃ lo, lo = R[i].1 := ⟨_, rfl⟩
            obtain ⟨hi', hhi⟩ : ∃ hi', hi' = R[i].2 := ⟨_, rfl⟩
            have HIR2 := hid (HIR.out lo hi' hlo hhi)
            rw [← hlo] at q1
            rw [← hhi] at q2
            clear hlo hhi HIR hrc hmI frI ht
            by_cases d1 : lo ≤ c
            · have e1 : decide (lo ≤ c) = true := by simp; omega
              by_cases d2 : c ≤ hi'
              · have e2 : decide (c ≤ hi') = true := by simp; omega
                obtain ⟨hmD, frD⟩ := HYES.out (HIR2.out.2 ⟨d1, d2⟩)
                have HC := HO2.out _ hmD frD
                have HNX : Hid (∀ w', HPost C f B (p + 1) was' caps (left - 1) out wr.drew (.returned (.tuple #[])) w' → ClsI C f R c B p was' caps (left - 1) out V w' (i + 1)) := fun w' h => .inr ⟨⟨i, by omega, hil, HIR2.out.2 ⟨d1, d2⟩⟩, h.base frD⟩
                clear hmD frD HYES HNO
                go_wp2_with fail
                go_region
                all_goals
                  go_wp2_with (first | (go_at_call 37; (with_reducible refine HC.mono ?_); rintro e w1 hp; have he := hp.1; subst he; have hq := hid (HNX.out _ hp); clear hp HC HNX))
                  exact ⟨⟨i + 1, by push_cast; rfl, by omega, hq⟩, by simp [intOf]; omega⟩
              · have e2 : decide (c ≤ hi') = false := by simp; omega
                have HQ := hid (HNO.out (fun h => d2 (HIR2.out.1 h).2))
                clear HYES HNO
                go_wp2_with fail
                go_region
                all_goals
                  go_wp2_with fail
                  exact ⟨⟨i + 1, by push_cast; rfl, by omega, HQ⟩, by simp [intOf]; omega⟩
            · have e1 : decide (lo ≤ c) = false := by simp; omega
              have HQ := hid (HNO.out (fun h => d1 (HIR2.out.1 h).1))
              clear HYES HNO
              go_wp2_with fail
              go_region
              all_goals
                go_wp2_with fail
                exact ⟨⟨i + 1, by push_cast; rfl, by omega, HQ⟩, by simp [intOf]; omega⟩
          · have b3 : decide ((i : Int) < (rl : Int)) = false := by simp; omega
            have HQ : Hid (HPost C (f + 1) WB p was caps left out W (.returned (.tuple #[])) wr) := by
              have hie : i = R.length := by rw [← HRL.out]; omega
              rcases HI.out with ⟨h1, h2, h3⟩ | ⟨⟨j, h4, h5, h6⟩, h7⟩
              · refine hid (stop_post h1 (HFV.out.trans h2) (fun _ => HXY.out _ (.other (by rw [← HTL.out]; exact hp) ?_)))
                rw [← HCC.out, inR_none (fun j hj => h3 j (by omega)), Bool.and_false]
              · refine hid (step_post (p := p) (was := was) (caps := caps) h7 HFV.out h0 (fun o hx => HXY.out o (.rune (by rw [← HTL.out]; exact hp) ?_ hx)))
                rw [← HCC.out, inR_some h5 h6, HRT.out]
                rfl
            clear hmI frI
            go_wp2_with fail
            go_end0
            exact HQ.out
      · have hp2 : decide ((p : Int) < (C.tn : Int)) = false := by simp; omega
        have HQ : Hid (HPost C (f + 1) WB p was caps left out W (.returned (.tuple #[])) V) := hid (stop_post HV.out.hm HFV.out (fun _ => HXY.out _ (.over (by rw [← HTL.out]; omega))))
        obtain ⟨-, -, -, -, v1, -, -, -, -, -, -⟩ := HV.out.hm.cells
        go_wp2_with fail
        go_loopw [13] (fun x wq => x = .int .i64 0 ∧ wq = V) (fun x _ => 0)
        case atStart => exact ⟨rfl, rfl⟩
        case round =>
          obtain ⟨rfl, rfl⟩ := hrel
          by_cases hr0 : (0 : Int) < (rl : Int)
          · have b3 : decide ((0 : Int) < (rl : Int)) = true := by simp; omega
            go_wp2_with fail
            go_end0
            exact HQ.out
          · have b3 : decide ((0 : Int) < (rl : Int)) = false := by simp; omega
            go_wp2_with fail
            go_end0
            exact HQ.out
end Go.Proofs.Ytnpocciioedgpaa
/- HELPERS: a region that draws its order, where all of the rest keeps what is read. -/
namespace Go.Proofs.Ytnpocciioedgpaa
open Go Go.RowKit
set_option linter.unusedVariables false
section
variable {P : Program} {ops : Array Oper} {Q : Exit → Act → World → Prop} {md : Region.Mode} {S : World → Prop} {L : Nat}
theorem wpAnyX_far {i : Nat} {oi : Oper} {v : Value} (hi : ops[i]? = some oi) (hsel : ∀ (j : Nat) (o : Oper) cs b, ops[j]? = some o → o.op ≠ .select cs b)
    (hQ : ∀ c a w, Q (.panic c) (a.put oi.dst v) w → Q (.panic c) a w) (hL : ops.size ≤ L) :
    ∀ (fuel : Nat) (listed : Array Bool) (a : Act) (w : World),
      (∀ j oj, ops[j]? = some oj → j ≠ i → listed.getD j true = false → (∀ e ∈ oj.after, Region.binds md e = true → e.on ≠ i) → oi.apart ops oj = true) →
      i ∈ Region.ready md ops listed → YieldsIf P ops S oi v a → S w →
      wpAnyX P md ops Q S L fuel (listed.setIfInBounds i true) (a.put oi.dst v) w → wpAnyX P md ops Q S L (fuel + 1) listed a w := by
  intro fuel
  induction fuel with
  | zero =>
    intro listed a w _ hr hy hS H
    refine ⟨fun h => (by rw [h] at hr; cases hr), fun j hj => ?_⟩
    by_cases hji : j = i
    · subst hji; exact hy.wpOp hi hS ⟨fun _ => hS, H⟩
    · have := ready_mono hj hji
      rw [H.1] at this
      cases this
  | succ fuel ih =>
    intro listed a w hfree hr hy hS H
    refine ⟨fun h => (by rw [h] at hr; cases hr), fun j hj => ?_⟩
    by_cases hji : j = i
    · subst hji; exact hy.wpOp hi hS ⟨fun _ => hS, H⟩
    · have h1 := H.2 j (ready_mono hj hji)
      obtain ⟨hjun, oj, hoj, hall⟩ := mem_ready.1 hj
      have hnot : ∀ e ∈ oj.after, Region.binds md e = true → e.on ≠ i := fun e he hb heq => by
        have h1 := hall e he hb
        have h0 := (mem_ready.1 hr).1
        rw [heq] at h1
        rcases Nat.lt_or_ge i listed.size with h' | h'
        · simp [h'] at h0 h1; rw [h0] at h1; cases h1
        · simp [Array.getElem?_eq_none h'] at h1
      have hjL : j ≠ L := fun e => by
        have := (Array.getElem?_eq_some_iff.1 hoj).1
        omega
      have h2 := wpOp_putIf hoj (hfree j oj hoj hji hjun hnot) (fun cs b => hsel i oi cs b hi) (fun cs b => hsel j oj cs b hoj) hQ hy h1
      have hfree' : ∀ k ok, ops[k]? = some ok → k ≠ i → (listed.setIfInBounds j true).getD k true = false →
          (∀ e ∈ ok.after, Region.binds md e = true → e.on ≠ i) → oi.apart ops ok = true := fun k ok hk hki hun hno => by
        refine hfree k ok hk hki ?_ hno
        by_cases hjk : j = k
        · subst hjk; exact hjun
        · rw [getD_set_ne true hjk] at hun; exact hun
      refine wpOp_mono (fun a' w' h3 => ⟨fun _ => h3.2.1 hjL, ih (listed.setIfInBounds j true) a' w' hfree' (ready_mono hr (Ne.symm hji)) h3.1 (h3.2.1 hjL) ?_⟩) h2
      rw [Array.setIfInBounds_comm _ _ hji]
      exact h3.2.2
def lexF (md : Region.Mode) (ops : Array Oper) : List Nat → Array Bool → Bool
  | [], _ => true
  | k :: ks, listed => (Region.ready md ops listed).contains k && Region.free md ops listed k && lexF md ops ks (listed.setIfInBounds k true)
theorem wpAnyX_lexF {g : Nat} {w : World} (hsel : Region.noSelect ops = true) (hS : S w) (hL : ops.size ≤ L) :
    ∀ (ks : List Nat) (listed : Array Bool) (a : Act), lexF md ops ks listed = true →
    wpLex P ops Q S (fun a' => wpAnyX P md ops Q S L g (marksK ks listed) a' w) (opsAt ops ks) a → wpAnyX P md ops Q S L (ks.length + g) listed a w
  | [], listed, a, _, h => by simpa [marksK, opsAt, wpLex] using h
  | k :: ks, listed, a, hB, h => by
    simp only [lexF, Bool.and_eq_true] at hB
    obtain ⟨⟨hr, hf⟩, hB'⟩ := hB
    have hr' : k ∈ Region.ready md ops listed := by simpa using hr
    obtain ⟨_, o, h0, _⟩ := mem_ready.1 hr'
    simp only [opsAt, h0] at h
    obtain ⟨v, hy, hQ, hK⟩ := h
    rw [show (k :: ks).length + g = (ks.length + g) + 1 by simp only [List.length_cons]; omega]
    exact wpAnyX_far h0 (Region.noSelect_spec hsel) hQ hL (ks.length + g) listed a w (Region.free_spec h0 hf) hr' hy hS
      (wpAnyX_lexF hsel hS hL ks _ _ hB' hK)
theorem wp_region_lexF {id : Nat} {a : Act} {w : World} (ks js : List Nat) (S : World → Prop) (hm : P.follows .mixedOrders = true) (hsel : Region.noSelect ops = true) (hn : ks.length + js.length = ops.size) (hB : lexF .any ops ks (Array.replicate ops.size false) = true)
    (hT : seqK .any ops js (marksK ks (Array.replicate ops.size false)) = true) (hS : S w.drew)
    (h : wpLex P ops Q S (fun a' => wpTailK P ops Q S ops.size (opsNo ops js) a' w.drew) (opsAt ops ks) a) : (Code.region id ops true).wp P Q a w := by
  have hlex : ∀ (l' : List Oper) (a : Act), wpLex P ops Q S (fun a' => wpTailK P ops Q S ops.size (opsNo ops js) a' w.drew) l' a → wpLex P ops Q S (fun a' => wpAnyX P .any ops Q S ops.size js.length (marksK ks (Array.replicate ops.size false)) a' w.drew) l' a := by
    intro l'
    induction l' with
    | nil => intro a h; exact wpAnyX_of_tailK (md := .any) js _ a w.drew hT h
    | cons o l' ih => rintro a ⟨v, h1, h2, h3⟩; exact ⟨v, h1, h2, ih _ h3⟩
  have H := wpAnyX_lexF (md := .any) (L := ops.size) (Q := Q) (g := js.length) (P := P) (w := w.drew) hsel hS (Nat.le_refl _) ks (Array.replicate ops.size false) a hB (hlex _ _ h)
  rw [hn] at H
  exact wp_region_any hm (by simpa using wpAny_of_X _ _ _ _ H)
end
end Go.Proofs.Ytnpocciioedgpaa
/- HELPERS: tables from place to place in memory. -/
namespace Go.Proofs.Ytnpocciioedgpaa
open Go.RowKit
set_option linter.unusedVariables false
set_option linter.unusedSimpArgs false
/-- the value of a row of n bools at a block -/
abbrev rowV (n b : Nat) : Value := .slice (some ⟨b, 0, none⟩) n n
/-- a table in memory: its rows' blocks, what it says -/
structure TB (N : Nat) (w : World) (g cap n : Nat) (rs : List Nat) (f : Tb) : Prop where
  row : w.ownsRow N 47 1 (.slice (some ⟨g, 0, none⟩) n cap) n (rs.map (rowV n))
  len : rs.length = n
  nd : rs.Nodup
  br : ∀ i, i < n → BR w (rs.getD i 0) n (f i)
  low : ∀ b ∈ rs, N ≤ b ∧ b ≠ g
theorem getD_mem {rs : List Nat} {i : Nat} (h : i < rs.length) : rs.getD i 0 ∈ rs := by
  rw [List.getD_eq_getElem?_getD, List.getElem?_eq_getElem h]
  exact List.getElem_mem h
theorem TB.outer {N : Nat} {w : World} {g cap n : Nat} {rs : List Nat} {f : Tb} (h : TB N w g cap n rs f) {i : Nat} (hi : i < n) : w.cell? ⟨g, i, none⟩ = some (rowV n (rs.getD i 0)) := by
  have hl := h.len
  rw [h.row.cellAt i (by simp; omega)]
  simp [List.getD_eq_getElem?_getD, List.getElem?_eq_getElem (show i < rs.length by omega)]
theorem TB.cell {N : Nat} {w : World} {g cap n : Nat} {rs : List Nat} {f : Tb} (h : TB N w g cap n rs f) {i k : Nat} (hi : i < n) (hk : k < n) : w.cell? ⟨rs.getD i 0, k, none⟩ = some (.bool (f i k)) := (h.br i hi).cell hk
theorem TB.free {N : Nat} {w : World} {g cap n : Nat} {rs : List Nat} {f : Tb} (h : TB N w g cap n rs f) {i : Nat} (hi : i < n) (k : Nat) : w.frozen? ⟨rs.getD i 0, k, none⟩ = false := (h.br i hi).free k
theorem TB.lt {N : Nat} {w : World} {g cap n : Nat} {rs : List Nat} {f : Tb} (h : TB N w g cap n rs f) : N ≤ g ∧ g < w.heap.size := h.row.lt g rfl
theorem TB.rlt {N : Nat} {w : World} {g cap n : Nat} {rs : List Nat} {f : Tb} (h : TB N w g cap n rs f) {i : Nat} (hi : i < n) : N ≤ rs.getD i 0 ∧ rs.getD i 0 < w.heap.size := ⟨(h.low _ (getD_mem (by have := h.len; omega))).1, (h.br i hi).lt⟩
theorem TB.as {N : Nat} {w : World} {g cap n : Nat} {rs : List Nat} {f f' : Tb} (h : TB N w g cap n rs f) (he : ∀ i k, i < n → k < n → f i k = f' i k) : TB N w g cap n rs f' := ⟨h.row, h.len, h.nd, fun i hi => (h.br i hi).as (fun k hk => he i k hi hk), h.low⟩
theorem TB.le {N N' : Nat} {w : World} {g cap n : Nat} {rs : List Nat} {f : Tb} (h : TB N w g cap n rs f) (hN : N' ≤ N) : TB N' w g cap n rs f := ⟨Joins.ownsRow_le h.row hN, h.len, h.nd, h.br, fun b hb => ⟨by have := (h.low b hb).1; omega, (h.low b hb).2⟩⟩
theorem TB.kept {N : Nat} {w w' : World} {g cap n : Nat} {rs : List Nat} {f : Tb} (h : TB N w g cap n rs f) (hk : ∀ b, N ≤ b → b < w.heap.size → w'.heap[b]? = w.heap[b]?) : TB N w' g cap n rs f :=
  ⟨row_kept h.row (fun b hb => hk b (h.row.lt b hb).1 (h.row.lt b hb).2), h.len, h.nd, fun i hi => (h.br i hi).kept (hk _ (h.rlt hi).1 (h.rlt hi).2), h.low⟩
theorem TB.below {N : Nat} {w w' : World} {g cap n : Nat} {rs : List Nat} {f : Tb} (h : TB N w g cap n rs f) (hb : Below w.heap.size w w') : TB N w' g cap n rs f := h.kept fun b _ h2 => hb.block b h2
theorem TB.drew {N : Nat} {w : World} {g cap n : Nat} {rs : List Nat} {f : Tb} (h : TB N w g cap n rs f) : TB N w.drew g cap n rs f := h.kept fun b _ h2 => rfl
theorem nodup_getD {rs : List Nat} (h : rs.Nodup) {i j : Nat} (hi : i < rs.length) (hj : j < rs.length) (he : rs.getD i 0 = rs.getD j 0) : i = j := by
  simp only [List.getD_eq_getElem?_getD, List.getElem?_eq_getElem hi, List.getElem?_eq_getElem hj, Option.getD_some] at he
  have hp := List.pairwise_iff_getElem.1 h
  rcases Nat.lt_trichotomy i j with h1 | h1 | h1
  · exact absurd he (hp i j hi hj h1)
  · exact h1
  · exact absurd he.symm (hp j i hj hi h1)
/-- one place of a table written -/
theorem TB.set {N : Nat} {w : World} {g cap n : Nat} {rs : List Nat} {f : Tb} (h : TB N w g cap n rs f) {i k : Nat} (hi : i < n) (x : Bool) : TB N (w.setCell ⟨rs.getD i 0, k, none⟩ (.bool x)) g cap n rs (fun p q => if p = i ∧ q = k then x else f p q) := by
  have hl := h.len
  refine ⟨own_setCell h.row (fun e => ?_), h.len, h.nd, fun p hp => ?_, h.low⟩
  · have := (h.low _ (getD_mem (rs := rs) (i := i) (by omega))).2
    simp [Value.ownBlock] at e
    simp only [List.getD_eq_getElem?_getD] at this
    exact this e.symm
  · by_cases e : p = i
    · subst e
      exact ((h.br p hp).set k x).as (fun q hq => by by_cases e2 : q = k <;> simp [e2])
    · have hne : rs.getD p 0 ≠ rs.getD i 0 := fun he => e (nodup_getD h.nd (by omega) (by omega) he)
      exact ((h.br p hp).kept (Below.heap_setCell _ _ _ _ hne)).as (fun q hq => by simp [e])
/-- another table, apart, when a place is written -/
theorem TB.apart {N M w0 : Nat} {w : World} {g cap n g' cap' n' : Nat} {rs rs' : List Nat} {f f' : Tb} (h : TB N w g cap n rs f) (h' : TB M w g' cap' n' rs' f') (hM : w0 ≤ M) (hg : g < w0) (hr : ∀ b ∈ rs, b < w0) {i k : Nat} (hi : i < n') (x : Bool) : TB N (w.setCell ⟨rs'.getD i 0, k, none⟩ (.bool x)) g cap n rs f := by
  have hb := (h'.rlt hi).1
  refine ⟨own_setCell h.row (fun e => ?_), h.len, h.nd, fun p hp => (h.br p hp).kept (Below.heap_setCell _ _ _ _ ?_), h.low⟩
  · simp [Value.ownBlock] at e
    simp only [List.getD_eq_getElem?_getD] at hb
    omega
  · have := hr _ (getD_mem (rs := rs) (i := p) (by have := h.len; omega))
    show rs.getD p 0 ≠ rs'.getD i 0
    omega
theorem info47 : (Try.prog.info? 47).map (fun i => (i.zero, i.size, i.bytes)) = some (some (.slice none 0 0), 1, 24) := by kernel_rfl
set_option maxRecDepth 100000 in
set_option maxHeartbeats 4000000 in
theorem lines42 (n : Nat) (hn : n ≤ 65) (h1 : 1 ≤ n) (w : World) :
    Calls Try.prog 42 #[.int .i64 (n : Int)] w fun e w' => ∃ g cap rs, e = .returned (.slice (some ⟨g, 0, none⟩) n cap) ∧ TB w.heap.size w' g cap n rs (fun _ _ => false) ∧ Below w.heap.size w w' := by
  have hmk := fun W => makeB n (by omega) W
  obtain ⟨i0, hi0, hz0, hz1, hz2⟩ := info_parts info47
  go_enter Try.func42, Try.ntmps42
  go_wp2
  go_loopw [3, 4] (fun u x wq => ∃ (i : Nat) (u1 : Option Addr) (u3 : Nat), u = .slice u1 i u3 ∧ x = .int .i64 (i : Int) ∧ i ≤ n ∧ Hid (∃ rs : List Nat, wq.ownsRow w.heap.size 47 1 (.slice u1 i u3) i (rs.map (rowV n)) ∧ rs.length = i ∧ rs.Nodup ∧ (∀ b ∈ rs, BR wq b n (fun _ => false) ∧ w.heap.size ≤ b ∧ (Value.slice u1 i u3).ownBlock ≠ some b)) ∧ Hid (Below w.heap.size w wq)) (fun _ x _ => n - (intOf x).toNat)
  case atStart => exact ⟨0, none, 0, rfl, rfl, by omega, by exact ⟨[], World.ownsRow_nil _ _ _ _, rfl, List.nodup_nil, fun b hb => by cases hb⟩, by exact Below.refl _ _⟩
  case round =>
    obtain ⟨i, u1, u3, rfl, rfl, hi, HI, BK⟩ := hrel
    by_cases hlt : i < n
    · have b1 : decide ((i : Int) < (n : Int)) = true := by simp; omega
      have ad1 : IntKind.i64.wrap ((i : Int) + 1) = (i : Int) + 1 := by simp [IntKind.wrap, IntKind.bits, IntKind.signed]; omega
      have hm1 := hmk wr
      obtain ⟨rs, hrow, hlen, hnd, hbr⟩ := HI.out
      have h0 := BR.made wr n
      obtain ⟨V, hV⟩ : ∃ V, V = wr.alloc (.cells (madeCells #[.bool false] n) 4) := ⟨_, rfl⟩
      rw [← hV] at hm1 h0
      have hVb : Below wr.heap.size wr V := by rw [hV]; exact Joins.below_alloc1 wr _
      have hVs : V.heap.size = wr.heap.size + 1 := by rw [hV]; simp
      have hrowV : V.ownsRow w.heap.size 47 1 (.slice u1 i u3) i (rs.map (rowV n)) := row_kept hrow (fun b hb => hVb.block b (hrow.lt b hb).2)
      have hs0 := BK.out.size
      have HROW := hid hrow
      have HRV := hid hrowV
      have HLEN := hid hlen
      have HND := hid hnd
      have HBR := hid hbr
      have H0 := hid h0
      have HVB := hid hVb
      have HVS := hid hVs
      clear hrow hrowV hlen hnd hbr h0 hVb hVs hV HI hmk
      have hsV : w.heap.size ≤ V.heap.size := by have := HVS.out; omega
      go_wp2_with (first | (at_builtin; refine wpList_append_move rfl (.tmp 10) (.tmp 13) 48 rfl w.heap.size 47 i0 (.slice none 0 0) 24 Try.underlying48 hi0 hz0 hz1 hz2 rfl (.slice u1 i u3) i (rs.map (rowV n)) rfl (HRV.out.alloc _) ⟨V.heap.size, 0, none⟩ 1 1 [rowV n wr.heap.size] rfl rfl (by decide) (by intro j y hj; match j, hj with | 0, hj => (simp at hj; subst hj; simp [Addr.add])) (by intro y hy; simp at hy; subst hy; rfl) (by unfold maxLen; omega) (by omega) (by simp; omega) ?_; intro v' w3 ho3 hm3; obtain ⟨vb, vc, rfl⟩ := Joins.ownsRow_form ho3.out (by omega)))
      have hold : ∀ k, k < V.heap.size → (Value.slice u1 i u3).ownBlock ≠ some k → w3.heap[k]? = V.heap[k]? := fun k hk hne => (moved_old' hm3.out (by simp; omega) hne).trans (heap_alloc_old V _ hk)
      have hs3 : V.heap.size ≤ w3.heap.size := by rcases hm3.out with ⟨_, h⟩ | ⟨_, h⟩ <;> (have := h.size; simp at this; omega)
      have hvs := HVS.out
      have hnew : ∀ b, b < V.heap.size → (Value.slice u1 i u3).ownBlock ≠ some b → (Value.slice (some ⟨vb, 0, none⟩) (i + 1) vc).ownBlock ≠ some b := fun b hb hne => by
        rcases hm3.out with ⟨e, _⟩ | ⟨e, _⟩
        · rw [e]; exact hne
        · rw [e]; simp; omega
      have hne0 : (Value.slice u1 i u3).ownBlock ≠ some wr.heap.size := fun e => by have := (HROW.out.lt _ e).2; omega
      have hbel : Below w.heap.size w w3 := by
        refine ⟨?_, ?_, ?_, by omega, fun k hk => (hold k (by omega) (fun e => by have := (HROW.out.lt k e).1; omega)).trans ((HVB.out.block k (by omega)).trans (BK.out.block k hk))⟩
        · rcases hm3.out with ⟨_, h⟩ | ⟨_, h⟩ <;> exact h.os.trans (HVB.out.os.trans BK.out.os)
        · rcases hm3.out with ⟨_, h⟩ | ⟨_, h⟩ <;> exact h.tape.trans (HVB.out.tape.trans BK.out.tape)
        · rcases hm3.out with ⟨_, h⟩ | ⟨_, h⟩ <;> exact h.output.trans (HVB.out.output.trans BK.out.output)
      have hex : ∃ rs : List Nat, w3.ownsRow w.heap.size 47 1 (.slice (some ⟨vb, 0, none⟩) (i + 1) vc) (i + 1) (rs.map (rowV n)) ∧ rs.length = i + 1 ∧ rs.Nodup ∧ (∀ b ∈ rs, BR w3 b n (fun _ => false) ∧ w.heap.size ≤ b ∧ (Value.slice (some ⟨vb, 0, none⟩) (i + 1) vc).ownBlock ≠ some b) := by
        refine ⟨rs ++ [wr.heap.size], by rw [List.map_append]; exact ho3.out, by simp [HLEN.out], ?_, fun b hb => ?_⟩
        · rw [List.nodup_append]
          refine ⟨HND.out, by simp, fun a ha b hb => ?_⟩
          simp at hb
          subst hb
          have := (HBR.out a ha).1.lt
          omega
        · simp only [List.mem_append, List.mem_singleton] at hb
          rcases hb with hb | rfl
          · obtain ⟨q1, q2, q3⟩ := HBR.out b hb
            have := q1.lt
            exact ⟨q1.kept ((hold b (by omega) q3).trans (HVB.out.block b q1.lt)), q2, hnew b (by omega) q3⟩
          · exact ⟨H0.out.kept (hold _ (by omega) hne0), hs0, hnew _ (by omega) hne0⟩
      exact ⟨⟨i + 1, _, _, rfl, by push_cast; rfl, by omega, hex, hbel⟩, by simp [intOf]; omega⟩
    · have b1 : decide ((i : Int) < (n : Int)) = false := by simp; omega
      obtain rfl : i = n := by omega
      obtain ⟨rs, hrow, hlen, hnd, hbr⟩ := HI.out
      obtain ⟨vb, vc, hf⟩ := Joins.ownsRow_form hrow (by omega)
      simp only [Value.slice.injEq] at hf
      obtain ⟨rfl, _, rfl⟩ := hf
      have hfin : TB w.heap.size wr vb u3 i rs (fun _ _ => false) := ⟨hrow, hlen, hnd, fun j hj => (hbr _ (getD_mem (by omega))).1, fun b hb => ⟨(hbr b hb).2.1, fun e => (hbr b hb).2.2 (by rw [e]; rfl)⟩⟩
      have HFIN := hid hfin
      clear hrow hlen hnd hbr hfin HI hmk
      go_wp2
      go_ret
      exact ⟨_, _, rs, rfl, HFIN.out, BK.out⟩
end Go.Proofs.Ytnpocciioedgpaa
/- HELPERS: tables: each place to itself; by one of both. -/
namespace Go.Proofs.Ytnpocciioedgpaa
open Go.RowKit
set_option linter.unusedVariables false
set_option linter.unusedSimpArgs false
theorem TB.bnd {N : Nat} {w : World} {g cap n : Nat} {rs : List Nat} {f : Tb} (h : TB N w g cap n rs f) : ∀ b ∈ rs, b < w.heap.size := fun b hb => by
  obtain ⟨i, hi, rfl⟩ := List.mem_iff_getElem.1 hb
  have := (h.br i (by have := h.len; omega)).lt
  rwa [List.getD_eq_getElem?_getD, List.getElem?_eq_getElem hi] at this
theorem below_set {w wq : World} {N g cap n : Nat} {rs : List Nat} {f : Tb} (hB : Below w.heap.size w wq) (h : TB w.heap.size wq g cap n rs f) {i : Nat} (hi : i < n) (k : Nat) (x : Value) : Below w.heap.size w (wq.setCell ⟨rs.getD i 0, k, none⟩ x) := hB.setCell (by exact (h.rlt hi).1) _
set_option maxRecDepth 100000 in
set_option maxHeartbeats 4000000 in
theorem stays43 (n : Nat) (hn : n ≤ 65) (h1 : 1 ≤ n) (w : World) :
    Calls Try.prog 43 #[.int .i64 (n : Int)] w fun e w' => ∃ g cap rs, e = .returned (.slice (some ⟨g, 0, none⟩) n cap) ∧ TB w.heap.size w' g cap n rs Tb.stays ∧ Below w.heap.size w w' := by
  have HC := lines42 n hn h1 w
  go_enter Try.func43, Try.ntmps43
  go_wp2_with (first | (go_at_call 42; (with_reducible refine HC.mono ?_); rintro e w1 ⟨g, cap, rs, rfl, hT, hb1⟩; have HT := hid hT; have HB1 := hid hb1; clear hT hb1 HC))
  go_loopw [4] (fun x wq => ∃ (i : Nat), x = .int .i64 (i : Int) ∧ i ≤ n ∧ Hid (TB w.heap.size wq g cap n rs (fun p q => decide (q = p ∧ p < i))) ∧ Hid (Below w.heap.size w wq)) (fun x _ => n - (intOf x).toNat)
  case atStart => exact ⟨0, rfl, by omega, by exact HT.out.as (fun i k _ _ => by simp), HB1⟩
  case round =>
    obtain ⟨i, rfl, hi, HI, BK⟩ := hrel
    by_cases hlt : i < n
    · have b1 : decide ((i : Int) < (n : Int)) = true := by simp; omega
      have b2 : (i : Int) < (n : Int) := by omega
      have ad1 : IntKind.i64.wrap ((i : Int) + 1) = (i : Int) + 1 := by simp [IntKind.wrap, IntKind.bits, IntKind.signed]; omega
      have o1 := HI.out.outer hlt
      have o2 := HI.out.cell hlt hlt
      have o3 := HI.out.free hlt i
      have hfin : TB w.heap.size (wr.setCell ⟨rs.getD i 0, i, none⟩ (.bool true)) g cap n rs (fun p q => decide (q = p ∧ p < i + 1)) := (HI.out.set (k := i) hlt true).as (fun p q _ _ => by
        by_cases e : p = i ∧ q = i
        · obtain ⟨rfl, rfl⟩ := e; simp
        · rw [if_neg e]
          rw [Bool.eq_iff_iff, decide_eq_true_eq, decide_eq_true_eq]
          constructor
          · rintro ⟨h1, h2⟩; exact ⟨h1, by omega⟩
          · rintro ⟨h1, h2⟩; exact ⟨h1, by omega⟩)
      have hbel := below_set (N := 0) BK.out HI.out hlt i (.bool true)
      obtain ⟨r, hr⟩ : ∃ r, r = rs.getD i 0 := ⟨_, rfl⟩
      obtain ⟨z, hz⟩ : ∃ z, z = decide (i = i ∧ i < i) := ⟨_, rfl⟩
      rw [← hr] at o1 o2 o3 hfin hbel
      rw [← hz] at o2
      have HF := hid hfin
      have HB := hid hbel
      clear hfin hbel hr hz HI
      go_wp2
      exact ⟨⟨i + 1, by push_cast; rfl, by omega, HF, HB⟩, by simp [intOf]; omega⟩
    · have b1 : decide ((i : Int) < (n : Int)) = false := by simp; omega
      obtain rfl : i = n := by omega
      go_wp2
      go_ret
      exact ⟨g, cap, rs, rfl, HI.out.as (fun p q hp _ => by simp [Tb.stays, hp]), BK.out⟩
set_option maxRecDepth 100000 in
set_option maxHeartbeats 8000000 in
theorem or45 (n : Nat) (hn : n ≤ 65) (h1 : 1 ≤ n) (w : World) {Na Nb ga ca gb cb : Nat} {ra rb : List Nat} {fa fb : Tb} (ha : TB Na w ga ca n ra fa) (hb : TB Nb w gb cb n rb fb) :
    Calls Try.prog 45 #[.slice (some ⟨ga, 0, none⟩) n ca, .slice (some ⟨gb, 0, none⟩) n cb] w fun e w' => ∃ g cap rs, e = .returned (.slice (some ⟨g, 0, none⟩) n cap) ∧ TB w.heap.size w' g cap n rs (Tb.or fa fb) ∧ Below w.heap.size w w' := by
  have HC := lines42 n hn h1 w
  have HA := hid ha
  have HB := hid hb
  clear ha hb
  go_enter Try.func45, Try.ntmps45
  go_wp2_with (first | (go_at_call 42; (with_reducible refine HC.mono ?_); rintro e w1 ⟨g, cap, rs, rfl, hT, hb1⟩; have HT := hid hT; have HB1 := hid hb1; clear hT hb1 HC))
  go_loopw [6] (fun x wq => ∃ (i : Nat), x = .int .i64 (i : Int) ∧ i ≤ n ∧ Hid (TB w.heap.size wq g cap n rs (fun p q => decide (p < i) && (fa p q || fb p q))) ∧ Hid (Below w.heap.size w wq)) (fun x _ => n - (intOf x).toNat)
  case atStart => exact ⟨0, rfl, by omega, by exact HT.out.as (fun i k _ _ => by simp), HB1⟩
  case round =>
    obtain ⟨i, rfl, hi, HI, BK⟩ := hrel
    clear HT HB1
    by_cases hlt : i < n
    · have b1 : decide ((i : Int) < (n : Int)) = true := by simp; omega
      have b2 : (i : Int) < (n : Int) := by omega
      have ad1 : IntKind.i64.wrap ((i : Int) + 1) = (i : Int) + 1 := by simp [IntKind.wrap, IntKind.bits, IntKind.signed]; omega
      go_wp2_with fail
      go_loopw [7] (fun x wq => ∃ (k : Nat), x = .int .i64 (k : Int) ∧ k ≤ n ∧ Hid (TB w.heap.size wq g cap n rs (fun p q => decide (p < i ∨ p = i ∧ q < k) && (fa p q || fb p q))) ∧ Hid (Below w.heap.size w wq)) (fun x _ => n - (intOf x).toNat)
      case atStart => exact ⟨0, rfl, by omega, by exact HI.out.as (fun p q _ _ => by simp), BK⟩
      case round =>
        obtain ⟨k, rfl, hk, HI2, BK2⟩ := hrel
        clear HI BK
        by_cases hlk : k < n
        · have c1 : decide ((k : Int) < (n : Int)) = true := by simp; omega
          have c2 : (k : Int) < (n : Int) := by omega
          have ad2 : IntKind.i64.wrap ((k : Int) + 1) = (k : Int) + 1 := by simp [IntKind.wrap, IntKind.bits, IntKind.signed]; omega
          have hA := HA.out.below BK2.out
          have hB := HB.out.below BK2.out
          have o1 := HI2.out.outer hlt
          have o2 := HI2.out.cell hlt hlk
          have o3 := HI2.out.free hlt k
          have a1 := hA.outer hlt
          have a2 := hA.cell hlt hlk
          have d1 := hB.outer hlt
          have d2 := hB.cell hlt hlk
          have hfin : TB w.heap.size (wr.drew.setCell ⟨rs.getD i 0, k, none⟩ (.bool (fa i k || fb i k))) g cap n rs (fun p q => decide (p < i ∨ p = i ∧ q < k + 1) && (fa p q || fb p q)) := (HI2.out.drew.set (k := k) hlt (fa i k || fb i k)).as (fun p q _ _ => by
            by_cases e : p = i ∧ q = k
            · obtain ⟨rfl, rfl⟩ := e; simp
            · rw [if_neg e]
              congr 1
              rw [Bool.eq_iff_iff, decide_eq_true_eq, decide_eq_true_eq]
              omega)
          have hbel := below_set (N := 0) (wq := wr.drew) BK2.out.drew HI2.out.drew hlt k (.bool (fa i k || fb i k))
          obtain ⟨r, hr⟩ : ∃ r, r = rs.getD i 0 := ⟨_, rfl⟩
          obtain ⟨sa, hsa⟩ : ∃ r, r = ra.getD i 0 := ⟨_, rfl⟩
          obtain ⟨sb, hsb⟩ : ∃ r, r = rb.getD i 0 := ⟨_, rfl⟩
          obtain ⟨x, hx⟩ : ∃ x, x = fa i k := ⟨_, rfl⟩
          obtain ⟨y, hy⟩ : ∃ y, y = fb i k := ⟨_, rfl⟩
          obtain ⟨z, hz⟩ : ∃ z, z = (decide (i < i ∨ i = i ∧ k < k) && (fa i k || fb i k)) := ⟨_, rfl⟩
          rw [← hz] at o2
          rw [← hr] at o1 o2 o3 hfin hbel
          rw [← hsa] at a1 a2
          rw [← hsb] at d1 d2
          rw [← hx] at a2 hfin hbel
          rw [← hy] at d2 hfin hbel
          have HF := hid hfin
          have HBE := hid hbel
          clear hfin hbel hr hsa hsb hx hy hz hA hB HI2 BK2
          cases x with
          | true =>
            simp only [Bool.true_or] at HF HBE
            go_wp2_with fail
            go_region
            all_goals
              go_wp2
              exact ⟨⟨k + 1, by push_cast; rfl, by omega, HF, HBE⟩, by simp [intOf]; omega⟩
          | false =>
            simp only [Bool.false_or] at HF HBE
            go_wp2_with fail
            go_region
            all_goals
              go_wp2
              exact ⟨⟨k + 1, by push_cast; rfl, by omega, HF, HBE⟩, by simp [intOf]; omega⟩
        · have c1 : decide ((k : Int) < (n : Int)) = false := by simp; omega
          obtain rfl : k = n := by omega
          have hfin : TB w.heap.size wr g cap k rs (fun p q => decide (p < i + 1) && (fa p q || fb p q)) := HI2.out.as (fun p q _ hq => by
            congr 1
            rw [Bool.eq_iff_iff, decide_eq_true_eq, decide_eq_true_eq]
            omega)
          have HF := hid hfin
          clear hfin HI2
          go_wp2
          exact ⟨⟨i + 1, by push_cast; rfl, by omega, HF, BK2⟩, by simp [intOf]; omega⟩
    · have b1 : decide ((i : Int) < (n : Int)) = false := by simp; omega
      obtain rfl : i = n := by omega
      go_wp2
      go_ret
      exact ⟨g, cap, rs, rfl, HI.out.as (fun p q hp _ => by simp [Tb.or, hp]), BK.out⟩
end Go.Proofs.Ytnpocciioedgpaa
/- HELPERS: tables: by the one and then by the other one; as often as one likes. -/
namespace Go.Proofs.Ytnpocciioedgpaa
open Go.RowKit
set_option linter.unusedVariables false
set_option linter.unusedSimpArgs false
/-- through, so far -/
def thrS (n : Nat) (a b : Tb) (i j k : Nat) : Tb := fun p q => if p < i then Tb.thr n a b p q else if p = i then ((List.range j).any fun m => a p m && b m q) || (decide (q < k) && a p j && b j q) else false
theorem thrS_step {n : Nat} {a b : Tb} {i j k : Nat} (ha : a i j = true) (p q : Nat) : (if p = i ∧ q = k then (thrS n a b i j k i k || b j k) else thrS n a b i j k p q) = thrS n a b i j (k + 1) p q := by
  by_cases e : p = i ∧ q = k
  · obtain ⟨rfl, rfl⟩ := e
    simp [thrS, ha]
  · rw [if_neg e]
    simp only [thrS]
    by_cases h1 : p < i
    · simp [h1]
    · by_cases h2 : p = i
      · subst h2
        have hq : q ≠ k := fun h => e ⟨rfl, h⟩
        have : decide (q < k) = decide (q < k + 1) := by rw [Bool.eq_iff_iff, decide_eq_true_eq, decide_eq_true_eq]; omega
        simp [this]
      · simp [h1, h2]
theorem thrS_nextj {n : Nat} {a b : Tb} {i j k : Nat} (hk : a i j = false ∨ n ≤ k) (p q : Nat) (hq : q < n) : thrS n a b i j k p q = thrS n a b i (j + 1) 0 p q := by
  simp only [thrS]
  by_cases h1 : p < i
  · simp [h1]
  · by_cases h2 : p = i
    · subst h2
      rw [List.range_succ, List.any_append]
      rcases hk with hk | hk
      · simp [hk]
      · simp [show q < k by omega]
    · simp [h1, h2]
theorem thrS_nexti {n : Nat} {a b : Tb} {i : Nat} (p q : Nat) : thrS n a b i n 0 p q = thrS n a b (i + 1) 0 0 p q := by
  simp only [thrS]
  by_cases h1 : p < i
  · simp [h1, show p < i + 1 by omega]
  · by_cases h2 : p = i
    · subst h2
      simp [Tb.thr]
    · by_cases h3 : p = i + 1
      · subst h3; simp [show ¬ i + 1 < i by omega]
      · simp [h1, h2, h3, show ¬ p < i + 1 by omega]
/-- often, so far -/
def oftS (a : Tb) (j i k : Nat) : Tb := fun p q => if p < i ∨ p = i ∧ q < k then Tb.oft a (j + 1) p q else Tb.oft a j p q
theorem oft_own (a : Tb) (j i : Nat) : Tb.oft a (j + 1) i j = Tb.oft a j i j := by
  simp only [Tb.oft]
  cases Tb.oft a j i j <;> simp
theorem oft_row (a : Tb) (j k : Nat) : Tb.oft a (j + 1) j k = Tb.oft a j j k := by
  simp only [Tb.oft]
  cases Tb.oft a j j k <;> simp
theorem oftS_ij (a : Tb) (j i k : Nat) : oftS a j i k i j = Tb.oft a j i j := by
  simp only [oftS]
  split
  · exact oft_own a j i
  · rfl
theorem oftS_jk (a : Tb) (j i k q : Nat) : oftS a j i k j q = Tb.oft a j j q := by
  simp only [oftS]
  split
  · exact oft_row a j q
  · rfl
theorem oftS_ik (a : Tb) (j i k : Nat) : oftS a j i k i k = Tb.oft a j i k := by
  simp [oftS]
theorem oftS_step {a : Tb} {j i k : Nat} (h : Tb.oft a j i j = true) (p q : Nat) : (if p = i ∧ q = k then (oftS a j i k i k || oftS a j i k j k) else oftS a j i k p q) = oftS a j i (k + 1) p q := by
  by_cases e : p = i ∧ q = k
  · obtain ⟨rfl, rfl⟩ := e
    rw [if_pos ⟨rfl, rfl⟩, oftS_ik, oftS_jk]
    simp [oftS, Tb.oft, h]
  · rw [if_neg e]
    simp only [oftS]
    have : (p < i ∨ p = i ∧ q < k) ↔ (p < i ∨ p = i ∧ q < k + 1) := by omega
    simp only [this]
theorem oftS_nexti {n : Nat} {a : Tb} {j i k : Nat} (h : Tb.oft a j i j = false ∨ n ≤ k) (p q : Nat) (hq : q < n) : oftS a j i k p q = oftS a j (i + 1) 0 p q := by
  simp only [oftS]
  by_cases h1 : p < i
  · simp [h1, show p < i + 1 by omega]
  · by_cases h2 : p = i
    · subst h2
      rcases h with h | h
      · have : Tb.oft a (j + 1) p q = Tb.oft a j p q := by simp [Tb.oft, h]
        simp [this]
      · simp [show q < k by omega]
    · have e1 : ¬ (p < i ∨ p = i ∧ q < k) := by omega
      have e2 : ¬ (p < i + 1 ∨ p = i + 1 ∧ q < 0) := by omega
      rw [if_neg e1, if_neg e2]
theorem oftS_nextj {n : Nat} {a : Tb} {j : Nat} (p q : Nat) (hp : p < n) : oftS a j n 0 p q = oftS a (j + 1) 0 0 p q := by
  simp [oftS, hp]
set_option maxRecDepth 100000 in
set_option maxHeartbeats 8000000 in
theorem through44 (n : Nat) (hn : n ≤ 65) (h1 : 1 ≤ n) (w : World) {Na Nb ga ca gb cb : Nat} {ra rb : List Nat} {fa fb : Tb} (ha : TB Na w ga ca n ra fa) (hb : TB Nb w gb cb n rb fb) :
    Calls Try.prog 44 #[.slice (some ⟨ga, 0, none⟩) n ca, .slice (some ⟨gb, 0, none⟩) n cb] w fun e w' => ∃ g cap rs, e = .returned (.slice (some ⟨g, 0, none⟩) n cap) ∧ TB w.heap.size w' g cap n rs (Tb.thr n fa fb) ∧ Below w.heap.size w w' := by
  have HC := lines42 n hn h1 w
  have HA := hid ha
  have HB := hid hb
  clear ha hb
  go_enter Try.func44, Try.ntmps44
  go_wp2_with (first | (go_at_call 42; (with_reducible refine HC.mono ?_); rintro e w1 ⟨g, cap, rs, rfl, hT, hb1⟩; have HT := hid hT; have HB1 := hid hb1; clear hT hb1 HC))
  go_loopw [6] (fun x wq => ∃ (i : Nat), x = .int .i64 (i : Int) ∧ i ≤ n ∧ Hid (TB w.heap.size wq g cap n rs (thrS n fa fb i 0 0)) ∧ Hid (Below w.heap.size w wq)) (fun x _ => n - (intOf x).toNat)
  case atStart => exact ⟨0, rfl, by omega, by exact HT.out.as (fun i k _ _ => by simp [thrS]), HB1⟩
  case round =>
    obtain ⟨i, rfl, hi, HI, BK⟩ := hrel
    clear HT HB1
    by_cases hlt : i < n
    · have b1 : decide ((i : Int) < (n : Int)) = true := by simp; omega
      have b2 : (i : Int) < (n : Int) := by omega
      have ad1 : IntKind.i64.wrap ((i : Int) + 1) = (i : Int) + 1 := by simp [IntKind.wrap, IntKind.bits, IntKind.signed]; omega
      go_wp2_with fail
      go_loopw [7] (fun x wq => ∃ (j : Nat), x = .int .i64 (j : Int) ∧ j ≤ n ∧ Hid (TB w.heap.size wq g cap n rs (thrS n fa fb i j 0)) ∧ Hid (Below w.heap.size w wq)) (fun x _ => n - (intOf x).toNat)
      case atStart => exact ⟨0, rfl, by omega, HI, BK⟩
      case round =>
        obtain ⟨j, rfl, hj, HI2, BK2⟩ := hrel
        clear HI BK
        by_cases hlj : j < n
        · have j1 : decide ((j : Int) < (n : Int)) = true := by simp; omega
          have j2 : (j : Int) < (n : Int) := by omega
          have ad3 : IntKind.i64.wrap ((j : Int) + 1) = (j : Int) + 1 := by simp [IntKind.wrap, IntKind.bits, IntKind.signed]; omega
          obtain ⟨t, ht⟩ : ∃ t, t = fa i j := ⟨_, rfl⟩
          have HTT := hid ht
          go_wp2_with fail
          go_loopw [8] (fun x wq => ∃ (k : Nat), x = .int .i64 (k : Int) ∧ k ≤ n ∧ Hid (t = false → k = 0) ∧ Hid (TB w.heap.size wq g cap n rs (thrS n fa fb i j k)) ∧ Hid (Below w.heap.size w wq)) (fun x _ => n - (intOf x).toNat)
          case atStart => exact ⟨0, rfl, by omega, by exact fun _ => rfl, HI2, BK2⟩
          case round =>
            obtain ⟨k, rfl, hk, HT0, HI3, BK3⟩ := hrel
            clear HI2 BK2 ht
            have hA := HA.out.below BK3.out
            have a1 := hA.outer hlt
            have a2 := hA.cell hlt hlj
            rw [← HTT.out] at a2
            obtain ⟨sa, hsa⟩ : ∃ r, r = ra.getD i 0 := ⟨_, rfl⟩
            rw [← hsa] at a1 a2
            by_cases hlk : k < n
            · have c1 : decide ((k : Int) < (n : Int)) = true := by simp; omega
              have c2 : (k : Int) < (n : Int) := by omega
              have ad2 : IntKind.i64.wrap ((k : Int) + 1) = (k : Int) + 1 := by simp [IntKind.wrap, IntKind.bits, IntKind.signed]; omega
              cases t with
              | true =>
                have hB := HB.out.below BK3.out
                have o1 := HI3.out.outer hlt
                have o2 := HI3.out.cell hlt hlk
                have o3 := HI3.out.free hlt k
                have d1 := hB.outer hlj
                have d2 := hB.cell hlj hlk
                have hfin : TB w.heap.size (wr.drew.setCell ⟨rs.getD i 0, k, none⟩ (.bool (thrS n fa fb i j k i k || fb j k))) g cap n rs (thrS n fa fb i j (k + 1)) := (HI3.out.drew.set (k := k) hlt _).as (fun p q _ _ => thrS_step HTT.out.symm p q)
                have hbel := below_set (N := 0) (wq := wr.drew) BK3.out.drew HI3.out.drew hlt k (.bool (thrS n fa fb i j k i k || fb j k))
                obtain ⟨r, hr⟩ : ∃ r, r = rs.getD i 0 := ⟨_, rfl⟩
                obtain ⟨sb, hsb⟩ : ∃ r, r = rb.getD j 0 := ⟨_, rfl⟩
                obtain ⟨x, hx⟩ : ∃ x, x = thrS n fa fb i j k i k := ⟨_, rfl⟩
                obtain ⟨y, hy⟩ : ∃ y, y = fb j k := ⟨_, rfl⟩
                rw [← hr] at o1 o2 o3 hfin hbel
                rw [← hsb] at d1 d2
                rw [← hx] at o2 hfin hbel
                rw [← hy] at d2 hfin hbel
                have HF := hid hfin
                have HBE := hid hbel
                clear hfin hbel hr hsa hsb hx hy hA hB HI3 BK3 HT0
                cases x with
                | true =>
                  simp only [Bool.true_or] at HF HBE
                  go_wp2_with fail
                  go_region
                  all_goals
                    go_wp2
                    exact ⟨⟨k + 1, by push_cast; rfl, by omega, (by exact fun h => absurd h (by decide)), HF, HBE⟩, by simp [intOf]; omega⟩
                | false =>
                  simp only [Bool.false_or] at HF HBE
                  go_wp2_with fail
                  go_region
                  all_goals
                    go_wp2
                    exact ⟨⟨k + 1, by push_cast; rfl, by omega, (by exact fun h => absurd h (by decide)), HF, HBE⟩, by simp [intOf]; omega⟩
              | false =>
                have hfin : TB w.heap.size wr g cap n rs (thrS n fa fb i (j + 1) 0) := HI3.out.as (fun p q _ hq => thrS_nextj (.inl HTT.out.symm) p q hq)
                have HF := hid hfin
                clear hfin HI3 hA hsa
                go_wp2
                exact ⟨⟨j + 1, by push_cast; rfl, by omega, HF, BK3⟩, by simp [intOf]; omega⟩
            · have c1 : decide ((k : Int) < (n : Int)) = false := by simp; omega
              have hfin : TB w.heap.size wr g cap n rs (thrS n fa fb i (j + 1) 0) := HI3.out.as (fun p q _ hq => thrS_nextj (.inr (by omega)) p q hq)
              have HF := hid hfin
              clear hfin HI3 hA hsa
              go_wp2
              exact ⟨⟨j + 1, by push_cast; rfl, by omega, HF, BK3⟩, by simp [intOf]; omega⟩
        · have j1 : decide ((j : Int) < (n : Int)) = false := by simp; omega
          obtain rfl : j = n := by omega
          have hfin : TB w.heap.size wr g cap j rs (thrS j fa fb (i + 1) 0 0) := HI2.out.as (fun p q _ _ => thrS_nexti p q)
          have HF := hid hfin
          clear hfin HI2
          go_wp2
          exact ⟨⟨i + 1, by push_cast; rfl, by omega, HF, BK2⟩, by simp [intOf]; omega⟩
    · have b1 : decide ((i : Int) < (n : Int)) = false := by simp; omega
      obtain rfl : i = n := by omega
      go_wp2
      go_ret
      exact ⟨g, cap, rs, rfl, HI.out.as (fun p q hp _ => by simp [thrS, hp]), BK.out⟩
set_option maxRecDepth 100000 in
set_option maxHeartbeats 8000000 in
theorem often59 (n : Nat) (hn : n ≤ 65) (h1 : 1 ≤ n) (w : World) {Na ga ca : Nat} {ra : List Nat} {fa : Tb} (ha : TB Na w ga ca n ra fa) :
    Calls Try.prog 59 #[.slice (some ⟨ga, 0, none⟩) n ca] w fun e w' => ∃ g cap rs, e = .returned (.slice (some ⟨g, 0, none⟩) n cap) ∧ TB w.heap.size w' g cap n rs (Tb.oft fa n) ∧ Below w.heap.size w w' := by
  have HC := stays43 n hn h1 w
  have HA := hid ha
  clear ha
  go_enter Try.func59, Try.ntmps59
  go_wp2_with (first | (go_at_call 43; (with_reducible refine HC.mono ?_); rintro e w0 ⟨gs, caps, rss, rfl, hT, hb1⟩; have HC2 := or45 n hn h1 w0 (HA.out.below hb1) hT; have HB1 := hid hb1; have hs1 := hb1.size; clear hT hb1 HC) | (go_at_call 45; (with_reducible refine HC2.mono ?_); rintro e w1 ⟨g, cap, rs, rfl, hT, hb2⟩; have HT : Hid (TB w.heap.size w1 g cap n rs (Tb.or fa Tb.stays)) := hT.le hs1; have HB2 : Hid (Below w.heap.size w w1) := HB1.out.trans (Joins.below_le hb2 hs1); clear hT hb2 HC2))
  go_loopw [4] (fun x wq => ∃ (j : Nat), x = .int .i64 (j : Int) ∧ j ≤ n ∧ Hid (TB w.heap.size wq g cap n rs (oftS fa j 0 0)) ∧ Hid (Below w.heap.size w wq)) (fun x _ => n - (intOf x).toNat)
  case atStart => exact ⟨0, rfl, by omega, by exact HT.out.as (fun i k _ _ => by simp [oftS, Tb.oft]), HB2⟩
  case round =>
    obtain ⟨j, rfl, hj, HI, BK⟩ := hrel
    clear HT HB1 HB2
    by_cases hlj : j < n
    · have b1 : decide ((j : Int) < (n : Int)) = true := by simp; omega
      have b2 : (j : Int) < (n : Int) := by omega
      have ad1 : IntKind.i64.wrap ((j : Int) + 1) = (j : Int) + 1 := by simp [IntKind.wrap, IntKind.bits, IntKind.signed]; omega
      go_wp2_with fail
      go_loopw [5] (fun x wq => ∃ (i : Nat), x = .int .i64 (i : Int) ∧ i ≤ n ∧ Hid (TB w.heap.size wq g cap n rs (oftS fa j i 0)) ∧ Hid (Below w.heap.size w wq)) (fun x _ => n - (intOf x).toNat)
      case atStart => exact ⟨0, rfl, by omega, HI, BK⟩
      case round =>
        obtain ⟨i, rfl, hi, HI2, BK2⟩ := hrel
        clear HI BK
        by_cases hlt : i < n
        · have j1 : decide ((i : Int) < (n : Int)) = true := by simp; omega
          have j2 : (i : Int) < (n : Int) := by omega
          have ad3 : IntKind.i64.wrap ((i : Int) + 1) = (i : Int) + 1 := by simp [IntKind.wrap, IntKind.bits, IntKind.signed]; omega
          obtain ⟨t, ht⟩ : ∃ t, t = Tb.oft fa j i j := ⟨_, rfl⟩
          have HTT := hid ht
          go_wp2_with fail
          go_loopw [6] (fun x wq => ∃ (k : Nat), x = .int .i64 (k : Int) ∧ k ≤ n ∧ Hid (TB w.heap.size wq g cap n rs (oftS fa j i k)) ∧ Hid (Below w.heap.size w wq)) (fun x _ => n - (intOf x).toNat)
          case atStart => exact ⟨0, rfl, by omega, HI2, BK2⟩
          case round =>
            obtain ⟨k, rfl, hk, HI3, BK3⟩ := hrel
            clear HI2 BK2 ht
            have a1 := HI3.out.outer hlt
            have a2 := HI3.out.cell hlt hlj
            rw [oftS_ij, ← HTT.out] at a2
            have o3 := HI3.out.free hlt k
            obtain ⟨r, hr⟩ : ∃ r, r = rs.getD i 0 := ⟨_, rfl⟩
            by_cases hlk : k < n
            · have c1 : decide ((k : Int) < (n : Int)) = true := by simp; omega
              have c2 : (k : Int) < (n : Int) := by omega
              have ad2 : IntKind.i64.wrap ((k : Int) + 1) = (k : Int) + 1 := by simp [IntKind.wrap, IntKind.bits, IntKind.signed]; omega
              cases t with
              | true =>
                have o2 := HI3.out.cell hlt hlk
                have d1 := HI3.out.outer hlj
                have d2 := HI3.out.cell hlj hlk
                have hfin : TB w.heap.size (wr.drew.setCell ⟨rs.getD i 0, k, none⟩ (.bool (oftS fa j i k i k || oftS fa j i k j k))) g cap n rs (oftS fa j i (k + 1)) := (HI3.out.drew.set (k := k) hlt _).as (fun p q _ _ => oftS_step HTT.out.symm p q)
                have hbel := below_set (N := 0) (wq := wr.drew) BK3.out.drew HI3.out.drew hlt k (.bool (oftS fa j i k i k || oftS fa j i k j k))
                obtain ⟨sb, hsb⟩ : ∃ r, r = rs.getD j 0 := ⟨_, rfl⟩
                obtain ⟨x, hx⟩ : ∃ x, x = oftS fa j i k i k := ⟨_, rfl⟩
                obtain ⟨y, hy⟩ : ∃ y, y = oftS fa j i k j k := ⟨_, rfl⟩
                rw [← hx] at o2 hfin hbel
                rw [← hy] at d2 hfin hbel
                rw [← hr] at a1 a2 o2 o3 hfin hbel
                rw [← hsb] at d1 d2
                have HF := hid hfin
                have HBE := hid hbel
                clear hfin hbel hr hsb hx hy HI3 BK3
                cases x with
                | true =>
                  simp only [Bool.true_or] at HF HBE
                  go_wp2_with fail
                  go_region
                  all_goals
                    go_wp2
                    exact ⟨⟨k + 1, by push_cast; rfl, by omega, HF, HBE⟩, by simp [intOf]; omega⟩
                | false =>
                  simp only [Bool.false_or] at HF HBE
                  go_wp2_with fail
                  go_region
                  all_goals
                    go_wp2
                    exact ⟨⟨k + 1, by push_cast; rfl, by omega, HF, HBE⟩, by simp [intOf]; omega⟩
              | false =>
                have hfin : TB w.heap.size wr g cap n rs (oftS fa j (i + 1) 0) := HI3.out.as (fun p q _ hq => oftS_nexti (.inl HTT.out.symm) p q hq)
                have HF := hid hfin
                rw [← hr] at a1 a2 o3
                clear hfin HI3 hr
                go_wp2
                exact ⟨⟨i + 1, by push_cast; rfl, by omega, HF, BK3⟩, by simp [intOf]; omega⟩
            · have c1 : decide ((k : Int) < (n : Int)) = false := by simp; omega
              have hfin : TB w.heap.size wr g cap n rs (oftS fa j (i + 1) 0) := HI3.out.as (fun p q _ hq => oftS_nexti (.inr (by omega)) p q hq)
              have HF := hid hfin
              rw [← hr] at a1 a2 o3
              clear hfin HI3 hr
              go_wp2
              exact ⟨⟨i + 1, by push_cast; rfl, by omega, HF, BK3⟩, by simp [intOf]; omega⟩
        · have j1 : decide ((i : Int) < (n : Int)) = false := by simp; omega
          obtain rfl : i = n := by omega
          have hfin : TB w.heap.size wr g cap i rs (oftS fa (j + 1) 0 0) := HI2.out.as (fun p q hp _ => oftS_nextj p q hp)
          have HF := hid hfin
          clear hfin HI2
          go_wp2
          exact ⟨⟨j + 1, by push_cast; rfl, by omega, HF, BK2⟩, by simp [intOf]; omega⟩
    · have b1 : decide ((j : Int) < (n : Int)) = false := by simp; omega
      obtain rfl : j = n := by omega
      go_wp2
      go_ret
      exact ⟨g, cap, rs, rfl, HI.out.as (fun p q hp _ => by simp [oftS]), BK.out⟩
end Go.Proofs.Ytnpocciioedgpaa
/- HELPERS: the contract of the document's At. -/
namespace Go.Proofs.Ytnpocciioedgpaa.Look
open Go.RowKit
set_option linter.unusedVariables false
set_option linter.unusedSimpArgs false
theorem atP_mid (l : List Int) (p : Nat) (h0 : 0 < p) (h1 : p < l.length) :
    atP l p = bI (decide (l.getD (p - 1) 0 = 10)) 4 + bI (decide (l.getD p 0 = 10)) 8 + (if wordR (l.getD (p - 1) 0) != wordR (l.getD p 0) then 16 else 32) := by
  have e1 : begB p = false := by unfold begB; simp; omega
  have e2 : endB l p = false := by unfold endB; simp; omega
  have e3 : blB l p = decide (l.getD (p - 1) 0 = 10) := by unfold blB; simp [show ¬ p = 0 by omega]
  have e4 : elB l p = decide (l.getD p 0 = 10) := by unfold elB; simp [show ¬ p = l.length by omega]
  have e5 : edgeB l p = (wordR (l.getD (p - 1) 0) != wordR (l.getD p 0)) := by unfold edgeB waB wbB; simp [h0, h1]
  unfold atP sumB
  rw [e1, e2, e3, e4, e5]
  cases wordR (l.getD (p - 1) 0) != wordR (l.getD p 0) <;> simp [bI]
theorem atP_first (l : List Int) (h1 : 0 < l.length) : atP l 0 = 5 + bI (decide (l.getD 0 0 = 10)) 8 + (if wordR (l.getD 0 0) then 16 else 32) := by
  have e1 : begB 0 = true := by unfold begB; simp
  have e2 : endB l 0 = false := by unfold endB; simp; omega
  have e3 : blB l 0 = true := by unfold blB; simp
  have e4 : elB l 0 = decide (l.getD 0 0 = 10) := by unfold elB; simp [show ¬ 0 = l.length by omega]
  have e5 : edgeB l 0 = wordR (l.getD 0 0) := by unfold edgeB waB wbB; simp [h1]
  unfold atP sumB
  rw [e1, e2, e3, e4, e5]
  cases wordR (l.getD 0 0) <;> cases decide (l.getD 0 0 = 10) <;> simp [bI]
theorem atP_last (l : List Int) (h1 : 0 < l.length) : atP l l.length = 10 + bI (decide (l.getD (l.length - 1) 0 = 10)) 4 + (if wordR (l.getD (l.length - 1) 0) then 16 else 32) := by
  have e1 : begB l.length = false := by unfold begB; simp; intro h; rw [h] at h1; simp at h1
  have e2 : endB l l.length = true := by unfold endB; simp
  have e3 : blB l l.length = decide (l.getD (l.length - 1) 0 = 10) := by unfold blB; simp [show ¬ l.length = 0 by omega]
  have e4 : elB l l.length = true := by unfold elB; simp
  have e5 : edgeB l l.length = wordR (l.getD (l.length - 1) 0) := by unfold edgeB waB wbB; simp [h1]
  unfold atP sumB
  rw [e1, e2, e3, e4, e5]
  cases wordR (l.getD (l.length - 1) 0) <;> cases decide (l.getD (l.length - 1) 0 = 10) <;> simp [bI]
theorem atP_none : atP [] 0 = 47 := by decide +kernel
set_option maxHeartbeats 2000000 in
theorem ref_none (ad : Option Addr) (cap : Nat) (w : World) :
    Calls Try.prog 38 #[.slice ad 0 cap, .int .i64 0] w fun e w' => e = .returned (.int .i64 47) ∧ w' = w := by
  go_enter Try.func38, Try.ntmps38
  go_wp2
  go_ret
  exact ⟨rfl, rfl⟩
set_option maxHeartbeats 2000000 in
theorem ref_first (b off n cap : Nat) (w : World) (hn : 0 < n) (hm : n ≤ 35184372088832) (y A : Int) (W : Bool) (d0 : w.cell? ⟨b, off, none⟩ = some (.int .i64 y)) (hw : ∀ w, Calls Try.prog 57 #[.int .i64 y] w fun e w' => e = .returned (.bool W) ∧ w' = w)
    (HA : Hid (A = 5 + bI (decide (y = 10)) 8 + (if W then 16 else 32))) :
    Calls Try.prog 38 #[.slice (some ⟨b, off, none⟩) n cap, .int .i64 0] w fun e w' => e = .returned (.int .i64 A) ∧ w' = w := by
  by_cases hy : y = 10
  · cases W
    · have hA : A = 45 := by rw [HA.out]; simp [bI, hy]
      rw [hA]
      clear HA hA
      subst hy
      go_enter Try.func38, Try.ntmps38
      go_wp2_with (go_at_call 57; refine (hw _).mono ?_; rintro e w' ⟨rfl, rfl⟩)
      go_ret
      exact ⟨rfl, rfl⟩
    · have hA : A = 29 := by rw [HA.out]; simp [bI, hy]
      rw [hA]
      clear HA hA
      subst hy
      go_enter Try.func38, Try.ntmps38
      go_wp2_with (go_at_call 57; refine (hw _).mono ?_; rintro e w' ⟨rfl, rfl⟩)
      go_ret
      exact ⟨rfl, rfl⟩
  · have hy1 : (y == 10) = false := by simp [hy]
    cases W
    · have hA : A = 37 := by rw [HA.out]; simp [bI, hy]
      rw [hA]
      clear HA hA hy
      go_enter Try.func38, Try.ntmps38
      go_wp2_with (go_at_call 57; refine (hw _).mono ?_; rintro e w' ⟨rfl, rfl⟩)
      go_ret
      exact ⟨rfl, rfl⟩
    · have hA : A = 21 := by rw [HA.out]; simp [bI, hy]
      rw [hA]
      clear HA hA hy
      go_enter Try.func38, Try.ntmps38
      go_wp2_with (go_at_call 57; refine (hw _).mono ?_; rintro e w' ⟨rfl, rfl⟩)
      go_ret
      exact ⟨rfl, rfl⟩
set_option maxHeartbeats 2000000 in
theorem ref_last (b off p cap : Nat) (w : World) (hn : 0 < p) (hm : p ≤ 35184372088832) (y A : Int) (W : Bool) (d0 : w.cell? ⟨b, off + (p - 1), none⟩ = some (.int .i64 y)) (hw : ∀ w, Calls Try.prog 57 #[.int .i64 y] w fun e w' => e = .returned (.bool W) ∧ w' = w)
    (HA : Hid (A = 10 + bI (decide (y = 10)) 4 + (if W then 16 else 32))) :
    Calls Try.prog 38 #[.slice (some ⟨b, off, none⟩) p cap, .int .i64 p] w fun e w' => e = .returned (.int .i64 A) ∧ w' = w := by
  have hp0 : ((p : Int) == 0) = false := by simp; omega
  by_cases hy : y = 10
  · cases W
    · have hA : A = 46 := by rw [HA.out]; simp [bI, hy]
      rw [hA]
      clear HA hA
      subst hy
      go_enter Try.func38, Try.ntmps38
      go_wp2_with (go_at_call 57; refine (hw _).mono ?_; rintro e w' ⟨rfl, rfl⟩)
      go_ret
      exact ⟨rfl, rfl⟩
    · have hA : A = 30 := by rw [HA.out]; simp [bI, hy]
      rw [hA]
      clear HA hA
      subst hy
      go_enter Try.func38, Try.ntmps38
      go_wp2_with (go_at_call 57; refine (hw _).mono ?_; rintro e w' ⟨rfl, rfl⟩)
      go_ret
      exact ⟨rfl, rfl⟩
  · have hy1 : (y == 10) = false := by simp [hy]
    cases W
    · have hA : A = 42 := by rw [HA.out]; simp [bI, hy]
      rw [hA]
      clear HA hA hy
      go_enter Try.func38, Try.ntmps38
      go_wp2_with (go_at_call 57; refine (hw _).mono ?_; rintro e w' ⟨rfl, rfl⟩)
      go_ret
      exact ⟨rfl, rfl⟩
    · have hA : A = 26 := by rw [HA.out]; simp [bI, hy]
      rw [hA]
      clear HA hA hy
      go_enter Try.func38, Try.ntmps38
      go_wp2_with (go_at_call 57; refine (hw _).mono ?_; rintro e w' ⟨rfl, rfl⟩)
      go_ret
      exact ⟨rfl, rfl⟩
set_option maxHeartbeats 2000000 in
theorem ref_mid (b off n p cap : Nat) (w : World) (hn : 0 < p) (hp : p < n) (hm : n ≤ 35184372088832) (x y A : Int) (U W : Bool) (d0 : w.cell? ⟨b, off + (p - 1), none⟩ = some (.int .i64 x)) (d1 : w.cell? ⟨b, off + p, none⟩ = some (.int .i64 y))
    (hx : ∀ w, Calls Try.prog 57 #[.int .i64 x] w fun e w' => e = .returned (.bool U) ∧ w' = w) (hw : ∀ w, Calls Try.prog 57 #[.int .i64 y] w fun e w' => e = .returned (.bool W) ∧ w' = w)
    (X10 Y10 : Bool) (hX : decide (x = 10) = X10) (hY : decide (y = 10) = Y10) (HA : Hid (A = bI X10 4 + bI Y10 8 + (if U != W then 16 else 32))) :
    Calls Try.prog 38 #[.slice (some ⟨b, off, none⟩) n cap, .int .i64 p] w fun e w' => e = .returned (.int .i64 A) ∧ w' = w := by
  have hp0 : ((p : Int) == 0) = false := by simp; omega
  have hX1 : (x == 10) = X10 := by rw [← hX]; rfl
  have hY1 : (y == 10) = Y10 := by rw [← hY]; rfl
  clear hX hY
  cases X10 <;> cases Y10 <;> cases U <;> cases W
  · obtain rfl : A = 32 := HA.out
    go_enter Try.func38, Try.ntmps38
    go_wp2_with fail
    refine (hx _).mono ?_
    rintro e w' ⟨rfl, rfl⟩
    go_wp2_with fail
    refine (hw _).mono ?_
    rintro e w'' ⟨rfl, rfl⟩
    go_wp2
    go_ret
    exact ⟨rfl, rfl⟩
  · obtain rfl : A = 16 := HA.out
    go_enter Try.func38, Try.ntmps38
    go_wp2_with fail
    refine (hx _).mono ?_
    rintro e w' ⟨rfl, rfl⟩
    go_wp2_with fail
    refine (hw _).mono ?_
    rintro e w'' ⟨rfl, rfl⟩
    go_wp2
    go_ret
    exact ⟨rfl, rfl⟩
  · obtain rfl : A = 16 := HA.out
    go_enter Try.func38, Try.ntmps38
    go_wp2_with fail
    refine (hx _).mono ?_
    rintro e w' ⟨rfl, rfl⟩
    go_wp2_with fail
    refine (hw _).mono ?_
    rintro e w'' ⟨rfl, rfl⟩
    go_wp2
    go_ret
    exact ⟨rfl, rfl⟩
  · obtain rfl : A = 32 := HA.out
    go_enter Try.func38, Try.ntmps38
    go_wp2_with fail
    refine (hx _).mono ?_
    rintro e w' ⟨rfl, rfl⟩
    go_wp2_with fail
    refine (hw _).mono ?_
    rintro e w'' ⟨rfl, rfl⟩
    go_wp2
    go_ret
    exact ⟨rfl, rfl⟩
  · obtain rfl : A = 40 := HA.out
    go_enter Try.func38, Try.ntmps38
    go_wp2_with fail
    refine (hx _).mono ?_
    rintro e w' ⟨rfl, rfl⟩
    go_wp2_with fail
    refine (hw _).mono ?_
    rintro e w'' ⟨rfl, rfl⟩
    go_wp2
    go_ret
    exact ⟨rfl, rfl⟩
  · obtain rfl : A = 24 := HA.out
    go_enter Try.func38, Try.ntmps38
    go_wp2_with fail
    refine (hx _).mono ?_
    rintro e w' ⟨rfl, rfl⟩
    go_wp2_with fail
    refine (hw _).mono ?_
    rintro e w'' ⟨rfl, rfl⟩
    go_wp2
    go_ret
    exact ⟨rfl, rfl⟩
  · obtain rfl : A = 24 := HA.out
    go_enter Try.func38, Try.ntmps38
    go_wp2_with fail
    refine (hx _).mono ?_
    rintro e w' ⟨rfl, rfl⟩
    go_wp2_with fail
    refine (hw _).mono ?_
    rintro e w'' ⟨rfl, rfl⟩
    go_wp2
    go_ret
    exact ⟨rfl, rfl⟩
  · obtain rfl : A = 40 := HA.out
    go_enter Try.func38, Try.ntmps38
    go_wp2_with fail
    refine (hx _).mono ?_
    rintro e w' ⟨rfl, rfl⟩
    go_wp2_with fail
    refine (hw _).mono ?_
    rintro e w'' ⟨rfl, rfl⟩
    go_wp2
    go_ret
    exact ⟨rfl, rfl⟩
  · obtain rfl : A = 36 := HA.out
    go_enter Try.func38, Try.ntmps38
    go_wp2_with fail
    refine (hx _).mono ?_
    rintro e w' ⟨rfl, rfl⟩
    go_wp2_with fail
    refine (hw _).mono ?_
    rintro e w'' ⟨rfl, rfl⟩
    go_wp2
    go_ret
    exact ⟨rfl, rfl⟩
  · obtain rfl : A = 20 := HA.out
    go_enter Try.func38, Try.ntmps38
    go_wp2_with fail
    refine (hx _).mono ?_
    rintro e w' ⟨rfl, rfl⟩
    go_wp2_with fail
    refine (hw _).mono ?_
    rintro e w'' ⟨rfl, rfl⟩
    go_wp2
    go_ret
    exact ⟨rfl, rfl⟩
  · obtain rfl : A = 20 := HA.out
    go_enter Try.func38, Try.ntmps38
    go_wp2_with fail
    refine (hx _).mono ?_
    rintro e w' ⟨rfl, rfl⟩
    go_wp2_with fail
    refine (hw _).mono ?_
    rintro e w'' ⟨rfl, rfl⟩
    go_wp2
    go_ret
    exact ⟨rfl, rfl⟩
  · obtain rfl : A = 36 := HA.out
    go_enter Try.func38, Try.ntmps38
    go_wp2_with fail
    refine (hx _).mono ?_
    rintro e w' ⟨rfl, rfl⟩
    go_wp2_with fail
    refine (hw _).mono ?_
    rintro e w'' ⟨rfl, rfl⟩
    go_wp2
    go_ret
    exact ⟨rfl, rfl⟩
  · obtain rfl : A = 44 := HA.out
    go_enter Try.func38, Try.ntmps38
    go_wp2_with fail
    refine (hx _).mono ?_
    rintro e w' ⟨rfl, rfl⟩
    go_wp2_with fail
    refine (hw _).mono ?_
    rintro e w'' ⟨rfl, rfl⟩
    go_wp2
    go_ret
    exact ⟨rfl, rfl⟩
  · obtain rfl : A = 28 := HA.out
    go_enter Try.func38, Try.ntmps38
    go_wp2_with fail
    refine (hx _).mono ?_
    rintro e w' ⟨rfl, rfl⟩
    go_wp2_with fail
    refine (hw _).mono ?_
    rintro e w'' ⟨rfl, rfl⟩
    go_wp2
    go_ret
    exact ⟨rfl, rfl⟩
  · obtain rfl : A = 28 := HA.out
    go_enter Try.func38, Try.ntmps38
    go_wp2_with fail
    refine (hx _).mono ?_
    rintro e w' ⟨rfl, rfl⟩
    go_wp2_with fail
    refine (hw _).mono ?_
    rintro e w'' ⟨rfl, rfl⟩
    go_wp2
    go_ret
    exact ⟨rfl, rfl⟩
  · obtain rfl : A = 44 := HA.out
    go_enter Try.func38, Try.ntmps38
    go_wp2_with fail
    refine (hx _).mono ?_
    rintro e w' ⟨rfl, rfl⟩
    go_wp2_with fail
    refine (hw _).mono ?_
    rintro e w'' ⟨rfl, rfl⟩
    go_wp2
    go_ret
    exact ⟨rfl, rfl⟩
theorem ref_in (l : List Int) (ad : Option Addr) (n cap p : Nat) (w : World) (N : Nat) (hT : TextAt N w ad n l) (hp : p ≤ n) :
    Calls Try.prog 38 #[.slice ad n cap, .int .i64 p] w fun e w' => e = .returned (.int .i64 (atP l p)) ∧ w' = w := by
  obtain ⟨hn, hm, h⟩ := hT
  by_cases h1 : n = 0
  · have hl : l = [] := List.eq_nil_of_length_eq_zero (by omega)
    obtain rfl : p = 0 := by omega
    subst hl h1
    rw [atP_none]
    exact ref_none ad cap w
  · obtain ⟨b, off, rfl, hbN, hc⟩ := h.resolve_left h1
    by_cases h0 : p = 0
    · subst h0
      exact ref_first b off n cap w (by omega) hm _ _ _ (hc 0 (by omega)) (fun w => word18 _ w) (atP_first l (by omega))
    · by_cases h2 : p = n
      · subst h2
        refine ref_last b off p cap w (by omega) hm _ _ _ (hc (p - 1) (by omega)) (fun w => word18 _ w) ?_
        rw [hn]
        exact atP_last l (by omega)
      · exact ref_mid b off n p cap w (by omega) (by omega) hm _ _ _ _ _ (hc (p - 1) (by omega)) (hc p (by omega)) (fun w => word18 _ w) (fun w => word18 _ w) _ _ rfl rfl (atP_mid l p (by omega) (by omega))
set_option maxHeartbeats 1000000 in
theorem ref_out (ad : Option Addr) (n cap : Nat) (p : Int) (w : World) (hp : p < 0 ∨ (n : Int) < p) :
    Calls Try.prog 38 #[.slice ad n cap, .int .i64 p] w fun e w' => e = .returned (.int .i64 0) ∧ w' = w := by
  rcases hp with hp | hp
  · go_enter Try.func38, Try.ntmps38
    go_wp2
    go_ret
    exact ⟨rfl, rfl⟩
  · by_cases h0 : p < 0
    · go_enter Try.func38, Try.ntmps38
      go_wp2
      go_ret
      exact ⟨rfl, rfl⟩
    · go_enter Try.func38, Try.ntmps38
      go_wp2
      go_ret
      exact ⟨rfl, rfl⟩
theorem ref12 (l : List Int) (ad : Option Addr) (n cap : Nat) (p : Int) (w : World) (N : Nat) (hT : TextAt N w ad n l) :
    Calls Try.prog 38 #[.slice ad n cap, .int .i64 p] w fun e w' => e = .returned (.int .i64 (atN l p)) ∧ w' = w := by
  have hn := hT.1
  by_cases h : p < 0 ∨ (l.length : Int) < p
  · rw [show atN l p = 0 by unfold atN; rw [if_pos h]]
    exact ref_out ad n cap p w (by rw [hn]; exact h)
  · obtain ⟨q, rfl⟩ := Int.eq_ofNat_of_zero_le (show 0 ≤ p by omega)
    rw [show atN l (q : Int) = atP l q by unfold atN; rw [if_neg h]; rfl]
    exact ref_in l ad n cap q w N hT (by omega)
end Go.Proofs.Ytnpocciioedgpaa.Look
/- HELPERS: tables: so many of a tree's; what is asserted, one bit. -/
namespace Go.Proofs.Ytnpocciioedgpaa
open Go.RowKit
set_option linter.unusedVariables false
set_option linter.unusedSimpArgs false
theorem held_row (b1 b2 b3 b4 b5 : Bool) : ∀ c ∈ [(1 : Int), 2, 4, 8, 16, 32], decide (bits .and .i64 (Look.sumB b1 b2 b3 b4 b5 6) c > 0) = (bits .andNot .i64 c (Look.sumB b1 b2 b3 b4 b5 6) == 0) := by
  cases b1 <;> cases b2 <;> cases b3 <;> cases b4 <;> cases b5 <;> decide +kernel
theorem held_bit {tx : List Int} {a : Int} (ha : assertB a = true) {p : Nat} (hp : p ≤ tx.length) : decide (bits .and .i64 (Look.atN tx (p : Int)) a > 0) = heldB tx a p := by
  have hm : a ∈ [(1 : Int), 2, 4, 8, 16, 32] := by
    simp only [assertB, Bool.or_eq_true, beq_iff_eq] at ha
    simp only [List.mem_cons, List.not_mem_nil, or_false]
    omega
  unfold heldB Look.atN
  rw [if_neg (by omega)]
  exact held_row _ _ _ _ _ a hm
set_option maxRecDepth 100000 in
set_option maxHeartbeats 8000000 in
theorem times46 (n : Nat) (hn : n ≤ 65) (h1 : 1 ≤ n) (N : Nv) (w : World) {Ns gs cs : Nat} {rss : List Nat} {fs : Tb} (hs : TB Ns w gs cs n rss fs) (hm0 : 0 ≤ N.a4) (hm1 : N.a4 ≤ 1000) (hx : N.a5 = -1 ∨ N.a4 ≤ N.a5 ∧ N.a5 ≤ 1000) :
    Calls Try.prog 46 #[N.v, .slice (some ⟨gs, 0, none⟩) n cs] w fun e w' => ∃ g cap rs, e = .returned (.slice (some ⟨g, 0, none⟩) n cap) ∧ TB w.heap.size w' g cap n rs (if N.a5 < 0 then Tb.thr n (Tb.pow n fs N.a4.toNat) (Tb.oft fs n) else Tb.upTo n fs N.a4.toNat (N.a5 - N.a4).toNat) ∧ Below w.heap.size w w' := by
  obtain ⟨k, r1, r2, r3, a2, s1, s2, s3, a4, a5, a6, a7, a8⟩ := N
  simp only at hm0 hm1 hx ⊢
  obtain ⟨mn, rfl⟩ : ∃ mn : Nat, a4 = (mn : Int) := ⟨a4.toNat, by omega⟩
  obtain ⟨F, hF⟩ : ∃ F, F = (if a5 < 0 then Tb.thr n (Tb.pow n fs ((mn : Int)).toNat) (Tb.oft fs n) else Tb.upTo n fs ((mn : Int)).toNat (a5 - (mn : Int)).toNat) := ⟨_, rfl⟩
  rw [← hF]
  have HFF := hid hF
  clear hF
  have hb0 : Below w.heap.size w (w.alloc (.cells #[.int .i64 k, .slice r1 r2 r3, .int .i64 a2, .slice s1 s2 s3, .int .i64 (mn : Int), .int .i64 a5, .bool a6, .int .i64 a7, .string a8] 28)) := Joins.below_alloc1 w _
  have hbx : ∀ W, Below (w.heap.size + 1) (w.alloc (.cells #[.int .i64 k, .slice r1 r2 r3, .int .i64 a2, .slice s1 s2 s3, .int .i64 (mn : Int), .int .i64 a5, .bool a6, .int .i64 a7, .string a8] 28)) W → W.cell? ⟨w.heap.size, 4, none⟩ = some (.int .i64 (mn : Int)) ∧ W.cell? ⟨w.heap.size, 5, none⟩ = some (.int .i64 a5) ∧ Below w.heap.size w W ∧ w.heap.size + 1 ≤ W.heap.size := fun W hW => by
    have h := (hW.block w.heap.size (by omega)).trans (heap_alloc_new w _)
    refine ⟨Joins.cell_of_block h 4, Joins.cell_of_block h 5, hb0.trans (Joins.below_le hW (by omega)), ?_⟩
    have := hW.size
    simpa using this
  obtain ⟨W0, hW0⟩ : ∃ W0, W0 = w.alloc (.cells #[.int .i64 k, .slice r1 r2 r3, .int .i64 a2, .slice s1 s2 s3, .int .i64 (mn : Int), .int .i64 a5, .bool a6, .int .i64 a7, .string a8] 28) := ⟨_, rfl⟩
  rw [← hW0] at hb0 hbx
  have hs0 : W0.heap.size = w.heap.size + 1 := by rw [hW0]; simp
  have HBX := hid hbx
  have HB0 : Hid (Below (w.heap.size + 1) W0 W0) := Below.refl _ _
  have HS := hid hs
  have HC := stays43 n hn h1 W0
  clear hs hbx
  go_enter Try.func46, Try.ntmps46
  go_upto_region 1 with fail
  rw [← hW0]
  clear hW0
  go_wp2_with (first | (go_at_call 43; (with_reducible refine HC.mono ?_); rintro e w1 ⟨g0, cap0, rs0, rfl, hT, hb1⟩; have HB1 : Hid (Below (w.heap.size + 1) W0 w1) := HB0.out.trans (Joins.below_le hb1 (by omega)); have HT : Hid (TB w.heap.size w1 g0 cap0 n rs0 (Tb.pow n fs 0)) := hT.le (by omega); clear hT hb1 HC))
  go_loopw [5, 6] (fun v x wq => ∃ (i g cap : Nat), v = .slice (some ⟨g, 0, none⟩) n cap ∧ x = .int .i64 (i : Int) ∧ i ≤ mn ∧ Hid (∃ rs, TB w.heap.size wq g cap n rs (Tb.pow n fs i)) ∧ Hid (Below (w.heap.size + 1) W0 wq)) (fun _ x _ => mn - (intOf x).toNat)
  case atStart => exact ⟨0, g0, cap0, rfl, rfl, by omega, by exact ⟨rs0, HT.out⟩, HB1⟩
  case round =>
    obtain ⟨i, g, cap, rfl, rfl, hi, HI, BK⟩ := hrel
    obtain ⟨o4, o5, hbw, hsw⟩ := HBX.out wr BK.out
    have HBW := hid hbw
    clear HT HB1 hbw
    by_cases hlt : i < mn
    · have b1 : decide ((i : Int) < (mn : Int)) = true := by simp; omega
      have ad1 : IntKind.i64.wrap ((i : Int) + 1) = (i : Int) + 1 := by simp [IntKind.wrap, IntKind.bits, IntKind.signed]; omega
      obtain ⟨rs, hT⟩ := HI.out
      have HC := through44 n hn h1 wr hT (HS.out.below HBW.out)
      clear hT HI
      go_wp2_with (first | (go_at_call 44; (with_reducible refine HC.mono ?_); rintro e w2 ⟨g2, cap2, rs2, rfl, hT2, hb2⟩; have HB2 : Hid (Below (w.heap.size + 1) W0 w2) := BK.out.trans (Joins.below_le hb2 (by omega)); have HT2 : Hid (TB w.heap.size w2 g2 cap2 n rs2 (Tb.pow n fs (i + 1))) := hT2.le (by omega); clear hT2 hb2 HC))
      exact ⟨⟨i + 1, g2, cap2, rfl, by push_cast; rfl, by omega, by exact ⟨rs2, HT2.out⟩, HB2⟩, by simp [intOf]; omega⟩
    · have b1 : decide ((i : Int) < (mn : Int)) = false := by simp; omega
      obtain rfl : i = mn := by omega
      obtain ⟨rs, hT⟩ := HI.out
      have HT := hid hT
      clear hT HI
      by_cases hneg : a5 < 0
      · have b2 : decide (a5 < 0) = true := by simp; omega
        have hF : F = Tb.thr n (Tb.pow n fs i) (Tb.oft fs n) := by rw [HFF.out, if_pos hneg]; simp
        have HFA := hid hF
        clear hF
        have HC := often59 n hn h1 wr (HS.out.below HBW.out)
        clear hneg hx
        go_wp2_with (first | (go_at_call 59; (with_reducible refine HC.mono ?_); rintro e w2 ⟨g2, cap2, rs2, rfl, hT2, hb2⟩; have HB2 : Hid (Below (w.heap.size + 1) W0 w2) := BK.out.trans (Joins.below_le hb2 (by omega)); have hs2w : w.heap.size + 1 ≤ w2.heap.size := (HBX.out w2 HB2.out).2.2.2; have HC2 := through44 n hn h1 w2 (HT.out.below hb2) hT2; clear hT2 hb2 HC) | (go_at_call 44; (with_reducible refine HC2.mono ?_); rintro e w3 ⟨g3, cap3, rs3, rfl, hT3, hb3⟩; have HB3 : Hid (Below (w.heap.size + 1) W0 w3) := HB2.out.trans (Joins.below_le hb3 (by omega)); have HT3 : Hid (TB w.heap.size w3 g3 cap3 n rs3 (Tb.thr n (Tb.pow n fs i) (Tb.oft fs n))) := hT3.le (by omega); clear hT3 hb3 HC2))
        go_ret
        exact ⟨g3, cap3, rs3, rfl, by rw [HFA.out]; exact HT3.out, (HBX.out w3 HB3.out).2.2.1⟩
      · have b2 : decide (a5 < 0) = false := by simp; omega
        obtain ⟨d, hd⟩ : ∃ d : Nat, a5 = (i : Int) + (d : Int) := ⟨(a5 - i).toNat, by omega⟩
        have e0 : (a5 - (i : Int)).toNat = d := by omega
        have e1 : ((i : Int)).toNat = i := by omega
        have hF : F = Tb.upTo n fs i d := by rw [HFF.out, if_neg hneg, e0, e1]
        have HFA := hid hF
        clear hF
        have hdb : d ≤ 1000 := by omega
        have HD := hid hd
        clear hneg hx e0 e1 hd
        go_wp2_with fail
        go_loopw [5, 7, 8] (fun v u x wq => ∃ (c gn capn ga capa : Nat) (z : Int), v = .slice (some ⟨gn, 0, none⟩) n capn ∧ u = .slice (some ⟨ga, 0, none⟩) n capa ∧ x = .int .i64 z ∧ Hid (z = (i : Int) + (c : Int)) ∧ (0 ≤ z ∧ z ≤ 3000) ∧ Hid (c ≤ d) ∧ Hid (∃ rs, TB w.heap.size wq gn capn n rs (Tb.pow n fs (i + c))) ∧ Hid (∃ rs, TB w.heap.size wq ga capa n rs (Tb.upTo n fs i c)) ∧ Hid (Below (w.heap.size + 1) W0 wq)) (fun _ _ x _ => (a5 - intOf x).toNat)
        case atStart => exact ⟨0, g, cap, g, cap, (i : Int), rfl, rfl, rfl, by show _ = _; simp, by omega, by exact Nat.zero_le _, by exact ⟨rs, HT.out⟩, by exact ⟨rs, HT.out⟩, BK⟩
        case round =>
          obtain ⟨c, gn, capn, ga, capa, z, rfl, rfl, rfl, HZ, hzb, HC0, HP, HU, BK2⟩ := hrel
          obtain ⟨o4, o5, hbw2, hsw2⟩ := HBX.out wr BK2.out
          have HBW2 := hid hbw2
          clear hbw2 HT
          by_cases hc : c < d
          · have b3 : decide (z < a5) = true := by have := HZ.out; have := HD.out; simp; omega
            have ad2 : IntKind.i64.wrap (z + 1) = z + 1 := by simp [IntKind.wrap, IntKind.bits, IntKind.signed]; omega
            obtain ⟨rsn, hTn⟩ := HP.out
            obtain ⟨rsa, hTa⟩ := HU.out
            have HC := through44 n hn h1 wr hTn (HS.out.below HBW2.out)
            have HTa := hid hTa
            clear hTn hTa HP HU
            go_wp2_with (first | (go_at_call 44; (with_reducible refine HC.mono ?_); rintro e w2 ⟨g2, cap2, rs2, rfl, hT2, hb2⟩; have HB2 : Hid (Below (w.heap.size + 1) W0 w2) := BK2.out.trans (Joins.below_le hb2 (by omega)); have hs2w : w.heap.size + 1 ≤ w2.heap.size := (HBX.out w2 HB2.out).2.2.2; have HC2 := or45 n hn h1 w2 (HTa.out.below hb2) hT2; have HT2 := hid hT2; clear hT2 hb2 HC) | (go_at_call 45; (with_reducible refine HC2.mono ?_); rintro e w3 ⟨g3, cap3, rs3, rfl, hT3, hb3⟩; have HB3 : Hid (Below (w.heap.size + 1) W0 w3) := HB2.out.trans (Joins.below_le hb3 (by omega)); have HT3 : Hid (TB w.heap.size w3 g3 cap3 n rs3 (Tb.upTo n fs i (c + 1))) := hT3.le (by omega); have HT2' : Hid (TB w.heap.size w3 g2 cap2 n rs2 (Tb.pow n fs (i + (c + 1)))) := (HT2.out.below hb3).le (by omega); clear hT3 hb3 HC2 HT2))
            refine ⟨⟨c + 1, g2, cap2, g3, cap3, z + 1, rfl, rfl, rfl, by have := HZ.out; show _ = _; push_cast; omega, by have := HZ.out; have := HD.out; omega, by show _ ≤ _; omega, by exact ⟨rs2, HT2'.out⟩, by exact ⟨rs3, HT3.out⟩, HB3⟩, by have := HZ.out; have := HD.out; simp [intOf]; omega⟩
          · have hcd : c = d := by have := HC0.out; omega
            have b3 : decide (z < a5) = false := by have := HZ.out; have := HD.out; simp; omega
            obtain ⟨rsa, hTa⟩ := HU.out
            rw [hcd] at hTa
            have HTa := hid hTa
            clear hTa HU HP
            go_wp2
            go_ret
            exact ⟨ga, capa, rsa, rfl, by rw [HFA.out]; exact HTa.out, HBW2.out⟩
end Go.Proofs.Ytnpocciioedgpaa
