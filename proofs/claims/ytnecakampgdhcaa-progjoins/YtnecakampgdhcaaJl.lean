/- HELPERS: the law ProgJoins walked. -/
import Derived.Test.YtnecakampgdhcaaJk
import Derived.Test.YtnecakampgdhcaaJh
import Derived.Test.YtnecakampgdhcaaAi
namespace Go.Proofs.Ytnecakampgdhcaa
open Go.RowKit
set_option linter.unusedVariables false
set_option linter.unusedSimpArgs false
abbrev Z3 : Value := .agg #[.slice none 0 0, .int .i64 0, .int .i64 0]
abbrev BxP (w : World) (b : Nat) (ad : Option Addr) (n c : Nat) (s k : Int) : Prop := w.heap[b]? = some (.cells #[.slice ad n c, .int .i64 s, .int .i64 k] 24 (0, 0))
theorem bsP {U U' : World} {b : Nat} {o : Obj} (hb : Below U.heap.size U U') (h : U.heap[b]? = some o) : U'.heap[b]? = some o := (hb.block b (Array.getElem?_eq_some_iff.1 h).1).trans h
theorem turned13k {A : Nat → Prop} {w : World} {ad : Option Addr} {n c : Nat} {l : List In} {MS : List Iv} {s k : Int} {base : Nat} (h : PL w base ad n c l MS) (hn : n * 56 ≤ 140737488351232) (hA : ∀ b, (Value.slice ad (n + 2) c).ownBlock = some b → A b) (hAB : AB A MS) :
    Calls Try.prog 13 #[pv ad n c s k] w fun e w' => e = .returned (.tuple #[]) ∧ Chs A w w' ∧ ∀ (b' : Nat) (cs : Array Value) (fr : Nat × Nat), w.heap[b']? = some (.cells cs 24 fr) → w'.heap[b']? = some (.cells cs 24 fr) := by
  obtain ⟨gz, rfl, h1, h2⟩ := h.blk
  exact turned13c h hn (hA gz rfl) hAB
/-- what the law has behind its calls: the lent programs from the f-th on, their row, the boxes, what came out -/
structure S9 (U2 : World) (B Ba Bb zb x4 x9 x11 Nw cw ca ce : Nat) (D : List Dt) (L : List Pg) (arr : Array Value) (zw za ze : Option Addr) (MSa MSe : List Iv) (f : Nat) (w : World) : Prop where
  own : OWN w B D L f
  z : w.heap[zb]? = some (.cells arr 24 (0, 0))
  x4 : BxP w x4 zw Nw cw (resS L) (resK L)
  x9 : BxP w x9 za Nw ca (resS L) (resK L)
  x11 : BxP w x11 ze Nw ce (resS L) (resK L)
  ga : GR w Ba (.slice za Nw ca) MSa (resI L)
  ge : GR w Bb (.slice ze Nw ce) MSe (resI L)
  bl : Below B U2 w
  sz : B ≤ w.heap.size ∧ Ba ≤ w.heap.size ∧ Bb ≤ w.heap.size
section
variable {U2 w w' : World} {B Ba Bb zb x4 x9 x11 Nw cw ca ce f : Nat} {D : List Dt} {L : List Pg} {arr : Array Value} {zw za ze : Option Addr} {MSa MSe : List Iv}
theorem S9.below (h : S9 U2 B Ba Bb zb x4 x9 x11 Nw cw ca ce D L arr zw za ze MSa MSe f w) (hb : Below w.heap.size w w') : S9 U2 B Ba Bb zb x4 x9 x11 Nw cw ca ce D L arr zw za ze MSa MSe f w' :=
  ⟨h.own.below hb, bsP hb h.z, bsP hb h.x4, bsP hb h.x9, bsP hb h.x11, h.ga.below hb, h.ge.below hb, h.bl.trans (Joins.below_le hb h.sz.1), by have := hb.size; have := h.sz; omega⟩
theorem S9.turn (h : S9 U2 B Ba Bb zb x4 x9 x11 Nw cw ca ce D L arr zw za ze MSa MSe f w) (hf : f < D.length) (hc : Chs (fun b => (D.getD f default).lo ≤ b ∧ b < (D.getD f default).hi) w w') (h24 : ∀ (b' : Nat) (cs : Array Value) (fr : Nat × Nat), w.heap[b']? = some (.cells cs 24 fr) → w'.heap[b']? = some (.cells cs 24 fr)) (hhi : (D.getD f default).hi ≤ Ba) (hab : Ba ≤ Bb) :
    S9 U2 B Ba Bb zb x4 x9 x11 Nw cw ca ce D L arr zw za ze MSa MSe (f + 1) w' := by
  have hO := h.own.od f hf (Nat.le_refl _)
  refine ⟨⟨fun j hj hfj => (h.own.od j hj (by omega)).kept hc.size (fun b h1 h2 _ => ?_), h.own.ap⟩, h24 _ _ _ h.z, h24 _ _ _ h.x4, h24 _ _ _ h.x9, h24 _ _ _ h.x11, h.ga.kept (fun b h1 h2 _ => hc.block b h2 (fun h' => by omega)), h.ge.kept (fun b h1 h2 _ => hc.block b h2 (fun h' => by omega)), h.bl.trans (hc.low (fun b h' => by have := hO.blo; omega) h.sz.1), by have := hc.size; have := h.sz; omega⟩
  have hj' := h.own.od j hj (by omega)
  have := h.own.ap f j (by omega) hj
  exact hc.block b (by have := hj'.hs; omega) (fun h' => by omega)
end
set_option maxRecDepth 100000 in
set_option maxHeartbeats 32000000 in
theorem joins4 {w : World} {ad : Option Addr} {n c : Nat} {L : List Pg} (h : LP w w.heap.size ad n L) (hn : n * 40 ≤ 140737488351232) :
    Calls Try.prog 4 #[.slice ad n c] w fun e w' => e = .returned (.bool true) ∧ Below w.heap.size w w' := by
  obtain ⟨i24, hi24, hz240, hz241, hz242⟩ := info_parts info24
  have HL := hid h.len
  obtain ⟨B0, hB0⟩ : ∃ B0, B0 = w.heap.size := ⟨_, rfl⟩
  have HLP : Hid (LP w B0 ad n L) := by rw [hB0]; exact h
  have HBE := hid hB0
  have HC := awake7 w
  clear h
  go_enter Try.func4, Try.ntmps4
  go_upto_region 2 with (go_at_call 7; (with_reducible refine HC.mono ?_); rintro e U1 ⟨rfl, hb⟩; have HB1 := hid hb; clear hb HC)
  rw [← hB0] at HB1
  clear hB0
  have hs1 : B0 ≤ U1.heap.size := by have := HB1.out.size; have := HBE.out; omega
  have HC := rjoin15 (c := c) (HLP.out.kept HB1.out (B' := U1.heap.size) hs1)
  go_upto_region 3 with (go_at_call 15; (with_reducible refine HC.mono ?_); rintro e W1 ⟨zw, Nw, cw, MSw, rfl, hGw, hb⟩; have HGW := hid hGw; have HBW := hid hb; clear hb hGw HC)
  obtain ⟨U2, hU2⟩ : ∃ U2, U2 = W1.alloc (.cells #[.slice zw Nw cw, .int .i64 (resS L), .int .i64 (resK L)] 24) := ⟨_, rfl⟩
  rw [← hU2]
  obtain ⟨x4, hx4⟩ : ∃ x4, x4 = W1.heap.size := ⟨_, rfl⟩
  have HX4 : Hid (BxP U2 x4 zw Nw cw (resS L) (resK L)) := by rw [hU2, hx4]; exact heap_alloc_new W1 _
  rw [← hx4]
  have hb2 : Below U1.heap.size U1 U2 := by rw [hU2]; exact HBW.out.alloc HBW.out.size _
  have HB2 : Hid (Below B0 w U2) := HB1.out.trans (Joins.below_le hb2 hs1)
  obtain ⟨hNw, hPw⟩ := HGW.out.pi
  obtain ⟨B, hB⟩ : ∃ B, B = U2.heap.size := ⟨_, rfl⟩
  have hbW2 : Below W1.heap.size W1 U2 := by rw [hU2]; exact Joins.below_alloc1 W1 _
  have HW : Hid (PI U2 B zw Nw (resI L)) := hPw.kept hbW2 (by rw [hB]; exact hbW2.size)
  have HNW := hid hNw
  have hx4B : x4 < B := by rw [hB]; exact (Array.getElem?_eq_some_iff.1 HX4.out).1
  have hB0B : B0 ≤ B := by rw [hB]; have := hb2.size; omega
  have HBB := hid hB
  have hU2B : B ≤ U2.heap.size := by omega
  clear hU2 hx4 hb2 hNw hPw hbW2 HGW HBW HB1 hs1 hB
  go_wp2_with fail
  go_loopw [6, 7] (fun u y wq => ∃ (i : Nat) (z : Option Addr) (cz : Nat) (D : List Dt), u = .slice z i cz ∧ y = .int .i64 (i : Int) ∧ i ≤ n ∧ Hid (D.length = i) ∧ Hid (OWN wq B D L 0) ∧ Hid (wq.ownsRow B 24 3 (.slice z i cz) i (D.flatMap Dt.cs)) ∧ Hid (Below B U2 wq)) (fun _ y _ => n - (intOf y).toNat)
  case atStart => exact ⟨0, none, 0, [], rfl, rfl, by omega, rfl, ⟨fun j hj => by simp at hj, fun j j' _ hj => by simp at hj⟩, World.ownsRow_nil _ _ _ _, Below.refl _ _⟩
  case round =>
    obtain ⟨i, z, cz, D, rfl, rfl, hi, HD, HO, HR, HB⟩ := hrel
    have hBw : B ≤ wr.heap.size := by have := HB.out.size; omega
    by_cases hil : i < n
    · have b1 : decide ((i : Int) < (n : Int)) = true := by simp; omega
      have b2 : (i : Int) < (n : Int) := by omega
      have ad1 := wrap_ok ((i : Int) + 1) (by omega) (by omega)
      have hb0 : Below B0 w wr := HB2.out.trans (Joins.below_le HB.out hB0B)
      obtain ⟨b, o, PA, PN, PC, e, hbl, hcs⟩ := HLP.out.mem (by omega)
      subst e
      obtain ⟨hP3, hPI, hPN⟩ := hcs i hil
      obtain ⟨m0, m1, m2⟩ := hP3.kept (hb0.block b hbl)
      clear hcs hP3
      obtain ⟨pa, hpa⟩ : ∃ pa, pa = PA i := ⟨_, rfl⟩
      obtain ⟨pn, hpn⟩ : ∃ pn, pn = PN i := ⟨_, rfl⟩
      obtain ⟨pc, hpc⟩ : ∃ pc, pc = PC i := ⟨_, rfl⟩
      rw [← hpa, ← hpn, ← hpc] at m0
      rw [← hpa, ← hpn] at hPI
      rw [← hpn] at hPN
      clear hpa hpn hpc
      obtain ⟨P, hP⟩ : ∃ P, P = L.getD i default := ⟨_, rfl⟩
      rw [← hP] at m1 m2 hPI
      have HP := hid hP
      have HC := lent8 (c := pc) (s := P.s) (k := P.k) (hPI.kept hb0 (B' := wr.heap.size) (by have := hb0.size; omega)) hPN
      have hbw : b < wr.heap.size := by omega
      clear hP hPI hb0
      go_upto_region 8 with (go_at_call 8; (with_reducible refine HC.mono ?_); rintro e W ⟨ad1, c1, MS, rfl, hPL, hb⟩; have HPL := hid hPL; have HBW := hid hb; clear hPL hb HC)
      clear m0 m1 m2
      obtain ⟨V, hV⟩ : ∃ V, V = W.alloc (.cells #[.slice ad1 pn c1, .int .i64 P.s, .int .i64 P.k] 24) := ⟨_, rfl⟩
      rw [← hV]
      obtain ⟨p, hp⟩ : ∃ p, p = W.heap.size := ⟨_, rfl⟩
      have hX : BxP V p ad1 pn c1 P.s P.k := by rw [hV, hp]; exact heap_alloc_new W _
      rw [← hp]
      have hbV : Below W.heap.size W V := by rw [hV]; exact Joins.below_alloc1 W _
      have hbwV : Below wr.heap.size wr V := HBW.out.trans (Joins.below_le hbV HBW.out.size)
      have HO6 : Hid ((V.alloc (.cells #[.slice ad1 pn c1, .int .i64 P.s, .int .i64 P.k] 24)).ownsRow B 24 3 (.slice z i cz) i (D.flatMap Dt.cs)) := (row_kept HR.out (fun b hb => hbwV.block b (HR.out.lt b hb).2)).alloc _
      have HL6 : Hid ((V.alloc (.cells #[.slice ad1 pn c1, .int .i64 P.s, .int .i64 P.k] 24)).ownsRow 0 24 3 (.slice (some ⟨V.heap.size, 0, none⟩) 1 1) 1 [.slice ad1 pn c1, .int .i64 P.s, .int .i64 P.k]) := World.ownsRow_lit (base := 0) (e := 24) (size := 3) V #[.slice ad1 pn c1, .int .i64 P.s, .int .i64 P.k] 1 (Nat.zero_le _) (by unfold maxLen; omega) rfl
      have hone : ∀ u ∈ ([.slice ad1 pn c1, .int .i64 P.s, .int .i64 P.k] : List Value), u.oneCell' = true := fun u hu => by simp at hu; rcases hu with rfl | rfl | rfl <;> rfl
      have hVs : wr.heap.size ≤ V.heap.size := hbwV.size
      have hbs : B ≤ (V.alloc (.cells #[.slice ad1 pn c1, .int .i64 P.s, .int .i64 P.k] 24)).heap.size := by (try simp) <;> omega
      obtain ⟨c0', c1', c2'⟩ := three_cells hX
      have HBV := hid hbV
      have HBWV := hid hbwV
      have hWs : wr.heap.size ≤ W.heap.size := HBW.out.size
      have hWV : W.heap.size ≤ V.heap.size := hbV.size
      clear hV hp hX hbV hbwV
      go_wp2_with (at_builtin; refine wpList_append_row rfl (.tmp 37) (.tmp 39) 32 rfl B 24 i24 Z3 3 40 Try.underlying32 hi24 hz240 hz241 hz242 rfl (by decide) (.slice z i cz) i (D.flatMap Dt.cs) rfl HO6.out (.slice (some ⟨V.heap.size, 0, none⟩) 1 1) 1 0 [.slice ad1 pn c1, .int .i64 P.s, .int .i64 P.k] rfl HL6.out (by intro h; omega) hone (by unfold maxLen; omega) (by omega) hbs ?_; intro v7 w7 ho7 hf7 hn7; obtain ⟨y1, y3, rfl, hy3⟩ := row_shape ho7.out; clear hy3 hn7)
      have hz7 : V.heap.size + 1 ≤ w7.heap.size := by have := hf7.out.size; simpa using this
      have hk7 : ∀ b, b < V.heap.size → (Value.slice z i cz).ownBlock ≠ some b → w7.heap[b]? = V.heap[b]? := fun b hb hne => (hf7.out.block b (by (try simp) <;> omega) hne).trans (heap_alloc_old _ _ hb)
      have hzl : ∀ b, (Value.slice z i cz).ownBlock = some b → B ≤ b ∧ b < wr.heap.size := fun b hb => HR.out.lt b hb
      have hDi := HD.out
      have hOD : OD w7 B ⟨ad1, pn, c1, P.s, P.k, MS, wr.heap.size, W.heap.size⟩ (L.getD D.length default) := by
        rw [hDi, ← HP.out]
        refine ⟨(HPL.out.kept (w' := w7) (fun b hb => ?_)), rfl, rfl, hPN, hBw, fun b hb => (HPL.out.blo b hb).2, by show W.heap.size ≤ _; omega⟩
        have hb' := HPL.out.blo b hb
        exact (hk7 b (by omega) (fun h => by have := (hzl b h).2; omega)).trans (HBV.out.block b hb'.2)
      obtain ⟨d, hd⟩ : ∃ d : Dt, d = ⟨ad1, pn, c1, P.s, P.k, MS, wr.heap.size, W.heap.size⟩ := ⟨_, rfl⟩
      rw [← hd] at hOD
      have hdl : wr.heap.size ≤ d.lo := by rw [hd]; exact Nat.le_refl _
      have hdc : Dt.cs d = [.slice ad1 pn c1, .int .i64 P.s, .int .i64 P.k] := by rw [hd]
      have hnew : OWN w7 B (D ++ [d]) L 0 := HO.out.push (w' := w7) (d := d) (by omega) (fun j hj b hb hbk => by
        have hO := HO.out.od j hj (Nat.zero_le _)
        refine (hk7 b (by omega) (fun hz => ?_)).trans (HBWV.out.block b hb)
        rcases HR.out.2 with ⟨e, _⟩ | ⟨g', cap, cur, e, _, hg', _⟩
        · rw [e] at hz; cases hz
        · rw [e] at hz
          simp only [Value.ownBlock, Option.some.injEq] at hz
          exact hO.ne hbk hg' (by decide) (by decide) hz.symm) hOD hdl
      have hlen : (D ++ [d]).length = i + 1 := by simp [hDi]
      have hrow : w7.ownsRow B 24 3 (.slice y1 (i + 1) y3) (i + 1) ((D ++ [d]).flatMap Dt.cs) := by
        have e : (D ++ [d]).flatMap Dt.cs = D.flatMap Dt.cs ++ Dt.cs d := by simp [List.flatMap_append]
        rw [e, hdc]
        exact ho7.out
      refine ⟨⟨i + 1, y1, y3, D ++ [d], rfl, by push_cast; rfl, by omega, hlen, hnew, hrow, ?_⟩, by simp [intOf]; omega⟩
      · exact ⟨hf7.out.os.trans (HBWV.out.os.trans HB.out.os), hf7.out.tape.trans (HBWV.out.tape.trans HB.out.tape), hf7.out.output.trans (HBWV.out.output.trans HB.out.output), by have := HB.out.size; omega, fun b hb => (hk7 b (by omega) (fun h => by have := (hzl b h).1; omega)).trans ((HBWV.out.block b (by omega)).trans (HB.out.block b hb))⟩
    · have b1 : decide ((i : Int) < (n : Int)) = false := by simp; omega
      obtain rfl : n = i := by omega
      clear hi hil
      have hDn : D.length = n := HD.out
      have HO6 : Hid ((wr.alloc (.cells #[.slice none 0 0, .int .i64 (-77), .int .i64 0] 24)).ownsRow B 24 3 (.slice z n cz) n (D.flatMap Dt.cs)) := HR.out.alloc _
      have HL6 : Hid ((wr.alloc (.cells #[.slice none 0 0, .int .i64 (-77), .int .i64 0] 24)).ownsRow 0 24 3 (.slice (some ⟨wr.heap.size, 0, none⟩) 1 1) 1 [.slice none 0 0, .int .i64 (-77), .int .i64 0]) := World.ownsRow_lit (base := 0) (e := 24) (size := 3) wr #[.slice none 0 0, .int .i64 (-77), .int .i64 0] 1 (Nat.zero_le _) (by unfold maxLen; omega) rfl
      have hone : ∀ u ∈ ([.slice none 0 0, .int .i64 (-77), .int .i64 0] : List Value), u.oneCell' = true := fun u hu => by simp at hu; rcases hu with rfl | rfl | rfl <;> rfl
      have hbs : B ≤ (wr.alloc (.cells #[.slice none 0 0, .int .i64 (-77), .int .i64 0] 24)).heap.size := by (try simp) <;> omega
      have HDN := hid hDn
      clear hDn HD
      go_upto_region 10 with (at_builtin; refine wpList_append_row rfl (.tmp 41) (.tmp 43) 32 rfl B 24 i24 Z3 3 40 Try.underlying32 hi24 hz240 hz241 hz242 rfl (by decide) (.slice z n cz) n (D.flatMap Dt.cs) rfl HO6.out (.slice (some ⟨wr.heap.size, 0, none⟩) 1 1) 1 0 [.slice none 0 0, .int .i64 (-77), .int .i64 0] rfl HL6.out (by intro h; omega) hone (by unfold maxLen; omega) (by omega) hbs ?_; intro v7 U4 ho7 hf7 hn7; obtain ⟨y1, y3, rfl, hy3⟩ := row_shape ho7.out; have HY3 := hid hy3; clear hy3 hn7)
      obtain ⟨zb, hzb⟩ : ∃ zb, y1 = some ⟨zb, 0, none⟩ := by
        rcases ho7.out.2 with ⟨_, e⟩ | ⟨g, cap, cur, e, _⟩
        · omega
        · simp only [Value.slice.injEq] at e; exact ⟨g, e.1⟩
      subst hzb
      obtain ⟨arr, hzA⟩ : ∃ arr, U4.heap[zb]? = some (.cells arr 24 (0, 0)) := by
        rcases ho7.out.2 with ⟨_, e⟩ | ⟨g, cap, cur, e, _, hg, _⟩
        · omega
        · simp only [Value.slice.injEq, Option.some.injEq, Addr.mk.injEq] at e
          obtain ⟨⟨rfl, _⟩, _⟩ := e
          exact ⟨cur, hg⟩
      have HARR : Hid (∀ wq : World, wq.heap[zb]? = some (.cells arr 24 (0, 0)) → ∀ k, k < (n + 1) * 3 → wq.cell? ⟨zb, k, none⟩ = (D.flatMap Dt.cs ++ [.slice none 0 0, .int .i64 (-77), .int .i64 0])[k]?) := fun wq hq k hk => (cell_eq (hq.trans hzA.symm) k).trans (ho7.out.cellAt k hk)
      have HZ4 := hid hzA
      have hz7 : wr.heap.size + 1 ≤ U4.heap.size := by have := hf7.out.size; simpa using this
      have hk7 : ∀ b, b < wr.heap.size → (Value.slice z n cz).ownBlock ≠ some b → U4.heap[b]? = wr.heap[b]? := fun b hb hne => (hf7.out.block b (by (try simp) <;> omega) hne).trans (heap_alloc_old _ _ hb)
      have HO4 : Hid (OWN U4 B D L 0) := ⟨fun j hj hf => by
        have hO := HO.out.od j hj hf
        refine hO.kept (by omega) (fun b _ h1 hbk => hk7 b (by have := hO.hs; omega) (fun hz => ?_))
        rcases HR.out.2 with ⟨e, _⟩ | ⟨g', cap, cur, e, _, hg', _⟩
        · rw [e] at hz; cases hz
        · rw [e] at hz
          simp only [Value.ownBlock, Option.some.injEq] at hz
          exact hO.ne hbk hg' (by decide) (by decide) hz.symm, HO.out.ap⟩
      have HB4 : Hid (Below B U2 U4) := ⟨hf7.out.os.trans HB.out.os, hf7.out.tape.trans HB.out.tape, hf7.out.output.trans HB.out.output, by have := HB.out.size; omega, fun b hb => (hk7 b (by omega) (fun h => by have := (HR.out.lt b h).1; omega)).trans (HB.out.block b hb)⟩
      have hB4 : B ≤ U4.heap.size := by omega
      have hcap : n + 1 ≤ y3 := HY3.out.1
      have LPO : Hid (∀ wq : World, OWN wq B D L 0 → wq.heap[zb]? = some (.cells arr 24 (0, 0)) → LP wq wq.heap.size (some ⟨zb, 0, none⟩) n L) := fun wq ho hz => by
        have hl := HL.out
        have hd := HDN.out
        refine ⟨hl, fun hp => ⟨zb, 0, fun j => (D.getD j default).ad, fun j => (D.getD j default).n, fun j => (D.getD j default).c, rfl, (Array.getElem?_eq_some_iff.1 hz).1, fun j hj => ?_⟩⟩
        have hO := ho.od j (by omega) (Nat.zero_le _)
        have f := fun q hq => HARR.out wq hz (j * 3 + q) (by omega)
        have g := fun q hq => flat3 D [.slice none 0 0, .int .i64 (-77), .int .i64 0] j q (by omega) hq
        refine ⟨⟨?_, ?_, ?_⟩, hO.pl.pi, hO.sm⟩
        · rw [Nat.zero_add]; have := f 0 (by omega); rw [g 0 (by omega)] at this; exact this
        · rw [Nat.zero_add, ← hO.s]; have := f 1 (by omega); rw [g 1 (by omega)] at this; exact this
        · rw [Nat.zero_add, ← hO.k]; have := f 2 (by omega); rw [g 2 (by omega)] at this; exact this
      obtain ⟨Ba, hBa⟩ : ∃ Ba, Ba = U4.heap.size := ⟨_, rfl⟩
      have HHI : Hid (∀ j, j < n → (D.getD j default).hi ≤ Ba) := fun j hj => by rw [hBa]; exact (HO4.out.od j (by have := HDN.out; omega) (Nat.zero_le _)).hs
      clear hk7 hz7 hzA ho7 hf7 HO HR HB HO6 HL6 hone hbs hBw HY3 b1
      have u1 : (0 : Int) ≤ (n : Int) := by omega
      have u2 : (n : Int) ≤ (y3 : Int) := by omega
      have HC := join16 (c := y3) (LPO.out U4 HO4.out HZ4.out)
      go_upto_region 11 with (go_at_call 16; (with_reducible refine HC.mono ?_); rintro e W5 ⟨za, Na, ca, MSa, rfl, hGa, hb⟩; have HGA := hid hGa; have HBW := hid hb; clear hb hGa HC)
      obtain ⟨U5, hU5⟩ : ∃ U5, U5 = W5.alloc (.cells #[.slice za Na ca, .int .i64 (resS L), .int .i64 (resK L)] 24) := ⟨_, rfl⟩
      rw [← hU5]
      obtain ⟨x9, hx9⟩ : ∃ x9, x9 = W5.heap.size := ⟨_, rfl⟩
      have HX9 : Hid (BxP U5 x9 za Na ca (resS L) (resK L)) := by rw [hU5, hx9]; exact heap_alloc_new W5 _
      rw [← hx9]
      have hb5 : Below U4.heap.size U4 U5 := by rw [hU5]; exact HBW.out.alloc HBW.out.size _
      have hbW5 : Below W5.heap.size W5 U5 := by rw [hU5]; exact Joins.below_alloc1 W5 _
      have HGA5 : Hid (GR U5 Ba (.slice za Na ca) MSa (resI L)) := by rw [hBa]; exact HGA.out.below hbW5
      have HO5 : Hid (OWN U5 B D L 0) := HO4.out.below hb5
      have HZ5 : Hid (U5.heap[zb]? = some (.cells arr 24 (0, 0))) := bsP hb5 HZ4.out
      have HB5 : Hid (Below B U2 U5) := HB4.out.trans (Joins.below_le hb5 hB4)
      have h45 : U4.heap.size ≤ U5.heap.size := hb5.size
      have hx9s : x9 < U5.heap.size := (Array.getElem?_eq_some_iff.1 HX9.out).1
      have hx9B : B ≤ x9 := by rw [hx9]; have := HBW.out.size; omega
      clear hU5 hx9 hb5 hbW5 HGA HBW HO4 HZ4 HB4
      obtain ⟨Bb, hBb⟩ : ∃ Bb, Bb = U5.heap.size := ⟨_, rfl⟩
      have HC := join16 (c := y3) (LPO.out U5 HO5.out HZ5.out)
      go_upto_region 12 with (go_at_call 16; (with_reducible refine HC.mono ?_); rintro e W6 ⟨ze, Ne, ce, MSe, rfl, hGe, hb⟩; have HGE := hid hGe; have HBW := hid hb; clear hb hGe HC)
      obtain ⟨U6, hU6⟩ : ∃ U6, U6 = W6.alloc (.cells #[.slice ze Ne ce, .int .i64 (resS L), .int .i64 (resK L)] 24) := ⟨_, rfl⟩
      rw [← hU6]
      obtain ⟨x11, hx11⟩ : ∃ x11, x11 = W6.heap.size := ⟨_, rfl⟩
      have HX11 : Hid (BxP U6 x11 ze Ne ce (resS L) (resK L)) := by rw [hU6, hx11]; exact heap_alloc_new W6 _
      rw [← hx11]
      have hb6 : Below U5.heap.size U5 U6 := by rw [hU6]; exact HBW.out.alloc HBW.out.size _
      have hbW6 : Below W6.heap.size W6 U6 := by rw [hU6]; exact Joins.below_alloc1 W6 _
      have HGE6 : Hid (GR U6 Bb (.slice ze Ne ce) MSe (resI L)) := by rw [hBb]; exact HGE.out.below hbW6
      have HGA6 : Hid (GR U6 Ba (.slice za Na ca) MSa (resI L)) := HGA5.out.below hb6
      have HLA : Hid (∀ b, ((Value.slice za Na ca).ownBlock = some b ∨ ∃ j, j < Na ∧ (MSa.getD j default).rv.ownBlock = some b) → b < Bb) := fun b hb => by
        rw [hBb]
        rcases hb with hb | ⟨j, hj, hb⟩
        · exact (HGA5.out.row.lt b hb).2
        · exact (HGA5.out.low j b (by rw [← HGA5.out.pi.1]; exact hj) hb).2
      have HO6 : Hid (OWN U6 B D L 0) := HO5.out.below hb6
      have HZ6 : Hid (U6.heap[zb]? = some (.cells arr 24 (0, 0))) := bsP hb6 HZ5.out
      have HB6 : Hid (Below B U2 U6) := HB5.out.trans (Joins.below_le hb6 (by omega))
      have HX96 : Hid (BxP U6 x9 za Na ca (resS L) (resK L)) := bsP hb6 HX9.out
      have HX46 : Hid (BxP U6 x4 zw Nw cw (resS L) (resK L)) := (HB6.out.block x4 hx4B).trans HX4.out
      have h56 : U5.heap.size ≤ U6.heap.size := hb6.size
      have hx11s : x11 < U6.heap.size := (Array.getElem?_eq_some_iff.1 HX11.out).1
      have hx11B : B ≤ x11 := by rw [hx11]; have := HBW.out.size; omega
      have hBab : Ba ≤ Bb := by omega
      have hBa6 : B ≤ Ba := by omega
      have hBb6 : Bb ≤ U6.heap.size := by omega
      clear hU6 hx11 hb6 hbW6 HGE HBW HO5 HZ5 HB5 HX9 HGA5 u1 u2
      have hNa : Nw = Na := (HGA6.out.pi.1.trans HNW.out.symm).symm
      have hNe : Nw = Ne := (HGE6.out.pi.1.trans HNW.out.symm).symm
      have hNs : Nw ≤ 20000 := by rw [HNW.out]; exact (res_small L).1
      subst hNa hNe
      clear hBa hBb h45 h56
      have PW : Hid (∀ wq : World, Below B U2 wq → PI wq wq.heap.size zw Nw (resI L)) := fun wq hb => HW.out.kept hb (by have := hb.size; omega)
      have H6 : Hid (S9 U2 B Ba Bb zb x4 x9 x11 Nw cw ca ce D L arr zw za ze MSa MSe 0 U6) := ⟨HO6.out, HZ6.out, HX46.out, HX96.out, HX11.out, HGA6.out, HGE6.out, HB6.out, by omega, by omega, by omega⟩
      clear HO6 HZ6 HX46 HX96 HX11 HGA6 HGE6 HB6 HX4 hx9s hx9B hx11s hx11B hBb6 LPO
      have HC := same11 (c := ca) (c' := cw) (s := resS L) (k := resK L) H6.out.ga.pi.2 (PW.out U6 H6.out.bl) (by omega)
      obtain ⟨a0, a1, a2⟩ := three_cells H6.out.x9
      obtain ⟨b0, b1, b2⟩ := three_cells H6.out.x4
      go_upto_region 13 with (go_at_call 11; (with_reducible refine HC.mono ?_); rintro e U7 ⟨rfl, hb⟩; have HBS := hid hb; clear hb HC)
      clear a0 a1 a2 b0 b1 b2
      have H7 := hid (H6.out.below HBS.out)
      clear H6 HBS
      have HC := same11 (c := ce) (c' := cw) (s := resS L) (k := resK L) H7.out.ge.pi.2 (PW.out U7 H7.out.bl) (by omega)
      obtain ⟨a0, a1, a2⟩ := three_cells H7.out.x11
      obtain ⟨b0, b1, b2⟩ := three_cells H7.out.x4
      go_upto_region 14 with (go_at_call 11; (with_reducible refine HC.mono ?_); rintro e U8 ⟨rfl, hb⟩; have HBS := hid hb; clear hb HC)
      clear a0 a1 a2 b0 b1 b2
      have H8 := hid (H7.out.below HBS.out)
      clear H7 HBS
      have q77 : U8.cell? ⟨zb, n * 3 + 1, none⟩ = some (.int .i64 (-77)) := by
        rw [HARR.out U8 H8.out.z (n * 3 + 1) (by omega), ← HDN.out]
        exact flat3_last D _ _ _
      have u3 : (n : Int) < (n : Int) + 1 := by omega
      have u4 : (n : Int) < ((n + 1 : Nat) : Int) := by omega
      generalize hcd : joinC L = cd
      clear hcd
      go_wp2_with fail
      clear q77 u3 u4
      go_loopw [15] (fun y wq => ∃ i : Nat, y = .int .i64 (i : Int) ∧ i ≤ n ∧ Hid (S9 U2 B Ba Bb zb x4 x9 x11 Nw cw ca ce D L arr zw za ze MSa MSe i wq)) (fun y _ => n - (intOf y).toNat)
      case atStart => exact ⟨0, rfl, by omega, H8.out⟩
      case round =>
        clear H8
        obtain ⟨i, rfl, hi, HS⟩ := hrel
        by_cases hil : i < n
        · have b1 : decide ((i : Int) < (n : Int)) = true := by simp; omega
          have b2 : (i : Int) < (n : Int) := by omega
          have b3 : (i : Int) < (n : Int) + 1 := by omega
          have b4 : (i : Int) < ((n + 1 : Nat) : Int) := by omega
          have ad1 := wrap_ok ((i : Int) + 1) (by omega) (by omega)
          have hb0 : Below B0 w wr := HB2.out.trans (Joins.below_le HS.out.bl hB0B)
          obtain ⟨b, o, PA, PN, PC, e, hbl, hcs⟩ := HLP.out.mem (by omega)
          subst e
          obtain ⟨hP3, hPI, hPN⟩ := hcs i hil
          obtain ⟨m0, m1, m2⟩ := hP3.kept (hb0.block b hbl)
          clear hcs hP3
          obtain ⟨pa, hpa⟩ : ∃ pa, pa = PA i := ⟨_, rfl⟩
          obtain ⟨pn, hpn⟩ : ∃ pn, pn = PN i := ⟨_, rfl⟩
          obtain ⟨pc, hpc⟩ : ∃ pc, pc = PC i := ⟨_, rfl⟩
          rw [← hpa, ← hpn, ← hpc] at m0
          rw [← hpa, ← hpn] at hPI
          clear hpa hpn hpc hPN
          obtain ⟨P, hP⟩ : ∃ P, P = L.getD i default := ⟨_, rfl⟩
          obtain ⟨d, hd⟩ : ∃ d, d = D.getD i default := ⟨_, rfl⟩
          have hO := HS.out.own.od i (by have := HDN.out; omega) (Nat.le_refl _)
          rw [← hP] at m1 m2 hPI hO
          rw [← hd] at hO
          have f := fun q hq => HARR.out wr HS.out.z (i * 3 + q) (by omega)
          have g := fun q hq => flat3 D [.slice none 0 0, .int .i64 (-77), .int .i64 0] i q (by have := HDN.out; omega) hq
          rw [← hd] at g
          have k0 : wr.cell? ⟨zb, i * 3, none⟩ = some (.slice d.ad d.n d.c) := by have := f 0 (by omega); rw [g 0 (by omega)] at this; exact this
          have k1 : wr.cell? ⟨zb, i * 3 + 1, none⟩ = some (.int .i64 d.s) := by have := f 1 (by omega); rw [g 1 (by omega)] at this; exact this
          have k2 : wr.cell? ⟨zb, i * 3 + 2, none⟩ = some (.int .i64 d.k) := by have := f 2 (by omega); rw [g 2 (by omega)] at this; exact this
          have hdn : d.n = pn := by rw [hO.pl.len, hPI.len]
          rw [← hO.s] at m1
          rw [← hO.k] at m2
          subst hdn
          have hbw : b < wr.heap.size := by have := HS.out.sz; omega
          have hzw : zb < wr.heap.size := (Array.getElem?_eq_some_iff.1 HS.out.z).1
          have HO := hid hO
          have HD' := hid hd
          have HPW : Hid (PI wr wr.heap.size pa d.n P.l) := hPI.kept hb0 (by have := HS.out.sz; omega)
          have hdsm := hO.sm
          clear hd hP hO hPI hb0 f g
          have HR : ∀ W, W.heap = wr.heap → W.os = wr.os → W.tape = wr.tape → W.output = wr.output → Calls Try.prog 11 #[pv d.ad d.n d.c d.s d.k, pv pa d.n pc d.s d.k] W fun e w' => e = .returned (.bool true) ∧ Below wr.heap.size wr w' := by
            intro W e1 e2 e3 e4
            have hbW : Below wr.heap.size wr W := ⟨e2, e3, e4, by rw [e1]; exact Nat.le_refl _, fun k hk => by rw [e1]⟩
            refine (same11 (HO.out.pl.pi.kept hbW hbW.size) (HPW.out.kept hbW hbW.size) (by omega)).mono ?_
            rintro e w' ⟨h1, h2⟩
            exact ⟨h1, hbW.trans (Joins.below_le h2 hbW.size)⟩
          have HRR := hid HR
          clear HR
          go_upto_region 19 with fail
          go_region_held3 (fun W => W.cell? ⟨zb, i * 3, none⟩ = some (.slice d.ad d.n d.c) ∧ W.cell? ⟨zb, i * 3 + 1, none⟩ = some (.int .i64 d.s) ∧ W.cell? ⟨zb, i * 3 + 2, none⟩ = some (.int .i64 d.k) ∧ W.cell? ⟨b, o + i * 3, none⟩ = some (.slice pa d.n pc) ∧ W.cell? ⟨b, o + i * 3 + 1, none⟩ = some (.int .i64 d.s) ∧ W.cell? ⟨b, o + i * 3 + 2, none⟩ = some (.int .i64 d.k)) (first | (exact ⟨e0, e1, e2, e3, e4, e5⟩) | (simp [*]; done)) (first | (go_at_call 11; (with_reducible refine (HRR.out _ ?_ ?_ ?_ ?_).mono ?_); (rfl); (rfl); (rfl); (rfl); rintro e w2 ⟨rfl, hb2⟩; have e0 := (cell_eq (hb2.block zb hzw) _).trans k0; have e1 := (cell_eq (hb2.block zb hzw) _).trans k1; have e2 := (cell_eq (hb2.block zb hzw) _).trans k2; have e3 := (cell_eq (hb2.block b hbw) _).trans m0; have e4 := (cell_eq (hb2.block b hbw) _).trans m1; have e5 := (cell_eq (hb2.block b hbw) _).trans m2; have HBB2 := hid hb2; clear hb2))
          have HS2 := hid (HS.out.below HBB2.out)
          have HO2 := hid (HO.out.below HBB2.out)
          have HC := kept12 (s := d.s) (k := d.k) HO2.out.pl hdsm
          clear k0 k1 k2 m0 m1 m2 e3 e4 e5 HS HO HRR HPW
          have hz2 : zb < w2.heap.size := (Array.getElem?_eq_some_iff.1 HS2.out.z).1
          go_upto_region 21 with (go_at_call 12; (with_reducible refine HC.mono ?_); rintro e w3 ⟨rfl, hb3⟩; have HBB3 := hid hb3; clear hb3 HC)
          have k0 := (cell_eq (HBB3.out.block zb hz2) _).trans e0
          have k1 := (cell_eq (HBB3.out.block zb hz2) _).trans e1
          have k2 := (cell_eq (HBB3.out.block zb hz2) _).trans e2
          have HS3 := hid (HS2.out.below HBB3.out)
          have hO3 := HO2.out.below HBB3.out
          have hA : ∀ b, (Value.slice d.ad (d.n + 2) d.c).ownBlock = some b → d.lo ≤ b ∧ b < d.hi := fun b hb => ⟨(hO3.pl.blo b (.inl hb)).1, hO3.hi b (.inl hb)⟩
          have hAB : AB (fun b => d.lo ≤ b ∧ b < d.hi) d.MS := fun j b hb => ⟨(hO3.pl.blo b (.inr ⟨j, hb⟩)).1, hO3.hi b (.inr ⟨j, hb⟩)⟩
          have HC := turned13k (A := fun b => d.lo ≤ b ∧ b < d.hi) (s := d.s) (k := d.k) hO3.pl hdsm hA hAB
          clear e0 e1 e2 HS2 HO2 hO3 hA hAB HBB2 HBB3
          go_wp2_with (go_at_call 13; (with_reducible refine HC.mono ?_); rintro e w4 ⟨rfl, hc4, h24⟩; have HC4 := hid hc4; have H24 := hid h24; clear hc4 h24 HC)
          have hc4 := HC4.out
          rw [HD'.out] at hc4
          have hDl : i < D.length := by have := HDN.out; omega
          exact ⟨⟨i + 1, by push_cast; rfl, by omega, HS3.out.turn hDl hc4 H24.out (HHI.out i hil) hBab⟩, by simp [intOf]; omega⟩
        · have b1 : decide ((i : Int) < (n : Int)) = false := by simp; omega
          obtain rfl : n = i := by omega
          have HC := same11 (c := ca) (c' := cw) (s := resS L) (k := resK L) HS.out.ga.pi.2 (PW.out wr HS.out.bl) (by omega)
          obtain ⟨a0, a1, a2⟩ := three_cells HS.out.x9
          obtain ⟨b0, b1', b2⟩ := three_cells HS.out.x4
          go_upto_region 25 with (go_at_call 11; (with_reducible refine HC.mono ?_); rintro e w2 ⟨rfl, hb⟩; have HBS := hid hb; clear hb HC)
          clear a0 a1 a2 b0 b1' b2
          have HS2 := hid (HS.out.below HBS.out)
          clear HS HBS
          obtain ⟨V, hV⟩ : ∃ V, V = w2.alloc (.cells #[.slice za Nw ca, .int .i64 (resS L), .int .i64 (resK L), .slice ze Nw ce, .int .i64 (resS L), .int .i64 (resK L)] 24) := ⟨_, rfl⟩
          have hbV : Below w2.heap.size w2 V := by rw [hV]; exact Joins.below_alloc1 w2 _
          have hG : V.heap[w2.heap.size]? = some (.cells #[.slice za Nw ca, .int .i64 (resS L), .int .i64 (resK L), .slice ze Nw ce, .int .i64 (resS L), .int .i64 (resK L)] 24 (0, 0)) := by rw [hV]; exact heap_alloc_new w2 _
          have hSV := HS2.out.below hbV
          have hTwo : Two V (fun i => if i = 0 then za else ze) (fun _ => Nw) (fun i => if i = 0 then ca else ce) (fun i => if i = 0 then MSa else MSe) (fun _ => resI L) Bb := by
            refine ⟨fun j hj => ?_, fun j hj => hNs, fun j hj => (res_small L).2, fun b hb => HLA.out b hb, fun b hb => ?_⟩
            · by_cases e : j = 0
              · simp only [e, if_true]; exact hSV.ga.mono (Nat.zero_le _)
              · simp only [e, if_false]; exact hSV.ge.mono (Nat.zero_le _)
            · rcases hb with hb | ⟨j, hj, hb⟩
              · exact (hSV.ge.row.lt b hb).1
              · exact (hSV.ge.low j b (by rw [← hSV.ge.pi.1]; exact hj) hb).1
          have hLc : ∀ j, j < 2 → V.cell? ⟨w2.heap.size, j * 3, none⟩ = some (.slice (if j = 0 then za else ze) Nw (if j = 0 then ca else ce)) := fun j hj => by
            rcases Nat.lt_or_ge j 1 with h' | h'
            · obtain rfl : j = 0 := by omega
              exact Joins.cell_of_block hG 0
            · obtain rfl : j = 1 := by omega
              exact Joins.cell_of_block hG 3
          have HC := own17 (SS := fun _ => 0) (KK := fun _ => 0) hTwo hLc (Array.getElem?_eq_some_iff.1 hG).1
          have hfin : ∀ w', Chs (fun b => BK (fun i => if i = 0 then za else ze) (fun _ => Nw) (fun i => if i = 0 then ca else ce) (fun i => if i = 0 then MSa else MSe) 0 b ∨ BK (fun i => if i = 0 then za else ze) (fun _ => Nw) (fun i => if i = 0 then ca else ce) (fun i => if i = 0 then MSa else MSe) 1 b) V w' → Below B0 w w' := fun w' hc => by
            have h1 : Below B U2 w' := hSV.bl.trans (hc.low (fun b hb => ?_) hSV.sz.1)
            · exact HB2.out.trans (Joins.below_le h1 hB0B)
            · rcases hb with hb | hb
              · rcases hb with hb | ⟨j, hj, hb⟩
                · have := (hSV.ga.row.lt b hb).1; omega
                · have := (hSV.ga.low j b (by rw [← hSV.ga.pi.1]; exact hj) hb).1; omega
              · rcases hb with hb | ⟨j, hj, hb⟩
                · have := (hSV.ge.row.lt b hb).1; omega
                · have := (hSV.ge.low j b (by rw [← hSV.ge.pi.1]; exact hj) hb).1; omega
          have HFIN := hid hfin
          obtain ⟨a0, a1, a2⟩ := three_cells HS2.out.x9
          obtain ⟨b0, b1', b2⟩ := three_cells HS2.out.x11
          rw [hV] at HC
          clear hfin hLc hTwo hSV hG hbV
          go_wp2_with (go_at_call 17; (with_reducible refine HC.mono ?_); rintro e w5 ⟨rfl, hc5⟩; have HC5 := hid hc5; clear hc5 HC)
          go_ret
          refine ⟨rfl, ?_⟩
          rw [← HBE.out]
          exact HFIN.out w5 (by rw [hV]; exact HC5.out)
end Go.Proofs.Ytnecakampgdhcaa
