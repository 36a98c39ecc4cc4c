/- HELPERS: Da, Rd, Db, Dc, Dd, Df, De. -/
import Derived.Test.YtiggbgmnibndoaaK02
import Derived.OwnWalk
import Derived.Deep.RegionHeld3
/- HELPERS: the document's run in memory. -/
namespace Go.Proofs.Ytiggbgmnibndoaa
open Go.RowKit Go.Lk
set_option linter.unusedVariables false
set_option linter.unusedSimpArgs false
/-- what the cells of the document's run hold -/
structure Rv where
  ad : Option Addr
  n : Nat
  c : Nat
  S : Nat
  K : Nat
  tad : Option Addr
  tn : Nat
  tc : Nat
  j : Nat
  mb : Nat
  z : Option Addr
  n2 : Nat
  c2 : Nat
  fok : Bool
  f1 : Option Addr
  f2 : Nat
  f3 : Nat
  fw : Int
  fs : Nat
  ov : Bool
abbrev Rv.cs (M : Rv) : Array Value := #[.slice M.ad M.n M.c, .int .i64 (M.S : Int), .int .i64 (M.K : Int), .slice M.tad M.tn M.tc, .int .i64 (M.j : Int), .slice (some ⟨M.mb, 0, none⟩) M.n M.n, .slice M.z M.n2 M.c2, .bool M.fok, .slice M.f1 M.f2 M.f3, .int .i64 M.fw, .int .i64 (M.fs : Int), .bool M.ov]
def RB (w : World) (b : Nat) (M : Rv) : Prop := w.heap[b]? = some (.cells M.cs 74 (0, 0))
theorem RB.c {w : World} {b : Nat} {M : Rv} (h : RB w b M) (k : Nat) : w.cell? ⟨b, k, none⟩ = M.cs[k]? := Joins.cell_of_block h k
theorem RB.u {w : World} {b : Nat} {M : Rv} (h : RB w b M) (k : Nat) : w.frozen? ⟨b, k, none⟩ = false := Joins.unfrozen_of_block h k
theorem RB.lt {w : World} {b : Nat} {M : Rv} (h : RB w b M) : b < w.heap.size := (Array.getElem?_eq_some_iff.1 h).1
theorem RB.kept {w w' : World} {b : Nat} {M : Rv} (h : RB w b M) (hk : w'.heap[b]? = w.heap[b]?) : RB w' b M := hk.trans h
theorem RB.upd {w : World} {b : Nat} {M : Rv} (h : RB w b M) (k : Nat) (v : Value) (M' : Rv) (he : M.cs.setIfInBounds k v = M'.cs) : RB (w.setCell ⟨b, k, none⟩ v) b M' := by
  have := Joins.block_setCell (i := k) h v
  rw [he] at this
  exact this
/-- a thread: its instruction, its captures' block and room, the captures -/
structure Ef where
  i : Nat
  b : Nat
  q : Nat
  c : List Int
instance : Inhabited Ef := ⟨⟨0, 0, 0, []⟩⟩
def Ef.th (e : Ef) : Th := (e.i, e.c)
def Ef.cs (K : Nat) (e : Ef) : List Value := [.int .i64 (e.i : Int), .slice (some ⟨e.b, 0, none⟩) K e.q]
def cellsF (K : Nat) (E : List Ef) : List Value := E.flatMap (Ef.cs K)
theorem cellsF_get (K : Nat) : ∀ (E : List Ef) (k : Nat) (hk : k < E.length) (o : Nat), o < 2 → (cellsF K E)[k * 2 + o]? = (Ef.cs K E[k])[o]?
  | e :: E, 0, _, o, ho => by
    simp only [cellsF, List.flatMap_cons]
    rw [List.getElem?_append_left (by simp [Ef.cs]; omega)]
    simp
  | e :: E, k + 1, hk, o, ho => by
    have := cellsF_get K E k (by simpa using hk) o ho
    simp only [cellsF, List.flatMap_cons] at this ⊢
    rw [List.getElem?_append_right (by simp [Ef.cs]; omega)]
    rw [show (k + 1) * 2 + o - (Ef.cs K e).length = k * 2 + o by simp [Ef.cs]; omega]
    simpa using this
theorem cellsF_snoc (K : Nat) (E : List Ef) (e : Ef) : cellsF K (E ++ [e]) = cellsF K E ++ Ef.cs K e := by simp [cellsF]
/-- a row of threads -/
structure RT (w : World) (N K : Nat) (z : Option Addr) (n c : Nat) (E : List Ef) : Prop where
  len : n = E.length
  row : w.ownsRow N 77 2 (.slice z n c) n (cellsF K E)
  caps : ∀ e ∈ E, w.ownsRow N 3 1 (.slice (some ⟨e.b, 0, none⟩) K e.q) K (I64 e.c)
/-- what is found, in memory -/
def GD (w : World) (N K : Nat) (M : Rv) : Fd → Prop
  | none => M.fok = false ∧ M.f1 = none ∧ M.f2 = 0 ∧ M.f3 = 0 ∧ M.fw = 0
  | some y => ∃ g, M.fok = true ∧ M.f1 = some ⟨g, 0, none⟩ ∧ M.f2 = K ∧ M.fw = y.1 ∧ w.ownsRow N 3 1 (.slice (some ⟨g, 0, none⟩) K M.f3) K (I64 y.2)
def UF (b : Nat) (M : Rv) : List Nat := b :: M.mb :: zF M.z M.n2 M.c2
/-- the document's run while a place is visited -/
structure WJ (w : World) (N b B0 : Nat) (l : List In) (tx : List Int) (M : Rv) (s : Vst) (E : List Ef) : Prop where
  rb : RB w b M
  nb : N ≤ b
  nw : N ≤ w.heap.size
  pi : PI w N M.ad M.n l
  tt : TextAt N w M.tad M.tn tx
  hj : M.j ≤ M.tn
  met : N ≤ M.mb ∧ ∃ arr : Array Value, w.heap[M.mb]? = some (.cells arr 4 (0, 0)) ∧ arr.size = l.length ∧ ∀ i, i < l.length → arr[i]? = some (.bool (s.met.contains i))
  row : RT w N M.K M.z M.n2 M.c2 E
  nx : E.map Ef.th = s.next
  fd : GD w N M.K M s.found
  ov : M.ov = s.over
  fs : M.fs = B0 + s.met.length
/-- a call that writes to none of the blocks of numbers leaves them -/
theorem three_kept {w w' : World} {F F' : List Nat} {N n : Nat} {v : Value} {xs : List Value} (hc : Chg w w' F F') (h : w.ownsRow N 3 1 v n xs) (hF : ∀ k ∈ F, ∀ cs fr, w.heap[k]? ≠ some (.cells cs 3 fr)) : w'.ownsRow N 3 1 v n xs :=
  row_kept h (fun k hk => hc.block k (h.lt k hk).2 (fun hm => by
    rcases h.2 with ⟨e, _⟩ | ⟨g, cap, cur, e, _, hg, _⟩
    · rw [e] at hk; cases hk
    · rw [e] at hk; simp [Value.ownBlock] at hk; subst hk; exact hF _ hm _ _ hg))
section
variable {w w' : World} {N b B0 : Nat} {l : List In} {tx : List Int} {M M' : Rv} {s s' : Vst} {E E' : List Ef}
theorem WJ.no3 (h : WJ w N b B0 l tx M s E) : ∀ k ∈ UF b M, ∀ cs fr, w.heap[k]? ≠ some (.cells cs 3 fr) := by
  intro k hk cs fr he
  obtain ⟨_, arr, ha, _⟩ := h.met
  simp only [UF, List.mem_cons] at hk
  rcases hk with rfl | rfl | hk
  · have := h.rb; unfold RB at this; rw [he] at this; simp at this
  · rw [he] at ha; simp at ha
  · exact own_ne h.row.row he (by decide) (by simpa [zF] using hk)
theorem WJ.low (h : WJ w N b B0 l tx M s E) : ∀ k ∈ UF b M, N ≤ k ∧ k < w.heap.size := by
  intro k hk
  obtain ⟨hn, arr, ha, _⟩ := h.met
  simp only [UF, List.mem_cons] at hk
  rcases hk with rfl | rfl | hk
  · exact ⟨h.nb, h.rb.lt⟩
  · exact ⟨hn, (Array.getElem?_eq_some_iff.1 ha).1⟩
  · exact h.row.row.lt k (by simpa [zF] using hk)
theorem WJ.bm (h : WJ w N b B0 l tx M s E) : M.mb ≠ b := fun e => by
  obtain ⟨_, arr, ha, _⟩ := h.met
  rw [e] at ha
  have := h.rb; unfold RB at this; rw [ha] at this; simp at this
theorem WJ.zb (h : WJ w N b B0 l tx M s E) : ∀ k ∈ zF M.z M.n2 M.c2, k ≠ b ∧ k ≠ M.mb := fun k hk => by
  obtain ⟨_, arr, ha, _⟩ := h.met
  have hk' : (Value.slice M.z M.n2 M.c2).ownBlock = some k := by simpa [zF] using hk
  exact ⟨fun e => own_ne h.row.row h.rb (by decide) (e ▸ hk'), fun e => own_ne h.row.row ha (by decide) (e ▸ hk')⟩
theorem GD.same {K : Nat} {fd : Fd} (h : GD w N K M fd) (h1 : ∀ n xs v, w.ownsRow N 3 1 v n xs → w'.ownsRow N 3 1 v n xs) (e : M'.fok = M.fok ∧ M'.f1 = M.f1 ∧ M'.f2 = M.f2 ∧ M'.f3 = M.f3 ∧ M'.fw = M.fw) : GD w' N K M' fd := by
  obtain ⟨e1, e2, e3, e4, e5⟩ := e
  cases fd with
  | none => obtain ⟨g1, g2, g3, g4, g5⟩ := h; exact ⟨e1.trans g1, e2.trans g2, e3.trans g3, e4.trans g4, e5.trans g5⟩
  | some y => obtain ⟨g, g1, g2, g3, g4, g5⟩ := h; exact ⟨g, e1.trans g1, e2.trans g2, e3.trans g3, e5.trans g4, by rw [e4]; exact h1 _ _ _ g5⟩
/-- new blocks alone -/
theorem WJ.kept (h : WJ w N b B0 l tx M s E) (hb : Below w.heap.size w w') : WJ w' N b B0 l tx M s E := by
  obtain ⟨hn, arr, ha, hr⟩ := h.met
  have h3 : ∀ n xs v, w.ownsRow N 3 1 v n xs → w'.ownsRow N 3 1 v n xs := fun n xs v ho => row_kept ho (fun k hk => hb.block k (ho.lt k hk).2)
  exact ⟨h.rb.kept (hb.block b h.rb.lt), h.nb, Nat.le_trans h.nw hb.size, h.pi.kept (hb.mono h.nw) (Nat.le_refl _), h.tt.below (hb.mono h.nw), h.hj, ⟨hn, arr, (hb.block _ (Array.getElem?_eq_some_iff.1 ha).1).trans ha, hr⟩, ⟨h.row.len, row_kept h.row.row (fun k hk => hb.block k (h.row.row.lt k hk).2), fun e he => h3 _ _ _ (h.row.caps e he)⟩, h.nx, h.fd.same h3 ⟨rfl, rfl, rfl, rfl, rfl⟩, h.ov, h.fs⟩
/-- an instruction is met -/
theorem WJ.mark (h : WJ w N b B0 l tx M s E) {i : Nat} (hi : i < l.length) (hm : i ∉ s.met) : WJ ((w.setCell ⟨M.mb, i, none⟩ (.bool true)).setCell ⟨b, 10, none⟩ (.int .i64 ((M.fs + 1 : Nat) : Int))) N b B0 l tx { M with fs := M.fs + 1 } (s.mark i) E ∧
    Chg w ((w.setCell ⟨M.mb, i, none⟩ (.bool true)).setCell ⟨b, 10, none⟩ (.int .i64 ((M.fs + 1 : Nat) : Int))) (UF b M) (UF b M) := by
  obtain ⟨hn, arr, ha, hsz, hr⟩ := h.met
  have hc : Chg w ((w.setCell ⟨M.mb, i, none⟩ (.bool true)).setCell ⟨b, 10, none⟩ (.int .i64 ((M.fs + 1 : Nat) : Int))) (UF b M) (UF b M) := ((Chg.refl w (UF b M)).set (a := ⟨M.mb, i, none⟩) _ (by simp [UF])).set (a := ⟨b, 10, none⟩) _ (by simp [UF])
  have hbel := hc.below h.nw (fun k hk => (h.low k hk).1)
  have h3 : ∀ n xs v, w.ownsRow N 3 1 v n xs → (((w.setCell ⟨M.mb, i, none⟩ (.bool true)).setCell ⟨b, 10, none⟩ (.int .i64 ((M.fs + 1 : Nat) : Int)))).ownsRow N 3 1 v n xs := fun n xs v ho => three_kept hc ho h.no3
  have hrb : RB (w.setCell ⟨M.mb, i, none⟩ (.bool true)) b M := h.rb.kept (Below.heap_setCell _ _ _ _ (fun e => h.bm e.symm))
  refine ⟨⟨hrb.upd 10 _ _ rfl, h.nb, Nat.le_trans h.nw hbel.size, h.pi.kept hbel (Nat.le_refl _), h.tt.below hbel, h.hj, ⟨hn, arr.setIfInBounds i (.bool true), ?_, by simpa using hsz, fun k hk => ?_⟩, ⟨h.row.len, ?_, fun e he => h3 _ _ _ (h.row.caps e he)⟩, h.nx, h.fd.same h3 ⟨rfl, rfl, rfl, rfl, rfl⟩, h.ov, ?_⟩, hc⟩
  · exact (Below.heap_setCell _ _ _ _ h.bm).trans (Joins.block_setCell (i := i) ha _)
  · simp only [Vst.mark]
    by_cases e : i = k
    · subst e; simp [hsz, hi]
    · rw [Array.getElem?_setIfInBounds_ne e, hr k hk]
      congr 2
      rw [Bool.eq_iff_iff]
      simp
      exact fun h' => absurd h'.symm e
  · exact own_setCell (own_setCell h.row.row (fun e => (h.zb M.mb (by simp [zF, e])).2 rfl)) (fun e => (h.zb b (by simp [zF, e])).1 rfl)
  · show M.fs + 1 = B0 + (s.met ++ [i]).length
    rw [List.length_append, h.fs]; simp; omega
/-- a thread was put -/
theorem WJ.put {V w7 : World} {y1 : Option Addr} {y3 : Nat} {x cb cq : Nat} {c : List Int} (h : WJ w N b B0 l tx M s E) (hb : Below w.heap.size w V) (hf : Frm V w7 (.slice M.z M.n2 M.c2) (.slice y1 (M.n2 + 1) y3)) (hr : w7.ownsRow N 77 2 (.slice y1 (M.n2 + 1) y3) (M.n2 + 1) (cellsF M.K E ++ Ef.cs M.K ⟨x, cb, cq, c⟩)) (hcp : w.ownsRow N 3 1 (.slice (some ⟨cb, 0, none⟩) M.K cq) M.K (I64 c)) :
    WJ (w7.setCell ⟨b, 6, none⟩ (.slice y1 (M.n2 + 1) y3)) N b B0 l tx { M with z := y1, n2 := M.n2 + 1, c2 := y3 } { s with next := s.next ++ [(x, c)] } (E ++ [⟨x, cb, cq, c⟩]) ∧ Chg w (w7.setCell ⟨b, 6, none⟩ (.slice y1 (M.n2 + 1) y3)) (UF b M) (UF b { M with z := y1, n2 := M.n2 + 1, c2 := y3 }) := by
  obtain ⟨hn, arr, ha, hsz, hrr⟩ := h.met
  have hs := hb.size
  have hs7 := hf.size
  have hkk : ∀ k, k < w.heap.size → k ∉ zF M.z M.n2 M.c2 → w7.heap[k]? = w.heap[k]? := fun k hk hz => (hf.block k (by omega) (fun e => hz (by simp [zF, e]))).trans (hb.block k hk)
  have hc : Chg w (w7.setCell ⟨b, 6, none⟩ (.slice y1 (M.n2 + 1) y3)) (UF b M) (UF b { M with z := y1, n2 := M.n2 + 1, c2 := y3 }) := by
    refine ⟨hf.os.trans hb.os, hf.tape.trans hb.tape, hf.output.trans hb.output, by simp [World.setCell]; omega, fun k hk hz => ?_, fun k hk => ?_⟩
    · simp only [UF, List.mem_cons, not_or] at hz
      exact (Below.heap_setCell _ _ _ _ hz.1).trans (hkk k hk hz.2.2)
    · simp only [UF, List.mem_cons, zF, Option.mem_toList] at hk ⊢
      rcases hk with rfl | rfl | hk
      · exact .inl (.inl rfl)
      · exact .inl (.inr (.inl rfl))
      · rcases hf.own k hk with h' | h'
        · exact .inl (.inr (.inr h'))
        · exact .inr (by omega)
  have hbel := hc.below h.nw (fun k hk => (h.low k hk).1)
  have h3 : ∀ n xs v, w.ownsRow N 3 1 v n xs → (w7.setCell ⟨b, 6, none⟩ (.slice y1 (M.n2 + 1) y3)).ownsRow N 3 1 v n xs := fun n xs v ho => three_kept hc ho h.no3
  have hbz : b ∉ zF M.z M.n2 M.c2 := fun hm => (h.zb b hm).1 rfl
  have hmz : M.mb ∉ zF M.z M.n2 M.c2 := fun hm => (h.zb _ hm).2 rfl
  have hyb : (Value.slice y1 (M.n2 + 1) y3).ownBlock ≠ some b := fun e => by
    rcases hf.own b e with h' | h'
    · exact hbz (by simp [zF, h'])
    · have := h.rb.lt; omega
  refine ⟨⟨(h.rb.kept (hkk b h.rb.lt hbz)).upd 6 _ _ rfl, h.nb, Nat.le_trans h.nw hbel.size, h.pi.kept hbel (Nat.le_refl _), h.tt.below hbel, h.hj, ⟨hn, arr, (Below.heap_setCell _ _ _ _ h.bm).trans ((hkk _ (Array.getElem?_eq_some_iff.1 ha).1 hmz).trans ha), hsz, hrr⟩, ⟨by rw [List.length_append, ← h.row.len]; rfl, ?_, fun e he => ?_⟩, ?_, h.fd.same h3 ⟨rfl, rfl, rfl, rfl, rfl⟩, h.ov, h.fs⟩, hc⟩
  · rw [cellsF_snoc]; exact own_setCell hr hyb
  · rcases List.mem_append.1 he with he | he
    · exact h3 _ _ _ (h.row.caps e he)
    · simp at he; subst he; exact h3 _ _ _ hcp
  · rw [List.map_append, h.nx]; rfl
/-- a match was met -/
theorem WJ.fit {V : World} {g q : Nat} {a : Int} {c : List Int} (h : WJ w N b B0 l tx M s E) (hb : Below w.heap.size w V) (hr : V.ownsRow N 3 1 (.slice (some ⟨g, 0, none⟩) M.K q) M.K (I64 c)) :
    WJ ((((V.setCell ⟨b, 7, none⟩ (.bool true)).setCell ⟨b, 8, none⟩ (.slice (some ⟨g, 0, none⟩) M.K q)).setCell ⟨b, 9, none⟩ (.int .i64 a)).setCell ⟨b, 11, none⟩ (.bool true)) N b B0 l tx { M with fok := true, f1 := some ⟨g, 0, none⟩, f2 := M.K, f3 := q, fw := a, ov := true } { s with found := some (a, c), over := true } E ∧
    Chg w ((((V.setCell ⟨b, 7, none⟩ (.bool true)).setCell ⟨b, 8, none⟩ (.slice (some ⟨g, 0, none⟩) M.K q)).setCell ⟨b, 9, none⟩ (.int .i64 a)).setCell ⟨b, 11, none⟩ (.bool true)) (UF b M) (UF b M) := by
  have hV := h.kept hb
  obtain ⟨hn, arr, ha, hsz, hrr⟩ := hV.met
  have hc0 : Chg V ((((V.setCell ⟨b, 7, none⟩ (.bool true)).setCell ⟨b, 8, none⟩ (.slice (some ⟨g, 0, none⟩) M.K q)).setCell ⟨b, 9, none⟩ (.int .i64 a)).setCell ⟨b, 11, none⟩ (.bool true)) (UF b M) (UF b M) := ((((Chg.refl V (UF b M)).set (a := ⟨b, 7, none⟩) _ (by simp [UF])).set (a := ⟨b, 8, none⟩) _ (by simp [UF])).set (a := ⟨b, 9, none⟩) _ (by simp [UF])).set (a := ⟨b, 11, none⟩) _ (by simp [UF])
  have hbel := hc0.below hV.nw (fun k hk => (hV.low k hk).1)
  have h3 : ∀ n xs v, V.ownsRow N 3 1 v n xs → ((((V.setCell ⟨b, 7, none⟩ (.bool true)).setCell ⟨b, 8, none⟩ (.slice (some ⟨g, 0, none⟩) M.K q)).setCell ⟨b, 9, none⟩ (.int .i64 a)).setCell ⟨b, 11, none⟩ (.bool true)).ownsRow N 3 1 v n xs := fun n xs v ho => three_kept hc0 ho hV.no3
  have hne : ∀ k, k ≠ b → ((((V.setCell ⟨b, 7, none⟩ (.bool true)).setCell ⟨b, 8, none⟩ (.slice (some ⟨g, 0, none⟩) M.K q)).setCell ⟨b, 9, none⟩ (.int .i64 a)).setCell ⟨b, 11, none⟩ (.bool true)).heap[k]? = V.heap[k]? := fun k hk => (Below.heap_setCell _ _ _ _ hk).trans ((Below.heap_setCell _ _ _ _ hk).trans ((Below.heap_setCell _ _ _ _ hk).trans (Below.heap_setCell _ _ _ _ hk)))
  have hrb := (((hV.rb.upd 7 (.bool true) { M with fok := true } rfl).upd 8 (.slice (some ⟨g, 0, none⟩) M.K q) { M with fok := true, f1 := some ⟨g, 0, none⟩, f2 := M.K, f3 := q } rfl).upd 9 (.int .i64 a) { M with fok := true, f1 := some ⟨g, 0, none⟩, f2 := M.K, f3 := q, fw := a } rfl).upd 11 (.bool true) { M with fok := true, f1 := some ⟨g, 0, none⟩, f2 := M.K, f3 := q, fw := a, ov := true } rfl
  refine ⟨⟨hrb, h.nb, Nat.le_trans hV.nw hbel.size, hV.pi.kept hbel (Nat.le_refl _), hV.tt.below hbel, h.hj, ⟨hn, arr, (hne _ hV.bm).trans ha, hsz, hrr⟩, ⟨h.row.len, row_kept hV.row.row (fun k hk => hne k (hV.zb k (by simp [zF, hk])).1), fun e he => h3 _ _ _ (hV.row.caps e he)⟩, h.nx, ⟨g, rfl, rfl, rfl, rfl, h3 _ _ _ hr⟩, rfl, h.fs⟩, (Chg.of_below hb).trans hc0⟩
end
end Go.Proofs.Ytiggbgmnibndoaa
/- HELPERS: can a match be come to: the search walked. -/
namespace Go.Proofs.Ytiggbgmnibndoaa
open Go.RowKit Go.Lk
set_option linter.unusedVariables false
set_option linter.unusedSimpArgs false
def lenOf : Value → Nat
  | .slice _ n _ => n
  | _ => 0
theorem inst_pi {w : World} {B n : Nat} {ad : Option Addr} {l : List In} (h : PI w B ad n l) {i : Nat} (hi : i < l.length) :
    ∃ pb po r1 r2 r3, ad = some ⟨pb, po, none⟩ ∧ r2 = l[i].R.length ∧ ∀ W, Below B w W → (W.cell? ⟨pb, po + i * 5, none⟩ = some (.int .i64 l[i].op) ∧ W.cell? ⟨pb, po + i * 5 + 1, none⟩ = some (.int .i64 l[i].x) ∧ W.cell? ⟨pb, po + i * 5 + 2, none⟩ = some (.int .i64 l[i].y) ∧ W.cell? ⟨pb, po + i * 5 + 3, none⟩ = some (.int .i64 l[i].a) ∧ W.cell? ⟨pb, po + i * 5 + 4, none⟩ = some (.slice r1 r2 r3)) ∧ RowAt B W (.slice r1 r2 r3) l[i].R := by
  have hln := h.len
  obtain ⟨pb, po, ND, e, hpb, hcs⟩ := h.mem (by omega)
  obtain ⟨h5, hM⟩ := hcs i hi
  refine ⟨pb, po, (ND i).r1, (ND i).r2, (ND i).r3, e, hM.len, fun W hb => ?_⟩
  obtain ⟨m0, m1, m2, m3, m4⟩ := h5.kept (hb.block pb hpb)
  have hM' := hM.kept hb (Nat.le_refl _)
  rw [hM.op] at m0
  rw [hM.x] at m1
  rw [hM.y] at m2
  rw [hM.a] at m3
  exact ⟨⟨m0, m1, m2, m3, m4⟩, hM'.row⟩
end Go.Proofs.Ytiggbgmnibndoaa
/- HELPERS: the document's visit in memory. -/
namespace Go.Proofs.Ytiggbgmnibndoaa
open Go.RowKit Go.Lk
set_option linter.unusedVariables false
set_option linter.unusedSimpArgs false
def Rv.core (M : Rv) : Rv := { M with z := none, n2 := 0, c2 := 0, fok := false, f1 := none, f2 := 0, f3 := 0, fw := 0, fs := 0, ov := false }
theorem rcore_j {M M' : Rv} (h : M'.core = M.core) : M'.j = M.j := by have := congrArg Rv.j h; exact this
theorem rcore_K {M M' : Rv} (h : M'.core = M.core) : M'.K = M.K := by have := congrArg Rv.K h; exact this
def WP (N b B0 : Nat) (l : List In) (tx : List Int) (w : World) (M : Rv) (s' : Vst) (e : Ending) (w' : World) : Prop :=
  e = .returned (.tuple #[]) ∧ ∃ M' E', WJ w' N b B0 l tx M' s' E' ∧ M'.core = M.core ∧ Chg w w' (UF b M) (UF b M')
structure WC (K N b B0 : Nat) (l : List In) (tx : List Int) (w : World) (M : Rv) (s : Vst) (E : List Ef) (i : Nat) (c : List Int) (cb cp : Nat) : Prop where
  wj : WJ w N b B0 l tx M s E
  hK : M.K = K
  inv : Inv l.length K s
  lt : i < l.length
  cap : w.ownsRow N 3 1 (.slice (some ⟨cb, 0, none⟩) K cp) K (I64 c)
  sm : B0 ≤ 100000000000
def WIH (K N b B0 : Nat) (l : List In) (tx : List Int) (f : Nat) : Prop :=
  ∀ (i : Nat) (c : List Int) (s : Vst) (w : World) (M : Rv) (E : List Ef) (cb cp : Nat), WC K N b B0 l tx w M s E i c cb cp → l.length < f + s.met.length →
    Calls Try.prog 33 #[.pointer (some ⟨b, 0, none⟩), .int .i64 (i : Int), .slice (some ⟨cb, 0, none⟩) K cp] w (WP N b B0 l tx w M (vis (act l tx M.j) M.j f i c s))
theorem WJ.noY {w : World} {N b B0 : Nat} {l : List In} {tx : List Int} {M : Rv} {s : Vst} {E : List Ef} (h : WJ w N b B0 l tx M s E) {k : Nat} (hk : k ∈ UF b M) {cs : Array Value} {fr : Nat × Nat} : ¬ w.heap[k]? = some (.cells cs 60 fr) := by
  intro he
  obtain ⟨_, arr, ha, _⟩ := h.met
  simp only [UF, List.mem_cons] at hk
  rcases hk with rfl | rfl | hk
  · have := h.rb; unfold RB at this; rw [he] at this; simp at this
  · rw [he] at ha; simp at ha
  · exact own_ne h.row.row he (by decide) (by simpa [zF] using hk)
section
variable {K N b B0 : Nat} {l : List In} {tx : List Int} {w w' : World} {M M' : Rv} {s s' : Vst} {E E' : List Ef} {i : Nat} {c : List Int} {cb cp : Nat}
theorem WC.next (h : WC K N b B0 l tx w M s E i c cb cp) (hv : WJ w' N b B0 l tx M' s' E') (hM : M'.core = M.core) (hc : Chg w w' (UF b M) (UF b M')) (hi : Inv l.length K s') {i' : Nat} (hl : i' < l.length) : WC K N b B0 l tx w' M' s' E' i' c cb cp :=
  ⟨hv, (rcore_K hM).trans h.hK, hi, hl, three_kept hc h.cap h.wj.no3, h.sm⟩
theorem WP.after (h1 : Chg w w' (UF b M) (UF b M')) (hM : M'.core = M.core) {s2 : Vst} {e : Ending} {w2 : World} (h : WP N b B0 l tx w' M' s2 e w2) : WP N b B0 l tx w M s2 e w2 := by
  obtain ⟨he, M2, E2, h2, h3, h4⟩ := h
  exact ⟨he, M2, E2, h2, h3.trans hM, h1.trans h4⟩
end
set_option maxRecDepth 100000 in
set_option maxHeartbeats 4000000 in
theorem rvisit_over {K N b B0 : Nat} {l : List In} {tx : List Int} {w : World} {M : Rv} {s : Vst} {E : List Ef} {i : Nat} {c : List Int} {cb cp : Nat} (f : Nat) (h : WC K N b B0 l tx w M s E i c cb cp) (ho : s.over = true) :
    Calls Try.prog 33 #[.pointer (some ⟨b, 0, none⟩), .int .i64 (i : Int), .slice (some ⟨cb, 0, none⟩) K cp] w (WP N b B0 l tx w M (vis (act l tx M.j) M.j (f + 1) i c s)) := by
  rw [vis_over ho]
  have c11 := h.wj.rb.c 11
  simp at c11
  rw [h.wj.ov, ho] at c11
  have HH := hid h
  clear h
  go_enter Try.func33, Try.ntmps33
  go_wp2
  go_end0
  exact ⟨rfl, M, E, HH.out.wj, rfl, Chg.refl _ _⟩
set_option maxRecDepth 100000 in
set_option maxHeartbeats 4000000 in
theorem rvisit_old {K N b B0 : Nat} {l : List In} {tx : List Int} {w : World} {M : Rv} {s : Vst} {E : List Ef} {i : Nat} {c : List Int} {cb cp : Nat} (f : Nat) (h : WC K N b B0 l tx w M s E i c cb cp) (ho : s.over = false) (hm : i ∈ s.met) :
    Calls Try.prog 33 #[.pointer (some ⟨b, 0, none⟩), .int .i64 (i : Int), .slice (some ⟨cb, 0, none⟩) K cp] w (WP N b B0 l tx w M (vis (act l tx M.j) M.j (f + 1) i c s)) := by
  have e1 : vis (act l tx M.j) M.j (f + 1) i c s = s := by unfold vis; rw [if_pos (by simp [hm])]
  rw [e1]
  have c11 := h.wj.rb.c 11
  have c5 := h.wj.rb.c 5
  simp at c11 c5
  rw [h.wj.ov, ho] at c11
  obtain ⟨_, arr, ha, hsz, hr⟩ := h.wj.met
  have hcell : w.cell? ⟨M.mb, i, none⟩ = some (.bool true) := by rw [Joins.cell_of_block ha, hr i h.lt]; simp [hm]
  have hln := h.wj.pi.len
  have b2 : (i : Int) < (M.n : Int) := by have := h.lt; omega
  have HH := hid h
  clear h ha hsz hr e1 hln
  generalize M.mb = mb at *
  generalize M.n = n at *
  go_enter Try.func33, Try.ntmps33
  go_wp2
  go_end0
  exact ⟨rfl, M, E, HH.out.wj, rfl, Chg.refl _ _⟩
set_option maxRecDepth 100000 in
set_option maxHeartbeats 8000000 in
theorem rvisit_fail {K N b B0 : Nat} {l : List In} {tx : List Int} {w : World} {M : Rv} {s : Vst} {E : List Ef} {i : Nat} {c : List Int} {cb cp : Nat} {S : Int} (hmay : mayB l S (K : Int) = true) (f : Nat) (ih : Hid (WIH K N b B0 l tx f)) (h : WC K N b B0 l tx w M s E i c cb cp) (hf : l.length < f + 1 + s.met.length) (ho : s.over = false) (hm : i ∉ s.met) (hlt : i < l.length) (hop : l[i].op = 6) :
    Calls Try.prog 33 #[.pointer (some ⟨b, 0, none⟩), .int .i64 (i : Int), .slice (some ⟨cb, 0, none⟩) K cp] w (WP N b B0 l tx w M (vis (act l tx M.j) M.j (f + 1) i c s)) := by
  have hmo := may_ok hmay
  have hm20 := hmo.1
  have hok := hmo.2.2.2.2.2 _ (List.getElem_mem hlt)
  have hKs : 2 ≤ K ∧ K ≤ 1002 := by omega
  clear hmo
  have e1 : vis (act l tx M.j) M.j (f + 1) i c s = s.mark i := by
    rw [vis_step ho hm]
    have : act l tx M.j i = .stop := by unfold act actI; rw [getD_in' hlt, hop]; simp
    rw [this]
  rw [e1]
  have hln := h.wj.pi.len
  have c11 := h.wj.rb.c 11
  have c5 := h.wj.rb.c 5
  simp at c11 c5
  rw [h.wj.ov, ho] at c11
  obtain ⟨hmbN, arr, ha, hsz, hr⟩ := h.wj.met
  have hcell : w.cell? ⟨M.mb, i, none⟩ = some (.bool false) := by rw [Joins.cell_of_block ha, hr i hlt]; simp [hm]
  have hfz : w.frozen? ⟨M.mb, i, none⟩ = false := Joins.unfrozen_of_block ha i
  obtain ⟨hJ1, hC1⟩ := h.wj.mark hlt hm
  have hsmall := h.inv.small
  have hfsv := h.wj.fs
  have hfsl : M.fs ≤ 100000020000 := by have := h.sm; omega
  obtain ⟨W1, hW1⟩ : ∃ W1, W1 = w.setCell ⟨M.mb, i, none⟩ (.bool true) := ⟨_, rfl⟩
  have hrb1 : RB W1 b M := by rw [hW1]; exact h.wj.rb.kept (Below.heap_setCell _ _ _ _ (fun e => h.wj.bm e.symm))
  have k10 := hrb1.c 10
  have u10 := hrb1.u 10
  simp at k10
  have hrb0 := hJ1.rb
  obtain ⟨W2, hW2⟩ : ∃ W2, W2 = W1.setCell ⟨b, 10, none⟩ (.int .i64 ((M.fs + 1 : Nat) : Int)) := ⟨_, rfl⟩
  rw [← hW1, ← hW2] at hJ1 hC1 hrb0
  have k0 := hrb0.c 0
  simp at k0
  obtain ⟨pb, po, r1, r2, r3, hpa, hpr, hcs⟩ := inst_pi hJ1.pi hlt
  obtain ⟨⟨m0, m1, m2, m3, m4⟩, _⟩ := hcs W2 (Below.refl _ _)
  have hpa' : M.ad = some ⟨pb, po, none⟩ := hpa
  rw [hpa'] at k0
  have a10 : IntKind.i64.wrap ((M.fs : Int) + 1) = ((M.fs + 1 : Nat) : Int) := by rw [wrap_ok _ (by omega) (by omega)]; omega
  have b2 : (i : Int) < (M.n : Int) := by omega
  have hlen : ((s.mark i).met).length = s.met.length + 1 := by simp [Vst.mark]
  have HLEN := hid hlen
  have HIV := hid (h.inv.mark hlt hm)
  have HJ1 := hid hJ1
  have HC1 := hid hC1
  have HH := hid h
  have HCS := hid hcs
  have HPR := hid hpr
  have HOP := hid hop
  have HOK := hid hok
  have HW1 := hid hW1
  have HW2 : Hid (W2 = W1.setCell ⟨b, 10, none⟩ (.int .i64 ((M.fs : Int) + 1))) := by show W2 = _; rw [hW2, show ((M.fs + 1 : Nat) : Int) = (M.fs : Int) + 1 by omega]
  have hJV := fun (o : Obj) => hJ1.kept (w' := W2.alloc o) (Joins.below_alloc1 W2 o)
  have HJV := hid hJV
  clear h hJ1 hC1 hcs hpr hop hok hW1 hW2 ha hsz hr hrb1 hrb0 hpa hln hlen e1 hsmall hfsv hfsl hJV
  obtain ⟨Mn, hMn⟩ : ∃ Mn, Mn = M.n := ⟨_, rfl⟩
  obtain ⟨Mm, hMm⟩ : ∃ Mm, Mm = M.mb := ⟨_, rfl⟩
  have HMM := hid hMm
  rw [← hMn] at c5 k0 b2
  rw [← hMm] at c5 hcell hfz HW1
  clear hMn hMm hpa'
  go_enter Try.func33, Try.ntmps33
  go_upto_region 2 with fail
  rw [← HW1.out]
  clear HW1 hcell hfz c11 c5
  go_upto_region 3 with fail
  rw [← HW2.out]
  clear HW2 k10 u10 a10
  go_upto_region 4 with fail
  obtain ⟨V, hV⟩ : ∃ V, V = W2.alloc (.cells #[.int .i64 l[i].op, .int .i64 l[i].x, .int .i64 l[i].y, .int .i64 l[i].a, .slice r1 r2 r3] 60) := ⟨_, rfl⟩
  rw [← hV]
  have hbV : Below W2.heap.size W2 V := by rw [hV]; exact Joins.below_alloc1 W2 _
  have hY : V.heap[W2.heap.size]? = some (.cells #[.int .i64 l[i].op, .int .i64 l[i].x, .int .i64 l[i].y, .int .i64 l[i].a, .slice r1 r2 r3] 60 (0, 0)) := by rw [hV]; exact heap_alloc_new W2 _
  have HJ : Hid (WJ V N b B0 l tx { M with fs := M.fs + 1 } (s.mark i) E) := HJ1.out.kept hbV
  have HC : Hid (Chg w V (UF b M) (UF b { M with fs := M.fs + 1 })) := HC1.out.trans (Chg.of_below hbV)
  have HWC : Hid (∀ i', i' < l.length → WC K N b B0 l tx V { M with fs := M.fs + 1 } (s.mark i) E i' c cb cp) := fun i' hi' => HH.out.next HJ.out rfl HC.out HIV.out hi'
  have HBV : Hid (Below N W2 V) := hbV.mono HJ1.out.nw
  obtain ⟨y, hy⟩ : ∃ y, y = W2.heap.size := ⟨_, rfl⟩
  rw [← hy] at hY ⊢
  obtain ⟨v0, v1, v2, v3, v4⟩ := five hY
  rw [HOP.out] at v0
  have HY := hid hY
  have hyV : y < V.heap.size := (Array.getElem?_eq_some_iff.1 hY).1
  clear hV hbV hY hy m0 m1 m2 m3 m4 k0 HJV
  go_wp2
  go_end0
  exact ⟨rfl, _, E, HJ.out, rfl, HC.out⟩
set_option maxRecDepth 100000 in
set_option maxHeartbeats 8000000 in
theorem rvisit_nop {K N b B0 : Nat} {l : List In} {tx : List Int} {w : World} {M : Rv} {s : Vst} {E : List Ef} {i : Nat} {c : List Int} {cb cp : Nat} {S : Int} (hmay : mayB l S (K : Int) = true) (f : Nat) (ih : Hid (WIH K N b B0 l tx f)) (h : WC K N b B0 l tx w M s E i c cb cp) (hf : l.length < f + 1 + s.met.length) (ho : s.over = false) (hm : i ∉ s.met) (hlt : i < l.length) (hop : l[i].op = 7) :
    Calls Try.prog 33 #[.pointer (some ⟨b, 0, none⟩), .int .i64 (i : Int), .slice (some ⟨cb, 0, none⟩) K cp] w (WP N b B0 l tx w M (vis (act l tx M.j) M.j (f + 1) i c s)) := by
  have hmo := may_ok hmay
  have hm20 := hmo.1
  have hok := hmo.2.2.2.2.2 _ (List.getElem_mem hlt)
  have hKs : 2 ≤ K ∧ K ≤ 1002 := by omega
  clear hmo
  have hx := ok_x hok (by rw [hop]; rfl)
  obtain ⟨x, hxe⟩ := Int.eq_ofNat_of_zero_le hx.1
  have hxl : x < l.length := by omega
  have HXE := hid hxe
  have e1 : vis (act l tx M.j) M.j (f + 1) i c s = vis (act l tx M.j) M.j f x c (s.mark i) := by
    rw [vis_step ho hm]
    have : act l tx M.j i = .go x := by unfold act actI; rw [getD_in' hlt, hop, hxe]; simp
    rw [this]
  rw [e1]
  have hln := h.wj.pi.len
  have c11 := h.wj.rb.c 11
  have c5 := h.wj.rb.c 5
  simp at c11 c5
  rw [h.wj.ov, ho] at c11
  obtain ⟨hmbN, arr, ha, hsz, hr⟩ := h.wj.met
  have hcell : w.cell? ⟨M.mb, i, none⟩ = some (.bool false) := by rw [Joins.cell_of_block ha, hr i hlt]; simp [hm]
  have hfz : w.frozen? ⟨M.mb, i, none⟩ = false := Joins.unfrozen_of_block ha i
  obtain ⟨hJ1, hC1⟩ := h.wj.mark hlt hm
  have hsmall := h.inv.small
  have hfsv := h.wj.fs
  have hfsl : M.fs ≤ 100000020000 := by have := h.sm; omega
  obtain ⟨W1, hW1⟩ : ∃ W1, W1 = w.setCell ⟨M.mb, i, none⟩ (.bool true) := ⟨_, rfl⟩
  have hrb1 : RB W1 b M := by rw [hW1]; exact h.wj.rb.kept (Below.heap_setCell _ _ _ _ (fun e => h.wj.bm e.symm))
  have k10 := hrb1.c 10
  have u10 := hrb1.u 10
  simp at k10
  have hrb0 := hJ1.rb
  obtain ⟨W2, hW2⟩ : ∃ W2, W2 = W1.setCell ⟨b, 10, none⟩ (.int .i64 ((M.fs + 1 : Nat) : Int)) := ⟨_, rfl⟩
  rw [← hW1, ← hW2] at hJ1 hC1 hrb0
  have k0 := hrb0.c 0
  simp at k0
  obtain ⟨pb, po, r1, r2, r3, hpa, hpr, hcs⟩ := inst_pi hJ1.pi hlt
  obtain ⟨⟨m0, m1, m2, m3, m4⟩, _⟩ := hcs W2 (Below.refl _ _)
  have hpa' : M.ad = some ⟨pb, po, none⟩ := hpa
  rw [hpa'] at k0
  have a10 : IntKind.i64.wrap ((M.fs : Int) + 1) = ((M.fs + 1 : Nat) : Int) := by rw [wrap_ok _ (by omega) (by omega)]; omega
  have b2 : (i : Int) < (M.n : Int) := by omega
  have hlen : ((s.mark i).met).length = s.met.length + 1 := by simp [Vst.mark]
  have HLEN := hid hlen
  have HIV := hid (h.inv.mark hlt hm)
  have HJ1 := hid hJ1
  have HC1 := hid hC1
  have HH := hid h
  have HCS := hid hcs
  have HPR := hid hpr
  have HOP := hid hop
  have HOK := hid hok
  have HW1 := hid hW1
  have HW2 : Hid (W2 = W1.setCell ⟨b, 10, none⟩ (.int .i64 ((M.fs : Int) + 1))) := by show W2 = _; rw [hW2, show ((M.fs + 1 : Nat) : Int) = (M.fs : Int) + 1 by omega]
  have hJV := fun (o : Obj) => hJ1.kept (w' := W2.alloc o) (Joins.below_alloc1 W2 o)
  have HJV := hid hJV
  clear h hJ1 hC1 hcs hpr hop hok hW1 hW2 ha hsz hr hrb1 hrb0 hpa hln hlen e1 hsmall hfsv hfsl hJV
  obtain ⟨Mn, hMn⟩ : ∃ Mn, Mn = M.n := ⟨_, rfl⟩
  obtain ⟨Mm, hMm⟩ : ∃ Mm, Mm = M.mb := ⟨_, rfl⟩
  have HMM := hid hMm
  rw [← hMn] at c5 k0 b2
  rw [← hMm] at c5 hcell hfz HW1
  clear hMn hMm hpa'
  clear hxe
  generalize hs2 : vis (act l tx M.j) M.j f x c (s.mark i) = s2
  have HS2 := hid hs2
  clear hs2
  go_enter Try.func33, Try.ntmps33
  go_upto_region 2 with fail
  rw [← HW1.out]
  clear HW1 hcell hfz c11 c5
  go_upto_region 3 with fail
  rw [← HW2.out]
  clear HW2 k10 u10 a10
  go_upto_region 4 with fail
  obtain ⟨V, hV⟩ : ∃ V, V = W2.alloc (.cells #[.int .i64 l[i].op, .int .i64 l[i].x, .int .i64 l[i].y, .int .i64 l[i].a, .slice r1 r2 r3] 60) := ⟨_, rfl⟩
  rw [← hV]
  have hbV : Below W2.heap.size W2 V := by rw [hV]; exact Joins.below_alloc1 W2 _
  have hY : V.heap[W2.heap.size]? = some (.cells #[.int .i64 l[i].op, .int .i64 l[i].x, .int .i64 l[i].y, .int .i64 l[i].a, .slice r1 r2 r3] 60 (0, 0)) := by rw [hV]; exact heap_alloc_new W2 _
  have HJ : Hid (WJ V N b B0 l tx { M with fs := M.fs + 1 } (s.mark i) E) := HJ1.out.kept hbV
  have HC : Hid (Chg w V (UF b M) (UF b { M with fs := M.fs + 1 })) := HC1.out.trans (Chg.of_below hbV)
  have HWC : Hid (∀ i', i' < l.length → WC K N b B0 l tx V { M with fs := M.fs + 1 } (s.mark i) E i' c cb cp) := fun i' hi' => HH.out.next HJ.out rfl HC.out HIV.out hi'
  have HBV : Hid (Below N W2 V) := hbV.mono HJ1.out.nw
  obtain ⟨y, hy⟩ : ∃ y, y = W2.heap.size := ⟨_, rfl⟩
  rw [← hy] at hY ⊢
  obtain ⟨v0, v1, v2, v3, v4⟩ := five hY
  rw [HOP.out] at v0
  have HY := hid hY
  have hyV : y < V.heap.size := (Array.getElem?_eq_some_iff.1 hY).1
  clear hV hbV hY hy m0 m1 m2 m3 m4 k0 HJV
  rw [HXE.out] at v1
  have HI := ih.out x c (s.mark i) V _ E cb cp (HWC.out x hxl) (by have := HLEN.out; omega)
  rw [show (({ M with fs := M.fs + 1 } : Rv)).j = M.j from rfl, HS2.out] at HI
  go_wp2_with (go_at_call 33; (with_reducible refine HI.mono ?_); rintro e w3 hvp; have HP := hid hvp; obtain ⟨rfl, _⟩ := hvp; clear HI)
  go_end0
  exact HP.out.after HC.out rfl
set_option maxRecDepth 100000 in
set_option maxHeartbeats 8000000 in
theorem rvisit_alt {K N b B0 : Nat} {l : List In} {tx : List Int} {w : World} {M : Rv} {s : Vst} {E : List Ef} {i : Nat} {c : List Int} {cb cp : Nat} {S : Int} (hmay : mayB l S (K : Int) = true) (f : Nat) (ih : Hid (WIH K N b B0 l tx f)) (h : WC K N b B0 l tx w M s E i c cb cp) (hf : l.length < f + 1 + s.met.length) (ho : s.over = false) (hm : i ∉ s.met) (hlt : i < l.length) (hop : l[i].op = 2) :
    Calls Try.prog 33 #[.pointer (some ⟨b, 0, none⟩), .int .i64 (i : Int), .slice (some ⟨cb, 0, none⟩) K cp] w (WP N b B0 l tx w M (vis (act l tx M.j) M.j (f + 1) i c s)) := by
  have hmo := may_ok hmay
  have hm20 := hmo.1
  have hok := hmo.2.2.2.2.2 _ (List.getElem_mem hlt)
  have hKs : 2 ≤ K ∧ K ≤ 1002 := by omega
  clear hmo
  have hx := ok_x hok (by rw [hop]; rfl)
  obtain ⟨x, hxe⟩ := Int.eq_ofNat_of_zero_le hx.1
  have hxl : x < l.length := by omega
  have HXE := hid hxe
  have hy := ok_y hok (by rw [hop]; rfl)
  obtain ⟨y0, hye⟩ := Int.eq_ofNat_of_zero_le hy.1
  have hyl : y0 < l.length := by omega
  have HYE := hid hye
  have e1 : vis (act l tx M.j) M.j (f + 1) i c s = vis (act l tx M.j) M.j f y0 c (vis (act l tx M.j) M.j f x c (s.mark i)) := by
    rw [vis_step ho hm]
    have : act l tx M.j i = .alt x y0 := by unfold act actI; rw [getD_in' hlt, hop, hxe, hye]; simp
    rw [this]
  rw [e1]
  have hln := h.wj.pi.len
  have c11 := h.wj.rb.c 11
  have c5 := h.wj.rb.c 5
  simp at c11 c5
  rw [h.wj.ov, ho] at c11
  obtain ⟨hmbN, arr, ha, hsz, hr⟩ := h.wj.met
  have hcell : w.cell? ⟨M.mb, i, none⟩ = some (.bool false) := by rw [Joins.cell_of_block ha, hr i hlt]; simp [hm]
  have hfz : w.frozen? ⟨M.mb, i, none⟩ = false := Joins.unfrozen_of_block ha i
  obtain ⟨hJ1, hC1⟩ := h.wj.mark hlt hm
  have hsmall := h.inv.small
  have hfsv := h.wj.fs
  have hfsl : M.fs ≤ 100000020000 := by have := h.sm; omega
  obtain ⟨W1, hW1⟩ : ∃ W1, W1 = w.setCell ⟨M.mb, i, none⟩ (.bool true) := ⟨_, rfl⟩
  have hrb1 : RB W1 b M := by rw [hW1]; exact h.wj.rb.kept (Below.heap_setCell _ _ _ _ (fun e => h.wj.bm e.symm))
  have k10 := hrb1.c 10
  have u10 := hrb1.u 10
  simp at k10
  have hrb0 := hJ1.rb
  obtain ⟨W2, hW2⟩ : ∃ W2, W2 = W1.setCell ⟨b, 10, none⟩ (.int .i64 ((M.fs + 1 : Nat) : Int)) := ⟨_, rfl⟩
  rw [← hW1, ← hW2] at hJ1 hC1 hrb0
  have k0 := hrb0.c 0
  simp at k0
  obtain ⟨pb, po, r1, r2, r3, hpa, hpr, hcs⟩ := inst_pi hJ1.pi hlt
  obtain ⟨⟨m0, m1, m2, m3, m4⟩, _⟩ := hcs W2 (Below.refl _ _)
  have hpa' : M.ad = some ⟨pb, po, none⟩ := hpa
  rw [hpa'] at k0
  have a10 : IntKind.i64.wrap ((M.fs : Int) + 1) = ((M.fs + 1 : Nat) : Int) := by rw [wrap_ok _ (by omega) (by omega)]; omega
  have b2 : (i : Int) < (M.n : Int) := by omega
  have hlen : ((s.mark i).met).length = s.met.length + 1 := by simp [Vst.mark]
  have HLEN := hid hlen
  have HIV := hid (h.inv.mark hlt hm)
  have HJ1 := hid hJ1
  have HC1 := hid hC1
  have HH := hid h
  have HCS := hid hcs
  have HPR := hid hpr
  have HOP := hid hop
  have HOK := hid hok
  have HW1 := hid hW1
  have HW2 : Hid (W2 = W1.setCell ⟨b, 10, none⟩ (.int .i64 ((M.fs : Int) + 1))) := by show W2 = _; rw [hW2, show ((M.fs + 1 : Nat) : Int) = (M.fs : Int) + 1 by omega]
  have hJV := fun (o : Obj) => hJ1.kept (w' := W2.alloc o) (Joins.below_alloc1 W2 o)
  have HJV := hid hJV
  clear h hJ1 hC1 hcs hpr hop hok hW1 hW2 ha hsz hr hrb1 hrb0 hpa hln hlen e1 hsmall hfsv hfsl hJV
  obtain ⟨Mn, hMn⟩ : ∃ Mn, Mn = M.n := ⟨_, rfl⟩
  obtain ⟨Mm, hMm⟩ : ∃ Mm, Mm = M.mb := ⟨_, rfl⟩
  have HMM := hid hMm
  rw [← hMn] at c5 k0 b2
  rw [← hMm] at c5 hcell hfz HW1
  clear hMn hMm hpa'
  clear hxe hye hy
  have HAI : Hid (∀ k, k < l.length → (act l tx M.j k).ok l.length) := fun k hk => act_ok hmay M.j k hk
  generalize hs1 : vis (act l tx M.j) M.j f x c (s.mark i) = s1
  have HS1 := hid hs1
  have HIV1 : Hid (Inv l.length K s1) := by rw [← hs1]; exact vis_inv HAI.out f x c _ hxl (by have := HH.out.cap.1; simpa using this) HIV.out
  have HGR : Hid (Grow (s.mark i) s1) := by rw [← hs1]; exact vis_grow _ _ _ _
  clear hs1
  generalize hs2 : vis (act l tx M.j) M.j f y0 c s1 = s2
  have HS2 := hid hs2
  clear hs2
  go_enter Try.func33, Try.ntmps33
  go_upto_region 2 with fail
  rw [← HW1.out]
  clear HW1 hcell hfz c11 c5
  go_upto_region 3 with fail
  rw [← HW2.out]
  clear HW2 k10 u10 a10
  go_upto_region 4 with fail
  obtain ⟨V, hV⟩ : ∃ V, V = W2.alloc (.cells #[.int .i64 l[i].op, .int .i64 l[i].x, .int .i64 l[i].y, .int .i64 l[i].a, .slice r1 r2 r3] 60) := ⟨_, rfl⟩
  rw [← hV]
  have hbV : Below W2.heap.size W2 V := by rw [hV]; exact Joins.below_alloc1 W2 _
  have hY : V.heap[W2.heap.size]? = some (.cells #[.int .i64 l[i].op, .int .i64 l[i].x, .int .i64 l[i].y, .int .i64 l[i].a, .slice r1 r2 r3] 60 (0, 0)) := by rw [hV]; exact heap_alloc_new W2 _
  have HJ : Hid (WJ V N b B0 l tx { M with fs := M.fs + 1 } (s.mark i) E) := HJ1.out.kept hbV
  have HC : Hid (Chg w V (UF b M) (UF b { M with fs := M.fs + 1 })) := HC1.out.trans (Chg.of_below hbV)
  have HWC : Hid (∀ i', i' < l.length → WC K N b B0 l tx V { M with fs := M.fs + 1 } (s.mark i) E i' c cb cp) := fun i' hi' => HH.out.next HJ.out rfl HC.out HIV.out hi'
  have HBV : Hid (Below N W2 V) := hbV.mono HJ1.out.nw
  obtain ⟨y, hy⟩ : ∃ y, y = W2.heap.size := ⟨_, rfl⟩
  rw [← hy] at hY ⊢
  obtain ⟨v0, v1, v2, v3, v4⟩ := five hY
  rw [HOP.out] at v0
  have HY := hid hY
  have hyV : y < V.heap.size := (Array.getElem?_eq_some_iff.1 hY).1
  clear hV hbV hY hy m0 m1 m2 m3 m4 k0 HJV
  rw [HXE.out] at v1
  have HI := ih.out x c (s.mark i) V _ E cb cp (HWC.out x hxl) (by have := HLEN.out; omega)
  rw [show (({ M with fs := M.fs + 1 } : Rv)).j = M.j from rfl, HS1.out] at HI
  go_wp2_with (first | (go_at_call 33; (with_reducible refine HI.mono ?_); rintro e w3 ⟨rfl, M', E', hv', hM', hc'⟩; have hy3 := (hc'.block y hyV (fun hm => HJ.out.noY (M := { M with fs := M.fs + 1 }) hm HY.out)).trans HY.out; obtain ⟨_, _, p2, _, _⟩ := five hy3; rw [HYE.out] at p2; have HC2 := hid hc'; have HM2 := hid hM'; have HI2 := ih.out y0 c s1 w3 M' E' cb cp ((HWC.out x hxl).next hv' hM' hc' HIV1.out hyl) (by have := HLEN.out; obtain ⟨mm, hmm⟩ := HGR.out.met; rw [hmm, List.length_append]; omega); rw [rcore_j hM', show (({ M with fs := M.fs + 1 } : Rv)).j = M.j from rfl, HS2.out] at HI2; clear hv' hM' hc' hy3 HI) | (go_at_call 33; (with_reducible refine HI2.mono ?_); rintro e w4 hvp; have HP := hid hvp; obtain ⟨rfl, _⟩ := hvp; clear HI2))
  go_end0
  exact (HP.out.after HC2.out HM2.out).after HC.out rfl
end Go.Proofs.Ytiggbgmnibndoaa
/- HELPERS: the document's visit in memory: captures and assertions. -/
namespace Go.Proofs.Ytiggbgmnibndoaa
open Go.RowKit Go.Lk
set_option linter.unusedVariables false
set_option linter.unusedSimpArgs false
theorem row_got {w : World} {base e size n : Nat} {v : Value} {xs : List Value} (h : w.ownsRow base e size v n xs) (hn : 0 < n) : ∃ g q, v = .slice (some ⟨g, 0, none⟩) n q := by
  rcases h.2 with ⟨_, e⟩ | ⟨g, cap, cur, e, _⟩
  · omega
  · exact ⟨g, cap, e⟩
theorem frm_new {V w7 : World} {o : Obj} {n c : Nat} {v' : Value} (h : Frm (V.alloc o) w7 (.slice (some ⟨V.heap.size, 0, none⟩) n c) v') : Below V.heap.size V w7 ∧ ∀ k, v'.ownBlock = some k → V.heap.size ≤ k := by
  refine ⟨⟨h.os, h.tape, h.output, by have := h.size; simp at this; omega, fun k hk => (h.block k (by simp; omega) (by simp [Value.ownBlock]; omega)).trans (heap_alloc_old _ _ hk)⟩, fun k hk => ?_⟩
  rcases h.own k hk with e | e
  · simp [Value.ownBlock] at e; omega
  · simp at e; omega
theorem one64 (c : List Int) : ∀ u ∈ I64 c, u.oneCell' = true := fun u hu => by
  obtain ⟨z, _, rfl⟩ := List.mem_map.1 hu
  rfl
theorem empty3 (N : Nat) (V : World) (h : N ≤ V.heap.size) : (V.alloc (.cells #[] 3)).ownsRow N 3 1 (.slice (some ⟨V.heap.size, 0, none⟩) 0 0) 0 [] := by
  have := World.ownsRow_lit (base := N) (e := 3) (size := 1) V #[] 0 h (Nat.zero_le _) rfl
  simpa using this
set_option maxRecDepth 100000 in
set_option maxHeartbeats 8000000 in
theorem rvisit_cap {K N b B0 : Nat} {l : List In} {tx : List Int} {w : World} {M : Rv} {s : Vst} {E : List Ef} {i : Nat} {c : List Int} {cb cp : Nat} {S : Int} (hmay : mayB l S (K : Int) = true) (f : Nat) (ih : Hid (WIH K N b B0 l tx f)) (h : WC K N b B0 l tx w M s E i c cb cp) (hf : l.length < f + 1 + s.met.length) (ho : s.over = false) (hm : i ∉ s.met) (hlt : i < l.length) (hop : l[i].op = 3) :
    Calls Try.prog 33 #[.pointer (some ⟨b, 0, none⟩), .int .i64 (i : Int), .slice (some ⟨cb, 0, none⟩) K cp] w (WP N b B0 l tx w M (vis (act l tx M.j) M.j (f + 1) i c s)) := by
  have hmo := may_ok hmay
  have hm20 := hmo.1
  have hok := hmo.2.2.2.2.2 _ (List.getElem_mem hlt)
  have hKs : 2 ≤ K ∧ K ≤ 1002 := by omega
  clear hmo
  have hx := ok_x hok (by rw [hop]; rfl)
  obtain ⟨x, hxe⟩ := Int.eq_ofNat_of_zero_le hx.1
  have hxl : x < l.length := by omega
  have HXE := hid hxe
  have ha := ok_a hok hop
  obtain ⟨a, hae⟩ := Int.eq_ofNat_of_zero_le ha.1
  have hal : a < K := by omega
  have HAE := hid hae
  obtain ⟨i3, hi3, hz30, hz31, hz32⟩ := info_parts info3
  have e1 : vis (act l tx M.j) M.j (f + 1) i c s = vis (act l tx M.j) M.j f x (c.set a (M.j : Int)) (s.mark i) := by
    rw [vis_step ho hm]
    have : act l tx M.j i = .cap x a := by unfold act actI; rw [getD_in' hlt, hop, hxe, hae]; simp
    rw [this]
  rw [e1]
  have hln := h.wj.pi.len
  have c11 := h.wj.rb.c 11
  have c5 := h.wj.rb.c 5
  simp at c11 c5
  rw [h.wj.ov, ho] at c11
  obtain ⟨hmbN, arr, ha, hsz, hr⟩ := h.wj.met
  have hcell : w.cell? ⟨M.mb, i, none⟩ = some (.bool false) := by rw [Joins.cell_of_block ha, hr i hlt]; simp [hm]
  have hfz : w.frozen? ⟨M.mb, i, none⟩ = false := Joins.unfrozen_of_block ha i
  obtain ⟨hJ1, hC1⟩ := h.wj.mark hlt hm
  have hsmall := h.inv.small
  have hfsv := h.wj.fs
  have hfsl : M.fs ≤ 100000020000 := by have := h.sm; omega
  obtain ⟨W1, hW1⟩ : ∃ W1, W1 = w.setCell ⟨M.mb, i, none⟩ (.bool true) := ⟨_, rfl⟩
  have hrb1 : RB W1 b M := by rw [hW1]; exact h.wj.rb.kept (Below.heap_setCell _ _ _ _ (fun e => h.wj.bm e.symm))
  have k10 := hrb1.c 10
  have u10 := hrb1.u 10
  simp at k10
  have hrb0 := hJ1.rb
  obtain ⟨W2, hW2⟩ : ∃ W2, W2 = W1.setCell ⟨b, 10, none⟩ (.int .i64 ((M.fs + 1 : Nat) : Int)) := ⟨_, rfl⟩
  rw [← hW1, ← hW2] at hJ1 hC1 hrb0
  have k0 := hrb0.c 0
  simp at k0
  obtain ⟨pb, po, r1, r2, r3, hpa, hpr, hcs⟩ := inst_pi hJ1.pi hlt
  obtain ⟨⟨m0, m1, m2, m3, m4⟩, _⟩ := hcs W2 (Below.refl _ _)
  have hpa' : M.ad = some ⟨pb, po, none⟩ := hpa
  rw [hpa'] at k0
  have a10 : IntKind.i64.wrap ((M.fs : Int) + 1) = ((M.fs + 1 : Nat) : Int) := by rw [wrap_ok _ (by omega) (by omega)]; omega
  have b2 : (i : Int) < (M.n : Int) := by omega
  have hlen : ((s.mark i).met).length = s.met.length + 1 := by simp [Vst.mark]
  have HLEN := hid hlen
  have HIV := hid (h.inv.mark hlt hm)
  have HJ1 := hid hJ1
  have HC1 := hid hC1
  have HH := hid h
  have HCS := hid hcs
  have HPR := hid hpr
  have HOP := hid hop
  have HOK := hid hok
  have HW1 := hid hW1
  have HW2 : Hid (W2 = W1.setCell ⟨b, 10, none⟩ (.int .i64 ((M.fs : Int) + 1))) := by show W2 = _; rw [hW2, show ((M.fs + 1 : Nat) : Int) = (M.fs : Int) + 1 by omega]
  have hJV := fun (o : Obj) => hJ1.kept (w' := W2.alloc o) (Joins.below_alloc1 W2 o)
  have HJV := hid hJV
  clear h hJ1 hC1 hcs hpr hop hok hW1 hW2 ha hsz hr hrb1 hrb0 hpa hln hlen e1 hsmall hfsv hfsl hJV
  obtain ⟨Mn, hMn⟩ : ∃ Mn, Mn = M.n := ⟨_, rfl⟩
  obtain ⟨Mm, hMm⟩ : ∃ Mm, Mm = M.mb := ⟨_, rfl⟩
  have HMM := hid hMm
  rw [← hMn] at c5 k0 b2
  rw [← hMm] at c5 hcell hfz HW1
  clear hMn hMm hpa'
  clear hxe hae ha
  generalize hs2 : vis (act l tx M.j) M.j f x (c.set a (M.j : Int)) (s.mark i) = s2
  have HS2 := hid hs2
  clear hs2
  go_enter Try.func33, Try.ntmps33
  go_upto_region 2 with fail
  rw [← HW1.out]
  clear HW1 hcell hfz c11 c5
  go_upto_region 3 with fail
  rw [← HW2.out]
  clear HW2 k10 u10 a10
  go_upto_region 4 with fail
  obtain ⟨V, hV⟩ : ∃ V, V = W2.alloc (.cells #[.int .i64 l[i].op, .int .i64 l[i].x, .int .i64 l[i].y, .int .i64 l[i].a, .slice r1 r2 r3] 60) := ⟨_, rfl⟩
  rw [← hV]
  have hbV : Below W2.heap.size W2 V := by rw [hV]; exact Joins.below_alloc1 W2 _
  have hY : V.heap[W2.heap.size]? = some (.cells #[.int .i64 l[i].op, .int .i64 l[i].x, .int .i64 l[i].y, .int .i64 l[i].a, .slice r1 r2 r3] 60 (0, 0)) := by rw [hV]; exact heap_alloc_new W2 _
  have HJ : Hid (WJ V N b B0 l tx { M with fs := M.fs + 1 } (s.mark i) E) := HJ1.out.kept hbV
  have HC : Hid (Chg w V (UF b M) (UF b { M with fs := M.fs + 1 })) := HC1.out.trans (Chg.of_below hbV)
  have HWC : Hid (∀ i', i' < l.length → WC K N b B0 l tx V { M with fs := M.fs + 1 } (s.mark i) E i' c cb cp) := fun i' hi' => HH.out.next HJ.out rfl HC.out HIV.out hi'
  have HBV : Hid (Below N W2 V) := hbV.mono HJ1.out.nw
  obtain ⟨y, hy⟩ : ∃ y, y = W2.heap.size := ⟨_, rfl⟩
  rw [← hy] at hY ⊢
  obtain ⟨v0, v1, v2, v3, v4⟩ := five hY
  rw [HOP.out] at v0
  have HY := hid hY
  have hyV : y < V.heap.size := (Array.getElem?_eq_some_iff.1 hY).1
  clear hV hbV hY hy m0 m1 m2 m3 m4 k0 HJV
  rw [HXE.out] at v1
  rw [HAE.out] at v3
  have hNV := HJ.out.nw
  have HRO := hid (empty3 N V hNV)
  have HSR := hid ((HWC.out x hxl).cap.alloc (.cells #[] 3))
  go_upto_region 12 with (at_builtin; refine wpList_append_row rfl (.tmp 70) (.tmp 71) 29 rfl N 3 i3 (.int .i64 0) 1 8 Try.underlying29 hi3 hz30 hz31 hz32 rfl (by decide) (.slice (some ⟨V.heap.size, 0, none⟩) 0 0) 0 [] rfl HRO.out (.slice (some ⟨cb, 0, none⟩) K cp) K N (I64 c) rfl HSR.out (fun h => by omega) (one64 c) (by unfold maxLen; omega) (by omega) (by (try simp) <;> omega) ?_; intro v7 w7 ho7 hf7 _; obtain ⟨g, q, rfl⟩ := row_got ho7.out (by omega))
  obtain ⟨hb7, hg7⟩ := frm_new hf7.out
  have hgs := hg7 g rfl
  have h7 := ho7.out
  rw [Nat.zero_add, List.nil_append] at h7
  have hcl : c.length = K := by have := h7.1; simpa using this
  have HJ7 := hid (HJ.out.kept hb7)
  have q4 := HJ7.out.rb.c 4
  simp at q4
  have d1 := (cell_eq (hb7.block y hyV) 1).trans v1
  have d3 := (cell_eq (hb7.block y hyV) 3).trans v3
  obtain ⟨o, hoc⟩ : ∃ o, c[a]? = some o := ⟨c[a], List.getElem?_eq_getElem (by omega)⟩
  have hcell : w7.cell? ⟨g, a, none⟩ = some (.int .i64 o) := by rw [h7.cellAt a (by omega)]; simp [hoc]
  have hfz := h7.frozenAt a
  have hrs := row_setC h7 a (.int .i64 (M.j : Int))
  rw [← List.map_set] at hrs
  have HRSS := hid hrs
  have HB7 := hid hb7
  have i1 : (a : Int) < (K : Int) := by omega
  clear hf7 ho7 h7 hrs hb7 hoc hcl HRO HSR v0 v1 v2 v3 v4 hg7
  go_region
  obtain ⟨V3, hV3⟩ : ∃ V3, V3 = (w7.setCell ⟨g, a, none⟩ (.int .i64 (M.j : Int))).drew := ⟨_, rfl⟩
  rw [← hV3]
  have e0 : Hid (Eqw (w7.setCell ⟨g, a, none⟩ (.int .i64 (M.j : Int))) V3) := by rw [hV3]; exact Eqw.drew _
  have hb3 : Below V.heap.size V V3 := (HB7.out.setCell (p := ⟨g, a, none⟩) hgs _).trans (e0.out.below _)
  have p1 : V3.cell? ⟨y, 1, none⟩ = some (.int .i64 (x : Int)) := (cell_eq ((hb3.block y hyV).trans (HB7.out.block y hyV).symm) 1).trans d1
  have HC3 : Hid (Chg w V3 (UF b M) (UF b { M with fs := M.fs + 1 })) := HC.out.trans (Chg.of_below hb3)
  have HJ3 := hid (HJ.out.kept hb3)
  have HI := ih.out x (c.set a (M.j : Int)) (s.mark i) V3 _ E g q ⟨HJ3.out, HH.out.hK, HIV.out, hxl, e0.out.row HRSS.out, HH.out.sm⟩ (by have := HLEN.out; omega)
  rw [show (({ M with fs := M.fs + 1 } : Rv)).j = M.j from rfl, HS2.out] at HI
  clear hV3 hb3 d1 d3 q4 hcell hfz
  go_wp2_with (go_at_call 33; (with_reducible refine HI.mono ?_); rintro e w3 hvp; have HP := hid hvp; obtain ⟨rfl, _⟩ := hvp; clear HI)
  go_end0
  exact HP.out.after HC3.out rfl
set_option maxRecDepth 100000 in
set_option maxHeartbeats 8000000 in
theorem rvisit_assert_t {K N b B0 : Nat} {l : List In} {tx : List Int} {w : World} {M : Rv} {s : Vst} {E : List Ef} {i : Nat} {c : List Int} {cb cp : Nat} {S : Int} (hmay : mayB l S (K : Int) = true) (f : Nat) (ih : Hid (WIH K N b B0 l tx f)) (h : WC K N b B0 l tx w M s E i c cb cp) (hf : l.length < f + 1 + s.met.length) (ho : s.over = false) (hm : i ∉ s.met) (hlt : i < l.length) (hop : l[i].op = 4) (hh : holdsB l[i].a (atP tx M.j) = true) :
    Calls Try.prog 33 #[.pointer (some ⟨b, 0, none⟩), .int .i64 (i : Int), .slice (some ⟨cb, 0, none⟩) K cp] w (WP N b B0 l tx w M (vis (act l tx M.j) M.j (f + 1) i c s)) := by
  have hmo := may_ok hmay
  have hm20 := hmo.1
  have hok := hmo.2.2.2.2.2 _ (List.getElem_mem hlt)
  have hKs : 2 ≤ K ∧ K ≤ 1002 := by omega
  clear hmo
  have hx := ok_x hok (by rw [hop]; rfl)
  obtain ⟨x, hxe⟩ := Int.eq_ofNat_of_zero_le hx.1
  have hxl : x < l.length := by omega
  have HXE := hid hxe
  have e1 : vis (act l tx M.j) M.j (f + 1) i c s = vis (act l tx M.j) M.j f x c (s.mark i) := by
    rw [vis_step ho hm]
    have : act l tx M.j i = .go x := by unfold act actI; rw [getD_in' hlt, hop, hh]; simp [hxe]
    rw [this]
  rw [e1]
  have hln := h.wj.pi.len
  have c11 := h.wj.rb.c 11
  have c5 := h.wj.rb.c 5
  simp at c11 c5
  rw [h.wj.ov, ho] at c11
  obtain ⟨hmbN, arr, ha, hsz, hr⟩ := h.wj.met
  have hcell : w.cell? ⟨M.mb, i, none⟩ = some (.bool false) := by rw [Joins.cell_of_block ha, hr i hlt]; simp [hm]
  have hfz : w.frozen? ⟨M.mb, i, none⟩ = false := Joins.unfrozen_of_block ha i
  obtain ⟨hJ1, hC1⟩ := h.wj.mark hlt hm
  have hsmall := h.inv.small
  have hfsv := h.wj.fs
  have hfsl : M.fs ≤ 100000020000 := by have := h.sm; omega
  obtain ⟨W1, hW1⟩ : ∃ W1, W1 = w.setCell ⟨M.mb, i, none⟩ (.bool true) := ⟨_, rfl⟩
  have hrb1 : RB W1 b M := by rw [hW1]; exact h.wj.rb.kept (Below.heap_setCell _ _ _ _ (fun e => h.wj.bm e.symm))
  have k10 := hrb1.c 10
  have u10 := hrb1.u 10
  simp at k10
  have hrb0 := hJ1.rb
  obtain ⟨W2, hW2⟩ : ∃ W2, W2 = W1.setCell ⟨b, 10, none⟩ (.int .i64 ((M.fs + 1 : Nat) : Int)) := ⟨_, rfl⟩
  rw [← hW1, ← hW2] at hJ1 hC1 hrb0
  have k0 := hrb0.c 0
  simp at k0
  obtain ⟨pb, po, r1, r2, r3, hpa, hpr, hcs⟩ := inst_pi hJ1.pi hlt
  obtain ⟨⟨m0, m1, m2, m3, m4⟩, _⟩ := hcs W2 (Below.refl _ _)
  have hpa' : M.ad = some ⟨pb, po, none⟩ := hpa
  rw [hpa'] at k0
  have a10 : IntKind.i64.wrap ((M.fs : Int) + 1) = ((M.fs + 1 : Nat) : Int) := by rw [wrap_ok _ (by omega) (by omega)]; omega
  have b2 : (i : Int) < (M.n : Int) := by omega
  have hlen : ((s.mark i).met).length = s.met.length + 1 := by simp [Vst.mark]
  have HLEN := hid hlen
  have HIV := hid (h.inv.mark hlt hm)
  have HJ1 := hid hJ1
  have HC1 := hid hC1
  have HH := hid h
  have HCS := hid hcs
  have HPR := hid hpr
  have HOP := hid hop
  have HOK := hid hok
  have HW1 := hid hW1
  have HW2 : Hid (W2 = W1.setCell ⟨b, 10, none⟩ (.int .i64 ((M.fs : Int) + 1))) := by show W2 = _; rw [hW2, show ((M.fs + 1 : Nat) : Int) = (M.fs : Int) + 1 by omega]
  have hJV := fun (o : Obj) => hJ1.kept (w' := W2.alloc o) (Joins.below_alloc1 W2 o)
  have HJV := hid hJV
  clear h hJ1 hC1 hcs hpr hop hok hW1 hW2 ha hsz hr hrb1 hrb0 hpa hln hlen e1 hsmall hfsv hfsl hJV
  obtain ⟨Mn, hMn⟩ : ∃ Mn, Mn = M.n := ⟨_, rfl⟩
  obtain ⟨Mm, hMm⟩ : ∃ Mm, Mm = M.mb := ⟨_, rfl⟩
  have HMM := hid hMm
  rw [← hMn] at c5 k0 b2
  rw [← hMm] at c5 hcell hfz HW1
  clear hMn hMm hpa'
  have HHB := hid hh
  clear hxe hh
  generalize hs2 : vis (act l tx M.j) M.j f x c (s.mark i) = s2
  have HS2 := hid hs2
  clear hs2
  go_enter Try.func33, Try.ntmps33
  go_upto_region 2 with fail
  rw [← HW1.out]
  clear HW1 hcell hfz c11 c5
  go_upto_region 3 with fail
  rw [← HW2.out]
  clear HW2 k10 u10 a10
  go_upto_region 4 with fail
  obtain ⟨V, hV⟩ : ∃ V, V = W2.alloc (.cells #[.int .i64 l[i].op, .int .i64 l[i].x, .int .i64 l[i].y, .int .i64 l[i].a, .slice r1 r2 r3] 60) := ⟨_, rfl⟩
  rw [← hV]
  have hbV : Below W2.heap.size W2 V := by rw [hV]; exact Joins.below_alloc1 W2 _
  have hY : V.heap[W2.heap.size]? = some (.cells #[.int .i64 l[i].op, .int .i64 l[i].x, .int .i64 l[i].y, .int .i64 l[i].a, .slice r1 r2 r3] 60 (0, 0)) := by rw [hV]; exact heap_alloc_new W2 _
  have HJ : Hid (WJ V N b B0 l tx { M with fs := M.fs + 1 } (s.mark i) E) := HJ1.out.kept hbV
  have HC : Hid (Chg w V (UF b M) (UF b { M with fs := M.fs + 1 })) := HC1.out.trans (Chg.of_below hbV)
  have HWC : Hid (∀ i', i' < l.length → WC K N b B0 l tx V { M with fs := M.fs + 1 } (s.mark i) E i' c cb cp) := fun i' hi' => HH.out.next HJ.out rfl HC.out HIV.out hi'
  have HBV : Hid (Below N W2 V) := hbV.mono HJ1.out.nw
  obtain ⟨y, hy⟩ : ∃ y, y = W2.heap.size := ⟨_, rfl⟩
  rw [← hy] at hY ⊢
  obtain ⟨v0, v1, v2, v3, v4⟩ := five hY
  rw [HOP.out] at v0
  have HY := hid hY
  have hyV : y < V.heap.size := (Array.getElem?_eq_some_iff.1 hY).1
  clear hV hbV hY hy m0 m1 m2 m3 m4 k0 HJV
  rw [HXE.out] at v1
  have q3 := HJ.out.rb.c 3
  have q4 := HJ.out.rb.c 4
  simp at q3 q4
  have HAT : Hid (∀ W, Eqw V W → Calls Try.prog 37 #[.slice M.tad M.tn M.tc, .int .i64 (M.j : Int)] W fun e w' => e = .returned (.int .i64 (atP tx M.j)) ∧ w' = W) := fun W e => ref_in tx M.tad M.tn M.tc M.j W N (HJ.out.tt.below (e.below _)) HJ.out.hj
  have HHO : Hid (∀ W, Calls Try.prog 38 #[.int .i64 l[i].a, .int .i64 (atP tx M.j)] W fun e w' => e = .returned (.bool (holdsB l[i].a (atP tx M.j))) ∧ w' = W) := fun W => holds57 _ _ W
  rw [HHB.out] at HHO
  generalize atP tx M.j = at0 at HAT HHO HHB
  generalize hMt : M.tad = tad at q3 HAT
  generalize hMn : M.tn = tn at q3 HAT
  generalize hMc : M.tc = tc at q3 HAT
  have HAT2 := HAT
  clear hMt hMn hMc
  go_upto_region 15 with fail
  go_quiet (first | (go_at_call 37; with_reducible refine Calls.quiet_of_same (HAT.out _ (by exact ⟨rfl, rfl, rfl, rfl⟩))))
  obtain ⟨V2, hV2⟩ : ∃ V2, V2 = V.drewN nq := ⟨_, rfl⟩
  rw [← hV2]
  have hE2 : Eqw V V2 := by rw [hV2]; exact Eqw.drewN V nq
  have hb2 : Below V.heap.size V V2 := hE2.below _
  have HJ2 := hid (HJ.out.kept hb2)
  have HC2 : Hid (Chg w V2 (UF b M) (UF b { M with fs := M.fs + 1 })) := HC.out.trans (Chg.of_below hb2)
  have p1 := (cell_eq (hE2.blk y) 1).trans v1
  have p3 := (cell_eq (hE2.blk y) 3).trans v3
  have HHO2 := HHO.out V2
  have HI := ih.out x c (s.mark i) V2 _ E cb cp (HH.out.next HJ2.out rfl HC2.out HIV.out hxl) (by have := HLEN.out; omega)
  rw [show (({ M with fs := M.fs + 1 } : Rv)).j = M.j from rfl, HS2.out] at HI
  clear hV2 hE2 hb2 v0 v1 v2 v3 v4 HAT HAT2 HHO q3 q4
  go_wp2_with (first | (go_at_call 38; (with_reducible refine HHO2.mono ?_); rintro e w3 ⟨rfl, rfl⟩; clear HHO2) | (go_at_call 33; (with_reducible refine HI.mono ?_); rintro e w4 hvp; have HP := hid hvp; obtain ⟨rfl, _⟩ := hvp; clear HI))
  go_end0
  exact HP.out.after HC2.out rfl
set_option maxRecDepth 100000 in
set_option maxHeartbeats 8000000 in
theorem rvisit_assert_f {K N b B0 : Nat} {l : List In} {tx : List Int} {w : World} {M : Rv} {s : Vst} {E : List Ef} {i : Nat} {c : List Int} {cb cp : Nat} {S : Int} (hmay : mayB l S (K : Int) = true) (f : Nat) (ih : Hid (WIH K N b B0 l tx f)) (h : WC K N b B0 l tx w M s E i c cb cp) (hf : l.length < f + 1 + s.met.length) (ho : s.over = false) (hm : i ∉ s.met) (hlt : i < l.length) (hop : l[i].op = 4) (hh : holdsB l[i].a (atP tx M.j) = false) :
    Calls Try.prog 33 #[.pointer (some ⟨b, 0, none⟩), .int .i64 (i : Int), .slice (some ⟨cb, 0, none⟩) K cp] w (WP N b B0 l tx w M (vis (act l tx M.j) M.j (f + 1) i c s)) := by
  have hmo := may_ok hmay
  have hm20 := hmo.1
  have hok := hmo.2.2.2.2.2 _ (List.getElem_mem hlt)
  have hKs : 2 ≤ K ∧ K ≤ 1002 := by omega
  clear hmo
  have hx := ok_x hok (by rw [hop]; rfl)
  obtain ⟨x, hxe⟩ := Int.eq_ofNat_of_zero_le hx.1
  have hxl : x < l.length := by omega
  have HXE := hid hxe
  have e1 : vis (act l tx M.j) M.j (f + 1) i c s = s.mark i := by
    rw [vis_step ho hm]
    have : act l tx M.j i = .stop := by unfold act actI; rw [getD_in' hlt, hop, hh]; simp
    rw [this]
  rw [e1]
  have hln := h.wj.pi.len
  have c11 := h.wj.rb.c 11
  have c5 := h.wj.rb.c 5
  simp at c11 c5
  rw [h.wj.ov, ho] at c11
  obtain ⟨hmbN, arr, ha, hsz, hr⟩ := h.wj.met
  have hcell : w.cell? ⟨M.mb, i, none⟩ = some (.bool false) := by rw [Joins.cell_of_block ha, hr i hlt]; simp [hm]
  have hfz : w.frozen? ⟨M.mb, i, none⟩ = false := Joins.unfrozen_of_block ha i
  obtain ⟨hJ1, hC1⟩ := h.wj.mark hlt hm
  have hsmall := h.inv.small
  have hfsv := h.wj.fs
  have hfsl : M.fs ≤ 100000020000 := by have := h.sm; omega
  obtain ⟨W1, hW1⟩ : ∃ W1, W1 = w.setCell ⟨M.mb, i, none⟩ (.bool true) := ⟨_, rfl⟩
  have hrb1 : RB W1 b M := by rw [hW1]; exact h.wj.rb.kept (Below.heap_setCell _ _ _ _ (fun e => h.wj.bm e.symm))
  have k10 := hrb1.c 10
  have u10 := hrb1.u 10
  simp at k10
  have hrb0 := hJ1.rb
  obtain ⟨W2, hW2⟩ : ∃ W2, W2 = W1.setCell ⟨b, 10, none⟩ (.int .i64 ((M.fs + 1 : Nat) : Int)) := ⟨_, rfl⟩
  rw [← hW1, ← hW2] at hJ1 hC1 hrb0
  have k0 := hrb0.c 0
  simp at k0
  obtain ⟨pb, po, r1, r2, r3, hpa, hpr, hcs⟩ := inst_pi hJ1.pi hlt
  obtain ⟨⟨m0, m1, m2, m3, m4⟩, _⟩ := hcs W2 (Below.refl _ _)
  have hpa' : M.ad = some ⟨pb, po, none⟩ := hpa
  rw [hpa'] at k0
  have a10 : IntKind.i64.wrap ((M.fs : Int) + 1) = ((M.fs + 1 : Nat) : Int) := by rw [wrap_ok _ (by omega) (by omega)]; omega
  have b2 : (i : Int) < (M.n : Int) := by omega
  have hlen : ((s.mark i).met).length = s.met.length + 1 := by simp [Vst.mark]
  have HLEN := hid hlen
  have HIV := hid (h.inv.mark hlt hm)
  have HJ1 := hid hJ1
  have HC1 := hid hC1
  have HH := hid h
  have HCS := hid hcs
  have HPR := hid hpr
  have HOP := hid hop
  have HOK := hid hok
  have HW1 := hid hW1
  have HW2 : Hid (W2 = W1.setCell ⟨b, 10, none⟩ (.int .i64 ((M.fs : Int) + 1))) := by show W2 = _; rw [hW2, show ((M.fs + 1 : Nat) : Int) = (M.fs : Int) + 1 by omega]
  have hJV := fun (o : Obj) => hJ1.kept (w' := W2.alloc o) (Joins.below_alloc1 W2 o)
  have HJV := hid hJV
  clear h hJ1 hC1 hcs hpr hop hok hW1 hW2 ha hsz hr hrb1 hrb0 hpa hln hlen e1 hsmall hfsv hfsl hJV
  obtain ⟨Mn, hMn⟩ : ∃ Mn, Mn = M.n := ⟨_, rfl⟩
  obtain ⟨Mm, hMm⟩ : ∃ Mm, Mm = M.mb := ⟨_, rfl⟩
  have HMM := hid hMm
  rw [← hMn] at c5 k0 b2
  rw [← hMm] at c5 hcell hfz HW1
  clear hMn hMm hpa'
  have HHB := hid hh
  clear hxe hh
  go_enter Try.func33, Try.ntmps33
  go_upto_region 2 with fail
  rw [← HW1.out]
  clear HW1 hcell hfz c11 c5
  go_upto_region 3 with fail
  rw [← HW2.out]
  clear HW2 k10 u10 a10
  go_upto_region 4 with fail
  obtain ⟨V, hV⟩ : ∃ V, V = W2.alloc (.cells #[.int .i64 l[i].op, .int .i64 l[i].x, .int .i64 l[i].y, .int .i64 l[i].a, .slice r1 r2 r3] 60) := ⟨_, rfl⟩
  rw [← hV]
  have hbV : Below W2.heap.size W2 V := by rw [hV]; exact Joins.below_alloc1 W2 _
  have hY : V.heap[W2.heap.size]? = some (.cells #[.int .i64 l[i].op, .int .i64 l[i].x, .int .i64 l[i].y, .int .i64 l[i].a, .slice r1 r2 r3] 60 (0, 0)) := by rw [hV]; exact heap_alloc_new W2 _
  have HJ : Hid (WJ V N b B0 l tx { M with fs := M.fs + 1 } (s.mark i) E) := HJ1.out.kept hbV
  have HC : Hid (Chg w V (UF b M) (UF b { M with fs := M.fs + 1 })) := HC1.out.trans (Chg.of_below hbV)
  have HWC : Hid (∀ i', i' < l.length → WC K N b B0 l tx V { M with fs := M.fs + 1 } (s.mark i) E i' c cb cp) := fun i' hi' => HH.out.next HJ.out rfl HC.out HIV.out hi'
  have HBV : Hid (Below N W2 V) := hbV.mono HJ1.out.nw
  obtain ⟨y, hy⟩ : ∃ y, y = W2.heap.size := ⟨_, rfl⟩
  rw [← hy] at hY ⊢
  obtain ⟨v0, v1, v2, v3, v4⟩ := five hY
  rw [HOP.out] at v0
  have HY := hid hY
  have hyV : y < V.heap.size := (Array.getElem?_eq_some_iff.1 hY).1
  clear hV hbV hY hy m0 m1 m2 m3 m4 k0 HJV
  rw [HXE.out] at v1
  have q3 := HJ.out.rb.c 3
  have q4 := HJ.out.rb.c 4
  simp at q3 q4
  have HAT : Hid (∀ W, Eqw V W → Calls Try.prog 37 #[.slice M.tad M.tn M.tc, .int .i64 (M.j : Int)] W fun e w' => e = .returned (.int .i64 (atP tx M.j)) ∧ w' = W) := fun W e => ref_in tx M.tad M.tn M.tc M.j W N (HJ.out.tt.below (e.below _)) HJ.out.hj
  have HHO : Hid (∀ W, Calls Try.prog 38 #[.int .i64 l[i].a, .int .i64 (atP tx M.j)] W fun e w' => e = .returned (.bool (holdsB l[i].a (atP tx M.j))) ∧ w' = W) := fun W => holds57 _ _ W
  rw [HHB.out] at HHO
  generalize atP tx M.j = at0 at HAT HHO HHB
  generalize hMt : M.tad = tad at q3 HAT
  generalize hMn : M.tn = tn at q3 HAT
  generalize hMc : M.tc = tc at q3 HAT
  have HAT2 := HAT
  clear hMt hMn hMc
  go_upto_region 15 with fail
  go_quiet (first | (go_at_call 37; with_reducible refine Calls.quiet_of_same (HAT.out _ (by exact ⟨rfl, rfl, rfl, rfl⟩))))
  obtain ⟨V2, hV2⟩ : ∃ V2, V2 = V.drewN nq := ⟨_, rfl⟩
  rw [← hV2]
  have hE2 : Eqw V V2 := by rw [hV2]; exact Eqw.drewN V nq
  have hb2 : Below V.heap.size V V2 := hE2.below _
  have HJ2 := hid (HJ.out.kept hb2)
  have HC2 : Hid (Chg w V2 (UF b M) (UF b { M with fs := M.fs + 1 })) := HC.out.trans (Chg.of_below hb2)
  have p1 := (cell_eq (hE2.blk y) 1).trans v1
  have p3 := (cell_eq (hE2.blk y) 3).trans v3
  have HHO2 := HHO.out V2
  clear hV2 hE2 hb2 v0 v1 v2 v3 v4 HAT HAT2 HHO q3 q4
  go_wp2_with (first | (go_at_call 38; (with_reducible refine HHO2.mono ?_); rintro e w3 ⟨rfl, rfl⟩; clear HHO2))
  go_end0
  exact ⟨rfl, _, E, HJ2.out, rfl, HC2.out⟩
end Go.Proofs.Ytiggbgmnibndoaa
/- HELPERS: the document's visit in memory: runes and matches; the visit whole. -/
namespace Go.Proofs.Ytiggbgmnibndoaa
open Go.RowKit Go.Lk
set_option linter.unusedVariables false
set_option linter.unusedSimpArgs false
theorem info69 : (Try.prog.info? 77).map (fun i => (i.zero, i.size, i.bytes)) = some (some (.agg #[.int .i64 0, .slice none 0 0]), 2, 32) := by kernel_rfl
theorem WJ.fit2 {w w7 : World} {N b B0 : Nat} {l : List In} {tx : List Int} {M : Rv} {s : Vst} {E : List Ef} {g q K : Nat} {a : Int} {c : List Int} (h : WJ w N b B0 l tx M s E) (hK : M.K = K) (hb : Below (w.setCell ⟨b, 7, none⟩ (.bool true)).heap.size (w.setCell ⟨b, 7, none⟩ (.bool true)) w7) (hr : w7.ownsRow N 3 1 (.slice (some ⟨g, 0, none⟩) K q) K (I64 c)) :
    WJ (((w7.setCell ⟨b, 8, none⟩ (.slice (some ⟨g, 0, none⟩) K q)).setCell ⟨b, 9, none⟩ (.int .i64 a)).setCell ⟨b, 11, none⟩ (.bool true)) N b B0 l tx { M with fok := true, f1 := some ⟨g, 0, none⟩, f2 := K, f3 := q, fw := a, ov := true } { s with found := some (a, c), over := true } E ∧
    Chg w (((w7.setCell ⟨b, 8, none⟩ (.slice (some ⟨g, 0, none⟩) K q)).setCell ⟨b, 9, none⟩ (.int .i64 a)).setCell ⟨b, 11, none⟩ (.bool true)) (UF b M) (UF b M) := by
  subst hK
  obtain ⟨hn, arr, ha, hsz, hrr⟩ := h.met
  have hs0 : (w.setCell ⟨b, 7, none⟩ (.bool true)).heap.size = w.heap.size := by simp [World.setCell]
  have hc : Chg w (((w7.setCell ⟨b, 8, none⟩ (.slice (some ⟨g, 0, none⟩) M.K q)).setCell ⟨b, 9, none⟩ (.int .i64 a)).setCell ⟨b, 11, none⟩ (.bool true)) (UF b M) (UF b M) := ((((((Chg.refl w (UF b M)).set (a := ⟨b, 7, none⟩) (.bool true) (by simp [UF])).trans (Chg.of_below hb)).set (a := ⟨b, 8, none⟩) _ (by simp [UF])).set (a := ⟨b, 9, none⟩) _ (by simp [UF])).set (a := ⟨b, 11, none⟩) _ (by simp [UF]))
  have hbel := hc.below h.nw (fun k hk => (h.low k hk).1)
  have h3 : ∀ n xs v, w.ownsRow N 3 1 v n xs → (((w7.setCell ⟨b, 8, none⟩ (.slice (some ⟨g, 0, none⟩) M.K q)).setCell ⟨b, 9, none⟩ (.int .i64 a)).setCell ⟨b, 11, none⟩ (.bool true)).ownsRow N 3 1 v n xs := fun n xs v ho => three_kept hc ho h.no3
  have hne : ∀ k, k < w.heap.size → k ≠ b → (((w7.setCell ⟨b, 8, none⟩ (.slice (some ⟨g, 0, none⟩) M.K q)).setCell ⟨b, 9, none⟩ (.int .i64 a)).setCell ⟨b, 11, none⟩ (.bool true)).heap[k]? = w.heap[k]? := fun k hk hkb => (Below.heap_setCell _ _ _ _ hkb).trans ((Below.heap_setCell _ _ _ _ hkb).trans ((Below.heap_setCell _ _ _ _ hkb).trans ((hb.block k (by omega)).trans (Below.heap_setCell _ _ _ _ hkb))))
  have hrb7 : RB w7 b { M with fok := true } := (h.rb.upd 7 (.bool true) { M with fok := true } rfl).kept (hb.block b (by have := h.rb.lt; omega))
  have hrb := ((hrb7.upd 8 (.slice (some ⟨g, 0, none⟩) M.K q) { M with fok := true, f1 := some ⟨g, 0, none⟩, f2 := M.K, f3 := q } rfl).upd 9 (.int .i64 a) { M with fok := true, f1 := some ⟨g, 0, none⟩, f2 := M.K, f3 := q, fw := a } rfl).upd 11 (.bool true) { M with fok := true, f1 := some ⟨g, 0, none⟩, f2 := M.K, f3 := q, fw := a, ov := true } rfl
  have hgb : (Value.slice (some ⟨g, 0, none⟩) M.K q).ownBlock ≠ some b := own_ne hr hrb7 (by decide)
  refine ⟨⟨hrb, h.nb, Nat.le_trans h.nw hbel.size, h.pi.kept hbel (Nat.le_refl _), h.tt.below hbel, h.hj, ⟨hn, arr, (hne _ (Array.getElem?_eq_some_iff.1 ha).1 h.bm).trans ha, hsz, hrr⟩, ⟨h.row.len, row_kept h.row.row (fun k hk => hne k (h.row.row.lt k hk).2 (h.zb k (by simp [zF, hk])).1), fun e he => h3 _ _ _ (h.row.caps e he)⟩, h.nx, ⟨g, rfl, rfl, rfl, rfl, own_setCell (own_setCell (own_setCell hr hgb) hgb) hgb⟩, rfl, h.fs⟩, hc⟩
set_option maxRecDepth 100000 in
set_option maxHeartbeats 8000000 in
theorem rvisit_match {K N b B0 : Nat} {l : List In} {tx : List Int} {w : World} {M : Rv} {s : Vst} {E : List Ef} {i : Nat} {c : List Int} {cb cp : Nat} {S : Int} (hmay : mayB l S (K : Int) = true) (f : Nat) (ih : Hid (WIH K N b B0 l tx f)) (h : WC K N b B0 l tx w M s E i c cb cp) (hf : l.length < f + 1 + s.met.length) (ho : s.over = false) (hm : i ∉ s.met) (hlt : i < l.length) (hop : l[i].op = 5) :
    Calls Try.prog 33 #[.pointer (some ⟨b, 0, none⟩), .int .i64 (i : Int), .slice (some ⟨cb, 0, none⟩) K cp] w (WP N b B0 l tx w M (vis (act l tx M.j) M.j (f + 1) i c s)) := by
  have hmo := may_ok hmay
  have hm20 := hmo.1
  have hok := hmo.2.2.2.2.2 _ (List.getElem_mem hlt)
  have hKs : 2 ≤ K ∧ K ≤ 1002 := by omega
  clear hmo
  obtain ⟨i3, hi3, hz30, hz31, hz32⟩ := info_parts info3
  have e1 : vis (act l tx M.j) M.j (f + 1) i c s = { s.mark i with found := some (l[i].a, c), over := true } := by
    rw [vis_step ho hm]
    have : act l tx M.j i = .fit l[i].a := by unfold act actI; rw [getD_in' hlt, hop]; simp
    rw [this]
  rw [e1]
  have hln := h.wj.pi.len
  have c11 := h.wj.rb.c 11
  have c5 := h.wj.rb.c 5
  simp at c11 c5
  rw [h.wj.ov, ho] at c11
  obtain ⟨hmbN, arr, ha, hsz, hr⟩ := h.wj.met
  have hcell : w.cell? ⟨M.mb, i, none⟩ = some (.bool false) := by rw [Joins.cell_of_block ha, hr i hlt]; simp [hm]
  have hfz : w.frozen? ⟨M.mb, i, none⟩ = false := Joins.unfrozen_of_block ha i
  obtain ⟨hJ1, hC1⟩ := h.wj.mark hlt hm
  have hsmall := h.inv.small
  have hfsv := h.wj.fs
  have hfsl : M.fs ≤ 100000020000 := by have := h.sm; omega
  obtain ⟨W1, hW1⟩ : ∃ W1, W1 = w.setCell ⟨M.mb, i, none⟩ (.bool true) := ⟨_, rfl⟩
  have hrb1 : RB W1 b M := by rw [hW1]; exact h.wj.rb.kept (Below.heap_setCell _ _ _ _ (fun e => h.wj.bm e.symm))
  have k10 := hrb1.c 10
  have u10 := hrb1.u 10
  simp at k10
  have hrb0 := hJ1.rb
  obtain ⟨W2, hW2⟩ : ∃ W2, W2 = W1.setCell ⟨b, 10, none⟩ (.int .i64 ((M.fs + 1 : Nat) : Int)) := ⟨_, rfl⟩
  rw [← hW1, ← hW2] at hJ1 hC1 hrb0
  have k0 := hrb0.c 0
  simp at k0
  obtain ⟨pb, po, r1, r2, r3, hpa, hpr, hcs⟩ := inst_pi hJ1.pi hlt
  obtain ⟨⟨m0, m1, m2, m3, m4⟩, _⟩ := hcs W2 (Below.refl _ _)
  have hpa' : M.ad = some ⟨pb, po, none⟩ := hpa
  rw [hpa'] at k0
  have a10 : IntKind.i64.wrap ((M.fs : Int) + 1) = ((M.fs + 1 : Nat) : Int) := by rw [wrap_ok _ (by omega) (by omega)]; omega
  have b2 : (i : Int) < (M.n : Int) := by omega
  have hlen : ((s.mark i).met).length = s.met.length + 1 := by simp [Vst.mark]
  have HLEN := hid hlen
  have HIV := hid (h.inv.mark hlt hm)
  have HJ1 := hid hJ1
  have HC1 := hid hC1
  have HH := hid h
  have HCS := hid hcs
  have HPR := hid hpr
  have HOP := hid hop
  have HOK := hid hok
  have HW1 := hid hW1
  have HW2 : Hid (W2 = W1.setCell ⟨b, 10, none⟩ (.int .i64 ((M.fs : Int) + 1))) := by show W2 = _; rw [hW2, show ((M.fs + 1 : Nat) : Int) = (M.fs : Int) + 1 by omega]
  have hJV := fun (o : Obj) => hJ1.kept (w' := W2.alloc o) (Joins.below_alloc1 W2 o)
  have HJV := hid hJV
  clear h hJ1 hC1 hcs hpr hop hok hW1 hW2 ha hsz hr hrb1 hrb0 hpa hln hlen e1 hsmall hfsv hfsl hJV
  obtain ⟨Mn, hMn⟩ : ∃ Mn, Mn = M.n := ⟨_, rfl⟩
  obtain ⟨Mm, hMm⟩ : ∃ Mm, Mm = M.mb := ⟨_, rfl⟩
  have HMM := hid hMm
  rw [← hMn] at c5 k0 b2
  rw [← hMm] at c5 hcell hfz HW1
  clear hMn hMm hpa'
  go_enter Try.func33, Try.ntmps33
  go_upto_region 2 with fail
  rw [← HW1.out]
  clear HW1 hcell hfz c11 c5
  go_upto_region 3 with fail
  rw [← HW2.out]
  clear HW2 k10 u10 a10
  go_upto_region 4 with fail
  obtain ⟨V, hV⟩ : ∃ V, V = W2.alloc (.cells #[.int .i64 l[i].op, .int .i64 l[i].x, .int .i64 l[i].y, .int .i64 l[i].a, .slice r1 r2 r3] 60) := ⟨_, rfl⟩
  rw [← hV]
  have hbV : Below W2.heap.size W2 V := by rw [hV]; exact Joins.below_alloc1 W2 _
  have hY : V.heap[W2.heap.size]? = some (.cells #[.int .i64 l[i].op, .int .i64 l[i].x, .int .i64 l[i].y, .int .i64 l[i].a, .slice r1 r2 r3] 60 (0, 0)) := by rw [hV]; exact heap_alloc_new W2 _
  have HJ : Hid (WJ V N b B0 l tx { M with fs := M.fs + 1 } (s.mark i) E) := HJ1.out.kept hbV
  have HC : Hid (Chg w V (UF b M) (UF b { M with fs := M.fs + 1 })) := HC1.out.trans (Chg.of_below hbV)
  have HWC : Hid (∀ i', i' < l.length → WC K N b B0 l tx V { M with fs := M.fs + 1 } (s.mark i) E i' c cb cp) := fun i' hi' => HH.out.next HJ.out rfl HC.out HIV.out hi'
  have HBV : Hid (Below N W2 V) := hbV.mono HJ1.out.nw
  obtain ⟨y, hy⟩ : ∃ y, y = W2.heap.size := ⟨_, rfl⟩
  rw [← hy] at hY ⊢
  obtain ⟨v0, v1, v2, v3, v4⟩ := five hY
  rw [HOP.out] at v0
  have HY := hid hY
  have hyV : y < V.heap.size := (Array.getElem?_eq_some_iff.1 hY).1
  clear hV hbV hY hy m0 m1 m2 m3 m4 k0 HJV
  generalize hla : l[i].a = la at v3 HY
  have HLA := hid hla
  clear hla
  have k7 := HJ.out.rb.c 7
  have u7 := HJ.out.rb.u 7
  simp at k7
  go_upto_region 25 with fail
  obtain ⟨V1, hV1⟩ : ∃ V1, V1 = V.setCell ⟨b, 7, none⟩ (.bool true) := ⟨_, rfl⟩
  rw [← hV1]
  have hs1 : V1.heap.size = V.heap.size := by rw [hV1]; simp [World.setCell]
  have hNV := HJ.out.nw
  have HRB1 : Hid (RB V1 b { M with fs := M.fs + 1, fok := true }) := by rw [hV1]; exact HJ.out.rb.upd 7 _ _ rfl
  have hyb : y ≠ b := fun e => by have := HJ.out.rb; rw [e] at HY; unfold RB at this; rw [HY.out] at this; simp at this
  have HY1 : Hid (V1.heap[y]? = some (.cells #[.int .i64 l[i].op, .int .i64 l[i].x, .int .i64 l[i].y, .int .i64 la, .slice r1 r2 r3] 60 (0, 0))) := by rw [hV1]; exact (Below.heap_setCell _ _ _ _ hyb).trans HY.out
  have hcap1 : V1.ownsRow N 3 1 (.slice (some ⟨cb, 0, none⟩) K cp) K (I64 c) := by rw [hV1]; exact own_setCell (HWC.out i hlt).cap (own_ne (HWC.out i hlt).cap HJ.out.rb (by decide))
  have HRO := hid (empty3 N V1 (by omega))
  have HS1 := hid hs1
  have hNV1 : N ≤ V1.heap.size := by omega
  have hyV1 : y < V1.heap.size := by omega
  have HSR := hid (hcap1.alloc (.cells #[] 3))
  have HV1 := hid hV1
  clear hV1 k7 u7 v0 v1 v2 v3 v4 hcap1 hs1
  go_upto_region 26 with (at_builtin; refine wpList_append_row rfl (.tmp 155) (.tmp 156) 29 rfl N 3 i3 (.int .i64 0) 1 8 Try.underlying29 hi3 hz30 hz31 hz32 rfl (by decide) (.slice (some ⟨V1.heap.size, 0, none⟩) 0 0) 0 [] rfl HRO.out (.slice (some ⟨cb, 0, none⟩) K cp) K N (I64 c) rfl HSR.out (fun h => by omega) (one64 c) (by unfold maxLen; omega) (by omega) (by (try simp) <;> omega) ?_; intro v7 w7 ho7 hf7 _; obtain ⟨g, q, rfl⟩ := row_got ho7.out (by omega); have hb7 := (frm_new hf7.out).1; have hrb7 := HRB1.out.kept (hb7.block b HRB1.out.lt); have k8 := hrb7.c 8; have u8 := hrb7.u 8; simp at k8; have HRB7 := hid hrb7; have HB7 := hid hb7; have HO7 := hid ho7.out; clear hb7 hrb7 ho7 hf7)
  have HO := HO7.out
  rw [Nat.zero_add, List.nil_append] at HO
  obtain ⟨V8, hV8⟩ : ∃ V8, V8 = w7.setCell ⟨b, 8, none⟩ (.slice (some ⟨g, 0, none⟩) K q) := ⟨_, rfl⟩
  rw [← hV8]
  have HRB8 : Hid (RB V8 b { M with fs := M.fs + 1, fok := true, f1 := some ⟨g, 0, none⟩, f2 := K, f3 := q }) := by rw [hV8]; exact HRB7.out.upd 8 _ _ rfl
  have hY8 : V8.heap[y]? = some (.cells #[.int .i64 l[i].op, .int .i64 l[i].x, .int .i64 l[i].y, .int .i64 la, .slice r1 r2 r3] 60 (0, 0)) := by rw [hV8]; exact (Below.heap_setCell _ _ _ _ hyb).trans ((HB7.out.block y hyV1).trans HY1.out)
  obtain ⟨_, _, _, v3, _⟩ := five hY8
  have k9 := HRB8.out.c 9
  have u9 := HRB8.out.u 9
  simp at k9
  have HV8 := hid hV8
  have HO2 := hid HO
  clear hV8 hY8 HO k8 u8
  go_upto_region 27 with fail
  obtain ⟨V9, hV9⟩ : ∃ V9, V9 = V8.setCell ⟨b, 9, none⟩ (.int .i64 la) := ⟨_, rfl⟩
  rw [← hV9]
  have HRB9 : Hid (RB V9 b { M with fs := M.fs + 1, fok := true, f1 := some ⟨g, 0, none⟩, f2 := K, f3 := q, fw := la }) := by rw [hV9]; exact HRB8.out.upd 9 _ _ rfl
  have k11 := HRB9.out.c 11
  have u11 := HRB9.out.u 11
  simp at k11
  have HV9 := hid hV9
  clear hV9 k9 u9 v3
  go_wp2
  go_end0
  rw [HV9.out, HV8.out]
  obtain ⟨p1, p2⟩ := HJ.out.fit2 (a := la) (c := c) (K := K) HH.out.hK (by rw [← HV1.out]; exact HB7.out) HO2.out
  rw [HLA.out]
  exact ⟨rfl, _, E, p1, rfl, HC.out.trans p2⟩
set_option maxRecDepth 100000 in
set_option maxHeartbeats 8000000 in
theorem rvisit_rune_end {K N b B0 : Nat} {l : List In} {tx : List Int} {w : World} {M : Rv} {s : Vst} {E : List Ef} {i : Nat} {c : List Int} {cb cp : Nat} {S : Int} (hmay : mayB l S (K : Int) = true) (f : Nat) (ih : Hid (WIH K N b B0 l tx f)) (h : WC K N b B0 l tx w M s E i c cb cp) (hf : l.length < f + 1 + s.met.length) (ho : s.over = false) (hm : i ∉ s.met) (hlt : i < l.length) (hop : l[i].op = 1) (hh : (decide (M.j < tx.length) && hsB l[i].R (tx.getD M.j 0)) = false) (he : ¬ M.j < tx.length) :
    Calls Try.prog 33 #[.pointer (some ⟨b, 0, none⟩), .int .i64 (i : Int), .slice (some ⟨cb, 0, none⟩) K cp] w (WP N b B0 l tx w M (vis (act l tx M.j) M.j (f + 1) i c s)) := by
  have hmo := may_ok hmay
  have hm20 := hmo.1
  have hok := hmo.2.2.2.2.2 _ (List.getElem_mem hlt)
  have hKs : 2 ≤ K ∧ K ≤ 1002 := by omega
  clear hmo
  have hx := ok_x hok (by rw [hop]; rfl)
  obtain ⟨x, hxe⟩ := Int.eq_ofNat_of_zero_le hx.1
  have hxl : x < l.length := by omega
  have HXE := hid hxe
  have e1 : vis (act l tx M.j) M.j (f + 1) i c s = s.mark i := by
    rw [vis_step ho hm]
    have : act l tx M.j i = .stop := by unfold act actI; rw [getD_in' hlt, hop, hh]; simp
    rw [this]
  rw [e1]
  have hln := h.wj.pi.len
  have c11 := h.wj.rb.c 11
  have c5 := h.wj.rb.c 5
  simp at c11 c5
  rw [h.wj.ov, ho] at c11
  obtain ⟨hmbN, arr, ha, hsz, hr⟩ := h.wj.met
  have hcell : w.cell? ⟨M.mb, i, none⟩ = some (.bool false) := by rw [Joins.cell_of_block ha, hr i hlt]; simp [hm]
  have hfz : w.frozen? ⟨M.mb, i, none⟩ = false := Joins.unfrozen_of_block ha i
  obtain ⟨hJ1, hC1⟩ := h.wj.mark hlt hm
  have hsmall := h.inv.small
  have hfsv := h.wj.fs
  have hfsl : M.fs ≤ 100000020000 := by have := h.sm; omega
  obtain ⟨W1, hW1⟩ : ∃ W1, W1 = w.setCell ⟨M.mb, i, none⟩ (.bool true) := ⟨_, rfl⟩
  have hrb1 : RB W1 b M := by rw [hW1]; exact h.wj.rb.kept (Below.heap_setCell _ _ _ _ (fun e => h.wj.bm e.symm))
  have k10 := hrb1.c 10
  have u10 := hrb1.u 10
  simp at k10
  have hrb0 := hJ1.rb
  obtain ⟨W2, hW2⟩ : ∃ W2, W2 = W1.setCell ⟨b, 10, none⟩ (.int .i64 ((M.fs + 1 : Nat) : Int)) := ⟨_, rfl⟩
  rw [← hW1, ← hW2] at hJ1 hC1 hrb0
  have k0 := hrb0.c 0
  simp at k0
  obtain ⟨pb, po, r1, r2, r3, hpa, hpr, hcs⟩ := inst_pi hJ1.pi hlt
  obtain ⟨⟨m0, m1, m2, m3, m4⟩, _⟩ := hcs W2 (Below.refl _ _)
  have hpa' : M.ad = some ⟨pb, po, none⟩ := hpa
  rw [hpa'] at k0
  have a10 : IntKind.i64.wrap ((M.fs : Int) + 1) = ((M.fs + 1 : Nat) : Int) := by rw [wrap_ok _ (by omega) (by omega)]; omega
  have b2 : (i : Int) < (M.n : Int) := by omega
  have hlen : ((s.mark i).met).length = s.met.length + 1 := by simp [Vst.mark]
  have HLEN := hid hlen
  have HIV := hid (h.inv.mark hlt hm)
  have HJ1 := hid hJ1
  have HC1 := hid hC1
  have HH := hid h
  have HCS := hid hcs
  have HPR := hid hpr
  have HOP := hid hop
  have HOK := hid hok
  have HW1 := hid hW1
  have HW2 : Hid (W2 = W1.setCell ⟨b, 10, none⟩ (.int .i64 ((M.fs : Int) + 1))) := by show W2 = _; rw [hW2, show ((M.fs + 1 : Nat) : Int) = (M.fs : Int) + 1 by omega]
  have hJV := fun (o : Obj) => hJ1.kept (w' := W2.alloc o) (Joins.below_alloc1 W2 o)
  have HJV := hid hJV
  clear h hJ1 hC1 hcs hpr hop hok hW1 hW2 ha hsz hr hrb1 hrb0 hpa hln hlen e1 hsmall hfsv hfsl hJV
  obtain ⟨Mn, hMn⟩ : ∃ Mn, Mn = M.n := ⟨_, rfl⟩
  obtain ⟨Mm, hMm⟩ : ∃ Mm, Mm = M.mb := ⟨_, rfl⟩
  have HMM := hid hMm
  rw [← hMn] at c5 k0 b2
  rw [← hMm] at c5 hcell hfz HW1
  clear hMn hMm hpa'
  have htl : M.tn = tx.length := HH.out.wj.tt.1
  clear hxe hh
  go_enter Try.func33, Try.ntmps33
  go_upto_region 2 with fail
  rw [← HW1.out]
  clear HW1 hcell hfz c11 c5
  go_upto_region 3 with fail
  rw [← HW2.out]
  clear HW2 k10 u10 a10
  go_upto_region 4 with fail
  obtain ⟨V, hV⟩ : ∃ V, V = W2.alloc (.cells #[.int .i64 l[i].op, .int .i64 l[i].x, .int .i64 l[i].y, .int .i64 l[i].a, .slice r1 r2 r3] 60) := ⟨_, rfl⟩
  rw [← hV]
  have hbV : Below W2.heap.size W2 V := by rw [hV]; exact Joins.below_alloc1 W2 _
  have hY : V.heap[W2.heap.size]? = some (.cells #[.int .i64 l[i].op, .int .i64 l[i].x, .int .i64 l[i].y, .int .i64 l[i].a, .slice r1 r2 r3] 60 (0, 0)) := by rw [hV]; exact heap_alloc_new W2 _
  have HJ : Hid (WJ V N b B0 l tx { M with fs := M.fs + 1 } (s.mark i) E) := HJ1.out.kept hbV
  have HC : Hid (Chg w V (UF b M) (UF b { M with fs := M.fs + 1 })) := HC1.out.trans (Chg.of_below hbV)
  have HWC : Hid (∀ i', i' < l.length → WC K N b B0 l tx V { M with fs := M.fs + 1 } (s.mark i) E i' c cb cp) := fun i' hi' => HH.out.next HJ.out rfl HC.out HIV.out hi'
  have HBV : Hid (Below N W2 V) := hbV.mono HJ1.out.nw
  obtain ⟨y, hy⟩ : ∃ y, y = W2.heap.size := ⟨_, rfl⟩
  rw [← hy] at hY ⊢
  obtain ⟨v0, v1, v2, v3, v4⟩ := five hY
  rw [HOP.out] at v0
  have HY := hid hY
  have hyV : y < V.heap.size := (Array.getElem?_eq_some_iff.1 hY).1
  clear hV hbV hY hy m0 m1 m2 m3 m4 k0 HJV
  have q3 := HJ.out.rb.c 3
  have q4 := HJ.out.rb.c 4
  simp at q3 q4
  have g1 : decide ((M.j : Int) < (M.tn : Int)) = false := by simp; omega
  have g2 : ¬ ((M.j : Int) < (M.tn : Int)) := by omega
  generalize hMt : M.tad = tad at q3
  generalize hMn : M.tn = tn at q3 g1 g2
  generalize hMc : M.tc = tc at q3
  clear hMt hMn hMc htl he
  go_upto_region 20 with fail
  go_quiet (fail)
  obtain ⟨V2, hV2⟩ : ∃ V2, V2 = V.drewN nq := ⟨_, rfl⟩
  rw [← hV2]
  have hE2 : Eqw V V2 := by rw [hV2]; exact Eqw.drewN V nq
  have hb2 : Below V.heap.size V V2 := hE2.below _
  have HJ2 := hid (HJ.out.kept hb2)
  have HC2 : Hid (Chg w V2 (UF b M) (UF b { M with fs := M.fs + 1 })) := HC.out.trans (Chg.of_below hb2)
  clear hV2 hE2 hb2 v0 v1 v2 v3 v4 q3 q4
  go_wp2
  go_end0
  exact ⟨rfl, _, E, HJ2.out, rfl, HC2.out⟩
set_option maxRecDepth 100000 in
set_option maxHeartbeats 8000000 in
theorem rvisit_rune_f {K N b B0 : Nat} {l : List In} {tx : List Int} {w : World} {M : Rv} {s : Vst} {E : List Ef} {i : Nat} {c : List Int} {cb cp : Nat} {S : Int} (hmay : mayB l S (K : Int) = true) (f : Nat) (ih : Hid (WIH K N b B0 l tx f)) (h : WC K N b B0 l tx w M s E i c cb cp) (hf : l.length < f + 1 + s.met.length) (ho : s.over = false) (hm : i ∉ s.met) (hlt : i < l.length) (hop : l[i].op = 1) (hh : (decide (M.j < tx.length) && hsB l[i].R (tx.getD M.j 0)) = false) (he : M.j < tx.length) :
    Calls Try.prog 33 #[.pointer (some ⟨b, 0, none⟩), .int .i64 (i : Int), .slice (some ⟨cb, 0, none⟩) K cp] w (WP N b B0 l tx w M (vis (act l tx M.j) M.j (f + 1) i c s)) := by
  have hmo := may_ok hmay
  have hm20 := hmo.1
  have hok := hmo.2.2.2.2.2 _ (List.getElem_mem hlt)
  have hKs : 2 ≤ K ∧ K ≤ 1002 := by omega
  clear hmo
  have hx := ok_x hok (by rw [hop]; rfl)
  obtain ⟨x, hxe⟩ := Int.eq_ofNat_of_zero_le hx.1
  have hxl : x < l.length := by omega
  have HXE := hid hxe
  have e1 : vis (act l tx M.j) M.j (f + 1) i c s = s.mark i := by
    rw [vis_step ho hm]
    have : act l tx M.j i = .stop := by unfold act actI; rw [getD_in' hlt, hop, hh]; simp
    rw [this]
  rw [e1]
  have hln := h.wj.pi.len
  have c11 := h.wj.rb.c 11
  have c5 := h.wj.rb.c 5
  simp at c11 c5
  rw [h.wj.ov, ho] at c11
  obtain ⟨hmbN, arr, ha, hsz, hr⟩ := h.wj.met
  have hcell : w.cell? ⟨M.mb, i, none⟩ = some (.bool false) := by rw [Joins.cell_of_block ha, hr i hlt]; simp [hm]
  have hfz : w.frozen? ⟨M.mb, i, none⟩ = false := Joins.unfrozen_of_block ha i
  obtain ⟨hJ1, hC1⟩ := h.wj.mark hlt hm
  have hsmall := h.inv.small
  have hfsv := h.wj.fs
  have hfsl : M.fs ≤ 100000020000 := by have := h.sm; omega
  obtain ⟨W1, hW1⟩ : ∃ W1, W1 = w.setCell ⟨M.mb, i, none⟩ (.bool true) := ⟨_, rfl⟩
  have hrb1 : RB W1 b M := by rw [hW1]; exact h.wj.rb.kept (Below.heap_setCell _ _ _ _ (fun e => h.wj.bm e.symm))
  have k10 := hrb1.c 10
  have u10 := hrb1.u 10
  simp at k10
  have hrb0 := hJ1.rb
  obtain ⟨W2, hW2⟩ : ∃ W2, W2 = W1.setCell ⟨b, 10, none⟩ (.int .i64 ((M.fs + 1 : Nat) : Int)) := ⟨_, rfl⟩
  rw [← hW1, ← hW2] at hJ1 hC1 hrb0
  have k0 := hrb0.c 0
  simp at k0
  obtain ⟨pb, po, r1, r2, r3, hpa, hpr, hcs⟩ := inst_pi hJ1.pi hlt
  obtain ⟨⟨m0, m1, m2, m3, m4⟩, _⟩ := hcs W2 (Below.refl _ _)
  have hpa' : M.ad = some ⟨pb, po, none⟩ := hpa
  rw [hpa'] at k0
  have a10 : IntKind.i64.wrap ((M.fs : Int) + 1) = ((M.fs + 1 : Nat) : Int) := by rw [wrap_ok _ (by omega) (by omega)]; omega
  have b2 : (i : Int) < (M.n : Int) := by omega
  have hlen : ((s.mark i).met).length = s.met.length + 1 := by simp [Vst.mark]
  have HLEN := hid hlen
  have HIV := hid (h.inv.mark hlt hm)
  have HJ1 := hid hJ1
  have HC1 := hid hC1
  have HH := hid h
  have HCS := hid hcs
  have HPR := hid hpr
  have HOP := hid hop
  have HOK := hid hok
  have HW1 := hid hW1
  have HW2 : Hid (W2 = W1.setCell ⟨b, 10, none⟩ (.int .i64 ((M.fs : Int) + 1))) := by show W2 = _; rw [hW2, show ((M.fs + 1 : Nat) : Int) = (M.fs : Int) + 1 by omega]
  have hJV := fun (o : Obj) => hJ1.kept (w' := W2.alloc o) (Joins.below_alloc1 W2 o)
  have HJV := hid hJV
  clear h hJ1 hC1 hcs hpr hop hok hW1 hW2 ha hsz hr hrb1 hrb0 hpa hln hlen e1 hsmall hfsv hfsl hJV
  obtain ⟨Mn, hMn⟩ : ∃ Mn, Mn = M.n := ⟨_, rfl⟩
  obtain ⟨Mm, hMm⟩ : ∃ Mm, Mm = M.mb := ⟨_, rfl⟩
  have HMM := hid hMm
  rw [← hMn] at c5 k0 b2
  rw [← hMm] at c5 hcell hfz HW1
  clear hMn hMm hpa'
  have htl : M.tn = tx.length := HH.out.wj.tt.1
  have hb0 : hsB l[i].R (tx.getD M.j 0) = false := by simpa [he] using hh
  have hright : rightB l[i].R = true := ok_R HOK.out HOP.out
  have hr5 : r2 ≤ 5000 := by rw [HPR.out]; unfold rightB at hright; simp at hright; exact hright.1
  have HB0 := hid hb0
  clear hxe hh hb0 hright
  go_enter Try.func33, Try.ntmps33
  go_upto_region 2 with fail
  rw [← HW1.out]
  clear HW1 hcell hfz c11 c5
  go_upto_region 3 with fail
  rw [← HW2.out]
  clear HW2 k10 u10 a10
  go_upto_region 4 with fail
  obtain ⟨V, hV⟩ : ∃ V, V = W2.alloc (.cells #[.int .i64 l[i].op, .int .i64 l[i].x, .int .i64 l[i].y, .int .i64 l[i].a, .slice r1 r2 r3] 60) := ⟨_, rfl⟩
  rw [← hV]
  have hbV : Below W2.heap.size W2 V := by rw [hV]; exact Joins.below_alloc1 W2 _
  have hY : V.heap[W2.heap.size]? = some (.cells #[.int .i64 l[i].op, .int .i64 l[i].x, .int .i64 l[i].y, .int .i64 l[i].a, .slice r1 r2 r3] 60 (0, 0)) := by rw [hV]; exact heap_alloc_new W2 _
  have HJ : Hid (WJ V N b B0 l tx { M with fs := M.fs + 1 } (s.mark i) E) := HJ1.out.kept hbV
  have HC : Hid (Chg w V (UF b M) (UF b { M with fs := M.fs + 1 })) := HC1.out.trans (Chg.of_below hbV)
  have HWC : Hid (∀ i', i' < l.length → WC K N b B0 l tx V { M with fs := M.fs + 1 } (s.mark i) E i' c cb cp) := fun i' hi' => HH.out.next HJ.out rfl HC.out HIV.out hi'
  have HBV : Hid (Below N W2 V) := hbV.mono HJ1.out.nw
  obtain ⟨y, hy⟩ : ∃ y, y = W2.heap.size := ⟨_, rfl⟩
  rw [← hy] at hY ⊢
  obtain ⟨v0, v1, v2, v3, v4⟩ := five hY
  rw [HOP.out] at v0
  have HY := hid hY
  have hyV : y < V.heap.size := (Array.getElem?_eq_some_iff.1 hY).1
  clear hV hbV hY hy m0 m1 m2 m3 m4 k0 HJV
  rw [HXE.out] at v1
  have q3 := HJ.out.rb.c 3
  have q4 := HJ.out.rb.c 4
  simp at q3 q4
  have g1 : decide ((M.j : Int) < (M.tn : Int)) = true := by simp; omega
  have g2 : (M.j : Int) < (M.tn : Int) := by omega
  have g3 : (0 : Int) ≤ (M.j : Int) := by omega
  obtain ⟨tb, tof, htad, htbN, htc⟩ : ∃ tb tof, M.tad = some ⟨tb, tof, none⟩ ∧ tb < N ∧ V.cell? ⟨tb, tof + M.j, none⟩ = some (.int .i64 (tx.getD M.j 0)) := by
    obtain ⟨_, _, h0 | ⟨tb, tof, h1, h2, h3⟩⟩ := HJ.out.tt
    · have : M.tn = 0 := h0
      omega
    · exact ⟨tb, tof, h1, h2, h3 M.j (by show M.j < M.tn; omega)⟩
  have htbV : tb < V.heap.size := by have := HJ.out.nw; omega
  rw [htad] at q3
  obtain ⟨rn, hrn⟩ : ∃ rn, rn = tx.getD M.j 0 := ⟨_, rfl⟩
  rw [← hrn] at htc HB0
  have hbV : b < V.heap.size := HJ.out.rb.lt
  have HHS : Hid (∀ W, Eqw V W → Calls Try.prog 39 #[.slice r1 r2 r3, .int .i64 rn] W fun e w' => e = .returned (.bool (hsB l[i].R rn)) ∧ Below V.heap.size V w') := fun W e => by
    have hrow := (HCS.out W (HBV.out.trans (e.below _))).2
    refine (has56 l[i].R rn r1 r2 r3 W HPR.out (by omega) (hrow.below (Below.refl _ _) (Nat.le_refl _) (by have := HJ.out.nw; rw [e.heap]; exact this))).mono ?_
    rintro e2 w' ⟨h1, h2⟩
    exact ⟨h1, (e.below _).trans (by have := h2; rw [e.heap] at this; exact this)⟩
  rw [HB0.out] at HHS
  have HQ3 := hid q3
  have HQ4 := hid q4
  have HV4 := hid v4
  have HV1 := hid v1
  have HTC := hid htc
  generalize hMn : M.tn = tn at q3 HQ3 g1 g2
  generalize hMc : M.tc = tc at q3 HQ3
  generalize hMj : M.j = mj at q4 HQ4 g1 g2 g3 htc HTC
  clear hMn hMc hMj htl he hrn htad
  go_upto_region 20 with fail
  go_region_held3 (fun W => W.cell? ⟨b, 3, none⟩ = some (.slice (some ⟨tb, tof, none⟩) tn tc) ∧ W.cell? ⟨b, 4, none⟩ = some (.int .i64 (mj : Int)) ∧ W.cell? ⟨y, 4, none⟩ = some (.slice r1 r2 r3) ∧ W.cell? ⟨tb, tof + mj, none⟩ = some (.int .i64 rn)) (first | (exact ⟨s0, s1, s2, s3⟩) | (simp [*]; done)) (first | (go_at_call 39; (with_reducible refine (HHS.out _ (by exact ⟨rfl, rfl, rfl, rfl⟩)).mono ?_); rintro e w2 ⟨rfl, hb2⟩; have s0 := (cell_eq (hb2.block b hbV) _).trans HQ3.out; have s1 := (cell_eq (hb2.block b hbV) _).trans HQ4.out; have s2 := (cell_eq (hb2.block y hyV) _).trans HV4.out; have s3 := (cell_eq (hb2.block tb htbV) _).trans HTC.out; have HB2 := hid hb2; clear hb2))
  clear v0 v1 v2 v3 v4 q3 q4 htc s0 s1 s2 s3 HHS HQ3 HQ4 HV4 HTC
  go_wp2
  go_end0
  exact ⟨rfl, _, E, HJ.out.kept HB2.out, rfl, HC.out.trans (Chg.of_below HB2.out)⟩
set_option maxRecDepth 100000 in
set_option maxHeartbeats 8000000 in
theorem rvisit_rune_t {K N b B0 : Nat} {l : List In} {tx : List Int} {w : World} {M : Rv} {s : Vst} {E : List Ef} {i : Nat} {c : List Int} {cb cp : Nat} {S : Int} (hmay : mayB l S (K : Int) = true) (f : Nat) (ih : Hid (WIH K N b B0 l tx f)) (h : WC K N b B0 l tx w M s E i c cb cp) (hf : l.length < f + 1 + s.met.length) (ho : s.over = false) (hm : i ∉ s.met) (hlt : i < l.length) (hop : l[i].op = 1) (hh : (decide (M.j < tx.length) && hsB l[i].R (tx.getD M.j 0)) = true) (he : M.j < tx.length) :
    Calls Try.prog 33 #[.pointer (some ⟨b, 0, none⟩), .int .i64 (i : Int), .slice (some ⟨cb, 0, none⟩) K cp] w (WP N b B0 l tx w M (vis (act l tx M.j) M.j (f + 1) i c s)) := by
  have hmo := may_ok hmay
  have hm20 := hmo.1
  have hok := hmo.2.2.2.2.2 _ (List.getElem_mem hlt)
  have hKs : 2 ≤ K ∧ K ≤ 1002 := by omega
  clear hmo
  have hx := ok_x hok (by rw [hop]; rfl)
  obtain ⟨x, hxe⟩ := Int.eq_ofNat_of_zero_le hx.1
  have hxl : x < l.length := by omega
  have HXE := hid hxe
  have e1 : vis (act l tx M.j) M.j (f + 1) i c s = { s.mark i with next := s.next ++ [(x, c)] } := by
    rw [vis_step ho hm]
    have : act l tx M.j i = .rune x := by unfold act actI; rw [getD_in' hlt, hop, hh]; simp [hxe]
    rw [this]
  rw [e1]
  have hln := h.wj.pi.len
  have c11 := h.wj.rb.c 11
  have c5 := h.wj.rb.c 5
  simp at c11 c5
  rw [h.wj.ov, ho] at c11
  obtain ⟨hmbN, arr, ha, hsz, hr⟩ := h.wj.met
  have hcell : w.cell? ⟨M.mb, i, none⟩ = some (.bool false) := by rw [Joins.cell_of_block ha, hr i hlt]; simp [hm]
  have hfz : w.frozen? ⟨M.mb, i, none⟩ = false := Joins.unfrozen_of_block ha i
  obtain ⟨hJ1, hC1⟩ := h.wj.mark hlt hm
  have hsmall := h.inv.small
  have hfsv := h.wj.fs
  have hfsl : M.fs ≤ 100000020000 := by have := h.sm; omega
  obtain ⟨W1, hW1⟩ : ∃ W1, W1 = w.setCell ⟨M.mb, i, none⟩ (.bool true) := ⟨_, rfl⟩
  have hrb1 : RB W1 b M := by rw [hW1]; exact h.wj.rb.kept (Below.heap_setCell _ _ _ _ (fun e => h.wj.bm e.symm))
  have k10 := hrb1.c 10
  have u10 := hrb1.u 10
  simp at k10
  have hrb0 := hJ1.rb
  obtain ⟨W2, hW2⟩ : ∃ W2, W2 = W1.setCell ⟨b, 10, none⟩ (.int .i64 ((M.fs + 1 : Nat) : Int)) := ⟨_, rfl⟩
  rw [← hW1, ← hW2] at hJ1 hC1 hrb0
  have k0 := hrb0.c 0
  simp at k0
  obtain ⟨pb, po, r1, r2, r3, hpa, hpr, hcs⟩ := inst_pi hJ1.pi hlt
  obtain ⟨⟨m0, m1, m2, m3, m4⟩, _⟩ := hcs W2 (Below.refl _ _)
  have hpa' : M.ad = some ⟨pb, po, none⟩ := hpa
  rw [hpa'] at k0
  have a10 : IntKind.i64.wrap ((M.fs : Int) + 1) = ((M.fs + 1 : Nat) : Int) := by rw [wrap_ok _ (by omega) (by omega)]; omega
  have b2 : (i : Int) < (M.n : Int) := by omega
  have hlen : ((s.mark i).met).length = s.met.length + 1 := by simp [Vst.mark]
  have HLEN := hid hlen
  have HIV := hid (h.inv.mark hlt hm)
  have HJ1 := hid hJ1
  have HC1 := hid hC1
  have HH := hid h
  have HCS := hid hcs
  have HPR := hid hpr
  have HOP := hid hop
  have HOK := hid hok
  have HW1 := hid hW1
  have HW2 : Hid (W2 = W1.setCell ⟨b, 10, none⟩ (.int .i64 ((M.fs : Int) + 1))) := by show W2 = _; rw [hW2, show ((M.fs + 1 : Nat) : Int) = (M.fs : Int) + 1 by omega]
  have hJV := fun (o : Obj) => hJ1.kept (w' := W2.alloc o) (Joins.below_alloc1 W2 o)
  have HJV := hid hJV
  clear h hJ1 hC1 hcs hpr hop hok hW1 hW2 ha hsz hr hrb1 hrb0 hpa hln hlen e1 hsmall hfsv hfsl hJV
  obtain ⟨Mn, hMn⟩ : ∃ Mn, Mn = M.n := ⟨_, rfl⟩
  obtain ⟨Mm, hMm⟩ : ∃ Mm, Mm = M.mb := ⟨_, rfl⟩
  have HMM := hid hMm
  rw [← hMn] at c5 k0 b2
  rw [← hMm] at c5 hcell hfz HW1
  clear hMn hMm hpa'
  have htl : M.tn = tx.length := HH.out.wj.tt.1
  have hb0 : hsB l[i].R (tx.getD M.j 0) = true := by simpa [he] using hh
  have hright : rightB l[i].R = true := ok_R HOK.out HOP.out
  have hr5 : r2 ≤ 5000 := by rw [HPR.out]; unfold rightB at hright; simp at hright; exact hright.1
  have HB0 := hid hb0
  clear hxe hh hb0 hright
  have hnl : s.next.length < 20000 := by have := HIV.out.small; have := HIV.out.le; have := HLEN.out; have : ((s.mark i).next).length = s.next.length := rfl; have := HH.out.inv.le; omega
  go_enter Try.func33, Try.ntmps33
  go_upto_region 2 with fail
  rw [← HW1.out]
  clear HW1 hcell hfz c11 c5
  go_upto_region 3 with fail
  rw [← HW2.out]
  clear HW2 k10 u10 a10
  go_upto_region 4 with fail
  obtain ⟨V, hV⟩ : ∃ V, V = W2.alloc (.cells #[.int .i64 l[i].op, .int .i64 l[i].x, .int .i64 l[i].y, .int .i64 l[i].a, .slice r1 r2 r3] 60) := ⟨_, rfl⟩
  rw [← hV]
  have hbV : Below W2.heap.size W2 V := by rw [hV]; exact Joins.below_alloc1 W2 _
  have hY : V.heap[W2.heap.size]? = some (.cells #[.int .i64 l[i].op, .int .i64 l[i].x, .int .i64 l[i].y, .int .i64 l[i].a, .slice r1 r2 r3] 60 (0, 0)) := by rw [hV]; exact heap_alloc_new W2 _
  have HJ : Hid (WJ V N b B0 l tx { M with fs := M.fs + 1 } (s.mark i) E) := HJ1.out.kept hbV
  have HC : Hid (Chg w V (UF b M) (UF b { M with fs := M.fs + 1 })) := HC1.out.trans (Chg.of_below hbV)
  have HWC : Hid (∀ i', i' < l.length → WC K N b B0 l tx V { M with fs := M.fs + 1 } (s.mark i) E i' c cb cp) := fun i' hi' => HH.out.next HJ.out rfl HC.out HIV.out hi'
  have HBV : Hid (Below N W2 V) := hbV.mono HJ1.out.nw
  obtain ⟨y, hy⟩ : ∃ y, y = W2.heap.size := ⟨_, rfl⟩
  rw [← hy] at hY ⊢
  obtain ⟨v0, v1, v2, v3, v4⟩ := five hY
  rw [HOP.out] at v0
  have HY := hid hY
  have hyV : y < V.heap.size := (Array.getElem?_eq_some_iff.1 hY).1
  clear hV hbV hY hy m0 m1 m2 m3 m4 k0 HJV
  rw [HXE.out] at v1
  have q3 := HJ.out.rb.c 3
  have q4 := HJ.out.rb.c 4
  simp at q3 q4
  have g1 : decide ((M.j : Int) < (M.tn : Int)) = true := by simp; omega
  have g2 : (M.j : Int) < (M.tn : Int) := by omega
  have g3 : (0 : Int) ≤ (M.j : Int) := by omega
  obtain ⟨tb, tof, htad, htbN, htc⟩ : ∃ tb tof, M.tad = some ⟨tb, tof, none⟩ ∧ tb < N ∧ V.cell? ⟨tb, tof + M.j, none⟩ = some (.int .i64 (tx.getD M.j 0)) := by
    obtain ⟨_, _, h0 | ⟨tb, tof, h1, h2, h3⟩⟩ := HJ.out.tt
    · have : M.tn = 0 := h0
      omega
    · exact ⟨tb, tof, h1, h2, h3 M.j (by show M.j < M.tn; omega)⟩
  have htbV : tb < V.heap.size := by have := HJ.out.nw; omega
  rw [htad] at q3
  obtain ⟨rn, hrn⟩ : ∃ rn, rn = tx.getD M.j 0 := ⟨_, rfl⟩
  rw [← hrn] at htc HB0
  have hbV : b < V.heap.size := HJ.out.rb.lt
  have HHS : Hid (∀ W, Eqw V W → Calls Try.prog 39 #[.slice r1 r2 r3, .int .i64 rn] W fun e w' => e = .returned (.bool (hsB l[i].R rn)) ∧ Below V.heap.size V w') := fun W e => by
    have hrow := (HCS.out W (HBV.out.trans (e.below _))).2
    refine (has56 l[i].R rn r1 r2 r3 W HPR.out (by omega) (hrow.below (Below.refl _ _) (Nat.le_refl _) (by have := HJ.out.nw; rw [e.heap]; exact this))).mono ?_
    rintro e2 w' ⟨h1, h2⟩
    exact ⟨h1, (e.below _).trans (by have := h2; rw [e.heap] at this; exact this)⟩
  rw [HB0.out] at HHS
  have HQ3 := hid q3
  have HQ4 := hid q4
  have HV4 := hid v4
  have HV1 := hid v1
  have HTC := hid htc
  generalize hMn : M.tn = tn at q3 HQ3 g1 g2
  generalize hMc : M.tc = tc at q3 HQ3
  generalize hMj : M.j = mj at q4 HQ4 g1 g2 g3 htc HTC
  clear hMn hMc hMj htl he hrn htad
  go_upto_region 20 with fail
  go_region_held3 (fun W => W.cell? ⟨b, 3, none⟩ = some (.slice (some ⟨tb, tof, none⟩) tn tc) ∧ W.cell? ⟨b, 4, none⟩ = some (.int .i64 (mj : Int)) ∧ W.cell? ⟨y, 4, none⟩ = some (.slice r1 r2 r3) ∧ W.cell? ⟨tb, tof + mj, none⟩ = some (.int .i64 rn)) (first | (exact ⟨s0, s1, s2, s3⟩) | (simp [*]; done)) (first | (go_at_call 39; (with_reducible refine (HHS.out _ (by exact ⟨rfl, rfl, rfl, rfl⟩)).mono ?_); rintro e w2 ⟨rfl, hb2⟩; have s0 := (cell_eq (hb2.block b hbV) _).trans HQ3.out; have s1 := (cell_eq (hb2.block b hbV) _).trans HQ4.out; have s2 := (cell_eq (hb2.block y hyV) _).trans HV4.out; have s3 := (cell_eq (hb2.block tb htbV) _).trans HTC.out; have HB2 := hid hb2; clear hb2))
  clear v0 v2 v3 v4 q3 q4 htc s0 s1 s2 s3 HHS HQ3 HQ4 HV4 HTC
  have HJ2 := hid (HJ.out.kept HB2.out)
  have HC2 : Hid (Chg w w2 (UF b M) (UF b { M with fs := M.fs + 1 })) := HC.out.trans (Chg.of_below HB2.out)
  have t1 := (cell_eq (HB2.out.block y hyV) 1).trans v1
  have t6 := HJ2.out.rb.c 6
  simp at t6
  have HT1 := hid t1
  have HT6 := hid t6
  have hcap2 := (HH.out.next HJ2.out rfl HC2.out HIV.out hlt).cap
  have HCAP := hid hcap2
  have hrow2 := HJ2.out.row.row
  rw [show (({ M with fs := M.fs + 1 } : Rv)).K = K from HH.out.hK] at hrow2
  have HROW := hid hrow2
  have hn2 : M.n2 < 20000 := by have h1 := HJ2.out.row.len; have h2 := HJ2.out.nx; have h3 := congrArg List.length h2; simp at h3; have h4 : ((s.mark i).next).length = s.next.length := rfl; have h5 : M.n2 = E.length := h1; omega
  have hNw2 := HJ2.out.nw
  have hbw2 := HJ2.out.rb.lt
  have hyw2 := lt_of_cell t1
  have hzb : (Value.slice M.z M.n2 M.c2).ownBlock ≠ some b := fun e => (HJ2.out.zb b (by simp [zF, e])).1 rfl
  obtain ⟨i2, hi2, hz20, hz21, hz22⟩ := info_parts info69
  clear v1 hcap2 hrow2
  generalize hz : M.z = z at t6 HT6 HROW hzb
  generalize hn : M.n2 = n2 at t6 HT6 HROW hn2 hzb
  generalize hc2 : M.c2 = c2 at t6 HT6 HROW hzb
  have HZ := hid hz
  have HN := hid hn
  have HC0 := hid hc2
  clear hz hn hc2
  go_upto_region 22 with fail
  refine wp_region_lex 9 13 (fun W => W.cell? ⟨b, 6, none⟩ = some (.slice z n2 c2) ∧ W.cell? ⟨y, 1, none⟩ = some (.int .i64 (x : Int))) (by kernel_rfl) (by kernel_rfl) (by decide) (by kernel_rfl) (by kernel_rfl) ⟨by simpa using t6, by simpa using t1⟩ ?_
  simp only [List.take_succ_cons, List.take_zero, List.drop_succ_cons, List.drop_zero]
  iterate 9
    refine lex_cons ?_ rfl (fun W hW => ?_) (fun _ _ _ h => h) ?_
    rotate_left
    · obtain ⟨s0, s1⟩ := hW
      go_simp <;> with_reducible rfl
    simp only [Act.put, List.setIfInBounds_toArray, List.set_cons_zero, List.set_cons_succ]
  refine lex_nil (tail_cons fun KK hKK => ?_)
  go_simp
  have hz10 : (w2.drew.alloc (.cells #[.int .i64 (x : Int), .slice (some ⟨cb, 0, none⟩) K cp] 77)).cell? ⟨b, 6, none⟩ = some (.slice z n2 c2) ∧ (w2.drew.alloc (.cells #[.int .i64 (x : Int), .slice (some ⟨cb, 0, none⟩) K cp] 77)).cell? ⟨y, 1, none⟩ = some (.int .i64 (x : Int)) := by
    rw [World.cell?_alloc_lt _ _ _ (show b < w2.drew.heap.size from hbw2), World.cell?_alloc_lt _ _ _ (show y < w2.drew.heap.size from hyw2)]
    exact ⟨HT6.out, HT1.out⟩
  refine hKK.out _ _ (fun _ => hz10) (tail_cons fun KK hKK => ?_)
  have HO : Hid ((w2.drew.alloc (.cells #[.int .i64 (x : Int), .slice (some ⟨cb, 0, none⟩) K cp] 77)).ownsRow N 77 2 (.slice z n2 c2) n2 (cellsF K E)) := (show w2.drew.ownsRow N 77 2 (.slice z n2 c2) n2 (cellsF K E) from HROW.out).alloc _
  refine step_append_row rfl (.tmp 139) (.tmp 144) 72 rfl N 77 i2 (.agg #[.int .i64 0, .slice none 0 0]) 2 32 Try.underlying72 hi2 hz20 hz21 hz22 rfl (by decide) (.slice z n2 c2) n2 (cellsF K E) (by simp [Act.eval, Act.put]) (by exact HO.out) w2.drew.heap.size 1 1 #[.int .i64 (x : Int), .slice (some ⟨cb, 0, none⟩) K cp] 77 (by simp [Act.eval, Act.put]) (by exact heap_alloc_new w2.drew _) rfl (by decide) (by simp [Value.oneCell']) (by unfold maxLen; omega) (by omega) (by (try simp) <;> omega) ?_
  intro v3 w3 ho3 hf3
  obtain ⟨y1, y3, rfl, _⟩ := row_shape ho3.out
  have e3 : w3.heap[b]? = w2.heap[b]? := (hf3.out.block b (by (try simp) <;> omega) hzb).trans (heap_alloc_old w2.drew _ hbw2)
  have ey : w3.heap[y]? = w2.heap[y]? := (hf3.out.block y (by (try simp) <;> omega) (own_ne HROW.out ((HB2.out.block y hyV).trans HY.out) (by decide))).trans (heap_alloc_old w2.drew _ hyw2)
  have q6 : w3.cell? ⟨b, 6, none⟩ = some (.slice z n2 c2) ∧ w3.cell? ⟨y, 1, none⟩ = some (.int .i64 (x : Int)) := ⟨(cell_eq e3 _).trans HT6.out, (cell_eq ey _).trans HT1.out⟩
  have q6' := q6.1
  have u6 := (HJ2.out.rb.kept e3).u 6
  clear e3 ey
  refine hKK.out _ _ (fun _ => q6) (tail_cons fun KK hKK => ?_)
  simp only [Act.put, List.setIfInBounds_toArray, List.set_cons_zero, List.set_cons_succ]
  go_simp
  refine hKK.out _ _ (fun _ => q6) (tail_cons fun KK hKK => ?_)
  simp only [Act.put, List.setIfInBounds_toArray, List.set_cons_zero, List.set_cons_succ]
  go_simp
  refine hKK.out _ _ (fun _ => q6) (tail_cons fun KK hKK => ?_)
  simp only [Act.put, List.setIfInBounds_toArray, List.set_cons_zero, List.set_cons_succ]
  go_simp
  refine hKK.out _ _ (fun h => absurd rfl h) (tail_nil ?_)
  have hfin : WP N b B0 l tx w M { s.mark i with next := s.next ++ [(x, c)] } (.returned (.tuple #[])) (w3.setCell ⟨b, 6, none⟩ (.slice y1 (n2 + 1) y3)) := by
    have hn' : M.n2 = n2 := HN.out
    have hz' : M.z = z := HZ.out
    have hc' : M.c2 = c2 := HC0.out
    subst hn' hz' hc'
    obtain ⟨p1, p2⟩ := HJ2.out.put (V := w2.drew.alloc (.cells #[.int .i64 (x : Int), .slice (some ⟨cb, 0, none⟩) K cp] 77)) (w7 := w3) (y1 := y1) (y3 := y3) (x := x) (cb := cb) (cq := cp) (c := c) (((Eqw.drew w2).below w2.heap.size).trans (Joins.below_alloc1 w2.drew _)) hf3.out (by show w3.ownsRow N 77 2 _ _ (cellsF M.K E ++ Ef.cs M.K ⟨x, cb, cp, c⟩); rw [HH.out.hK]; exact ho3.out) (by show w2.ownsRow N 3 1 (.slice _ M.K cp) M.K _; rw [HH.out.hK]; exact HCAP.out)
    exact ⟨rfl, _, _, p1, rfl, HC2.out.trans p2⟩
  have HFIN := hid hfin
  clear hfin q6 q6' u6 ho3 hf3 HO hz10 hKK t1 t6
  go_wp2
  go_end0
  exact HFIN.out
/-- a visit, of whatever instruction -/
theorem visit25 {K N b B0 : Nat} {l : List In} {tx : List Int} {S : Int} (hmay : mayB l S (K : Int) = true) : ∀ f, WIH K N b B0 l tx f := by
  intro f
  induction f with
  | zero => intro i c s w M E cb cp h hf; have := h.inv.small; omega
  | succ f ih =>
    intro i c s w M E cb cp h hf
    cases ho : s.over
    · by_cases hm : i ∈ s.met
      · exact rvisit_old f h ho hm
      · have hlt := h.lt
        have hok := (may_ok hmay).2.2.2.2.2 _ (List.getElem_mem hlt)
        rcases ok_op hok with hp | hp | hp | hp | hp | hp | hp
        · by_cases he : M.j < tx.length
          · cases hh : (decide (M.j < tx.length) && hsB l[i].R (tx.getD M.j 0))
            · exact rvisit_rune_f hmay f ih h hf ho hm hlt hp hh he
            · exact rvisit_rune_t hmay f ih h hf ho hm hlt hp hh he
          · exact rvisit_rune_end hmay f ih h hf ho hm hlt hp (by simp [he]) he
        · exact rvisit_alt hmay f ih h hf ho hm hlt hp
        · exact rvisit_cap hmay f ih h hf ho hm hlt hp
        · cases hh : holdsB l[i].a (atP tx M.j)
          · exact rvisit_assert_f hmay f ih h hf ho hm hlt hp hh
          · exact rvisit_assert_t hmay f ih h hf ho hm hlt hp hh
        · exact rvisit_match hmay f ih h hf ho hm hlt hp
        · exact rvisit_fail hmay f ih h hf ho hm hlt hp
        · exact rvisit_nop hmay f ih h hf ho hm hlt hp
    · exact rvisit_over f h ho
end Go.Proofs.Ytiggbgmnibndoaa
/- HELPERS: the document's Run, asked wrongly. -/
namespace Go.Proofs.Ytiggbgmnibndoaa
open Go.RowKit Go.Lk
set_option linter.unusedVariables false
set_option linter.unusedSimpArgs false
set_option maxRecDepth 100000 in
set_option maxHeartbeats 8000000 in
theorem run11_long {w : World} {ad tad : Option Addr} {n c tn tc : Nat} {s k a : Int} {anch : Bool} {l : List In} (hP : PI w w.heap.size ad n l) (hl : 4194304 < tn) :
    Calls Try.prog 25 #[pv ad n c s k, .slice tad tn tc, .int .i64 a, .bool anch] w (FE 2 w) := by
  obtain ⟨U, hU⟩ : ∃ U, U = (w.alloc (.cells #[.slice ad n c, .int .i64 s, .int .i64 k] 27)).alloc (.cells #[.bool false, .slice none 0 0, .int .i64 0, .int .i64 0] 52) := ⟨_, rfl⟩
  have hb : Below w.heap.size w U := by rw [hU]; exact below_two' w _ _
  have hX : U.heap[w.heap.size]? = some (.cells #[.slice ad n c, .int .i64 s, .int .i64 k] 27 (0, 0)) := by rw [hU]; exact (heap_alloc_old _ _ (by simp)).trans (heap_alloc_new w _)
  have hY : U.heap[w.heap.size + 1]? = some (.cells #[.bool false, .slice none 0 0, .int .i64 0, .int .i64 0] 52 (0, 0)) := by rw [hU]; exact two_new w _ _ _
  obtain ⟨x, hx⟩ : ∃ x, x = w.heap.size := ⟨_, rfl⟩
  obtain ⟨y, hy⟩ : ∃ y, y = w.heap.size + 1 := ⟨_, rfl⟩
  have hyU : w.heap.size + 1 < U.heap.size := (Array.getElem?_eq_some_iff.1 hY).1
  have hPU := hP.kept hb hb.size
  have HCK := rcheck9 (c := c) (s := s) (k := k) hPU
  rw [← hx] at hX hb
  rw [← hy] at hY hyU
  obtain ⟨c0, c1, c2⟩ := three_cells hX
  have HB := hid hb
  have HX := hid hX
  have HY := hid hY
  have HXE := hid hx
  have hxy : x < y := by omega
  have b1 : decide ((4194304 : Int) < (tn : Int)) = true := by simp; omega
  have b1' : decide ((tn : Int) > (4194304 : Int)) = true := by simp; omega
  have s0 := Joins.unfrozen_of_block hY 0
  have s1 := Joins.unfrozen_of_block hY 1
  have s2 := Joins.unfrozen_of_block hY 2
  have s3 := Joins.unfrozen_of_block hY 3
  have y0 := Joins.cell_of_block hY 0
  have y1 := Joins.cell_of_block hY 1
  have y2 := Joins.cell_of_block hY 2
  have y3 := Joins.cell_of_block hY 3
  clear hP hPU hb hX hY
  go_enter Try.func25, Try.ntmps25
  go_upto_region 1 with fail
  rw [← hU, ← hy, ← hx]
  clear hU hx hy
  go_wp2
  refine bodyPost_ret (results_cell_tmp rfl _ _ y 52 _ (0, 0) _ rfl (Joins.block_setCell (i := 3) (Joins.block_setCell (i := 2) (Joins.block_setCell (i := 1) (Joins.block_setCell (i := 0) HY.out _) _) _) _) Try.underlying52 rfl (by kernel_rfl)) rfl ?_
  refine ⟨?_, rfl⟩
  rw [← HXE.out]
  exact (((HB.out.setCell (p := ⟨y, 0, none⟩) (by show x ≤ y; omega) _).setCell (p := ⟨y, 1, none⟩) (by show x ≤ y; omega) _).setCell (p := ⟨y, 2, none⟩) (by show x ≤ y; omega) _).setCell (p := ⟨y, 3, none⟩) (by show x ≤ y; omega) _
set_option maxRecDepth 100000 in
set_option maxHeartbeats 8000000 in
theorem run11_prog {w : World} {ad tad : Option Addr} {n c tn tc : Nat} {s k a : Int} {anch : Bool} {l : List In} (hP : PI w w.heap.size ad n l) (hl : tn ≤ 4194304) (hmay : mayB l s k = false) :
    Calls Try.prog 25 #[pv ad n c s k, .slice tad tn tc, .int .i64 a, .bool anch] w (FE 90 w) := by
  obtain ⟨U, hU⟩ : ∃ U, U = (w.alloc (.cells #[.slice ad n c, .int .i64 s, .int .i64 k] 27)).alloc (.cells #[.bool false, .slice none 0 0, .int .i64 0, .int .i64 0] 52) := ⟨_, rfl⟩
  have hb : Below w.heap.size w U := by rw [hU]; exact below_two' w _ _
  have hX : U.heap[w.heap.size]? = some (.cells #[.slice ad n c, .int .i64 s, .int .i64 k] 27 (0, 0)) := by rw [hU]; exact (heap_alloc_old _ _ (by simp)).trans (heap_alloc_new w _)
  have hY : U.heap[w.heap.size + 1]? = some (.cells #[.bool false, .slice none 0 0, .int .i64 0, .int .i64 0] 52 (0, 0)) := by rw [hU]; exact two_new w _ _ _
  obtain ⟨x, hx⟩ : ∃ x, x = w.heap.size := ⟨_, rfl⟩
  obtain ⟨y, hy⟩ : ∃ y, y = w.heap.size + 1 := ⟨_, rfl⟩
  have hyU : w.heap.size + 1 < U.heap.size := (Array.getElem?_eq_some_iff.1 hY).1
  have hPU := hP.kept hb hb.size
  have HCK := rcheck9 (c := c) (s := s) (k := k) hPU
  rw [← hx] at hX hb
  rw [← hy] at hY hyU
  obtain ⟨c0, c1, c2⟩ := three_cells hX
  have HB := hid hb
  have HX := hid hX
  have HY := hid hY
  have HXE := hid hx
  have hxy : x < y := by omega
  have b1 : decide ((4194304 : Int) < (tn : Int)) = false := by simp; omega
  have b1' : decide ((tn : Int) > (4194304 : Int)) = false := by simp; omega
  rw [hmay] at HCK
  clear hmay
  clear hP hPU hb hX hY
  go_enter Try.func25, Try.ntmps25
  go_upto_region 1 with fail
  rw [← hU, ← hy, ← hx]
  clear hU hx hy
  go_upto_region 5 with (go_at_call 24; (with_reducible refine HCK.mono ?_); rintro e w2 ⟨rfl, hb2⟩; have HB2 := hid hb2; have hY2 := (hb2.block y hyU).trans HY.out; have HY2 := hid hY2; clear hb2 HCK c0 c1 c2 hY2)
  have s0 := Joins.unfrozen_of_block HY2.out 0
  have s1 := Joins.unfrozen_of_block HY2.out 1
  have s2 := Joins.unfrozen_of_block HY2.out 2
  have s3 := Joins.unfrozen_of_block HY2.out 3
  have y0 := Joins.cell_of_block HY2.out 0
  have y1 := Joins.cell_of_block HY2.out 1
  have y2 := Joins.cell_of_block HY2.out 2
  have y3 := Joins.cell_of_block HY2.out 3
  have HBW : Hid (Below x w w2) := HB.out.trans (Joins.below_le HB2.out (by omega))
  go_wp2
  refine bodyPost_ret (results_cell_tmp rfl _ _ y 52 _ (0, 0) _ rfl (Joins.block_setCell (i := 3) (Joins.block_setCell (i := 2) (Joins.block_setCell (i := 1) (Joins.block_setCell (i := 0) HY2.out _) _) _) _) Try.underlying52 rfl (by kernel_rfl)) rfl ?_
  refine ⟨?_, rfl⟩
  rw [← HXE.out]
  exact (((HBW.out.setCell (p := ⟨y, 0, none⟩) (by show x ≤ y; omega) _).setCell (p := ⟨y, 1, none⟩) (by show x ≤ y; omega) _).setCell (p := ⟨y, 2, none⟩) (by show x ≤ y; omega) _).setCell (p := ⟨y, 3, none⟩) (by show x ≤ y; omega) _
set_option maxRecDepth 100000 in
set_option maxHeartbeats 8000000 in
theorem run11_neg {w : World} {ad tad : Option Addr} {n c tn tc : Nat} {s k a : Int} {anch : Bool} {l : List In} (hP : PI w w.heap.size ad n l) (hl : tn ≤ 4194304) (hmay : mayB l s k = true) (ha : a < 0) :
    Calls Try.prog 25 #[pv ad n c s k, .slice tad tn tc, .int .i64 a, .bool anch] w (FE 1 w) := by
  obtain ⟨U, hU⟩ : ∃ U, U = (w.alloc (.cells #[.slice ad n c, .int .i64 s, .int .i64 k] 27)).alloc (.cells #[.bool false, .slice none 0 0, .int .i64 0, .int .i64 0] 52) := ⟨_, rfl⟩
  have hb : Below w.heap.size w U := by rw [hU]; exact below_two' w _ _
  have hX : U.heap[w.heap.size]? = some (.cells #[.slice ad n c, .int .i64 s, .int .i64 k] 27 (0, 0)) := by rw [hU]; exact (heap_alloc_old _ _ (by simp)).trans (heap_alloc_new w _)
  have hY : U.heap[w.heap.size + 1]? = some (.cells #[.bool false, .slice none 0 0, .int .i64 0, .int .i64 0] 52 (0, 0)) := by rw [hU]; exact two_new w _ _ _
  obtain ⟨x, hx⟩ : ∃ x, x = w.heap.size := ⟨_, rfl⟩
  obtain ⟨y, hy⟩ : ∃ y, y = w.heap.size + 1 := ⟨_, rfl⟩
  have hyU : w.heap.size + 1 < U.heap.size := (Array.getElem?_eq_some_iff.1 hY).1
  have hPU := hP.kept hb hb.size
  have HCK := rcheck9 (c := c) (s := s) (k := k) hPU
  rw [← hx] at hX hb
  rw [← hy] at hY hyU
  obtain ⟨c0, c1, c2⟩ := three_cells hX
  have HB := hid hb
  have HX := hid hX
  have HY := hid hY
  have HXE := hid hx
  have hxy : x < y := by omega
  have b1 : decide ((4194304 : Int) < (tn : Int)) = false := by simp; omega
  have b1' : decide ((tn : Int) > (4194304 : Int)) = false := by simp; omega
  rw [hmay] at HCK
  clear hmay
  have b2 : decide (a < 0) = true := by simp [ha]
  clear hP hPU hb hX hY
  go_enter Try.func25, Try.ntmps25
  go_upto_region 1 with fail
  rw [← hU, ← hy, ← hx]
  clear hU hx hy
  go_upto_region 7 with (go_at_call 24; (with_reducible refine HCK.mono ?_); rintro e w2 ⟨rfl, hb2⟩; have HB2 := hid hb2; have hY2 := (hb2.block y hyU).trans HY.out; have HY2 := hid hY2; clear hb2 HCK c0 c1 c2 hY2)
  have s0 := Joins.unfrozen_of_block HY2.out 0
  have s1 := Joins.unfrozen_of_block HY2.out 1
  have s2 := Joins.unfrozen_of_block HY2.out 2
  have s3 := Joins.unfrozen_of_block HY2.out 3
  have y0 := Joins.cell_of_block HY2.out 0
  have y1 := Joins.cell_of_block HY2.out 1
  have y2 := Joins.cell_of_block HY2.out 2
  have y3 := Joins.cell_of_block HY2.out 3
  have HBW : Hid (Below x w w2) := HB.out.trans (Joins.below_le HB2.out (by omega))
  go_wp2
  refine bodyPost_ret (results_cell_tmp rfl _ _ y 52 _ (0, 0) _ rfl (Joins.block_setCell (i := 3) (Joins.block_setCell (i := 2) (Joins.block_setCell (i := 1) (Joins.block_setCell (i := 0) HY2.out _) _) _) _) Try.underlying52 rfl (by kernel_rfl)) rfl ?_
  refine ⟨?_, rfl⟩
  rw [← HXE.out]
  exact (((HBW.out.setCell (p := ⟨y, 0, none⟩) (by show x ≤ y; omega) _).setCell (p := ⟨y, 1, none⟩) (by show x ≤ y; omega) _).setCell (p := ⟨y, 2, none⟩) (by show x ≤ y; omega) _).setCell (p := ⟨y, 3, none⟩) (by show x ≤ y; omega) _
set_option maxRecDepth 100000 in
set_option maxHeartbeats 8000000 in
theorem run11_far {w : World} {ad tad : Option Addr} {n c tn tc : Nat} {s k a : Int} {anch : Bool} {l : List In} (hP : PI w w.heap.size ad n l) (hl : tn ≤ 4194304) (hmay : mayB l s k = true) (ha0 : ¬ a < 0) (ha : (tn : Int) < a) :
    Calls Try.prog 25 #[pv ad n c s k, .slice tad tn tc, .int .i64 a, .bool anch] w (FE 1 w) := by
  obtain ⟨U, hU⟩ : ∃ U, U = (w.alloc (.cells #[.slice ad n c, .int .i64 s, .int .i64 k] 27)).alloc (.cells #[.bool false, .slice none 0 0, .int .i64 0, .int .i64 0] 52) := ⟨_, rfl⟩
  have hb : Below w.heap.size w U := by rw [hU]; exact below_two' w _ _
  have hX : U.heap[w.heap.size]? = some (.cells #[.slice ad n c, .int .i64 s, .int .i64 k] 27 (0, 0)) := by rw [hU]; exact (heap_alloc_old _ _ (by simp)).trans (heap_alloc_new w _)
  have hY : U.heap[w.heap.size + 1]? = some (.cells #[.bool false, .slice none 0 0, .int .i64 0, .int .i64 0] 52 (0, 0)) := by rw [hU]; exact two_new w _ _ _
  obtain ⟨x, hx⟩ : ∃ x, x = w.heap.size := ⟨_, rfl⟩
  obtain ⟨y, hy⟩ : ∃ y, y = w.heap.size + 1 := ⟨_, rfl⟩
  have hyU : w.heap.size + 1 < U.heap.size := (Array.getElem?_eq_some_iff.1 hY).1
  have hPU := hP.kept hb hb.size
  have HCK := rcheck9 (c := c) (s := s) (k := k) hPU
  rw [← hx] at hX hb
  rw [← hy] at hY hyU
  obtain ⟨c0, c1, c2⟩ := three_cells hX
  have HB := hid hb
  have HX := hid hX
  have HY := hid hY
  have HXE := hid hx
  have hxy : x < y := by omega
  have b1 : decide ((4194304 : Int) < (tn : Int)) = false := by simp; omega
  have b1' : decide ((tn : Int) > (4194304 : Int)) = false := by simp; omega
  rw [hmay] at HCK
  clear hmay
  have b2 : decide (a < 0) = false := by simp [ha0]
  have b3 : decide (a > (tn : Int)) = true := by simp; omega
  have b3' : decide ((tn : Int) < a) = true := by simp; omega
  clear hP hPU hb hX hY
  go_enter Try.func25, Try.ntmps25
  go_upto_region 1 with fail
  rw [← hU, ← hy, ← hx]
  clear hU hx hy
  go_upto_region 7 with (go_at_call 24; (with_reducible refine HCK.mono ?_); rintro e w2 ⟨rfl, hb2⟩; have HB2 := hid hb2; have hY2 := (hb2.block y hyU).trans HY.out; have HY2 := hid hY2; clear hb2 HCK c0 c1 c2 hY2)
  have s0 := Joins.unfrozen_of_block HY2.out 0
  have s1 := Joins.unfrozen_of_block HY2.out 1
  have s2 := Joins.unfrozen_of_block HY2.out 2
  have s3 := Joins.unfrozen_of_block HY2.out 3
  have y0 := Joins.cell_of_block HY2.out 0
  have y1 := Joins.cell_of_block HY2.out 1
  have y2 := Joins.cell_of_block HY2.out 2
  have y3 := Joins.cell_of_block HY2.out 3
  have HBW : Hid (Below x w w2) := HB.out.trans (Joins.below_le HB2.out (by omega))
  go_wp2
  refine bodyPost_ret (results_cell_tmp rfl _ _ y 52 _ (0, 0) _ rfl (Joins.block_setCell (i := 3) (Joins.block_setCell (i := 2) (Joins.block_setCell (i := 1) (Joins.block_setCell (i := 0) HY2.out _) _) _) _) Try.underlying52 rfl (by kernel_rfl)) rfl ?_
  refine ⟨?_, rfl⟩
  rw [← HXE.out]
  exact (((HBW.out.setCell (p := ⟨y, 0, none⟩) (by show x ≤ y; omega) _).setCell (p := ⟨y, 1, none⟩) (by show x ≤ y; omega) _).setCell (p := ⟨y, 2, none⟩) (by show x ≤ y; omega) _).setCell (p := ⟨y, 3, none⟩) (by show x ≤ y; omega) _
end Go.Proofs.Ytiggbgmnibndoaa
/- HELPERS: the document's run between two places. -/
namespace Go.Proofs.Ytiggbgmnibndoaa
open Go.RowKit Go.Lk
set_option linter.unusedVariables false
set_option linter.unusedSimpArgs false
abbrev Rv.cs5 (M : Rv) (m5 : Value) : Array Value := #[.slice M.ad M.n M.c, .int .i64 (M.S : Int), .int .i64 (M.K : Int), .slice M.tad M.tn M.tc, .int .i64 (M.j : Int), m5, .slice M.z M.n2 M.c2, .bool M.fok, .slice M.f1 M.f2 M.f3, .int .i64 M.fw, .int .i64 (M.fs : Int), .bool M.ov]
/-- the document's run before a place is visited: its threads, what is found; none's row -/
structure HG (w : World) (N b g0 : Nat) (l : List In) (tx : List Int) (M : Rv) (m5 : Value) (T : List Th) (fd : Fd) (E : List Ef) : Prop where
  hb : w.heap[b]? = some (.cells (M.cs5 m5) 74 (0, 0))
  nb : N ≤ b
  nw : N ≤ w.heap.size
  pi : PI w N M.ad M.n l
  tt : TextAt N w M.tad M.tn tx
  row : RT w N M.K M.z M.n2 M.c2 E
  nx : E.map Ef.th = T
  fd : GD w N M.K M fd
  un : w.ownsRow N 3 1 (.slice (some ⟨g0, 0, none⟩) M.K M.K) M.K (I64 (List.replicate M.K (-1)))
section
variable {w V : World} {N b g0 mb j B0 : Nat} {l : List In} {tx : List Int} {M M1 : Rv} {m5 : Value} {T : List Th} {fd : Fd} {E : List Ef} {s : Vst}
theorem HG.lt (h : HG w N b g0 l tx M m5 T fd E) : b < w.heap.size := (Array.getElem?_eq_some_iff.1 h.hb).1
theorem HG.kept3 (h : HG w N b g0 l tx M m5 T fd E) (hc : Chg w V [b] [b]) : ∀ n xs v, w.ownsRow N 3 1 v n xs → V.ownsRow N 3 1 v n xs := fun n xs v ho => row_kept ho (fun k hk => hc.block k (ho.lt k hk).2 (fun hm => by simp at hm; subst hm; exact own_ne ho h.hb (by decide) hk))
/-- a place is begun -/
theorem HG.start (h : HG w N b g0 l tx M m5 T fd E) (hc : Chg w V [b] [b]) (hrb : RB V b { M with j := j, mb := mb, z := none, n2 := 0, c2 := 0, ov := false }) (hmb : V.heap[mb]? = some (.cells (madeCells #[.bool false] M.n) 4 (0, 0))) (hlo : N ≤ mb) (hj : j ≤ M.tn) :
    WJ V N b M.fs l tx { M with j := j, mb := mb, z := none, n2 := 0, c2 := 0, ov := false } (newV fd) [] ∧ RT V N M.K M.z M.n2 M.c2 E ∧ V.ownsRow N 3 1 (.slice (some ⟨g0, 0, none⟩) M.K M.K) M.K (I64 (List.replicate M.K (-1))) := by
  have hbel : Below N w V := hc.below h.nw (fun k hk => by simp at hk; subst hk; exact h.nb)
  have h3 := h.kept3 hc
  have hln := h.pi.len
  refine ⟨⟨hrb, h.nb, Nat.le_trans h.nw hbel.size, h.pi.kept hbel (Nat.le_refl _), h.tt.below hbel, hj, ⟨hlo, _, hmb, by rw [size_madeCells]; omega, fun i hi => ?_⟩, ⟨rfl, ⟨rfl, .inl ⟨rfl, rfl⟩⟩, by simp⟩, rfl, h.fd.same h3 ⟨rfl, rfl, rfl, rfl, rfl⟩, rfl, rfl⟩, ⟨h.row.len, row_kept h.row.row (fun k hk => hc.block k (h.row.row.lt k hk).2 (fun hm => by simp at hm; subst hm; exact own_ne h.row.row h.hb (by decide) hk)), fun e he => h3 _ _ _ (h.row.caps e he)⟩, h3 _ _ _ h.un⟩
  have : i < M.n := by omega
  simp [madeCells, this, Nat.mod_one, newV]
/-- a place was visited -/
theorem WJ.head (h : WJ w N b B0 l tx M s E) (hu : w.ownsRow N 3 1 (.slice (some ⟨g0, 0, none⟩) M.K M.K) M.K (I64 (List.replicate M.K (-1)))) : HG w N b g0 l tx M (.slice (some ⟨M.mb, 0, none⟩) M.n M.n) s.next s.found E :=
  ⟨h.rb, h.nb, h.nw, h.pi, h.tt, h.row, h.nx, h.fd, hu⟩
end
/-- the parts of a run that stay -/
def Rv.base (M : Rv) : Rv := { M.core with mb := 0, j := 0 }
/-- what the document's Run answers -/
def FQ (K : Nat) (r : Fd × Nat) (w : World) (e : Ending) (w' : World) : Prop := Below w.heap.size w w' ∧ match r.1 with
  | none => e = .returned (.tuple #[.agg #[.bool false, .slice none 0 0, .int .i64 0, .int .i64 (r.2 : Int)], .int .i64 0])
  | some y => ∃ g q, e = .returned (.tuple #[.agg #[.bool true, .slice (some ⟨g, 0, none⟩) K q, .int .i64 y.1, .int .i64 (r.2 : Int)], .int .i64 0]) ∧ w'.ownsRow w.heap.size 3 1 (.slice (some ⟨g, 0, none⟩) K q) K (I64 y.2)
theorem fill_step (i K : Nat) (a b : Int) (h : i < K) : (List.replicate i a ++ List.replicate (K - i) b).set i a = List.replicate (i + 1) a ++ List.replicate (K - (i + 1)) b := by
  rw [List.set_append_right _ _ (by simp), show K - i = (K - (i + 1)) + 1 by omega, List.replicate_succ (n := K - (i + 1)), List.length_replicate, Nat.sub_self, List.set_cons_zero, List.replicate_succ' (n := i)]
  simp
end Go.Proofs.Ytiggbgmnibndoaa
