/- HELPERS: two finds that hold the same. -/
import Derived.Test.YtaoagcnbdfklnaaRc
import Derived.OwnWalk
import Derived.Deep.RegionHeld3
import Derived.Test.YtaoagcnbdfklnaaQb
import Derived.Test.YtaoagcnbdfklnaaCf
import Derived.Test.YtaoagcnbdfklnaaSh
/- HELPERS: the document's run in memory. -/
namespace Go.Proofs.Ytaoagcnbdfklnaa
open Go.RowKit Go.Lk
set_option linter.unusedVariables false
set_option linter.unusedSimpArgs false
/-- what the cells of the document's run hold -/
structure Rv where
  ad : Option Addr
  n : Nat
  c : Nat
  S : Nat
  K : Nat
  tad : Option Addr
  tn : Nat
  tc : Nat
  j : Nat
  mb : Nat
  z : Option Addr
  n2 : Nat
  c2 : Nat
  fok : Bool
  f1 : Option Addr
  f2 : Nat
  f3 : Nat
  fw : Int
  fs : Nat
  ov : Bool
abbrev Rv.cs (M : Rv) : Array Value := #[.slice M.ad M.n M.c, .int .i64 (M.S : Int), .int .i64 (M.K : Int), .slice M.tad M.tn M.tc, .int .i64 (M.j : Int), .slice (some ⟨M.mb, 0, none⟩) M.n M.n, .slice M.z M.n2 M.c2, .bool M.fok, .slice M.f1 M.f2 M.f3, .int .i64 M.fw, .int .i64 (M.fs : Int), .bool M.ov]
def RB (w : World) (b : Nat) (M : Rv) : Prop := w.heap[b]? = some (.cells M.cs 67 (0, 0))
theorem RB.c {w : World} {b : Nat} {M : Rv} (h : RB w b M) (k : Nat) : w.cell? ⟨b, k, none⟩ = M.cs[k]? := Joins.cell_of_block h k
theorem RB.u {w : World} {b : Nat} {M : Rv} (h : RB w b M) (k : Nat) : w.frozen? ⟨b, k, none⟩ = false := Joins.unfrozen_of_block h k
theorem RB.lt {w : World} {b : Nat} {M : Rv} (h : RB w b M) : b < w.heap.size := (Array.getElem?_eq_some_iff.1 h).1
theorem RB.kept {w w' : World} {b : Nat} {M : Rv} (h : RB w b M) (hk : w'.heap[b]? = w.heap[b]?) : RB w' b M := hk.trans h
theorem RB.upd {w : World} {b : Nat} {M : Rv} (h : RB w b M) (k : Nat) (v : Value) (M' : Rv) (he : M.cs.setIfInBounds k v = M'.cs) : RB (w.setCell ⟨b, k, none⟩ v) b M' := by
  have := Joins.block_setCell (i := k) h v
  rw [he] at this
  exact this
/-- a thread: its instruction, its captures' block and room, the captures -/
structure Ef where
  i : Nat
  b : Nat
  q : Nat
  c : List Int
instance : Inhabited Ef := ⟨⟨0, 0, 0, []⟩⟩
def Ef.th (e : Ef) : Th := (e.i, e.c)
def Ef.cs (K : Nat) (e : Ef) : List Value := [.int .i64 (e.i : Int), .slice (some ⟨e.b, 0, none⟩) K e.q]
def cellsF (K : Nat) (E : List Ef) : List Value := E.flatMap (Ef.cs K)
theorem cellsF_len (K : Nat) (E : List Ef) : (cellsF K E).length = E.length * 2 := by
  induction E with
  | nil => rfl
  | cons e E ih => simp only [cellsF, List.flatMap_cons, List.length_append, List.length_cons] at ih ⊢; rw [ih]; simp [Ef.cs]; omega
theorem cellsF_get (K : Nat) : ∀ (E : List Ef) (k : Nat) (hk : k < E.length) (o : Nat), o < 2 → (cellsF K E)[k * 2 + o]? = (Ef.cs K E[k])[o]?
  | e :: E, 0, _, o, ho => by
    simp only [cellsF, List.flatMap_cons]
    rw [List.getElem?_append_left (by simp [Ef.cs]; omega)]
    simp
  | e :: E, k + 1, hk, o, ho => by
    have := cellsF_get K E k (by simpa using hk) o ho
    simp only [cellsF, List.flatMap_cons] at this ⊢
    rw [List.getElem?_append_right (by simp [Ef.cs]; omega)]
    rw [show (k + 1) * 2 + o - (Ef.cs K e).length = k * 2 + o by simp [Ef.cs]; omega]
    simpa using this
theorem cellsF_snoc (K : Nat) (E : List Ef) (e : Ef) : cellsF K (E ++ [e]) = cellsF K E ++ Ef.cs K e := by simp [cellsF]
/-- a row of threads -/
structure RT (w : World) (N K : Nat) (z : Option Addr) (n c : Nat) (E : List Ef) : Prop where
  len : n = E.length
  row : w.ownsRow N 69 2 (.slice z n c) n (cellsF K E)
  caps : ∀ e ∈ E, w.ownsRow N 3 1 (.slice (some ⟨e.b, 0, none⟩) K e.q) K (I64 e.c)
/-- what is found, in memory -/
def GD (w : World) (N K : Nat) (M : Rv) : Fd → Prop
  | none => M.fok = false ∧ M.f1 = none ∧ M.f2 = 0 ∧ M.f3 = 0 ∧ M.fw = 0
  | some y => ∃ g, M.fok = true ∧ M.f1 = some ⟨g, 0, none⟩ ∧ M.f2 = K ∧ M.fw = y.1 ∧ w.ownsRow N 3 1 (.slice (some ⟨g, 0, none⟩) K M.f3) K (I64 y.2)
def UF (b : Nat) (M : Rv) : List Nat := b :: M.mb :: zF M.z M.n2 M.c2
/-- the document's run while a place is visited -/
structure WJ (w : World) (N b B0 : Nat) (l : List In) (tx : List Int) (M : Rv) (s : Vst) (E : List Ef) : Prop where
  rb : RB w b M
  nb : N ≤ b
  nw : N ≤ w.heap.size
  pi : PI w N M.ad M.n l
  tt : TextAt N w M.tad M.tn tx
  hj : M.j ≤ M.tn
  met : N ≤ M.mb ∧ ∃ arr : Array Value, w.heap[M.mb]? = some (.cells arr 4 (0, 0)) ∧ arr.size = l.length ∧ ∀ i, i < l.length → arr[i]? = some (.bool (s.met.contains i))
  row : RT w N M.K M.z M.n2 M.c2 E
  nx : E.map Ef.th = s.next
  fd : GD w N M.K M s.found
  ov : M.ov = s.over
  fs : M.fs = B0 + s.met.length
/-- a call that writes to none of the blocks of numbers leaves them -/
theorem three_kept {w w' : World} {F F' : List Nat} {N n : Nat} {v : Value} {xs : List Value} (hc : Chg w w' F F') (h : w.ownsRow N 3 1 v n xs) (hF : ∀ k ∈ F, ∀ cs fr, w.heap[k]? ≠ some (.cells cs 3 fr)) : w'.ownsRow N 3 1 v n xs :=
  row_kept h (fun k hk => hc.block k (h.lt k hk).2 (fun hm => by
    rcases h.2 with ⟨e, _⟩ | ⟨g, cap, cur, e, _, hg, _⟩
    · rw [e] at hk; cases hk
    · rw [e] at hk; simp [Value.ownBlock] at hk; subst hk; exact hF _ hm _ _ hg))
section
variable {w w' : World} {N b B0 : Nat} {l : List In} {tx : List Int} {M M' : Rv} {s s' : Vst} {E E' : List Ef}
theorem WJ.no3 (h : WJ w N b B0 l tx M s E) : ∀ k ∈ UF b M, ∀ cs fr, w.heap[k]? ≠ some (.cells cs 3 fr) := by
  intro k hk cs fr he
  obtain ⟨_, arr, ha, _⟩ := h.met
  simp only [UF, List.mem_cons] at hk
  rcases hk with rfl | rfl | hk
  · have := h.rb; unfold RB at this; rw [he] at this; simp at this
  · rw [he] at ha; simp at ha
  · exact own_ne h.row.row he (by decide) (by simpa [zF] using hk)
theorem WJ.low (h : WJ w N b B0 l tx M s E) : ∀ k ∈ UF b M, N ≤ k ∧ k < w.heap.size := by
  intro k hk
  obtain ⟨hn, arr, ha, _⟩ := h.met
  simp only [UF, List.mem_cons] at hk
  rcases hk with rfl | rfl | hk
  · exact ⟨h.nb, h.rb.lt⟩
  · exact ⟨hn, (Array.getElem?_eq_some_iff.1 ha).1⟩
  · exact h.row.row.lt k (by simpa [zF] using hk)
theorem WJ.bm (h : WJ w N b B0 l tx M s E) : M.mb ≠ b := fun e => by
  obtain ⟨_, arr, ha, _⟩ := h.met
  rw [e] at ha
  have := h.rb; unfold RB at this; rw [ha] at this; simp at this
theorem WJ.zb (h : WJ w N b B0 l tx M s E) : ∀ k ∈ zF M.z M.n2 M.c2, k ≠ b ∧ k ≠ M.mb := fun k hk => by
  obtain ⟨_, arr, ha, _⟩ := h.met
  have hk' : (Value.slice M.z M.n2 M.c2).ownBlock = some k := by simpa [zF] using hk
  exact ⟨fun e => own_ne h.row.row h.rb (by decide) (e ▸ hk'), fun e => own_ne h.row.row ha (by decide) (e ▸ hk')⟩
theorem GD.same {K : Nat} {fd : Fd} (h : GD w N K M fd) (h1 : ∀ n xs v, w.ownsRow N 3 1 v n xs → w'.ownsRow N 3 1 v n xs) (e : M'.fok = M.fok ∧ M'.f1 = M.f1 ∧ M'.f2 = M.f2 ∧ M'.f3 = M.f3 ∧ M'.fw = M.fw) : GD w' N K M' fd := by
  obtain ⟨e1, e2, e3, e4, e5⟩ := e
  cases fd with
  | none => obtain ⟨g1, g2, g3, g4, g5⟩ := h; exact ⟨e1.trans g1, e2.trans g2, e3.trans g3, e4.trans g4, e5.trans g5⟩
  | some y => obtain ⟨g, g1, g2, g3, g4, g5⟩ := h; exact ⟨g, e1.trans g1, e2.trans g2, e3.trans g3, e5.trans g4, by rw [e4]; exact h1 _ _ _ g5⟩
/-- new blocks alone -/
theorem WJ.kept (h : WJ w N b B0 l tx M s E) (hb : Below w.heap.size w w') : WJ w' N b B0 l tx M s E := by
  obtain ⟨hn, arr, ha, hr⟩ := h.met
  have h3 : ∀ n xs v, w.ownsRow N 3 1 v n xs → w'.ownsRow N 3 1 v n xs := fun n xs v ho => row_kept ho (fun k hk => hb.block k (ho.lt k hk).2)
  exact ⟨h.rb.kept (hb.block b h.rb.lt), h.nb, Nat.le_trans h.nw hb.size, h.pi.kept (hb.mono h.nw) (Nat.le_refl _), h.tt.below (hb.mono h.nw), h.hj, ⟨hn, arr, (hb.block _ (Array.getElem?_eq_some_iff.1 ha).1).trans ha, hr⟩, ⟨h.row.len, row_kept h.row.row (fun k hk => hb.block k (h.row.row.lt k hk).2), fun e he => h3 _ _ _ (h.row.caps e he)⟩, h.nx, h.fd.same h3 ⟨rfl, rfl, rfl, rfl, rfl⟩, h.ov, h.fs⟩
/-- an instruction is met -/
theorem WJ.mark (h : WJ w N b B0 l tx M s E) {i : Nat} (hi : i < l.length) (hm : i ∉ s.met) : WJ ((w.setCell ⟨M.mb, i, none⟩ (.bool true)).setCell ⟨b, 10, none⟩ (.int .i64 ((M.fs + 1 : Nat) : Int))) N b B0 l tx { M with fs := M.fs + 1 } (s.mark i) E ∧
    Chg w ((w.setCell ⟨M.mb, i, none⟩ (.bool true)).setCell ⟨b, 10, none⟩ (.int .i64 ((M.fs + 1 : Nat) : Int))) (UF b M) (UF b M) := by
  obtain ⟨hn, arr, ha, hsz, hr⟩ := h.met
  have hc : Chg w ((w.setCell ⟨M.mb, i, none⟩ (.bool true)).setCell ⟨b, 10, none⟩ (.int .i64 ((M.fs + 1 : Nat) : Int))) (UF b M) (UF b M) := ((Chg.refl w (UF b M)).set (a := ⟨M.mb, i, none⟩) _ (by simp [UF])).set (a := ⟨b, 10, none⟩) _ (by simp [UF])
  have hbel := hc.below h.nw (fun k hk => (h.low k hk).1)
  have h3 : ∀ n xs v, w.ownsRow N 3 1 v n xs → (((w.setCell ⟨M.mb, i, none⟩ (.bool true)).setCell ⟨b, 10, none⟩ (.int .i64 ((M.fs + 1 : Nat) : Int)))).ownsRow N 3 1 v n xs := fun n xs v ho => three_kept hc ho h.no3
  have hrb : RB (w.setCell ⟨M.mb, i, none⟩ (.bool true)) b M := h.rb.kept (Below.heap_setCell _ _ _ _ (fun e => h.bm e.symm))
  refine ⟨⟨hrb.upd 10 _ _ rfl, h.nb, Nat.le_trans h.nw hbel.size, h.pi.kept hbel (Nat.le_refl _), h.tt.below hbel, h.hj, ⟨hn, arr.setIfInBounds i (.bool true), ?_, by simpa using hsz, fun k hk => ?_⟩, ⟨h.row.len, ?_, fun e he => h3 _ _ _ (h.row.caps e he)⟩, h.nx, h.fd.same h3 ⟨rfl, rfl, rfl, rfl, rfl⟩, h.ov, ?_⟩, hc⟩
  · exact (Below.heap_setCell _ _ _ _ h.bm).trans (Joins.block_setCell (i := i) ha _)
  · simp only [Vst.mark]
    by_cases e : i = k
    · subst e; simp [hsz, hi]
    · rw [Array.getElem?_setIfInBounds_ne e, hr k hk]
      congr 2
      rw [Bool.eq_iff_iff]
      simp
      exact fun h' => absurd h'.symm e
  · exact own_setCell (own_setCell h.row.row (fun e => (h.zb M.mb (by simp [zF, e])).2 rfl)) (fun e => (h.zb b (by simp [zF, e])).1 rfl)
  · show M.fs + 1 = B0 + (s.met ++ [i]).length
    rw [List.length_append, h.fs]; simp; omega
/-- a thread was put -/
theorem WJ.put {V w7 : World} {y1 : Option Addr} {y3 : Nat} {x cb cq : Nat} {c : List Int} (h : WJ w N b B0 l tx M s E) (hb : Below w.heap.size w V) (hf : Frm V w7 (.slice M.z M.n2 M.c2) (.slice y1 (M.n2 + 1) y3)) (hr : w7.ownsRow N 69 2 (.slice y1 (M.n2 + 1) y3) (M.n2 + 1) (cellsF M.K E ++ Ef.cs M.K ⟨x, cb, cq, c⟩)) (hcp : w.ownsRow N 3 1 (.slice (some ⟨cb, 0, none⟩) M.K cq) M.K (I64 c)) :
    WJ (w7.setCell ⟨b, 6, none⟩ (.slice y1 (M.n2 + 1) y3)) N b B0 l tx { M with z := y1, n2 := M.n2 + 1, c2 := y3 } { s with next := s.next ++ [(x, c)] } (E ++ [⟨x, cb, cq, c⟩]) ∧ Chg w (w7.setCell ⟨b, 6, none⟩ (.slice y1 (M.n2 + 1) y3)) (UF b M) (UF b { M with z := y1, n2 := M.n2 + 1, c2 := y3 }) := by
  obtain ⟨hn, arr, ha, hsz, hrr⟩ := h.met
  have hs := hb.size
  have hs7 := hf.size
  have hkk : ∀ k, k < w.heap.size → k ∉ zF M.z M.n2 M.c2 → w7.heap[k]? = w.heap[k]? := fun k hk hz => (hf.block k (by omega) (fun e => hz (by simp [zF, e]))).trans (hb.block k hk)
  have hc : Chg w (w7.setCell ⟨b, 6, none⟩ (.slice y1 (M.n2 + 1) y3)) (UF b M) (UF b { M with z := y1, n2 := M.n2 + 1, c2 := y3 }) := by
    refine ⟨hf.os.trans hb.os, hf.tape.trans hb.tape, hf.output.trans hb.output, by simp [World.setCell]; omega, fun k hk hz => ?_, fun k hk => ?_⟩
    · simp only [UF, List.mem_cons, not_or] at hz
      exact (Below.heap_setCell _ _ _ _ hz.1).trans (hkk k hk hz.2.2)
    · simp only [UF, List.mem_cons, zF, Option.mem_toList] at hk ⊢
      rcases hk with rfl | rfl | hk
      · exact .inl (.inl rfl)
      · exact .inl (.inr (.inl rfl))
      · rcases hf.own k hk with h' | h'
        · exact .inl (.inr (.inr h'))
        · exact .inr (by omega)
  have hbel := hc.below h.nw (fun k hk => (h.low k hk).1)
  have h3 : ∀ n xs v, w.ownsRow N 3 1 v n xs → (w7.setCell ⟨b, 6, none⟩ (.slice y1 (M.n2 + 1) y3)).ownsRow N 3 1 v n xs := fun n xs v ho => three_kept hc ho h.no3
  have hbz : b ∉ zF M.z M.n2 M.c2 := fun hm => (h.zb b hm).1 rfl
  have hmz : M.mb ∉ zF M.z M.n2 M.c2 := fun hm => (h.zb _ hm).2 rfl
  have hyb : (Value.slice y1 (M.n2 + 1) y3).ownBlock ≠ some b := fun e => by
    rcases hf.own b e with h' | h'
    · exact hbz (by simp [zF, h'])
    · have := h.rb.lt; omega
  refine ⟨⟨(h.rb.kept (hkk b h.rb.lt hbz)).upd 6 _ _ rfl, h.nb, Nat.le_trans h.nw hbel.size, h.pi.kept hbel (Nat.le_refl _), h.tt.below hbel, h.hj, ⟨hn, arr, (Below.heap_setCell _ _ _ _ h.bm).trans ((hkk _ (Array.getElem?_eq_some_iff.1 ha).1 hmz).trans ha), hsz, hrr⟩, ⟨by rw [List.length_append, ← h.row.len]; rfl, ?_, fun e he => ?_⟩, ?_, h.fd.same h3 ⟨rfl, rfl, rfl, rfl, rfl⟩, h.ov, h.fs⟩, hc⟩
  · rw [cellsF_snoc]; exact own_setCell hr hyb
  · rcases List.mem_append.1 he with he | he
    · exact h3 _ _ _ (h.row.caps e he)
    · simp at he; subst he; exact h3 _ _ _ hcp
  · rw [List.map_append, h.nx]; rfl
/-- a match was met -/
theorem WJ.fit {V : World} {g q : Nat} {a : Int} {c : List Int} (h : WJ w N b B0 l tx M s E) (hb : Below w.heap.size w V) (hr : V.ownsRow N 3 1 (.slice (some ⟨g, 0, none⟩) M.K q) M.K (I64 c)) :
    WJ ((((V.setCell ⟨b, 7, none⟩ (.bool true)).setCell ⟨b, 8, none⟩ (.slice (some ⟨g, 0, none⟩) M.K q)).setCell ⟨b, 9, none⟩ (.int .i64 a)).setCell ⟨b, 11, none⟩ (.bool true)) N b B0 l tx { M with fok := true, f1 := some ⟨g, 0, none⟩, f2 := M.K, f3 := q, fw := a, ov := true } { s with found := some (a, c), over := true } E ∧
    Chg w ((((V.setCell ⟨b, 7, none⟩ (.bool true)).setCell ⟨b, 8, none⟩ (.slice (some ⟨g, 0, none⟩) M.K q)).setCell ⟨b, 9, none⟩ (.int .i64 a)).setCell ⟨b, 11, none⟩ (.bool true)) (UF b M) (UF b M) := by
  have hV := h.kept hb
  obtain ⟨hn, arr, ha, hsz, hrr⟩ := hV.met
  have hc0 : Chg V ((((V.setCell ⟨b, 7, none⟩ (.bool true)).setCell ⟨b, 8, none⟩ (.slice (some ⟨g, 0, none⟩) M.K q)).setCell ⟨b, 9, none⟩ (.int .i64 a)).setCell ⟨b, 11, none⟩ (.bool true)) (UF b M) (UF b M) := ((((Chg.refl V (UF b M)).set (a := ⟨b, 7, none⟩) _ (by simp [UF])).set (a := ⟨b, 8, none⟩) _ (by simp [UF])).set (a := ⟨b, 9, none⟩) _ (by simp [UF])).set (a := ⟨b, 11, none⟩) _ (by simp [UF])
  have hbel := hc0.below hV.nw (fun k hk => (hV.low k hk).1)
  have h3 : ∀ n xs v, V.ownsRow N 3 1 v n xs → ((((V.setCell ⟨b, 7, none⟩ (.bool true)).setCell ⟨b, 8, none⟩ (.slice (some ⟨g, 0, none⟩) M.K q)).setCell ⟨b, 9, none⟩ (.int .i64 a)).setCell ⟨b, 11, none⟩ (.bool true)).ownsRow N 3 1 v n xs := fun n xs v ho => three_kept hc0 ho hV.no3
  have hne : ∀ k, k ≠ b → ((((V.setCell ⟨b, 7, none⟩ (.bool true)).setCell ⟨b, 8, none⟩ (.slice (some ⟨g, 0, none⟩) M.K q)).setCell ⟨b, 9, none⟩ (.int .i64 a)).setCell ⟨b, 11, none⟩ (.bool true)).heap[k]? = V.heap[k]? := fun k hk => (Below.heap_setCell _ _ _ _ hk).trans ((Below.heap_setCell _ _ _ _ hk).trans ((Below.heap_setCell _ _ _ _ hk).trans (Below.heap_setCell _ _ _ _ hk)))
  have hrb := (((hV.rb.upd 7 (.bool true) { M with fok := true } rfl).upd 8 (.slice (some ⟨g, 0, none⟩) M.K q) { M with fok := true, f1 := some ⟨g, 0, none⟩, f2 := M.K, f3 := q } rfl).upd 9 (.int .i64 a) { M with fok := true, f1 := some ⟨g, 0, none⟩, f2 := M.K, f3 := q, fw := a } rfl).upd 11 (.bool true) { M with fok := true, f1 := some ⟨g, 0, none⟩, f2 := M.K, f3 := q, fw := a, ov := true } rfl
  refine ⟨⟨hrb, h.nb, Nat.le_trans hV.nw hbel.size, hV.pi.kept hbel (Nat.le_refl _), hV.tt.below hbel, h.hj, ⟨hn, arr, (hne _ hV.bm).trans ha, hsz, hrr⟩, ⟨h.row.len, row_kept hV.row.row (fun k hk => hne k (hV.zb k (by simp [zF, hk])).1), fun e he => h3 _ _ _ (hV.row.caps e he)⟩, h.nx, ⟨g, rfl, rfl, rfl, rfl, h3 _ _ _ hr⟩, rfl, h.fs⟩, (Chg.of_below hb).trans hc0⟩
end
end Go.Proofs.Ytaoagcnbdfklnaa
/- HELPERS: can a match be come to: the search walked. -/
namespace Go.Proofs.Ytaoagcnbdfklnaa
open Go.RowKit Go.Lk
set_option linter.unusedVariables false
set_option linter.unusedSimpArgs false
def lenOf : Value → Nat
  | .slice _ n _ => n
  | _ => 0
theorem div_idx {i j q1 : Nat} (hj : j < q1) : ((i * q1 + j : Nat) : Int) / (q1 : Int) = (i : Int) ∧ ((i * q1 + j : Nat) : Int) % (q1 : Int) = (j : Int) := by
  have h1 : (i * q1 + j) / q1 = i := by rw [Nat.mul_comm, Nat.mul_add_div (by omega), Nat.div_eq_of_lt hj]; omega
  have h2 : (i * q1 + j) % q1 = j := by rw [Nat.mul_comm, Nat.mul_add_mod, Nat.mod_eq_of_lt hj]
  exact ⟨by rw [← Int.natCast_ediv, h1], by rw [← Int.natCast_emod, h2]⟩
theorem inst_pi {w : World} {B n : Nat} {ad : Option Addr} {l : List In} (h : PI w B ad n l) {i : Nat} (hi : i < l.length) :
    ∃ pb po r1 r2 r3, ad = some ⟨pb, po, none⟩ ∧ r2 = l[i].R.length ∧ ∀ W, Below B w W → (W.cell? ⟨pb, po + i * 5, none⟩ = some (.int .i64 l[i].op) ∧ W.cell? ⟨pb, po + i * 5 + 1, none⟩ = some (.int .i64 l[i].x) ∧ W.cell? ⟨pb, po + i * 5 + 2, none⟩ = some (.int .i64 l[i].y) ∧ W.cell? ⟨pb, po + i * 5 + 3, none⟩ = some (.int .i64 l[i].a) ∧ W.cell? ⟨pb, po + i * 5 + 4, none⟩ = some (.slice r1 r2 r3)) ∧ RowAt B W (.slice r1 r2 r3) l[i].R := by
  have hln := h.len
  obtain ⟨pb, po, ND, e, hpb, hcs⟩ := h.mem (by omega)
  obtain ⟨h5, hM⟩ := hcs i hi
  refine ⟨pb, po, (ND i).r1, (ND i).r2, (ND i).r3, e, hM.len, fun W hb => ?_⟩
  obtain ⟨m0, m1, m2, m3, m4⟩ := h5.kept (hb.block pb hpb)
  have hM' := hM.kept hb (Nat.le_refl _)
  rw [hM.op] at m0
  rw [hM.x] at m1
  rw [hM.y] at m2
  rw [hM.a] at m3
  exact ⟨⟨m0, m1, m2, m3, m4⟩, hM'.row⟩
theorem row_some {B : Nat} {w : World} {r1 : Option Addr} {r2 r3 : Nat} {R : List (Int × Int)} (h : RowAt B w (.slice r1 r2 r3) R) : r2 = R.length := by
  obtain ⟨_, _, e, _⟩ := h
  simp at e
  exact e.2.1
set_option maxRecDepth 100000 in
set_option maxHeartbeats 32000000 in
theorem reach19 {w : World} {ad tad : Option Addr} {n c tn tc S K a : Nat} {l : List In} {tx : List Int} (hP : PI w w.heap.size ad n l) (hmay : mayB l (S : Int) (K : Int) = true) (hT : TextAt w.heap.size w tad tn tx) (hl : tn ≤ 200) (ha : a ≤ tn) :
    Calls Try.prog 19 #[pv ad n c (S : Int) (K : Int), .slice tad tn tc, .int .i64 (a : Int)] w fun e w' => ∃ bb, e = .returned (.bool bb) ∧ (bb = true ↔ Rch (act l tx) S a) ∧ Below w.heap.size w w' := by
  have hln := hP.len
  have hm := may_ok hmay
  have htl : tn = tx.length := hT.1
  obtain ⟨i3, hi3, hz30, hz31, hz32⟩ := info_parts info3
  obtain ⟨q1, hq1⟩ : ∃ q1, q1 = tn + 1 := ⟨_, rfl⟩
  obtain ⟨B0, hB0⟩ : ∃ B0, B0 = w.heap.size := ⟨_, rfl⟩
  obtain ⟨x, hx⟩ : ∃ x, x = w.heap.size := ⟨_, rfl⟩
  obtain ⟨U, hU⟩ : ∃ U, U = w.alloc (.cells #[.slice ad n c, .int .i64 (S : Int), .int .i64 (K : Int)] 27) := ⟨_, rfl⟩
  have hM : n * q1 ≤ 20000 * 201 := Nat.mul_le_mul (by omega) (by omega)
  obtain ⟨M, hMe⟩ : ∃ M, M = n * q1 := ⟨_, rfl⟩
  have hM2 : M ≤ 4020000 := by omega
  have hSq : S * q1 + a < M := by rw [hMe]; exact idx_lt (by omega) (by omega)
  have hmk := makeB M (by omega) U
  obtain ⟨U1, hU1⟩ : ∃ U1, U1 = U.alloc (.cells (madeCells #[.bool false] M) 4) := ⟨_, rfl⟩
  rw [← hU1] at hmk
  obtain ⟨gm, hgm⟩ : ∃ gm, gm = U.heap.size := ⟨_, rfl⟩
  rw [← hgm] at hmk
  obtain ⟨U2, hU2⟩ : ∃ U2, U2 = U1.alloc (.cells #[.int .i64 ((S * q1 + a : Nat) : Int)] 3) := ⟨_, rfl⟩
  have hbU : Below w.heap.size w U := by rw [hU]; exact Joins.below_alloc1 w _
  have hbU1 : Below U.heap.size U U1 := by rw [hU1]; exact Joins.below_alloc1 U _
  have hbU2 : Below U1.heap.size U1 U2 := by rw [hU2]; exact Joins.below_alloc1 U1 _
  have hX : U.heap[x]? = some (.cells #[.slice ad n c, .int .i64 (S : Int), .int .i64 (K : Int)] 27 (0, 0)) := by rw [hU, hx]; exact heap_alloc_new w _
  have hxU : x < U.heap.size := (Array.getElem?_eq_some_iff.1 hX).1
  have hGM : U1.heap[gm]? = some (.cells (madeCells #[.bool false] M) 4 (0, 0)) := by rw [hU1, hgm]; exact heap_alloc_new U _
  have hgmU : gm < U1.heap.size := (Array.getElem?_eq_some_iff.1 hGM).1
  have hRS : RS w U2 B0 gm x n q1 c ad (S : Int) (K : Int) (some ⟨U1.heap.size, 0, none⟩) 1 [(S, a)] (fun _ _ => false) := by
    refine ⟨?_, ⟨_, (hbU2.block gm hgmU).trans hGM, by rw [size_madeCells, hMe], fun i p hi hp => ?_⟩, ((hbU2.block x (by have := hbU1.size; omega)).trans ((hbU1.block x hxU).trans hX)), ?_, fun t ht => by simp at ht; subst ht; exact ⟨by omega, by omega⟩, ?_⟩
    · rw [hU2]
      exact World.ownsRow_lit (base := B0) (e := 3) (size := 1) U1 #[.int .i64 ((S * q1 + a : Nat) : Int)] 1 (by have := hbU1.size; have := hbU.size; omega) (by unfold maxLen; omega) rfl
    · have : i * q1 + p < M := by rw [hMe]; exact idx_lt hi hp
      simp [madeCells, this, Nat.mod_one]
    · rw [hB0]; exact hbU.trans (Joins.below_le (hbU1.trans (Joins.below_le hbU2 hbU1.size)) hbU.size)
    · have := hbU.size; have := hbU1.size; have := hbU2.size; omega
  have hcW : cW U2 gm M ≤ M := by
    obtain ⟨arr, h1, _⟩ := hRS.met
    rw [cW_of h1]
    unfold cA
    have := List.countP_le_length (p := fun k => isF arr[k]?) (l := List.range M)
    simpa using this
  have a1 : IntKind.i64.wrap ((tn : Int) + 1) = (q1 : Int) := by rw [wrap_ok _ (by omega) (by omega)]; omega
  have a2 : IntKind.i64.wrap ((n : Int) * (q1 : Int)) = (M : Int) := by
    have e : (n : Int) * (q1 : Int) = (M : Int) := by rw [hMe]; push_cast; rfl
    rw [e]; exact wrap_ok _ (by omega) (by omega)
  have hSq2 : S * q1 ≤ S * q1 + a := by omega
  have hmulN : ∀ X j : Nat, (X : Int) * (q1 : Int) + (j : Int) = ((X * q1 + j : Nat) : Int) := fun X j => by push_cast; rfl
  have hmulI : ∀ X : Nat, (X : Int) * (q1 : Int) = ((X * q1 : Nat) : Int) := fun X => by push_cast; rfl
  have a3 : IntKind.i64.wrap ((S : Int) * (q1 : Int)) = (S : Int) * (q1 : Int) := by rw [hmulI S]; exact wrap_ok _ (by omega) (by omega)
  have a4 : IntKind.i64.wrap ((S : Int) * (q1 : Int) + (a : Int)) = ((S * q1 + a : Nat) : Int) := by rw [hmulN S a]; exact wrap_ok _ (by omega) (by omega)
  have HMN := hid hmulN
  have HMI := hid hmulI
  obtain ⟨c0, c1, c2⟩ := three_cells hX
  have cc1 : U1.cell? ⟨x, 1, none⟩ = some (.int .i64 (S : Int)) := (cell_eq (hbU1.block x hxU) _).trans c1
  have HRS := hid hRS
  have HRK := hid (RK.init (act l tx) (S, a))
  have HP := hid hP
  have HT := hid hT
  have HM := hid hm
  have HMY := hid hmay
  have HLN := hid hln
  have HTL := hid htl
  have HB0 := hid hB0
  have HME := hid hMe
  have HCW := hid hcW
  have HQ1 := hid hq1
  have hq1p : q1 ≤ 201 ∧ 0 < q1 := by omega
  have hn2 : n ≤ 20000 := by omega
  obtain ⟨zb, hzb⟩ : ∃ zb, zb = U1.heap.size := ⟨_, rfl⟩
  rw [← hzb] at HRS
  generalize hsq : S * q1 + a = sq at *
  clear hRS hP hT hm hln htl hbU hbU1 hbU2 hX hGM hcW hmay hM hSq2 hsq hmulN hmulI
  go_enter Try.func19, Try.ntmps19
  go_upto_region 1 with fail
  rw [← hU, ← hx]
  clear hU hU1 hgm hx hB0 hMe hq1
  go_wp2_with fail
  rw [← hU2, ← hzb]
  clear hU2 hzb c0 c1 c2 cc1 hmk a1 a2 a3 a4
  go_loopw [9] (fun u wq => ∃ (L : Nat) (z : Option Addr) (cz : Nat) (st : List (Nat × Nat)) (m : Met), u = .slice z L cz ∧ Hid (L = st.length) ∧ Hid (RS w wq B0 gm x n q1 c ad (S : Int) (K : Int) z cz st m) ∧ Hid (RK (act l tx) (S, a) st m) ∧ 6000 * cW wq gm M + L ≤ 6000 * M + 1) (fun u wq => 6000 * cW wq gm M + lenOf u)
  case atStart => exact ⟨1, some ⟨zb, 0, none⟩, 1, [(S, a)], fun _ _ => false, rfl, rfl, HRS.out, HRK.out, by have := HCW.out; omega⟩
  case round =>
    clear HRS HRK HCW
    obtain ⟨L, z, cz, st, m, rfl, HL, HRS, HRK, hms⟩ := hrel
    cases st with
    | nil =>
      obtain rfl : L = 0 := HL.out
      have b1 : decide ((0 : Int) < 0) = false := by decide
      go_wp2
      all_goals go_ret
      all_goals exact ⟨false, rfl, ⟨fun h => absurd h (by simp), fun h => absurd h HRK.out.no⟩, by rw [← HB0.out]; exact HRS.out.bl⟩
    | cons t st =>
      obtain ⟨i, j⟩ := t
      obtain ⟨L', rfl⟩ : ∃ L', L = L' + 1 := ⟨st.length, HL.out⟩
      have hL' : L' = st.length := by have := HL.out; simp at this; exact this
      obtain ⟨zb, hzb⟩ : ∃ zb, z = some ⟨zb, 0, none⟩ := by
        rcases HRS.out.row.2 with ⟨_, e⟩ | ⟨g, cap, cur, e, _⟩
        · simp at e
        · simp only [Value.slice.injEq] at e; exact ⟨g, e.1⟩
      subst hzb
      have hcz : L' + 1 ≤ cz := by
        obtain ⟨_, _, e, h1, _⟩ := row_shape HRS.out.row
        simp only [Value.slice.injEq] at e
        obtain ⟨_, _, rfl⟩ := e
        simp at h1
        omega
      obtain ⟨hi, hj⟩ := HRS.out.ok (i, j) List.mem_cons_self
      have hi' : i < n := hi
      have hj' : j < q1 := hj
      have htop : wr.cell? ⟨zb, L', none⟩ = some (.int .i64 ((i * q1 + j : Nat) : Int)) := by
        have h1 := HRS.out.row.cellAt L' (by simp; omega)
        rw [h1, stq, I64, List.map_append, List.getElem?_append_right (by simp [stq_len]; omega)]
        simp [stq_len, hL']
      have hidx : i * q1 + j < M := by rw [HME.out]; exact idx_lt hi' hj'
      obtain ⟨mt, mf⟩ := HRS.out.metAt hi' hj'
      obtain ⟨dv, md⟩ := div_idx (i := i) hj'
      generalize hix : i * q1 + j = ix at htop hidx mt mf dv md
      have HIX := hid hix
      have b1 : decide ((0 : Int) < (L' : Int) + 1) = true := by first | (simp; done) | (simp; omega)
      have b1' : decide (((L' + 1 : Nat) : Int) > 0) = true := by first | (simp; done) | (simp; omega)
      have a3 : IntKind.i64.wrap ((L' : Int) + 1 - 1) = (L' : Int) := by rw [wrap_ok _ (by omega) (by omega)]; omega
      have a4 : IntKind.i64.wrap (((L' + 1 : Nat) : Int) - 1) = (L' : Int) := by rw [wrap_ok _ (by omega) (by omega)]; omega
      have u1 : (L' : Int) < (L' : Int) + 1 := by omega
      have u2 : (L' : Int) < ((L' + 1 : Nat) : Int) := by omega
      have u3 : (0 : Int) ≤ (L' : Int) := by omega
      have u4 : (L' : Int) ≤ (cz : Int) := by omega
      have u5 : (ix : Int) < (M : Int) := by omega
      have HPOP := hid HRS.out.pop
      have HL2 := hid hL'
      clear hL' HL hi hj hix
      cases hmet : m i j
      · rw [hmet] at mt
        have HMT := hid hmet
        clear hmet
        obtain ⟨hRS1, hcw1⟩ := HPOP.out.mark hi' hj' HMT.out
        rw [HIX.out] at hRS1 hcw1
        rw [← HME.out] at hcw1
        have hil : i < l.length := by have := HLN.out; omega
        obtain ⟨pb, po, r1, r2, r3, hpa, hpr, hcs⟩ := inst_pi HP.out hil
        subst hpa
        obtain ⟨W1, hW1⟩ : ∃ W1, W1 = wr.setCell ⟨gm, ix, none⟩ (.bool true) := ⟨_, rfl⟩
        rw [← hW1] at hRS1 hcw1
        have hbl1 : Below w.heap.size w W1 := by have := hRS1.bl; rw [HB0.out] at this; exact this
        obtain ⟨⟨m0, m1, m2, m3, m4⟩, _⟩ := hcs W1 hbl1
        obtain ⟨x0, x1, x2⟩ := three_cells hRS1.bx
        have hRSV := fun (o : Obj) => hRS1.kept (w' := W1.alloc o) (Joins.below_alloc1 W1 o)
        have HRSV := hid hRSV
        have HR1 := hid hRS1
        have HCS := hid hcs
        have HPR := hid hpr
        have hok := HM.out.2.2.2.2.2 l[i] (List.getElem_mem hil)
        have HOK := hid hok
        have HW1 := hid hW1
        have u6 : (i : Int) < (n : Int) := by omega
        have hxW : x < W1.heap.size := lt_of_cell x0
        have hpW : pb < W1.heap.size := lt_of_cell m0
        have hq0 : ¬ q1 = 0 := by omega
        have wi : IntKind.i64.wrap (i : Int) = (i : Int) := wrap_ok _ (by omega) (by omega)
        have wj : IntKind.i64.wrap (j : Int) = (j : Int) := wrap_ok _ (by omega) (by omega)
        clear hRS1 hcs hpr hok hW1 hbl1 hRSV
        go_upto_region 9 with fail
        rw [← HW1.out]
        clear HW1 mt mf htop b1 b1' a3 a4 u1 u2 u3 u4 u5
        go_region
        obtain ⟨V, hV⟩ : ∃ V, V = (W1.alloc (.cells #[.int .i64 l[i].op, .int .i64 l[i].x, .int .i64 l[i].y, .int .i64 l[i].a, .slice r1 r2 r3] 49)).drew := ⟨_, rfl⟩
        rw [← hV]
        have hbV : Below W1.heap.size W1 V := by rw [hV]; exact (Joins.below_alloc1 W1 _).drew
        have hRV : RS w V B0 gm x n q1 c (some ⟨pb, po, none⟩) (S : Int) (K : Int) (some ⟨zb, 0, none⟩) cz st (mark m i j) := HR1.out.kept hbV
        have hY : V.heap[W1.heap.size]? = some (.cells #[.int .i64 l[i].op, .int .i64 l[i].x, .int .i64 l[i].y, .int .i64 l[i].a, .slice r1 r2 r3] 49 (0, 0)) := by rw [hV]; exact heap_alloc_new W1 _
        obtain ⟨y, hy⟩ : ∃ y, y = W1.heap.size := ⟨_, rfl⟩
        rw [← hy] at hY ⊢
        have hyV : y < V.heap.size := (Array.getElem?_eq_some_iff.1 hY).1
        obtain ⟨v0, v1, v2, v3, v4⟩ := five hY
        have hcwV : cW V gm M = cW W1 gm M := by
          obtain ⟨arr, h1, _⟩ := HR1.out.met
          exact cW_same (hbV.block gm (Array.getElem?_eq_some_iff.1 h1).1)
        have hcw2 : cW V gm M < cW wr gm M := by omega
        have HCV := hid hcw2
        have HRV := hid hRV
        have HBV := hid hbV
        have HY := hid hY
        have hvs : B0 ≤ V.heap.size := hRV.lo.2
        have hXn : hasXB l[i].op = true → ∃ X : Nat, l[i].x = (X : Int) ∧ X < n := fun h => by
          have h1 := ok_x HOK.out h
          obtain ⟨X, hX⟩ := Int.eq_ofNat_of_zero_le h1.1
          exact ⟨X, hX, by have := HLN.out; omega⟩
        have hYn : hasYB l[i].op = true → ∃ X : Nat, l[i].y = (X : Int) ∧ X < n := fun h => by
          have h1 := ok_y HOK.out h
          obtain ⟨X, hX⟩ := Int.eq_ofNat_of_zero_le h1.1
          exact ⟨X, hX, by have := HLN.out; omega⟩
        have HXN := hid hXn
        have HYN := hid hYn
        have hact : act l tx j i = actI tx l[i] j := by unfold act; rw [getD_in' hil]
        have HACT := hid hact
        have hMid : ∀ X jj : Nat, X < n → jj < q1 → IntKind.i64.wrap ((X : Int) * (q1 : Int)) = (X : Int) * (q1 : Int) ∧ IntKind.i64.wrap ((X : Int) * (q1 : Int) + (jj : Int)) = ((X * q1 + jj : Nat) : Int) ∧ X * q1 + jj < M := fun X jj h1 h2 => by
          have h3 : X * q1 + jj < M := by rw [HME.out]; exact idx_lt h1 h2
          refine ⟨?_, ?_, h3⟩
          · rw [HMI.out X]; exact wrap_ok _ (by omega) (by omega)
          · rw [HMN.out X jj]; exact wrap_ok _ (by omega) (by omega)
        have HMID := hid hMid
        have hLs : 6000 * cW wr gm M + L' ≤ 6000 * M := by omega
        clear hV hbV hRV hY hy hcwV hcw2 hXn hYn hact hMid m0 m1 m2 m3 m4 x0 x1 x2 hxW hpW HRSV dv wi hcw1
        rcases ok_op HOK.out with ho | ho | ho | ho | ho | ho | ho
        · rw [ho] at v0
          have HO := hid ho
          clear ho
          have hright : rightB l[i].R = true := ok_R HOK.out HO.out
          have hr5 : r2 ≤ 5000 := by rw [HPR.out]; unfold rightB at hright; simp at hright; exact hright.1
          obtain ⟨X, hX, hXl⟩ := HXN.out (by rw [HO.out]; rfl)
          rw [hX] at v1
          have HXE2 := hid hX
          clear hX
          by_cases hjt : j < tn
          · have HTV : Hid (∀ W, Below B0 w W → ∃ tb tof, tad = some ⟨tb, tof, none⟩ ∧ W.cell? ⟨tb, tof + j, none⟩ = some (.int .i64 (tx.getD j 0))) := fun W h => by
              obtain ⟨_, _, h0 | ⟨tb, tof, h1, h2, h3⟩⟩ := HT.out
              · omega
              · exact ⟨tb, tof, h1, (cell_eq (h.block tb (by have := HB0.out; omega)) _).trans (h3 j hjt)⟩
            have g1 : decide ((j : Int) < (tn : Int)) = true := by simp; omega
            have g1' : (j : Int) < (tn : Int) := by omega
            obtain ⟨tb, tof, htad, _⟩ := HTV.out V HRV.out.bl
            subst htad
            have HTV2 : Hid (∀ W, Below B0 w W → W.cell? ⟨tb, tof + j, none⟩ = some (.int .i64 (tx.getD j 0))) := fun W h => by
              obtain ⟨tb', tof', e, h1⟩ := HTV.out W h
              simp only [Option.some.injEq, Addr.mk.injEq] at e
              obtain ⟨rfl, rfl, _⟩ := e
              exact h1
            generalize hr : tx.getD j 0 = r at HTV2
            have HRE := hid hr
            clear hr HTV
            have hj1 : j + 1 < q1 := by have := HQ1.out; omega
            obtain ⟨e1, e2, e3⟩ := HMID.out X j hXl hj'
            have e3' : X * q1 + (j + 1) < M := (HMID.out X (j + 1) hXl hj1).2.2
            generalize hxi : X * q1 + j = xi at e2 e3
            have HXI := hid hxi
            have hxi1 : X * q1 + (j + 1) = xi + 1 := by omega
            have HXI1 := hid hxi1
            have e4 : IntKind.i64.wrap ((xi : Int) + 1) = ((xi + 1 : Nat) : Int) := by rw [wrap_ok _ (by omega) (by omega)]; omega
            clear hxi hxi1 e3'
            go_wp2_with fail
            rw [md]
            go_loopw [9, 13] (fun v9 v wq => ∃ (q cnt : Nat) (z2 : Option Addr) (c2 : Nat), v9 = .slice z2 (L' + cnt) c2 ∧ v = .int .i64 (q : Int) ∧ q ≤ r2 ∧ cnt ≤ q ∧ Hid (RS w wq B0 gm x n q1 c (some ⟨pb, po, none⟩) (S : Int) (K : Int) z2 c2 (List.replicate cnt (X, j + 1) ++ st) (mark m i j)) ∧ Hid (cW wq gm M = cW V gm M) ∧ Hid (wq.heap[y]? = some (.cells #[.int .i64 l[i].op, .int .i64 l[i].x, .int .i64 l[i].y, .int .i64 l[i].a, .slice r1 r2 r3] 49 (0, 0))) ∧ Hid (0 < cnt ↔ ∃ p, p < q ∧ (l[i].R.getD p (0, 0)).1 ≤ r ∧ r ≤ (l[i].R.getD p (0, 0)).2)) (fun _ v _ => r2 - (intOf v).toNat)
            case atStart => exact ⟨0, 0, some ⟨zb, 0, none⟩, cz, rfl, rfl, Nat.zero_le _, Nat.le_refl _, HRV.out, rfl, HY.out, ⟨fun h => by omega, fun ⟨p, h, _⟩ => by omega⟩⟩
            case round =>
              obtain ⟨q, cnt, z2, c2', rfl, rfl, hq, hcnt, HR2, HC2, HY2, HI2⟩ := hrel
              clear v0 v1 v2 v3 v4
              obtain ⟨v0, v1, v2, v3, v4⟩ := five HY2.out
              rw [HXE2.out] at v1
              by_cases hqr : q < r2
              · have g2 : decide ((q : Int) < (r2 : Int)) = true := by simp; omega
                have g2' : (q : Int) < (r2 : Int) := by omega
                have a5 : IntKind.i64.wrap ((q : Int) + 1) = (q : Int) + 1 := by rw [wrap_ok _ (by omega) (by omega)]
                have ht := HTV2.out _ HR2.out.bl
                obtain ⟨_, hrow⟩ := HCS.out _ (by have := HR2.out.bl; rw [HB0.out] at this; exact this)
                obtain ⟨ad', cap', he, h0 | ⟨lb, lof, hr1, hlb, hc0, hc1⟩⟩ := hrow
                · have := HPR.out; omega
                simp only [Value.slice.injEq] at he
                obtain ⟨hr1', -, rfl⟩ := he
                rw [← hr1'] at hr1
                clear hr1'
                subst hr1
                have t0 := hc0 q (by have := HPR.out; omega)
                have t1 := hc1 q (by have := HPR.out; omega)
                have HI3 : Hid (∀ b : Bool, (decide ((l[i].R.getD q (0, 0)).1 ≤ r) && decide (r ≤ (l[i].R.getD q (0, 0)).2)) = b → (0 < (if b then cnt + 1 else cnt) ↔ ∃ p, p < q + 1 ∧ (l[i].R.getD p (0, 0)).1 ≤ r ∧ r ≤ (l[i].R.getD p (0, 0)).2)) := fun b hb => by
                  have h3 := HI2.out
                  cases b
                  · simp only [Bool.false_eq_true, if_false]
                    rw [h3]
                    constructor
                    · rintro ⟨p, h1, h2⟩; exact ⟨p, by omega, h2⟩
                    · rintro ⟨p, h1, h2, h4⟩
                      by_cases e : p = q
                      · exfalso; subst e; rw [decide_eq_true h2, decide_eq_true h4] at hb; cases hb
                      · exact ⟨p, by omega, h2, h4⟩
                  · simp only [if_true]
                    simp only [Bool.and_eq_true, decide_eq_true_eq] at hb
                    exact ⟨fun _ => ⟨q, by omega, hb.1, hb.2⟩, fun _ => by omega⟩
                generalize hlo : (l[i].R.getD q (0, 0)).1 = lo at t0 HI3
                generalize hhi : (l[i].R.getD q (0, 0)).2 = hi2 at t1 HI3
                clear hlo hhi hc0 hc1 hlb
                go_upto_region 26 with fail
                have k1 : (q : Int) < (r2 : Int) := by omega
                have k2 : (j : Int) < (tn : Int) := by omega
                have k3 : (0 : Int) ≤ (q : Int) := by omega
                have k4 : (0 : Int) ≤ (j : Int) := by omega
                have k5 : ¬ r2 ≤ q := by omega
                have k6 : ¬ tn ≤ j := by omega
                have k7 : (q : Int).toNat = q := by omega
                by_cases hlo : lo ≤ r
                · have d1 : decide (lo ≤ r) = true := by simp [hlo]
                  by_cases hhi : r ≤ hi2
                  · have d2 : decide (r ≤ hi2) = true := by simp [hhi]
                    go_quiet (fail)
                    obtain ⟨V2, hV2⟩ : ∃ V2, V2 = wr.drewN nq := ⟨_, rfl⟩
                    rw [← hV2]
                    have hE2 : Eqw wr V2 := by rw [hV2]; exact Eqw.drewN wr nq
                    have HRV2 := hid (HR2.out.kept (hE2.below _))
                    have HCV2 : Hid (cW V2 gm M = cW V gm M) := by show _ = _; rw [cW_same (hE2.blk gm)]; exact HC2.out
                    have HYV2 := hid ((hE2.blk y).trans HY2.out)
                    have v1' := (cell_eq (hE2.blk y) 1).trans v1
                    have hvs2 : B0 ≤ V2.heap.size := HRV2.out.lo.2
                    have hL3 : L' + cnt = (List.replicate cnt (X, j + 1) ++ st).length := by have := HL2.out; simp; omega
                    have HL3 := hid hL3
                    clear hV2 hE2 v0 v1 v2 v3 v4 hL3
                    have HRO : Hid ((V2.alloc (.cells #[.int .i64 ((xi + 1 : Nat) : Int)] 3)).ownsRow B0 3 1 (.slice z2 (L' + cnt) c2') (L' + cnt) (I64 (stq q1 (List.replicate cnt (X, j + 1) ++ st)))) := by have := HRV2.out.row; rw [← HL3.out] at this; exact this.alloc _
                    have HSR : Hid ((V2.alloc (.cells #[.int .i64 ((xi + 1 : Nat) : Int)] 3)).ownsRow 0 3 1 (.slice (some ⟨V2.heap.size, 0, none⟩) 1 1) 1 [.int .i64 ((xi + 1 : Nat) : Int)]) := World.ownsRow_lit (base := 0) (e := 3) (size := 1) V2 #[.int .i64 ((xi + 1 : Nat) : Int)] 1 (Nat.zero_le _) (by unfold maxLen; omega) rfl
                    go_wp2_with (at_builtin; refine wpList_append_row rfl (.tmp 151) (.tmp 159) 28 rfl B0 3 i3 (.int .i64 0) 1 8 Try.underlying28 hi3 hz30 hz31 hz32 rfl (by decide) (.slice z2 (L' + cnt) c2') (L' + cnt) (I64 (stq q1 (List.replicate cnt (X, j + 1) ++ st))) rfl HRO.out (.slice (some ⟨V2.heap.size, 0, none⟩) 1 1) 1 0 [.int .i64 ((xi + 1 : Nat) : Int)] rfl HSR.out (fun h => by omega) (by simp [Value.oneCell']) (by unfold maxLen; omega) (by omega) (by (try simp) <;> omega) ?_; intro v7 w7 ho7 hf7 _; obtain ⟨y1, y3, rfl, _⟩ := row_shape ho7.out)
                    obtain ⟨hp1, hp2⟩ := HRV2.out.push (ts := [(X, j + 1)]) (w7 := w7) (y1 := y1) (y3 := y3) (Joins.below_alloc1 V2 _) (by rw [← HL3.out]; exact hf7.out) (by rw [← HL3.out]; have := ho7.out; rw [← HXI1.out] at this; exact this) (fun t ht => by simp at ht; subst ht; exact ⟨hXl, hj1⟩)
                    rw [← HME.out] at hp2
                    have hy7 : w7.heap[y]? = V2.heap[y]? := (hf7.out.block y (by have := (Array.getElem?_eq_some_iff.1 HYV2.out).1; (try simp); omega) (own_ne HRV2.out.row HYV2.out (by decide) ∘ (fun h => by rw [← HL3.out]; exact h))).trans (heap_alloc_old _ _ (Array.getElem?_eq_some_iff.1 HYV2.out).1)
                    refine ⟨⟨q + 1, cnt + 1, y1, y3, rfl, by push_cast; rfl, by omega, by omega, by show RS _ _ _ _ _ _ _ _ _ _ _ _ _ _ _; rw [List.replicate_succ]; exact hp1, by show _ = _; rw [hp2]; exact HCV2.out, hy7.trans HYV2.out, by have := HI3.out true (by simp [hlo, hhi]); exact this⟩, by simp [intOf]; omega⟩
                  · have d2 : decide (r ≤ hi2) = false := by simp [hhi]
                    go_quiet (fail)
                    obtain ⟨V2, hV2⟩ : ∃ V2, V2 = wr.drewN nq := ⟨_, rfl⟩
                    rw [← hV2]
                    have hE2 : Eqw wr V2 := by rw [hV2]; exact Eqw.drewN wr nq
                    have HE2 := hid hE2
                    clear hV2 hE2
                    go_wp2
                    refine ⟨⟨q + 1, cnt, z2, c2', rfl, by push_cast; rfl, by omega, by omega, HR2.out.kept (HE2.out.below _), by show _ = _; rw [cW_same (HE2.out.blk gm)]; exact HC2.out, (HE2.out.blk y).trans HY2.out, by have := HI3.out false (by simp [hlo, hhi]); exact this⟩, by simp [intOf]; omega⟩
                · have d1 : decide (lo ≤ r) = false := by simp [hlo]
                  go_quiet (fail)
                  obtain ⟨V2, hV2⟩ : ∃ V2, V2 = wr.drewN nq := ⟨_, rfl⟩
                  rw [← hV2]
                  have hE2 : Eqw wr V2 := by rw [hV2]; exact Eqw.drewN wr nq
                  have HE2 := hid hE2
                  clear hV2 hE2
                  go_wp2
                  refine ⟨⟨q + 1, cnt, z2, c2', rfl, by push_cast; rfl, by omega, by omega, HR2.out.kept (HE2.out.below _), by show _ = _; rw [cW_same (HE2.out.blk gm)]; exact HC2.out, (HE2.out.blk y).trans HY2.out, by have := HI3.out false (by simp [hlo]); exact this⟩, by simp [intOf]; omega⟩
              · have g2 : decide ((q : Int) < (r2 : Int)) = false := by simp; omega
                have hqe : q = r2 := by omega
                have hin : (0 < cnt ↔ inB l[i].R r = true) := by
                  rw [HI2.out]
                  unfold inB
                  rw [List.any_eq_true]
                  constructor
                  · rintro ⟨p, h1, h2, h3⟩
                    have hp : p < l[i].R.length := by have := HPR.out; omega
                    refine ⟨l[i].R[p], List.getElem_mem hp, ?_⟩
                    have e : l[i].R.getD p (0, 0) = l[i].R[p] := by simp [List.getD_eq_getElem?_getD, List.getElem?_eq_getElem hp]
                    rw [e] at h2 h3
                    simp [h2, h3]
                  · rintro ⟨g, hg, h1⟩
                    obtain ⟨p, hp, rfl⟩ := List.getElem_of_mem hg
                    have e : l[i].R.getD p (0, 0) = l[i].R[p] := by simp [List.getD_eq_getElem?_getD, List.getElem?_eq_getElem hp]
                    simp only [Bool.and_eq_true, decide_eq_true_eq] at h1
                    exact ⟨p, by have := HPR.out; omega, by rw [e]; exact h1.1, by rw [e]; exact h1.2⟩
                have HSUC : Hid (isFit (act l tx) (i, j) = false ∧ ∀ u, u ∈ List.replicate cnt (X, j + 1) ↔ u ∈ succs (act l tx) (i, j)) := by
                  have hdj : decide (j < tx.length) = true := by have := HTL.out; simp; omega
                  have hhs : hsB l[i].R r = inB l[i].R r := by unfold hsB; rw [hright]; rfl
                  cases hb : inB l[i].R r
                  · have hA : act l tx j i = .stop := by rw [HACT.out]; unfold actI; rw [HO.out, HRE.out, hdj, hhs, hb]; rfl
                    have hc0 : cnt = 0 := by rw [hb] at hin; have := hin.1; simp at this; omega
                    subst hc0
                    exact ⟨by unfold isFit; simp only [hA], fun u => by unfold succs; simp only [hA]; simp⟩
                  · have hA : act l tx j i = .rune X := by rw [HACT.out]; unfold actI; rw [HO.out, HRE.out, hdj, hhs, hb, HXE2.out]; rfl
                    have hc0 : 0 < cnt := hin.2 hb
                    exact ⟨by unfold isFit; simp only [hA], fun u => by unfold succs; simp only [hA]; simp; intro _; omega⟩
                clear hin
                go_wp2
                refine ⟨⟨L' + cnt, z2, c2', List.replicate cnt (X, j + 1) ++ st, mark m i j, rfl, by show _ = _; simp [HL2.out]; omega, HR2.out, HRK.out.new HSUC.out.1 HSUC.out.2, by have := HCV.out; rw [HC2.out]; omega⟩, by have := HCV.out; rw [HC2.out]; simp [lenOf]; omega⟩
          · have g1 : decide ((j : Int) < (tn : Int)) = false := by simp; omega
            have HA6 : Hid (act l tx j i = .stop) := by show _ = _; rw [HACT.out]; unfold actI; rw [HO.out, show decide (j < tx.length) = false by have := HTL.out; simp; omega]; rfl
            go_wp2_with fail
            rw [md]
            go_loopw [9, 13] (fun v9 v wq => v9 = .slice (some ⟨zb, 0, none⟩) L' cz ∧ v = .int .i64 0 ∧ wq = V) (fun _ _ _ => 0)
            case atStart => exact ⟨rfl, rfl, rfl⟩
            case round =>
              obtain ⟨rfl, rfl, hwq⟩ := hrel
              have hwq' := hwq.symm
              clear hwq
              subst hwq'
              by_cases hr0 : 0 < r2
              · have g2 : decide ((0 : Int) < (r2 : Int)) = true := by simp; omega
                go_wp2
                refine ⟨⟨L', some ⟨zb, 0, none⟩, cz, st, mark m i j, rfl, HL2.out, HRV.out, HRK.out.new (P := []) (by unfold isFit; simp only [HA6.out]) (fun u => by unfold succs; simp only [HA6.out]), by have := HCV.out; omega⟩, by have := HCV.out; simp [lenOf]; omega⟩
              · have g2 : decide ((0 : Int) < (r2 : Int)) = false := by simp; omega
                go_wp2
                refine ⟨⟨L', some ⟨zb, 0, none⟩, cz, st, mark m i j, rfl, HL2.out, HRV.out, HRK.out.new (P := []) (by unfold isFit; simp only [HA6.out]) (fun u => by unfold succs; simp only [HA6.out]), by have := HCV.out; omega⟩, by have := HCV.out; simp [lenOf]; omega⟩
        · rw [ho] at v0
          have HO := hid ho
          clear ho
          obtain ⟨X, hX, hXl⟩ := HXN.out (by rw [HO.out]; rfl)
          obtain ⟨Y, hYe, hYl⟩ := HYN.out (by rw [HO.out]; rfl)
          rw [hX] at v1
          rw [hYe] at v2
          have HA6 : Hid (act l tx j i = .alt X Y) := by show _ = _; rw [HACT.out]; unfold actI; rw [HO.out, hX, hYe]; rfl
          obtain ⟨e1, e2, e3⟩ := HMID.out X j hXl hj'
          obtain ⟨g1, g2, g3⟩ := HMID.out Y j hYl hj'
          clear hX hYe
          generalize hxi : X * q1 + j = xi at e2 e3
          generalize hyi : Y * q1 + j = yi at g2 g3
          have HXI := hid hxi
          have HYI := hid hyi
          clear hxi hyi
          have HRO : Hid ((V.alloc (.cells #[.int .i64 (xi : Int), .int .i64 (yi : Int)] 3)).ownsRow B0 3 1 (.slice (some ⟨zb, 0, none⟩) L' cz) L' (I64 (stq q1 st))) := by have := HRV.out.row; rw [← HL2.out] at this; exact this.alloc _
          have HSR : Hid ((V.alloc (.cells #[.int .i64 (xi : Int), .int .i64 (yi : Int)] 3)).ownsRow 0 3 1 (.slice (some ⟨V.heap.size, 0, none⟩) 2 2) 2 [.int .i64 (xi : Int), .int .i64 (yi : Int)]) := World.ownsRow_lit (base := 0) (e := 3) (size := 1) V #[.int .i64 (xi : Int), .int .i64 (yi : Int)] 2 (Nat.zero_le _) (by unfold maxLen; omega) rfl
          go_wp2_with (at_builtin; refine wpList_append_row rfl (.tmp 67) (.tmp 80) 28 rfl B0 3 i3 (.int .i64 0) 1 8 Try.underlying28 hi3 hz30 hz31 hz32 rfl (by decide) (.slice (some ⟨zb, 0, none⟩) L' cz) L' (I64 (stq q1 st)) rfl HRO.out (.slice (some ⟨V.heap.size, 0, none⟩) 2 2) 2 0 [.int .i64 (xi : Int), .int .i64 (yi : Int)] rfl HSR.out (fun h => by omega) (by simp [Value.oneCell']) (by unfold maxLen; omega) (by omega) (by (try simp) <;> omega) ?_; intro v7 w7 ho7 hf7 _; obtain ⟨y1, y3, rfl, _⟩ := row_shape ho7.out)
          obtain ⟨hp1, hp2⟩ := HRV.out.push (ts := [(Y, j), (X, j)]) (w7 := w7) (y1 := y1) (y3 := y3) (Joins.below_alloc1 V _) (by rw [← HL2.out]; exact hf7.out) (by rw [← HL2.out]; have := ho7.out; rw [← HXI.out, ← HYI.out] at this; exact this) (fun t ht => by simp at ht; rcases ht with rfl | rfl; exact ⟨hYl, hj'⟩; exact ⟨hXl, hj'⟩)
          rw [← HME.out] at hp2
          refine ⟨⟨L' + 2, y1, y3, [(Y, j), (X, j)] ++ st, mark m i j, rfl, by show _ = _; simp [HL2.out], hp1, HRK.out.new (P := [(Y, j), (X, j)]) (by unfold isFit; simp only [HA6.out]) (fun u => by unfold succs; simp only [HA6.out]; simp; exact Or.comm), by have := HCV.out; rw [hp2]; omega⟩, by have := HCV.out; rw [hp2]; simp [lenOf]; omega⟩
        · rw [ho] at v0
          have HO := hid ho
          clear ho
          obtain ⟨X, hX, hXl⟩ := HXN.out (by rw [HO.out]; rfl)
          rw [hX] at v1
          have HA6 : Hid (act l tx j i = .cap X l[i].a.toNat) := by show _ = _; rw [HACT.out]; unfold actI; rw [HO.out, hX]; rfl
          obtain ⟨e1, e2, e3⟩ := HMID.out X j hXl hj'
          clear hX
          generalize hxi : X * q1 + j = xi at e2 e3
          have HXI := hid hxi
          clear hxi
          have HRO : Hid ((V.alloc (.cells #[.int .i64 (xi : Int)] 3)).ownsRow B0 3 1 (.slice (some ⟨zb, 0, none⟩) L' cz) L' (I64 (stq q1 st))) := by have := HRV.out.row; rw [← HL2.out] at this; exact this.alloc _
          have HSR : Hid ((V.alloc (.cells #[.int .i64 (xi : Int)] 3)).ownsRow 0 3 1 (.slice (some ⟨V.heap.size, 0, none⟩) 1 1) 1 [.int .i64 (xi : Int)]) := World.ownsRow_lit (base := 0) (e := 3) (size := 1) V #[.int .i64 (xi : Int)] 1 (Nat.zero_le _) (by unfold maxLen; omega) rfl
          go_wp2_with (at_builtin; refine wpList_append_row rfl (.tmp 85) (.tmp 92) 28 rfl B0 3 i3 (.int .i64 0) 1 8 Try.underlying28 hi3 hz30 hz31 hz32 rfl (by decide) (.slice (some ⟨zb, 0, none⟩) L' cz) L' (I64 (stq q1 st)) rfl HRO.out (.slice (some ⟨V.heap.size, 0, none⟩) 1 1) 1 0 [.int .i64 (xi : Int)] rfl HSR.out (fun h => by omega) (by simp [Value.oneCell']) (by unfold maxLen; omega) (by omega) (by (try simp) <;> omega) ?_; intro v7 w7 ho7 hf7 _; obtain ⟨y1, y3, rfl, _⟩ := row_shape ho7.out)
          obtain ⟨hp1, hp2⟩ := HRV.out.push (ts := [(X, j)]) (w7 := w7) (y1 := y1) (y3 := y3) (Joins.below_alloc1 V _) (by rw [← HL2.out]; exact hf7.out) (by rw [← HL2.out]; have := ho7.out; rw [← HXI.out] at this; exact this) (fun t ht => by simp at ht; subst ht; exact ⟨hXl, hj'⟩)
          rw [← HME.out] at hp2
          refine ⟨⟨L' + 1, y1, y3, [(X, j)] ++ st, mark m i j, rfl, by show _ = _; simp [HL2.out], hp1, HRK.out.new (P := [(X, j)]) (by unfold isFit; simp only [HA6.out]) (fun u => by unfold succs; simp only [HA6.out]), by have := HCV.out; rw [hp2]; omega⟩, by have := HCV.out; rw [hp2]; simp [lenOf]; omega⟩
        · rw [ho] at v0
          have HO := hid ho
          clear ho
          have has : assertB l[i].a = true := by
            have := HOK.out
            simp only [In.okB, Bool.and_eq_true, isArgB, HO.out] at this
            simpa using this.1.2
          have hab := assert_and l[i].a has tx j
          have HAT : Hid (∀ W, Eqw V W → Calls Try.prog 26 #[.slice tad tn tc, .int .i64 (j : Int)] W fun e w' => e = .returned (.int .i64 (atP tx j)) ∧ w' = W) := fun W e => by
            refine ref_in tx tad tn tc j W W.heap.size ?_ (by have := HQ1.out; omega)
            have hbW : Below w.heap.size w W := by have h1 := HRV.out.bl; rw [HB0.out] at h1; exact h1.trans (e.below _)
            exact (HT.out.below hbW).mono hbW.size
          generalize hat : atP tx j = at0 at HAT hab
          generalize haa : l[i].a = aa at v3 hab
          have HATE := hid hat
          have HAAE := hid haa
          clear hat haa has
          cases hh : holdsB aa at0
          · rw [hh] at hab
            have hab' : decide ((0 : Int) < bits .and .i64 at0 aa) = false := hab
            have HA6 : Hid (act l tx j i = .stop) := by show _ = _; rw [HACT.out]; unfold actI; rw [HO.out, HATE.out, HAAE.out, hh]; rfl
            clear hh
            go_upto_region 20 with fail
            go_quiet (first | (go_at_call 26; with_reducible refine Calls.quiet_of_same (HAT.out _ (by exact ⟨rfl, rfl, rfl, rfl⟩))))
            obtain ⟨V2, hV2⟩ : ∃ V2, V2 = V.drewN nq := ⟨_, rfl⟩
            rw [← hV2]
            have hE2 : Eqw V V2 := by rw [hV2]; exact Eqw.drewN V nq
            have HRV2 := hid (HRV.out.kept (hE2.below _))
            have HCV2 : Hid (cW V2 gm M < cW wr gm M) := by show _ < _; rw [cW_same (hE2.blk gm)]; exact HCV.out
            have v1' := (cell_eq (hE2.blk y) 1).trans v1
            have hvs2 : B0 ≤ V2.heap.size := HRV2.out.lo.2
            clear hV2 hE2 v0 v1 v2 v3 v4 HAT hab hab'
            go_wp2
            refine ⟨⟨L', some ⟨zb, 0, none⟩, cz, st, mark m i j, rfl, HL2.out, HRV2.out, HRK.out.new (P := []) (by unfold isFit; simp only [HA6.out]) (fun u => by unfold succs; simp only [HA6.out]), by have := HCV2.out; omega⟩, by have := HCV2.out; simp [lenOf]; omega⟩
          · rw [hh] at hab
            have hab' : decide ((0 : Int) < bits .and .i64 at0 aa) = true := hab
            obtain ⟨X, hX, hXl⟩ := HXN.out (by rw [HO.out]; rfl)
            rw [hX] at v1
            have HA6 : Hid (act l tx j i = .go X) := by show _ = _; rw [HACT.out]; unfold actI; rw [HO.out, HATE.out, HAAE.out, hh, hX]; rfl
            clear hh
            obtain ⟨e1, e2, e3⟩ := HMID.out X j hXl hj'
            clear hX
            generalize hxi : X * q1 + j = xi at e2 e3
            have HXI := hid hxi
            clear hxi
            go_upto_region 20 with fail
            go_quiet (first | (go_at_call 26; with_reducible refine Calls.quiet_of_same (HAT.out _ (by exact ⟨rfl, rfl, rfl, rfl⟩))))
            obtain ⟨V2, hV2⟩ : ∃ V2, V2 = V.drewN nq := ⟨_, rfl⟩
            rw [← hV2]
            have hE2 : Eqw V V2 := by rw [hV2]; exact Eqw.drewN V nq
            have HRV2 := hid (HRV.out.kept (hE2.below _))
            have HCV2 : Hid (cW V2 gm M < cW wr gm M) := by show _ < _; rw [cW_same (hE2.blk gm)]; exact HCV.out
            have v1' := (cell_eq (hE2.blk y) 1).trans v1
            have hvs2 : B0 ≤ V2.heap.size := HRV2.out.lo.2
            clear hV2 hE2 v0 v1 v2 v3 v4 HAT hab hab'
            have HRO : Hid ((V2.alloc (.cells #[.int .i64 (xi : Int)] 3)).ownsRow B0 3 1 (.slice (some ⟨zb, 0, none⟩) L' cz) L' (I64 (stq q1 st))) := by have := HRV2.out.row; rw [← HL2.out] at this; exact this.alloc _
            have HSR : Hid ((V2.alloc (.cells #[.int .i64 (xi : Int)] 3)).ownsRow 0 3 1 (.slice (some ⟨V2.heap.size, 0, none⟩) 1 1) 1 [.int .i64 (xi : Int)]) := World.ownsRow_lit (base := 0) (e := 3) (size := 1) V2 #[.int .i64 (xi : Int)] 1 (Nat.zero_le _) (by unfold maxLen; omega) rfl
            go_wp2_with (at_builtin; refine wpList_append_row rfl (.tmp 103) (.tmp 110) 28 rfl B0 3 i3 (.int .i64 0) 1 8 Try.underlying28 hi3 hz30 hz31 hz32 rfl (by decide) (.slice (some ⟨zb, 0, none⟩) L' cz) L' (I64 (stq q1 st)) rfl HRO.out (.slice (some ⟨V2.heap.size, 0, none⟩) 1 1) 1 0 [.int .i64 (xi : Int)] rfl HSR.out (fun h => by omega) (by simp [Value.oneCell']) (by unfold maxLen; omega) (by omega) (by (try simp) <;> omega) ?_; intro v7 w7 ho7 hf7 _; obtain ⟨y1, y3, rfl, _⟩ := row_shape ho7.out)
            obtain ⟨hp1, hp2⟩ := HRV2.out.push (ts := [(X, j)]) (w7 := w7) (y1 := y1) (y3 := y3) (Joins.below_alloc1 V2 _) (by rw [← HL2.out]; exact hf7.out) (by rw [← HL2.out]; have := ho7.out; rw [← HXI.out] at this; exact this) (fun t ht => by simp at ht; subst ht; exact ⟨hXl, hj'⟩)
            rw [← HME.out] at hp2
            refine ⟨⟨L' + 1, y1, y3, [(X, j)] ++ st, mark m i j, rfl, by show _ = _; simp [HL2.out], hp1, HRK.out.new (P := [(X, j)]) (by unfold isFit; simp only [HA6.out]) (fun u => by unfold succs; simp only [HA6.out]), by have := HCV2.out; rw [hp2]; omega⟩, by have := HCV2.out; rw [hp2]; simp [lenOf]; omega⟩
        · rw [ho] at v0
          have HFIT : Hid (isFit (act l tx) (i, j) = true) := by show isFit (act l tx) (i, j) = true; unfold isFit; simp only [HACT.out, actI, ho]; rfl
          clear ho
          go_wp2
          all_goals go_ret
          all_goals exact ⟨true, rfl, ⟨fun _ => HRK.out.yes HFIT.out, fun _ => rfl⟩, by rw [← HB0.out]; exact HRV.out.bl⟩
        · rw [ho] at v0
          have HA6 : Hid (act l tx j i = .stop) := by show _ = _; rw [HACT.out]; unfold actI; rw [ho]; rfl
          clear ho
          go_wp2
          refine ⟨⟨L', some ⟨zb, 0, none⟩, cz, st, mark m i j, rfl, HL2.out, HRV.out, HRK.out.new (P := []) (by unfold isFit; simp only [HA6.out]) (fun u => by unfold succs; simp only [HA6.out]), by have := HCV.out; omega⟩, by have := HCV.out; simp [lenOf]; omega⟩
        · rw [ho] at v0
          have HO := hid ho
          clear ho
          obtain ⟨X, hX, hXl⟩ := HXN.out (by rw [HO.out]; rfl)
          rw [hX] at v1
          have HA6 : Hid (act l tx j i = .go X) := by show _ = _; rw [HACT.out]; unfold actI; rw [HO.out, hX]; rfl
          obtain ⟨e1, e2, e3⟩ := HMID.out X j hXl hj'
          clear hX
          generalize hxi : X * q1 + j = xi at e2 e3
          have HXI := hid hxi
          clear hxi
          have HRO : Hid ((V.alloc (.cells #[.int .i64 (xi : Int)] 3)).ownsRow B0 3 1 (.slice (some ⟨zb, 0, none⟩) L' cz) L' (I64 (stq q1 st))) := by have := HRV.out.row; rw [← HL2.out] at this; exact this.alloc _
          have HSR : Hid ((V.alloc (.cells #[.int .i64 (xi : Int)] 3)).ownsRow 0 3 1 (.slice (some ⟨V.heap.size, 0, none⟩) 1 1) 1 [.int .i64 (xi : Int)]) := World.ownsRow_lit (base := 0) (e := 3) (size := 1) V #[.int .i64 (xi : Int)] 1 (Nat.zero_le _) (by unfold maxLen; omega) rfl
          go_wp2_with (at_builtin; refine wpList_append_row rfl (.tmp 85) (.tmp 92) 28 rfl B0 3 i3 (.int .i64 0) 1 8 Try.underlying28 hi3 hz30 hz31 hz32 rfl (by decide) (.slice (some ⟨zb, 0, none⟩) L' cz) L' (I64 (stq q1 st)) rfl HRO.out (.slice (some ⟨V.heap.size, 0, none⟩) 1 1) 1 0 [.int .i64 (xi : Int)] rfl HSR.out (fun h => by omega) (by simp [Value.oneCell']) (by unfold maxLen; omega) (by omega) (by (try simp) <;> omega) ?_; intro v7 w7 ho7 hf7 _; obtain ⟨y1, y3, rfl, _⟩ := row_shape ho7.out)
          obtain ⟨hp1, hp2⟩ := HRV.out.push (ts := [(X, j)]) (w7 := w7) (y1 := y1) (y3 := y3) (Joins.below_alloc1 V _) (by rw [← HL2.out]; exact hf7.out) (by rw [← HL2.out]; have := ho7.out; rw [← HXI.out] at this; exact this) (fun t ht => by simp at ht; subst ht; exact ⟨hXl, hj'⟩)
          rw [← HME.out] at hp2
          refine ⟨⟨L' + 1, y1, y3, [(X, j)] ++ st, mark m i j, rfl, by show _ = _; simp [HL2.out], hp1, HRK.out.new (P := [(X, j)]) (by unfold isFit; simp only [HA6.out]) (fun u => by unfold succs; simp only [HA6.out]), by have := HCV.out; rw [hp2]; omega⟩, by have := HCV.out; rw [hp2]; simp [lenOf]; omega⟩
      · rw [hmet] at mt
        have HMT := hid hmet
        clear hmet
        go_wp2
        refine ⟨⟨L', some ⟨zb, 0, none⟩, cz, st, m, rfl, HL2.out, HPOP.out, HRK.out.old HMT.out, by omega⟩, by simp [lenOf]⟩
end Go.Proofs.Ytaoagcnbdfklnaa
/- HELPERS: the document's visit in memory. -/
namespace Go.Proofs.Ytaoagcnbdfklnaa
open Go.RowKit Go.Lk
set_option linter.unusedVariables false
set_option linter.unusedSimpArgs false
def Rv.core (M : Rv) : Rv := { M with z := none, n2 := 0, c2 := 0, fok := false, f1 := none, f2 := 0, f3 := 0, fw := 0, fs := 0, ov := false }
theorem rcore_j {M M' : Rv} (h : M'.core = M.core) : M'.j = M.j := by have := congrArg Rv.j h; exact this
theorem rcore_K {M M' : Rv} (h : M'.core = M.core) : M'.K = M.K := by have := congrArg Rv.K h; exact this
def WP (N b B0 : Nat) (l : List In) (tx : List Int) (w : World) (M : Rv) (s' : Vst) (e : Ending) (w' : World) : Prop :=
  e = .returned (.tuple #[]) ∧ ∃ M' E', WJ w' N b B0 l tx M' s' E' ∧ M'.core = M.core ∧ Chg w w' (UF b M) (UF b M')
structure WC (K N b B0 : Nat) (l : List In) (tx : List Int) (w : World) (M : Rv) (s : Vst) (E : List Ef) (i : Nat) (c : List Int) (cb cp : Nat) : Prop where
  wj : WJ w N b B0 l tx M s E
  hK : M.K = K
  inv : Inv l.length K s
  lt : i < l.length
  cap : w.ownsRow N 3 1 (.slice (some ⟨cb, 0, none⟩) K cp) K (I64 c)
  sm : B0 ≤ 100000000000
def WIH (K N b B0 : Nat) (l : List In) (tx : List Int) (f : Nat) : Prop :=
  ∀ (i : Nat) (c : List Int) (s : Vst) (w : World) (M : Rv) (E : List Ef) (cb cp : Nat), WC K N b B0 l tx w M s E i c cb cp → l.length < f + s.met.length →
    Calls Try.prog 25 #[.pointer (some ⟨b, 0, none⟩), .int .i64 (i : Int), .slice (some ⟨cb, 0, none⟩) K cp] w (WP N b B0 l tx w M (vis (act l tx M.j) M.j f i c s))
theorem WJ.noY {w : World} {N b B0 : Nat} {l : List In} {tx : List Int} {M : Rv} {s : Vst} {E : List Ef} (h : WJ w N b B0 l tx M s E) {k : Nat} (hk : k ∈ UF b M) {cs : Array Value} {fr : Nat × Nat} : ¬ w.heap[k]? = some (.cells cs 49 fr) := by
  intro he
  obtain ⟨_, arr, ha, _⟩ := h.met
  simp only [UF, List.mem_cons] at hk
  rcases hk with rfl | rfl | hk
  · have := h.rb; unfold RB at this; rw [he] at this; simp at this
  · rw [he] at ha; simp at ha
  · exact own_ne h.row.row he (by decide) (by simpa [zF] using hk)
section
variable {K N b B0 : Nat} {l : List In} {tx : List Int} {w w' : World} {M M' : Rv} {s s' : Vst} {E E' : List Ef} {i : Nat} {c : List Int} {cb cp : Nat}
theorem WC.next (h : WC K N b B0 l tx w M s E i c cb cp) (hv : WJ w' N b B0 l tx M' s' E') (hM : M'.core = M.core) (hc : Chg w w' (UF b M) (UF b M')) (hi : Inv l.length K s') {i' : Nat} (hl : i' < l.length) : WC K N b B0 l tx w' M' s' E' i' c cb cp :=
  ⟨hv, (rcore_K hM).trans h.hK, hi, hl, three_kept hc h.cap h.wj.no3, h.sm⟩
theorem WP.after (h1 : Chg w w' (UF b M) (UF b M')) (hM : M'.core = M.core) {s2 : Vst} {e : Ending} {w2 : World} (h : WP N b B0 l tx w' M' s2 e w2) : WP N b B0 l tx w M s2 e w2 := by
  obtain ⟨he, M2, E2, h2, h3, h4⟩ := h
  exact ⟨he, M2, E2, h2, h3.trans hM, h1.trans h4⟩
end
set_option maxRecDepth 100000 in
set_option maxHeartbeats 4000000 in
theorem rvisit_over {K N b B0 : Nat} {l : List In} {tx : List Int} {w : World} {M : Rv} {s : Vst} {E : List Ef} {i : Nat} {c : List Int} {cb cp : Nat} (f : Nat) (h : WC K N b B0 l tx w M s E i c cb cp) (ho : s.over = true) :
    Calls Try.prog 25 #[.pointer (some ⟨b, 0, none⟩), .int .i64 (i : Int), .slice (some ⟨cb, 0, none⟩) K cp] w (WP N b B0 l tx w M (vis (act l tx M.j) M.j (f + 1) i c s)) := by
  rw [vis_over ho]
  have c11 := h.wj.rb.c 11
  simp at c11
  rw [h.wj.ov, ho] at c11
  have HH := hid h
  clear h
  go_enter Try.func25, Try.ntmps25
  go_wp2
  go_end0
  exact ⟨rfl, M, E, HH.out.wj, rfl, Chg.refl _ _⟩
set_option maxRecDepth 100000 in
set_option maxHeartbeats 4000000 in
theorem rvisit_old {K N b B0 : Nat} {l : List In} {tx : List Int} {w : World} {M : Rv} {s : Vst} {E : List Ef} {i : Nat} {c : List Int} {cb cp : Nat} (f : Nat) (h : WC K N b B0 l tx w M s E i c cb cp) (ho : s.over = false) (hm : i ∈ s.met) :
    Calls Try.prog 25 #[.pointer (some ⟨b, 0, none⟩), .int .i64 (i : Int), .slice (some ⟨cb, 0, none⟩) K cp] w (WP N b B0 l tx w M (vis (act l tx M.j) M.j (f + 1) i c s)) := by
  have e1 : vis (act l tx M.j) M.j (f + 1) i c s = s := by unfold vis; rw [if_pos (by simp [hm])]
  rw [e1]
  have c11 := h.wj.rb.c 11
  have c5 := h.wj.rb.c 5
  simp at c11 c5
  rw [h.wj.ov, ho] at c11
  obtain ⟨_, arr, ha, hsz, hr⟩ := h.wj.met
  have hcell : w.cell? ⟨M.mb, i, none⟩ = some (.bool true) := by rw [Joins.cell_of_block ha, hr i h.lt]; simp [hm]
  have hln := h.wj.pi.len
  have b2 : (i : Int) < (M.n : Int) := by have := h.lt; omega
  have HH := hid h
  clear h ha hsz hr e1 hln
  generalize M.mb = mb at *
  generalize M.n = n at *
  go_enter Try.func25, Try.ntmps25
  go_wp2
  go_end0
  exact ⟨rfl, M, E, HH.out.wj, rfl, Chg.refl _ _⟩
set_option maxRecDepth 100000 in
set_option maxHeartbeats 8000000 in
theorem rvisit_fail {K N b B0 : Nat} {l : List In} {tx : List Int} {w : World} {M : Rv} {s : Vst} {E : List Ef} {i : Nat} {c : List Int} {cb cp : Nat} {S : Int} (hmay : mayB l S (K : Int) = true) (f : Nat) (ih : Hid (WIH K N b B0 l tx f)) (h : WC K N b B0 l tx w M s E i c cb cp) (hf : l.length < f + 1 + s.met.length) (ho : s.over = false) (hm : i ∉ s.met) (hlt : i < l.length) (hop : l[i].op = 6) :
    Calls Try.prog 25 #[.pointer (some ⟨b, 0, none⟩), .int .i64 (i : Int), .slice (some ⟨cb, 0, none⟩) K cp] w (WP N b B0 l tx w M (vis (act l tx M.j) M.j (f + 1) i c s)) := by
  have hmo := may_ok hmay
  have hm20 := hmo.1
  have hok := hmo.2.2.2.2.2 _ (List.getElem_mem hlt)
  have hKs : 2 ≤ K ∧ K ≤ 1002 := by omega
  clear hmo
  have e1 : vis (act l tx M.j) M.j (f + 1) i c s = s.mark i := by
    rw [vis_step ho hm]
    have : act l tx M.j i = .stop := by unfold act actI; rw [getD_in' hlt, hop]; simp
    rw [this]
  rw [e1]
  have hln := h.wj.pi.len
  have c11 := h.wj.rb.c 11
  have c5 := h.wj.rb.c 5
  simp at c11 c5
  rw [h.wj.ov, ho] at c11
  obtain ⟨hmbN, arr, ha, hsz, hr⟩ := h.wj.met
  have hcell : w.cell? ⟨M.mb, i, none⟩ = some (.bool false) := by rw [Joins.cell_of_block ha, hr i hlt]; simp [hm]
  have hfz : w.frozen? ⟨M.mb, i, none⟩ = false := Joins.unfrozen_of_block ha i
  obtain ⟨hJ1, hC1⟩ := h.wj.mark hlt hm
  have hsmall := h.inv.small
  have hfsv := h.wj.fs
  have hfsl : M.fs ≤ 100000020000 := by have := h.sm; omega
  obtain ⟨W1, hW1⟩ : ∃ W1, W1 = w.setCell ⟨M.mb, i, none⟩ (.bool true) := ⟨_, rfl⟩
  have hrb1 : RB W1 b M := by rw [hW1]; exact h.wj.rb.kept (Below.heap_setCell _ _ _ _ (fun e => h.wj.bm e.symm))
  have k10 := hrb1.c 10
  have u10 := hrb1.u 10
  simp at k10
  have hrb0 := hJ1.rb
  obtain ⟨W2, hW2⟩ : ∃ W2, W2 = W1.setCell ⟨b, 10, none⟩ (.int .i64 ((M.fs + 1 : Nat) : Int)) := ⟨_, rfl⟩
  rw [← hW1, ← hW2] at hJ1 hC1 hrb0
  have k0 := hrb0.c 0
  simp at k0
  obtain ⟨pb, po, r1, r2, r3, hpa, hpr, hcs⟩ := inst_pi hJ1.pi hlt
  obtain ⟨⟨m0, m1, m2, m3, m4⟩, _⟩ := hcs W2 (Below.refl _ _)
  have hpa' : M.ad = some ⟨pb, po, none⟩ := hpa
  rw [hpa'] at k0
  have a10 : IntKind.i64.wrap ((M.fs : Int) + 1) = ((M.fs + 1 : Nat) : Int) := by rw [wrap_ok _ (by omega) (by omega)]; omega
  have b2 : (i : Int) < (M.n : Int) := by omega
  have hlen : ((s.mark i).met).length = s.met.length + 1 := by simp [Vst.mark]
  have HLEN := hid hlen
  have HIV := hid (h.inv.mark hlt hm)
  have HJ1 := hid hJ1
  have HC1 := hid hC1
  have HH := hid h
  have HCS := hid hcs
  have HPR := hid hpr
  have HOP := hid hop
  have HOK := hid hok
  have HW1 := hid hW1
  have HW2 : Hid (W2 = W1.setCell ⟨b, 10, none⟩ (.int .i64 ((M.fs : Int) + 1))) := by show W2 = _; rw [hW2, show ((M.fs + 1 : Nat) : Int) = (M.fs : Int) + 1 by omega]
  have hJV := fun (o : Obj) => hJ1.kept (w' := W2.alloc o) (Joins.below_alloc1 W2 o)
  have HJV := hid hJV
  clear h hJ1 hC1 hcs hpr hop hok hW1 hW2 ha hsz hr hrb1 hrb0 hpa hln hlen e1 hsmall hfsv hfsl hJV
  obtain ⟨Mn, hMn⟩ : ∃ Mn, Mn = M.n := ⟨_, rfl⟩
  obtain ⟨Mm, hMm⟩ : ∃ Mm, Mm = M.mb := ⟨_, rfl⟩
  have HMM := hid hMm
  rw [← hMn] at c5 k0 b2
  rw [← hMm] at c5 hcell hfz HW1
  clear hMn hMm hpa'
  go_enter Try.func25, Try.ntmps25
  go_upto_region 2 with fail
  rw [← HW1.out]
  clear HW1 hcell hfz c11 c5
  go_upto_region 3 with fail
  rw [← HW2.out]
  clear HW2 k10 u10 a10
  go_upto_region 4 with fail
  obtain ⟨V, hV⟩ : ∃ V, V = W2.alloc (.cells #[.int .i64 l[i].op, .int .i64 l[i].x, .int .i64 l[i].y, .int .i64 l[i].a, .slice r1 r2 r3] 49) := ⟨_, rfl⟩
  rw [← hV]
  have hbV : Below W2.heap.size W2 V := by rw [hV]; exact Joins.below_alloc1 W2 _
  have hY : V.heap[W2.heap.size]? = some (.cells #[.int .i64 l[i].op, .int .i64 l[i].x, .int .i64 l[i].y, .int .i64 l[i].a, .slice r1 r2 r3] 49 (0, 0)) := by rw [hV]; exact heap_alloc_new W2 _
  have HJ : Hid (WJ V N b B0 l tx { M with fs := M.fs + 1 } (s.mark i) E) := HJ1.out.kept hbV
  have HC : Hid (Chg w V (UF b M) (UF b { M with fs := M.fs + 1 })) := HC1.out.trans (Chg.of_below hbV)
  have HWC : Hid (∀ i', i' < l.length → WC K N b B0 l tx V { M with fs := M.fs + 1 } (s.mark i) E i' c cb cp) := fun i' hi' => HH.out.next HJ.out rfl HC.out HIV.out hi'
  have HBV : Hid (Below N W2 V) := hbV.mono HJ1.out.nw
  obtain ⟨y, hy⟩ : ∃ y, y = W2.heap.size := ⟨_, rfl⟩
  rw [← hy] at hY ⊢
  obtain ⟨v0, v1, v2, v3, v4⟩ := five hY
  rw [HOP.out] at v0
  have HY := hid hY
  have hyV : y < V.heap.size := (Array.getElem?_eq_some_iff.1 hY).1
  clear hV hbV hY hy m0 m1 m2 m3 m4 k0 HJV
  go_wp2
  go_end0
  exact ⟨rfl, _, E, HJ.out, rfl, HC.out⟩
set_option maxRecDepth 100000 in
set_option maxHeartbeats 8000000 in
theorem rvisit_nop {K N b B0 : Nat} {l : List In} {tx : List Int} {w : World} {M : Rv} {s : Vst} {E : List Ef} {i : Nat} {c : List Int} {cb cp : Nat} {S : Int} (hmay : mayB l S (K : Int) = true) (f : Nat) (ih : Hid (WIH K N b B0 l tx f)) (h : WC K N b B0 l tx w M s E i c cb cp) (hf : l.length < f + 1 + s.met.length) (ho : s.over = false) (hm : i ∉ s.met) (hlt : i < l.length) (hop : l[i].op = 7) :
    Calls Try.prog 25 #[.pointer (some ⟨b, 0, none⟩), .int .i64 (i : Int), .slice (some ⟨cb, 0, none⟩) K cp] w (WP N b B0 l tx w M (vis (act l tx M.j) M.j (f + 1) i c s)) := by
  have hmo := may_ok hmay
  have hm20 := hmo.1
  have hok := hmo.2.2.2.2.2 _ (List.getElem_mem hlt)
  have hKs : 2 ≤ K ∧ K ≤ 1002 := by omega
  clear hmo
  have hx := ok_x hok (by rw [hop]; rfl)
  obtain ⟨x, hxe⟩ := Int.eq_ofNat_of_zero_le hx.1
  have hxl : x < l.length := by omega
  have HXE := hid hxe
  have e1 : vis (act l tx M.j) M.j (f + 1) i c s = vis (act l tx M.j) M.j f x c (s.mark i) := by
    rw [vis_step ho hm]
    have : act l tx M.j i = .go x := by unfold act actI; rw [getD_in' hlt, hop, hxe]; simp
    rw [this]
  rw [e1]
  have hln := h.wj.pi.len
  have c11 := h.wj.rb.c 11
  have c5 := h.wj.rb.c 5
  simp at c11 c5
  rw [h.wj.ov, ho] at c11
  obtain ⟨hmbN, arr, ha, hsz, hr⟩ := h.wj.met
  have hcell : w.cell? ⟨M.mb, i, none⟩ = some (.bool false) := by rw [Joins.cell_of_block ha, hr i hlt]; simp [hm]
  have hfz : w.frozen? ⟨M.mb, i, none⟩ = false := Joins.unfrozen_of_block ha i
  obtain ⟨hJ1, hC1⟩ := h.wj.mark hlt hm
  have hsmall := h.inv.small
  have hfsv := h.wj.fs
  have hfsl : M.fs ≤ 100000020000 := by have := h.sm; omega
  obtain ⟨W1, hW1⟩ : ∃ W1, W1 = w.setCell ⟨M.mb, i, none⟩ (.bool true) := ⟨_, rfl⟩
  have hrb1 : RB W1 b M := by rw [hW1]; exact h.wj.rb.kept (Below.heap_setCell _ _ _ _ (fun e => h.wj.bm e.symm))
  have k10 := hrb1.c 10
  have u10 := hrb1.u 10
  simp at k10
  have hrb0 := hJ1.rb
  obtain ⟨W2, hW2⟩ : ∃ W2, W2 = W1.setCell ⟨b, 10, none⟩ (.int .i64 ((M.fs + 1 : Nat) : Int)) := ⟨_, rfl⟩
  rw [← hW1, ← hW2] at hJ1 hC1 hrb0
  have k0 := hrb0.c 0
  simp at k0
  obtain ⟨pb, po, r1, r2, r3, hpa, hpr, hcs⟩ := inst_pi hJ1.pi hlt
  obtain ⟨⟨m0, m1, m2, m3, m4⟩, _⟩ := hcs W2 (Below.refl _ _)
  have hpa' : M.ad = some ⟨pb, po, none⟩ := hpa
  rw [hpa'] at k0
  have a10 : IntKind.i64.wrap ((M.fs : Int) + 1) = ((M.fs + 1 : Nat) : Int) := by rw [wrap_ok _ (by omega) (by omega)]; omega
  have b2 : (i : Int) < (M.n : Int) := by omega
  have hlen : ((s.mark i).met).length = s.met.length + 1 := by simp [Vst.mark]
  have HLEN := hid hlen
  have HIV := hid (h.inv.mark hlt hm)
  have HJ1 := hid hJ1
  have HC1 := hid hC1
  have HH := hid h
  have HCS := hid hcs
  have HPR := hid hpr
  have HOP := hid hop
  have HOK := hid hok
  have HW1 := hid hW1
  have HW2 : Hid (W2 = W1.setCell ⟨b, 10, none⟩ (.int .i64 ((M.fs : Int) + 1))) := by show W2 = _; rw [hW2, show ((M.fs + 1 : Nat) : Int) = (M.fs : Int) + 1 by omega]
  have hJV := fun (o : Obj) => hJ1.kept (w' := W2.alloc o) (Joins.below_alloc1 W2 o)
  have HJV := hid hJV
  clear h hJ1 hC1 hcs hpr hop hok hW1 hW2 ha hsz hr hrb1 hrb0 hpa hln hlen e1 hsmall hfsv hfsl hJV
  obtain ⟨Mn, hMn⟩ : ∃ Mn, Mn = M.n := ⟨_, rfl⟩
  obtain ⟨Mm, hMm⟩ : ∃ Mm, Mm = M.mb := ⟨_, rfl⟩
  have HMM := hid hMm
  rw [← hMn] at c5 k0 b2
  rw [← hMm] at c5 hcell hfz HW1
  clear hMn hMm hpa'
  clear hxe
  generalize hs2 : vis (act l tx M.j) M.j f x c (s.mark i) = s2
  have HS2 := hid hs2
  clear hs2
  go_enter Try.func25, Try.ntmps25
  go_upto_region 2 with fail
  rw [← HW1.out]
  clear HW1 hcell hfz c11 c5
  go_upto_region 3 with fail
  rw [← HW2.out]
  clear HW2 k10 u10 a10
  go_upto_region 4 with fail
  obtain ⟨V, hV⟩ : ∃ V, V = W2.alloc (.cells #[.int .i64 l[i].op, .int .i64 l[i].x, .int .i64 l[i].y, .int .i64 l[i].a, .slice r1 r2 r3] 49) := ⟨_, rfl⟩
  rw [← hV]
  have hbV : Below W2.heap.size W2 V := by rw [hV]; exact Joins.below_alloc1 W2 _
  have hY : V.heap[W2.heap.size]? = some (.cells #[.int .i64 l[i].op, .int .i64 l[i].x, .int .i64 l[i].y, .int .i64 l[i].a, .slice r1 r2 r3] 49 (0, 0)) := by rw [hV]; exact heap_alloc_new W2 _
  have HJ : Hid (WJ V N b B0 l tx { M with fs := M.fs + 1 } (s.mark i) E) := HJ1.out.kept hbV
  have HC : Hid (Chg w V (UF b M) (UF b { M with fs := M.fs + 1 })) := HC1.out.trans (Chg.of_below hbV)
  have HWC : Hid (∀ i', i' < l.length → WC K N b B0 l tx V { M with fs := M.fs + 1 } (s.mark i) E i' c cb cp) := fun i' hi' => HH.out.next HJ.out rfl HC.out HIV.out hi'
  have HBV : Hid (Below N W2 V) := hbV.mono HJ1.out.nw
  obtain ⟨y, hy⟩ : ∃ y, y = W2.heap.size := ⟨_, rfl⟩
  rw [← hy] at hY ⊢
  obtain ⟨v0, v1, v2, v3, v4⟩ := five hY
  rw [HOP.out] at v0
  have HY := hid hY
  have hyV : y < V.heap.size := (Array.getElem?_eq_some_iff.1 hY).1
  clear hV hbV hY hy m0 m1 m2 m3 m4 k0 HJV
  rw [HXE.out] at v1
  have HI := ih.out x c (s.mark i) V _ E cb cp (HWC.out x hxl) (by have := HLEN.out; omega)
  rw [show (({ M with fs := M.fs + 1 } : Rv)).j = M.j from rfl, HS2.out] at HI
  go_wp2_with (go_at_call 25; (with_reducible refine HI.mono ?_); rintro e w3 hvp; have HP := hid hvp; obtain ⟨rfl, _⟩ := hvp; clear HI)
  go_end0
  exact HP.out.after HC.out rfl
set_option maxRecDepth 100000 in
set_option maxHeartbeats 8000000 in
theorem rvisit_alt {K N b B0 : Nat} {l : List In} {tx : List Int} {w : World} {M : Rv} {s : Vst} {E : List Ef} {i : Nat} {c : List Int} {cb cp : Nat} {S : Int} (hmay : mayB l S (K : Int) = true) (f : Nat) (ih : Hid (WIH K N b B0 l tx f)) (h : WC K N b B0 l tx w M s E i c cb cp) (hf : l.length < f + 1 + s.met.length) (ho : s.over = false) (hm : i ∉ s.met) (hlt : i < l.length) (hop : l[i].op = 2) :
    Calls Try.prog 25 #[.pointer (some ⟨b, 0, none⟩), .int .i64 (i : Int), .slice (some ⟨cb, 0, none⟩) K cp] w (WP N b B0 l tx w M (vis (act l tx M.j) M.j (f + 1) i c s)) := by
  have hmo := may_ok hmay
  have hm20 := hmo.1
  have hok := hmo.2.2.2.2.2 _ (List.getElem_mem hlt)
  have hKs : 2 ≤ K ∧ K ≤ 1002 := by omega
  clear hmo
  have hx := ok_x hok (by rw [hop]; rfl)
  obtain ⟨x, hxe⟩ := Int.eq_ofNat_of_zero_le hx.1
  have hxl : x < l.length := by omega
  have HXE := hid hxe
  have hy := ok_y hok (by rw [hop]; rfl)
  obtain ⟨y0, hye⟩ := Int.eq_ofNat_of_zero_le hy.1
  have hyl : y0 < l.length := by omega
  have HYE := hid hye
  have e1 : vis (act l tx M.j) M.j (f + 1) i c s = vis (act l tx M.j) M.j f y0 c (vis (act l tx M.j) M.j f x c (s.mark i)) := by
    rw [vis_step ho hm]
    have : act l tx M.j i = .alt x y0 := by unfold act actI; rw [getD_in' hlt, hop, hxe, hye]; simp
    rw [this]
  rw [e1]
  have hln := h.wj.pi.len
  have c11 := h.wj.rb.c 11
  have c5 := h.wj.rb.c 5
  simp at c11 c5
  rw [h.wj.ov, ho] at c11
  obtain ⟨hmbN, arr, ha, hsz, hr⟩ := h.wj.met
  have hcell : w.cell? ⟨M.mb, i, none⟩ = some (.bool false) := by rw [Joins.cell_of_block ha, hr i hlt]; simp [hm]
  have hfz : w.frozen? ⟨M.mb, i, none⟩ = false := Joins.unfrozen_of_block ha i
  obtain ⟨hJ1, hC1⟩ := h.wj.mark hlt hm
  have hsmall := h.inv.small
  have hfsv := h.wj.fs
  have hfsl : M.fs ≤ 100000020000 := by have := h.sm; omega
  obtain ⟨W1, hW1⟩ : ∃ W1, W1 = w.setCell ⟨M.mb, i, none⟩ (.bool true) := ⟨_, rfl⟩
  have hrb1 : RB W1 b M := by rw [hW1]; exact h.wj.rb.kept (Below.heap_setCell _ _ _ _ (fun e => h.wj.bm e.symm))
  have k10 := hrb1.c 10
  have u10 := hrb1.u 10
  simp at k10
  have hrb0 := hJ1.rb
  obtain ⟨W2, hW2⟩ : ∃ W2, W2 = W1.setCell ⟨b, 10, none⟩ (.int .i64 ((M.fs + 1 : Nat) : Int)) := ⟨_, rfl⟩
  rw [← hW1, ← hW2] at hJ1 hC1 hrb0
  have k0 := hrb0.c 0
  simp at k0
  obtain ⟨pb, po, r1, r2, r3, hpa, hpr, hcs⟩ := inst_pi hJ1.pi hlt
  obtain ⟨⟨m0, m1, m2, m3, m4⟩, _⟩ := hcs W2 (Below.refl _ _)
  have hpa' : M.ad = some ⟨pb, po, none⟩ := hpa
  rw [hpa'] at k0
  have a10 : IntKind.i64.wrap ((M.fs : Int) + 1) = ((M.fs + 1 : Nat) : Int) := by rw [wrap_ok _ (by omega) (by omega)]; omega
  have b2 : (i : Int) < (M.n : Int) := by omega
  have hlen : ((s.mark i).met).length = s.met.length + 1 := by simp [Vst.mark]
  have HLEN := hid hlen
  have HIV := hid (h.inv.mark hlt hm)
  have HJ1 := hid hJ1
  have HC1 := hid hC1
  have HH := hid h
  have HCS := hid hcs
  have HPR := hid hpr
  have HOP := hid hop
  have HOK := hid hok
  have HW1 := hid hW1
  have HW2 : Hid (W2 = W1.setCell ⟨b, 10, none⟩ (.int .i64 ((M.fs : Int) + 1))) := by show W2 = _; rw [hW2, show ((M.fs + 1 : Nat) : Int) = (M.fs : Int) + 1 by omega]
  have hJV := fun (o : Obj) => hJ1.kept (w' := W2.alloc o) (Joins.below_alloc1 W2 o)
  have HJV := hid hJV
  clear h hJ1 hC1 hcs hpr hop hok hW1 hW2 ha hsz hr hrb1 hrb0 hpa hln hlen e1 hsmall hfsv hfsl hJV
  obtain ⟨Mn, hMn⟩ : ∃ Mn, Mn = M.n := ⟨_, rfl⟩
  obtain ⟨Mm, hMm⟩ : ∃ Mm, Mm = M.mb := ⟨_, rfl⟩
  have HMM := hid hMm
  rw [← hMn] at c5 k0 b2
  rw [← hMm] at c5 hcell hfz HW1
  clear hMn hMm hpa'
  clear hxe hye hy
  have HAI : Hid (∀ k, k < l.length → (act l tx M.j k).ok l.length) := fun k hk => act_ok hmay M.j k hk
  generalize hs1 : vis (act l tx M.j) M.j f x c (s.mark i) = s1
  have HS1 := hid hs1
  have HIV1 : Hid (Inv l.length K s1) := by rw [← hs1]; exact vis_inv HAI.out f x c _ hxl (by have := HH.out.cap.1; simpa using this) HIV.out
  have HGR : Hid (Grow (s.mark i) s1) := by rw [← hs1]; exact vis_grow _ _ _ _
  clear hs1
  generalize hs2 : vis (act l tx M.j) M.j f y0 c s1 = s2
  have HS2 := hid hs2
  clear hs2
  go_enter Try.func25, Try.ntmps25
  go_upto_region 2 with fail
  rw [← HW1.out]
  clear HW1 hcell hfz c11 c5
  go_upto_region 3 with fail
  rw [← HW2.out]
  clear HW2 k10 u10 a10
  go_upto_region 4 with fail
  obtain ⟨V, hV⟩ : ∃ V, V = W2.alloc (.cells #[.int .i64 l[i].op, .int .i64 l[i].x, .int .i64 l[i].y, .int .i64 l[i].a, .slice r1 r2 r3] 49) := ⟨_, rfl⟩
  rw [← hV]
  have hbV : Below W2.heap.size W2 V := by rw [hV]; exact Joins.below_alloc1 W2 _
  have hY : V.heap[W2.heap.size]? = some (.cells #[.int .i64 l[i].op, .int .i64 l[i].x, .int .i64 l[i].y, .int .i64 l[i].a, .slice r1 r2 r3] 49 (0, 0)) := by rw [hV]; exact heap_alloc_new W2 _
  have HJ : Hid (WJ V N b B0 l tx { M with fs := M.fs + 1 } (s.mark i) E) := HJ1.out.kept hbV
  have HC : Hid (Chg w V (UF b M) (UF b { M with fs := M.fs + 1 })) := HC1.out.trans (Chg.of_below hbV)
  have HWC : Hid (∀ i', i' < l.length → WC K N b B0 l tx V { M with fs := M.fs + 1 } (s.mark i) E i' c cb cp) := fun i' hi' => HH.out.next HJ.out rfl HC.out HIV.out hi'
  have HBV : Hid (Below N W2 V) := hbV.mono HJ1.out.nw
  obtain ⟨y, hy⟩ : ∃ y, y = W2.heap.size := ⟨_, rfl⟩
  rw [← hy] at hY ⊢
  obtain ⟨v0, v1, v2, v3, v4⟩ := five hY
  rw [HOP.out] at v0
  have HY := hid hY
  have hyV : y < V.heap.size := (Array.getElem?_eq_some_iff.1 hY).1
  clear hV hbV hY hy m0 m1 m2 m3 m4 k0 HJV
  rw [HXE.out] at v1
  have HI := ih.out x c (s.mark i) V _ E cb cp (HWC.out x hxl) (by have := HLEN.out; omega)
  rw [show (({ M with fs := M.fs + 1 } : Rv)).j = M.j from rfl, HS1.out] at HI
  go_wp2_with (first | (go_at_call 25; (with_reducible refine HI.mono ?_); rintro e w3 ⟨rfl, M', E', hv', hM', hc'⟩; have hy3 := (hc'.block y hyV (fun hm => HJ.out.noY (M := { M with fs := M.fs + 1 }) hm HY.out)).trans HY.out; obtain ⟨_, _, p2, _, _⟩ := five hy3; rw [HYE.out] at p2; have HC2 := hid hc'; have HM2 := hid hM'; have HI2 := ih.out y0 c s1 w3 M' E' cb cp ((HWC.out x hxl).next hv' hM' hc' HIV1.out hyl) (by have := HLEN.out; obtain ⟨mm, hmm⟩ := HGR.out.met; rw [hmm, List.length_append]; omega); rw [rcore_j hM', show (({ M with fs := M.fs + 1 } : Rv)).j = M.j from rfl, HS2.out] at HI2; clear hv' hM' hc' hy3 HI) | (go_at_call 25; (with_reducible refine HI2.mono ?_); rintro e w4 hvp; have HP := hid hvp; obtain ⟨rfl, _⟩ := hvp; clear HI2))
  go_end0
  exact (HP.out.after HC2.out HM2.out).after HC.out rfl
end Go.Proofs.Ytaoagcnbdfklnaa
/- HELPERS: the document's visit in memory: captures and assertions. -/
namespace Go.Proofs.Ytaoagcnbdfklnaa
open Go.RowKit Go.Lk
set_option linter.unusedVariables false
set_option linter.unusedSimpArgs false
theorem row_got {w : World} {base e size n : Nat} {v : Value} {xs : List Value} (h : w.ownsRow base e size v n xs) (hn : 0 < n) : ∃ g q, v = .slice (some ⟨g, 0, none⟩) n q := by
  rcases h.2 with ⟨_, e⟩ | ⟨g, cap, cur, e, _⟩
  · omega
  · exact ⟨g, cap, e⟩
theorem frm_new {V w7 : World} {o : Obj} {n c : Nat} {v' : Value} (h : Frm (V.alloc o) w7 (.slice (some ⟨V.heap.size, 0, none⟩) n c) v') : Below V.heap.size V w7 ∧ ∀ k, v'.ownBlock = some k → V.heap.size ≤ k := by
  refine ⟨⟨h.os, h.tape, h.output, by have := h.size; simp at this; omega, fun k hk => (h.block k (by simp; omega) (by simp [Value.ownBlock]; omega)).trans (heap_alloc_old _ _ hk)⟩, fun k hk => ?_⟩
  rcases h.own k hk with e | e
  · simp [Value.ownBlock] at e; omega
  · simp at e; omega
theorem one64 (c : List Int) : ∀ u ∈ I64 c, u.oneCell' = true := fun u hu => by
  obtain ⟨z, _, rfl⟩ := List.mem_map.1 hu
  rfl
theorem empty3 (N : Nat) (V : World) (h : N ≤ V.heap.size) : (V.alloc (.cells #[] 3)).ownsRow N 3 1 (.slice (some ⟨V.heap.size, 0, none⟩) 0 0) 0 [] := by
  have := World.ownsRow_lit (base := N) (e := 3) (size := 1) V #[] 0 h (Nat.zero_le _) rfl
  simpa using this
set_option maxRecDepth 100000 in
set_option maxHeartbeats 8000000 in
theorem rvisit_cap {K N b B0 : Nat} {l : List In} {tx : List Int} {w : World} {M : Rv} {s : Vst} {E : List Ef} {i : Nat} {c : List Int} {cb cp : Nat} {S : Int} (hmay : mayB l S (K : Int) = true) (f : Nat) (ih : Hid (WIH K N b B0 l tx f)) (h : WC K N b B0 l tx w M s E i c cb cp) (hf : l.length < f + 1 + s.met.length) (ho : s.over = false) (hm : i ∉ s.met) (hlt : i < l.length) (hop : l[i].op = 3) :
    Calls Try.prog 25 #[.pointer (some ⟨b, 0, none⟩), .int .i64 (i : Int), .slice (some ⟨cb, 0, none⟩) K cp] w (WP N b B0 l tx w M (vis (act l tx M.j) M.j (f + 1) i c s)) := by
  have hmo := may_ok hmay
  have hm20 := hmo.1
  have hok := hmo.2.2.2.2.2 _ (List.getElem_mem hlt)
  have hKs : 2 ≤ K ∧ K ≤ 1002 := by omega
  clear hmo
  have hx := ok_x hok (by rw [hop]; rfl)
  obtain ⟨x, hxe⟩ := Int.eq_ofNat_of_zero_le hx.1
  have hxl : x < l.length := by omega
  have HXE := hid hxe
  have ha := ok_a hok hop
  obtain ⟨a, hae⟩ := Int.eq_ofNat_of_zero_le ha.1
  have hal : a < K := by omega
  have HAE := hid hae
  obtain ⟨i3, hi3, hz30, hz31, hz32⟩ := info_parts info3
  have e1 : vis (act l tx M.j) M.j (f + 1) i c s = vis (act l tx M.j) M.j f x (c.set a (M.j : Int)) (s.mark i) := by
    rw [vis_step ho hm]
    have : act l tx M.j i = .cap x a := by unfold act actI; rw [getD_in' hlt, hop, hxe, hae]; simp
    rw [this]
  rw [e1]
  have hln := h.wj.pi.len
  have c11 := h.wj.rb.c 11
  have c5 := h.wj.rb.c 5
  simp at c11 c5
  rw [h.wj.ov, ho] at c11
  obtain ⟨hmbN, arr, ha, hsz, hr⟩ := h.wj.met
  have hcell : w.cell? ⟨M.mb, i, none⟩ = some (.bool false) := by rw [Joins.cell_of_block ha, hr i hlt]; simp [hm]
  have hfz : w.frozen? ⟨M.mb, i, none⟩ = false := Joins.unfrozen_of_block ha i
  obtain ⟨hJ1, hC1⟩ := h.wj.mark hlt hm
  have hsmall := h.inv.small
  have hfsv := h.wj.fs
  have hfsl : M.fs ≤ 100000020000 := by have := h.sm; omega
  obtain ⟨W1, hW1⟩ : ∃ W1, W1 = w.setCell ⟨M.mb, i, none⟩ (.bool true) := ⟨_, rfl⟩
  have hrb1 : RB W1 b M := by rw [hW1]; exact h.wj.rb.kept (Below.heap_setCell _ _ _ _ (fun e => h.wj.bm e.symm))
  have k10 := hrb1.c 10
  have u10 := hrb1.u 10
  simp at k10
  have hrb0 := hJ1.rb
  obtain ⟨W2, hW2⟩ : ∃ W2, W2 = W1.setCell ⟨b, 10, none⟩ (.int .i64 ((M.fs + 1 : Nat) : Int)) := ⟨_, rfl⟩
  rw [← hW1, ← hW2] at hJ1 hC1 hrb0
  have k0 := hrb0.c 0
  simp at k0
  obtain ⟨pb, po, r1, r2, r3, hpa, hpr, hcs⟩ := inst_pi hJ1.pi hlt
  obtain ⟨⟨m0, m1, m2, m3, m4⟩, _⟩ := hcs W2 (Below.refl _ _)
  have hpa' : M.ad = some ⟨pb, po, none⟩ := hpa
  rw [hpa'] at k0
  have a10 : IntKind.i64.wrap ((M.fs : Int) + 1) = ((M.fs + 1 : Nat) : Int) := by rw [wrap_ok _ (by omega) (by omega)]; omega
  have b2 : (i : Int) < (M.n : Int) := by omega
  have hlen : ((s.mark i).met).length = s.met.length + 1 := by simp [Vst.mark]
  have HLEN := hid hlen
  have HIV := hid (h.inv.mark hlt hm)
  have HJ1 := hid hJ1
  have HC1 := hid hC1
  have HH := hid h
  have HCS := hid hcs
  have HPR := hid hpr
  have HOP := hid hop
  have HOK := hid hok
  have HW1 := hid hW1
  have HW2 : Hid (W2 = W1.setCell ⟨b, 10, none⟩ (.int .i64 ((M.fs : Int) + 1))) := by show W2 = _; rw [hW2, show ((M.fs + 1 : Nat) : Int) = (M.fs : Int) + 1 by omega]
  have hJV := fun (o : Obj) => hJ1.kept (w' := W2.alloc o) (Joins.below_alloc1 W2 o)
  have HJV := hid hJV
  clear h hJ1 hC1 hcs hpr hop hok hW1 hW2 ha hsz hr hrb1 hrb0 hpa hln hlen e1 hsmall hfsv hfsl hJV
  obtain ⟨Mn, hMn⟩ : ∃ Mn, Mn = M.n := ⟨_, rfl⟩
  obtain ⟨Mm, hMm⟩ : ∃ Mm, Mm = M.mb := ⟨_, rfl⟩
  have HMM := hid hMm
  rw [← hMn] at c5 k0 b2
  rw [← hMm] at c5 hcell hfz HW1
  clear hMn hMm hpa'
  clear hxe hae ha
  generalize hs2 : vis (act l tx M.j) M.j f x (c.set a (M.j : Int)) (s.mark i) = s2
  have HS2 := hid hs2
  clear hs2
  go_enter Try.func25, Try.ntmps25
  go_upto_region 2 with fail
  rw [← HW1.out]
  clear HW1 hcell hfz c11 c5
  go_upto_region 3 with fail
  rw [← HW2.out]
  clear HW2 k10 u10 a10
  go_upto_region 4 with fail
  obtain ⟨V, hV⟩ : ∃ V, V = W2.alloc (.cells #[.int .i64 l[i].op, .int .i64 l[i].x, .int .i64 l[i].y, .int .i64 l[i].a, .slice r1 r2 r3] 49) := ⟨_, rfl⟩
  rw [← hV]
  have hbV : Below W2.heap.size W2 V := by rw [hV]; exact Joins.below_alloc1 W2 _
  have hY : V.heap[W2.heap.size]? = some (.cells #[.int .i64 l[i].op, .int .i64 l[i].x, .int .i64 l[i].y, .int .i64 l[i].a, .slice r1 r2 r3] 49 (0, 0)) := by rw [hV]; exact heap_alloc_new W2 _
  have HJ : Hid (WJ V N b B0 l tx { M with fs := M.fs + 1 } (s.mark i) E) := HJ1.out.kept hbV
  have HC : Hid (Chg w V (UF b M) (UF b { M with fs := M.fs + 1 })) := HC1.out.trans (Chg.of_below hbV)
  have HWC : Hid (∀ i', i' < l.length → WC K N b B0 l tx V { M with fs := M.fs + 1 } (s.mark i) E i' c cb cp) := fun i' hi' => HH.out.next HJ.out rfl HC.out HIV.out hi'
  have HBV : Hid (Below N W2 V) := hbV.mono HJ1.out.nw
  obtain ⟨y, hy⟩ : ∃ y, y = W2.heap.size := ⟨_, rfl⟩
  rw [← hy] at hY ⊢
  obtain ⟨v0, v1, v2, v3, v4⟩ := five hY
  rw [HOP.out] at v0
  have HY := hid hY
  have hyV : y < V.heap.size := (Array.getElem?_eq_some_iff.1 hY).1
  clear hV hbV hY hy m0 m1 m2 m3 m4 k0 HJV
  rw [HXE.out] at v1
  rw [HAE.out] at v3
  have hNV := HJ.out.nw
  have HRO := hid (empty3 N V hNV)
  have HSR := hid ((HWC.out x hxl).cap.alloc (.cells #[] 3))
  go_upto_region 12 with (at_builtin; refine wpList_append_row rfl (.tmp 70) (.tmp 71) 28 rfl N 3 i3 (.int .i64 0) 1 8 Try.underlying28 hi3 hz30 hz31 hz32 rfl (by decide) (.slice (some ⟨V.heap.size, 0, none⟩) 0 0) 0 [] rfl HRO.out (.slice (some ⟨cb, 0, none⟩) K cp) K N (I64 c) rfl HSR.out (fun h => by omega) (one64 c) (by unfold maxLen; omega) (by omega) (by (try simp) <;> omega) ?_; intro v7 w7 ho7 hf7 _; obtain ⟨g, q, rfl⟩ := row_got ho7.out (by omega))
  obtain ⟨hb7, hg7⟩ := frm_new hf7.out
  have hgs := hg7 g rfl
  have h7 := ho7.out
  rw [Nat.zero_add, List.nil_append] at h7
  have hcl : c.length = K := by have := h7.1; simpa using this
  have HJ7 := hid (HJ.out.kept hb7)
  have q4 := HJ7.out.rb.c 4
  simp at q4
  have d1 := (cell_eq (hb7.block y hyV) 1).trans v1
  have d3 := (cell_eq (hb7.block y hyV) 3).trans v3
  obtain ⟨o, hoc⟩ : ∃ o, c[a]? = some o := ⟨c[a], List.getElem?_eq_getElem (by omega)⟩
  have hcell : w7.cell? ⟨g, a, none⟩ = some (.int .i64 o) := by rw [h7.cellAt a (by omega)]; simp [hoc]
  have hfz := h7.frozenAt a
  have hrs := row_setC h7 a (.int .i64 (M.j : Int))
  rw [← List.map_set] at hrs
  have HRSS := hid hrs
  have HB7 := hid hb7
  have i1 : (a : Int) < (K : Int) := by omega
  clear hf7 ho7 h7 hrs hb7 hoc hcl HRO HSR v0 v1 v2 v3 v4 hg7
  go_region
  obtain ⟨V3, hV3⟩ : ∃ V3, V3 = (w7.setCell ⟨g, a, none⟩ (.int .i64 (M.j : Int))).drew := ⟨_, rfl⟩
  rw [← hV3]
  have e0 : Hid (Eqw (w7.setCell ⟨g, a, none⟩ (.int .i64 (M.j : Int))) V3) := by rw [hV3]; exact Eqw.drew _
  have hb3 : Below V.heap.size V V3 := (HB7.out.setCell (p := ⟨g, a, none⟩) hgs _).trans (e0.out.below _)
  have p1 : V3.cell? ⟨y, 1, none⟩ = some (.int .i64 (x : Int)) := (cell_eq ((hb3.block y hyV).trans (HB7.out.block y hyV).symm) 1).trans d1
  have HC3 : Hid (Chg w V3 (UF b M) (UF b { M with fs := M.fs + 1 })) := HC.out.trans (Chg.of_below hb3)
  have HJ3 := hid (HJ.out.kept hb3)
  have HI := ih.out x (c.set a (M.j : Int)) (s.mark i) V3 _ E g q ⟨HJ3.out, HH.out.hK, HIV.out, hxl, e0.out.row HRSS.out, HH.out.sm⟩ (by have := HLEN.out; omega)
  rw [show (({ M with fs := M.fs + 1 } : Rv)).j = M.j from rfl, HS2.out] at HI
  clear hV3 hb3 d1 d3 q4 hcell hfz
  go_wp2_with (go_at_call 25; (with_reducible refine HI.mono ?_); rintro e w3 hvp; have HP := hid hvp; obtain ⟨rfl, _⟩ := hvp; clear HI)
  go_end0
  exact HP.out.after HC3.out rfl
set_option maxRecDepth 100000 in
set_option maxHeartbeats 8000000 in
theorem rvisit_assert_t {K N b B0 : Nat} {l : List In} {tx : List Int} {w : World} {M : Rv} {s : Vst} {E : List Ef} {i : Nat} {c : List Int} {cb cp : Nat} {S : Int} (hmay : mayB l S (K : Int) = true) (f : Nat) (ih : Hid (WIH K N b B0 l tx f)) (h : WC K N b B0 l tx w M s E i c cb cp) (hf : l.length < f + 1 + s.met.length) (ho : s.over = false) (hm : i ∉ s.met) (hlt : i < l.length) (hop : l[i].op = 4) (hh : holdsB l[i].a (atP tx M.j) = true) :
    Calls Try.prog 25 #[.pointer (some ⟨b, 0, none⟩), .int .i64 (i : Int), .slice (some ⟨cb, 0, none⟩) K cp] w (WP N b B0 l tx w M (vis (act l tx M.j) M.j (f + 1) i c s)) := by
  have hmo := may_ok hmay
  have hm20 := hmo.1
  have hok := hmo.2.2.2.2.2 _ (List.getElem_mem hlt)
  have hKs : 2 ≤ K ∧ K ≤ 1002 := by omega
  clear hmo
  have hx := ok_x hok (by rw [hop]; rfl)
  obtain ⟨x, hxe⟩ := Int.eq_ofNat_of_zero_le hx.1
  have hxl : x < l.length := by omega
  have HXE := hid hxe
  have e1 : vis (act l tx M.j) M.j (f + 1) i c s = vis (act l tx M.j) M.j f x c (s.mark i) := by
    rw [vis_step ho hm]
    have : act l tx M.j i = .go x := by unfold act actI; rw [getD_in' hlt, hop, hh]; simp [hxe]
    rw [this]
  rw [e1]
  have hln := h.wj.pi.len
  have c11 := h.wj.rb.c 11
  have c5 := h.wj.rb.c 5
  simp at c11 c5
  rw [h.wj.ov, ho] at c11
  obtain ⟨hmbN, arr, ha, hsz, hr⟩ := h.wj.met
  have hcell : w.cell? ⟨M.mb, i, none⟩ = some (.bool false) := by rw [Joins.cell_of_block ha, hr i hlt]; simp [hm]
  have hfz : w.frozen? ⟨M.mb, i, none⟩ = false := Joins.unfrozen_of_block ha i
  obtain ⟨hJ1, hC1⟩ := h.wj.mark hlt hm
  have hsmall := h.inv.small
  have hfsv := h.wj.fs
  have hfsl : M.fs ≤ 100000020000 := by have := h.sm; omega
  obtain ⟨W1, hW1⟩ : ∃ W1, W1 = w.setCell ⟨M.mb, i, none⟩ (.bool true) := ⟨_, rfl⟩
  have hrb1 : RB W1 b M := by rw [hW1]; exact h.wj.rb.kept (Below.heap_setCell _ _ _ _ (fun e => h.wj.bm e.symm))
  have k10 := hrb1.c 10
  have u10 := hrb1.u 10
  simp at k10
  have hrb0 := hJ1.rb
  obtain ⟨W2, hW2⟩ : ∃ W2, W2 = W1.setCell ⟨b, 10, none⟩ (.int .i64 ((M.fs + 1 : Nat) : Int)) := ⟨_, rfl⟩
  rw [← hW1, ← hW2] at hJ1 hC1 hrb0
  have k0 := hrb0.c 0
  simp at k0
  obtain ⟨pb, po, r1, r2, r3, hpa, hpr, hcs⟩ := inst_pi hJ1.pi hlt
  obtain ⟨⟨m0, m1, m2, m3, m4⟩, _⟩ := hcs W2 (Below.refl _ _)
  have hpa' : M.ad = some ⟨pb, po, none⟩ := hpa
  rw [hpa'] at k0
  have a10 : IntKind.i64.wrap ((M.fs : Int) + 1) = ((M.fs + 1 : Nat) : Int) := by rw [wrap_ok _ (by omega) (by omega)]; omega
  have b2 : (i : Int) < (M.n : Int) := by omega
  have hlen : ((s.mark i).met).length = s.met.length + 1 := by simp [Vst.mark]
  have HLEN := hid hlen
  have HIV := hid (h.inv.mark hlt hm)
  have HJ1 := hid hJ1
  have HC1 := hid hC1
  have HH := hid h
  have HCS := hid hcs
  have HPR := hid hpr
  have HOP := hid hop
  have HOK := hid hok
  have HW1 := hid hW1
  have HW2 : Hid (W2 = W1.setCell ⟨b, 10, none⟩ (.int .i64 ((M.fs : Int) + 1))) := by show W2 = _; rw [hW2, show ((M.fs + 1 : Nat) : Int) = (M.fs : Int) + 1 by omega]
  have hJV := fun (o : Obj) => hJ1.kept (w' := W2.alloc o) (Joins.below_alloc1 W2 o)
  have HJV := hid hJV
  clear h hJ1 hC1 hcs hpr hop hok hW1 hW2 ha hsz hr hrb1 hrb0 hpa hln hlen e1 hsmall hfsv hfsl hJV
  obtain ⟨Mn, hMn⟩ : ∃ Mn, Mn = M.n := ⟨_, rfl⟩
  obtain ⟨Mm, hMm⟩ : ∃ Mm, Mm = M.mb := ⟨_, rfl⟩
  have HMM := hid hMm
  rw [← hMn] at c5 k0 b2
  rw [← hMm] at c5 hcell hfz HW1
  clear hMn hMm hpa'
  have HHB := hid hh
  clear hxe hh
  generalize hs2 : vis (act l tx M.j) M.j f x c (s.mark i) = s2
  have HS2 := hid hs2
  clear hs2
  go_enter Try.func25, Try.ntmps25
  go_upto_region 2 with fail
  rw [← HW1.out]
  clear HW1 hcell hfz c11 c5
  go_upto_region 3 with fail
  rw [← HW2.out]
  clear HW2 k10 u10 a10
  go_upto_region 4 with fail
  obtain ⟨V, hV⟩ : ∃ V, V = W2.alloc (.cells #[.int .i64 l[i].op, .int .i64 l[i].x, .int .i64 l[i].y, .int .i64 l[i].a, .slice r1 r2 r3] 49) := ⟨_, rfl⟩
  rw [← hV]
  have hbV : Below W2.heap.size W2 V := by rw [hV]; exact Joins.below_alloc1 W2 _
  have hY : V.heap[W2.heap.size]? = some (.cells #[.int .i64 l[i].op, .int .i64 l[i].x, .int .i64 l[i].y, .int .i64 l[i].a, .slice r1 r2 r3] 49 (0, 0)) := by rw [hV]; exact heap_alloc_new W2 _
  have HJ : Hid (WJ V N b B0 l tx { M with fs := M.fs + 1 } (s.mark i) E) := HJ1.out.kept hbV
  have HC : Hid (Chg w V (UF b M) (UF b { M with fs := M.fs + 1 })) := HC1.out.trans (Chg.of_below hbV)
  have HWC : Hid (∀ i', i' < l.length → WC K N b B0 l tx V { M with fs := M.fs + 1 } (s.mark i) E i' c cb cp) := fun i' hi' => HH.out.next HJ.out rfl HC.out HIV.out hi'
  have HBV : Hid (Below N W2 V) := hbV.mono HJ1.out.nw
  obtain ⟨y, hy⟩ : ∃ y, y = W2.heap.size := ⟨_, rfl⟩
  rw [← hy] at hY ⊢
  obtain ⟨v0, v1, v2, v3, v4⟩ := five hY
  rw [HOP.out] at v0
  have HY := hid hY
  have hyV : y < V.heap.size := (Array.getElem?_eq_some_iff.1 hY).1
  clear hV hbV hY hy m0 m1 m2 m3 m4 k0 HJV
  rw [HXE.out] at v1
  have q3 := HJ.out.rb.c 3
  have q4 := HJ.out.rb.c 4
  simp at q3 q4
  have HAT : Hid (∀ W, Eqw V W → Calls Try.prog 26 #[.slice M.tad M.tn M.tc, .int .i64 (M.j : Int)] W fun e w' => e = .returned (.int .i64 (atP tx M.j)) ∧ w' = W) := fun W e => ref_in tx M.tad M.tn M.tc M.j W N (HJ.out.tt.below (e.below _)) HJ.out.hj
  have HHO : Hid (∀ W, Calls Try.prog 38 #[.int .i64 l[i].a, .int .i64 (atP tx M.j)] W fun e w' => e = .returned (.bool (holdsB l[i].a (atP tx M.j))) ∧ w' = W) := fun W => holds57 _ _ W
  rw [HHB.out] at HHO
  generalize atP tx M.j = at0 at HAT HHO HHB
  generalize hMt : M.tad = tad at q3 HAT
  generalize hMn : M.tn = tn at q3 HAT
  generalize hMc : M.tc = tc at q3 HAT
  have HAT2 := HAT
  clear hMt hMn hMc
  go_upto_region 15 with fail
  go_quiet (first | (go_at_call 26; with_reducible refine Calls.quiet_of_same (HAT.out _ (by exact ⟨rfl, rfl, rfl, rfl⟩))))
  obtain ⟨V2, hV2⟩ : ∃ V2, V2 = V.drewN nq := ⟨_, rfl⟩
  rw [← hV2]
  have hE2 : Eqw V V2 := by rw [hV2]; exact Eqw.drewN V nq
  have hb2 : Below V.heap.size V V2 := hE2.below _
  have HJ2 := hid (HJ.out.kept hb2)
  have HC2 : Hid (Chg w V2 (UF b M) (UF b { M with fs := M.fs + 1 })) := HC.out.trans (Chg.of_below hb2)
  have p1 := (cell_eq (hE2.blk y) 1).trans v1
  have p3 := (cell_eq (hE2.blk y) 3).trans v3
  have HHO2 := HHO.out V2
  have HI := ih.out x c (s.mark i) V2 _ E cb cp (HH.out.next HJ2.out rfl HC2.out HIV.out hxl) (by have := HLEN.out; omega)
  rw [show (({ M with fs := M.fs + 1 } : Rv)).j = M.j from rfl, HS2.out] at HI
  clear hV2 hE2 hb2 v0 v1 v2 v3 v4 HAT HAT2 HHO q3 q4
  go_wp2_with (first | (go_at_call 38; (with_reducible refine HHO2.mono ?_); rintro e w3 ⟨rfl, rfl⟩; clear HHO2) | (go_at_call 25; (with_reducible refine HI.mono ?_); rintro e w4 hvp; have HP := hid hvp; obtain ⟨rfl, _⟩ := hvp; clear HI))
  go_end0
  exact HP.out.after HC2.out rfl
set_option maxRecDepth 100000 in
set_option maxHeartbeats 8000000 in
theorem rvisit_assert_f {K N b B0 : Nat} {l : List In} {tx : List Int} {w : World} {M : Rv} {s : Vst} {E : List Ef} {i : Nat} {c : List Int} {cb cp : Nat} {S : Int} (hmay : mayB l S (K : Int) = true) (f : Nat) (ih : Hid (WIH K N b B0 l tx f)) (h : WC K N b B0 l tx w M s E i c cb cp) (hf : l.length < f + 1 + s.met.length) (ho : s.over = false) (hm : i ∉ s.met) (hlt : i < l.length) (hop : l[i].op = 4) (hh : holdsB l[i].a (atP tx M.j) = false) :
    Calls Try.prog 25 #[.pointer (some ⟨b, 0, none⟩), .int .i64 (i : Int), .slice (some ⟨cb, 0, none⟩) K cp] w (WP N b B0 l tx w M (vis (act l tx M.j) M.j (f + 1) i c s)) := by
  have hmo := may_ok hmay
  have hm20 := hmo.1
  have hok := hmo.2.2.2.2.2 _ (List.getElem_mem hlt)
  have hKs : 2 ≤ K ∧ K ≤ 1002 := by omega
  clear hmo
  have hx := ok_x hok (by rw [hop]; rfl)
  obtain ⟨x, hxe⟩ := Int.eq_ofNat_of_zero_le hx.1
  have hxl : x < l.length := by omega
  have HXE := hid hxe
  have e1 : vis (act l tx M.j) M.j (f + 1) i c s = s.mark i := by
    rw [vis_step ho hm]
    have : act l tx M.j i = .stop := by unfold act actI; rw [getD_in' hlt, hop, hh]; simp
    rw [this]
  rw [e1]
  have hln := h.wj.pi.len
  have c11 := h.wj.rb.c 11
  have c5 := h.wj.rb.c 5
  simp at c11 c5
  rw [h.wj.ov, ho] at c11
  obtain ⟨hmbN, arr, ha, hsz, hr⟩ := h.wj.met
  have hcell : w.cell? ⟨M.mb, i, none⟩ = some (.bool false) := by rw [Joins.cell_of_block ha, hr i hlt]; simp [hm]
  have hfz : w.frozen? ⟨M.mb, i, none⟩ = false := Joins.unfrozen_of_block ha i
  obtain ⟨hJ1, hC1⟩ := h.wj.mark hlt hm
  have hsmall := h.inv.small
  have hfsv := h.wj.fs
  have hfsl : M.fs ≤ 100000020000 := by have := h.sm; omega
  obtain ⟨W1, hW1⟩ : ∃ W1, W1 = w.setCell ⟨M.mb, i, none⟩ (.bool true) := ⟨_, rfl⟩
  have hrb1 : RB W1 b M := by rw [hW1]; exact h.wj.rb.kept (Below.heap_setCell _ _ _ _ (fun e => h.wj.bm e.symm))
  have k10 := hrb1.c 10
  have u10 := hrb1.u 10
  simp at k10
  have hrb0 := hJ1.rb
  obtain ⟨W2, hW2⟩ : ∃ W2, W2 = W1.setCell ⟨b, 10, none⟩ (.int .i64 ((M.fs + 1 : Nat) : Int)) := ⟨_, rfl⟩
  rw [← hW1, ← hW2] at hJ1 hC1 hrb0
  have k0 := hrb0.c 0
  simp at k0
  obtain ⟨pb, po, r1, r2, r3, hpa, hpr, hcs⟩ := inst_pi hJ1.pi hlt
  obtain ⟨⟨m0, m1, m2, m3, m4⟩, _⟩ := hcs W2 (Below.refl _ _)
  have hpa' : M.ad = some ⟨pb, po, none⟩ := hpa
  rw [hpa'] at k0
  have a10 : IntKind.i64.wrap ((M.fs : Int) + 1) = ((M.fs + 1 : Nat) : Int) := by rw [wrap_ok _ (by omega) (by omega)]; omega
  have b2 : (i : Int) < (M.n : Int) := by omega
  have hlen : ((s.mark i).met).length = s.met.length + 1 := by simp [Vst.mark]
  have HLEN := hid hlen
  have HIV := hid (h.inv.mark hlt hm)
  have HJ1 := hid hJ1
  have HC1 := hid hC1
  have HH := hid h
  have HCS := hid hcs
  have HPR := hid hpr
  have HOP := hid hop
  have HOK := hid hok
  have HW1 := hid hW1
  have HW2 : Hid (W2 = W1.setCell ⟨b, 10, none⟩ (.int .i64 ((M.fs : Int) + 1))) := by show W2 = _; rw [hW2, show ((M.fs + 1 : Nat) : Int) = (M.fs : Int) + 1 by omega]
  have hJV := fun (o : Obj) => hJ1.kept (w' := W2.alloc o) (Joins.below_alloc1 W2 o)
  have HJV := hid hJV
  clear h hJ1 hC1 hcs hpr hop hok hW1 hW2 ha hsz hr hrb1 hrb0 hpa hln hlen e1 hsmall hfsv hfsl hJV
  obtain ⟨Mn, hMn⟩ : ∃ Mn, Mn = M.n := ⟨_, rfl⟩
  obtain ⟨Mm, hMm⟩ : ∃ Mm, Mm = M.mb := ⟨_, rfl⟩
  have HMM := hid hMm
  rw [← hMn] at c5 k0 b2
  rw [← hMm] at c5 hcell hfz HW1
  clear hMn hMm hpa'
  have HHB := hid hh
  clear hxe hh
  go_enter Try.func25, Try.ntmps25
  go_upto_region 2 with fail
  rw [← HW1.out]
  clear HW1 hcell hfz c11 c5
  go_upto_region 3 with fail
  rw [← HW2.out]
  clear HW2 k10 u10 a10
  go_upto_region 4 with fail
  obtain ⟨V, hV⟩ : ∃ V, V = W2.alloc (.cells #[.int .i64 l[i].op, .int .i64 l[i].x, .int .i64 l[i].y, .int .i64 l[i].a, .slice r1 r2 r3] 49) := ⟨_, rfl⟩
  rw [← hV]
  have hbV : Below W2.heap.size W2 V := by rw [hV]; exact Joins.below_alloc1 W2 _
  have hY : V.heap[W2.heap.size]? = some (.cells #[.int .i64 l[i].op, .int .i64 l[i].x, .int .i64 l[i].y, .int .i64 l[i].a, .slice r1 r2 r3] 49 (0, 0)) := by rw [hV]; exact heap_alloc_new W2 _
  have HJ : Hid (WJ V N b B0 l tx { M with fs := M.fs + 1 } (s.mark i) E) := HJ1.out.kept hbV
  have HC : Hid (Chg w V (UF b M) (UF b { M with fs := M.fs + 1 })) := HC1.out.trans (Chg.of_below hbV)
  have HWC : Hid (∀ i', i' < l.length → WC K N b B0 l tx V { M with fs := M.fs + 1 } (s.mark i) E i' c cb cp) := fun i' hi' => HH.out.next HJ.out rfl HC.out HIV.out hi'
  have HBV : Hid (Below N W2 V) := hbV.mono HJ1.out.nw
  obtain ⟨y, hy⟩ : ∃ y, y = W2.heap.size := ⟨_, rfl⟩
  rw [← hy] at hY ⊢
  obtain ⟨v0, v1, v2, v3, v4⟩ := five hY
  rw [HOP.out] at v0
  have HY := hid hY
  have hyV : y < V.heap.size := (Array.getElem?_eq_some_iff.1 hY).1
  clear hV hbV hY hy m0 m1 m2 m3 m4 k0 HJV
  rw [HXE.out] at v1
  have q3 := HJ.out.rb.c 3
  have q4 := HJ.out.rb.c 4
  simp at q3 q4
  have HAT : Hid (∀ W, Eqw V W → Calls Try.prog 26 #[.slice M.tad M.tn M.tc, .int .i64 (M.j : Int)] W fun e w' => e = .returned (.int .i64 (atP tx M.j)) ∧ w' = W) := fun W e => ref_in tx M.tad M.tn M.tc M.j W N (HJ.out.tt.below (e.below _)) HJ.out.hj
  have HHO : Hid (∀ W, Calls Try.prog 38 #[.int .i64 l[i].a, .int .i64 (atP tx M.j)] W fun e w' => e = .returned (.bool (holdsB l[i].a (atP tx M.j))) ∧ w' = W) := fun W => holds57 _ _ W
  rw [HHB.out] at HHO
  generalize atP tx M.j = at0 at HAT HHO HHB
  generalize hMt : M.tad = tad at q3 HAT
  generalize hMn : M.tn = tn at q3 HAT
  generalize hMc : M.tc = tc at q3 HAT
  have HAT2 := HAT
  clear hMt hMn hMc
  go_upto_region 15 with fail
  go_quiet (first | (go_at_call 26; with_reducible refine Calls.quiet_of_same (HAT.out _ (by exact ⟨rfl, rfl, rfl, rfl⟩))))
  obtain ⟨V2, hV2⟩ : ∃ V2, V2 = V.drewN nq := ⟨_, rfl⟩
  rw [← hV2]
  have hE2 : Eqw V V2 := by rw [hV2]; exact Eqw.drewN V nq
  have hb2 : Below V.heap.size V V2 := hE2.below _
  have HJ2 := hid (HJ.out.kept hb2)
  have HC2 : Hid (Chg w V2 (UF b M) (UF b { M with fs := M.fs + 1 })) := HC.out.trans (Chg.of_below hb2)
  have p1 := (cell_eq (hE2.blk y) 1).trans v1
  have p3 := (cell_eq (hE2.blk y) 3).trans v3
  have HHO2 := HHO.out V2
  clear hV2 hE2 hb2 v0 v1 v2 v3 v4 HAT HAT2 HHO q3 q4
  go_wp2_with (first | (go_at_call 38; (with_reducible refine HHO2.mono ?_); rintro e w3 ⟨rfl, rfl⟩; clear HHO2))
  go_end0
  exact ⟨rfl, _, E, HJ2.out, rfl, HC2.out⟩
end Go.Proofs.Ytaoagcnbdfklnaa
/- HELPERS: the document's visit in memory: runes and matches; the visit whole. -/
namespace Go.Proofs.Ytaoagcnbdfklnaa
open Go.RowKit Go.Lk
set_option linter.unusedVariables false
set_option linter.unusedSimpArgs false
theorem info69 : (Try.prog.info? 69).map (fun i => (i.zero, i.size, i.bytes)) = some (some (.agg #[.int .i64 0, .slice none 0 0]), 2, 32) := by kernel_rfl
theorem WJ.fit2 {w w7 : World} {N b B0 : Nat} {l : List In} {tx : List Int} {M : Rv} {s : Vst} {E : List Ef} {g q K : Nat} {a : Int} {c : List Int} (h : WJ w N b B0 l tx M s E) (hK : M.K = K) (hb : Below (w.setCell ⟨b, 7, none⟩ (.bool true)).heap.size (w.setCell ⟨b, 7, none⟩ (.bool true)) w7) (hr : w7.ownsRow N 3 1 (.slice (some ⟨g, 0, none⟩) K q) K (I64 c)) :
    WJ (((w7.setCell ⟨b, 8, none⟩ (.slice (some ⟨g, 0, none⟩) K q)).setCell ⟨b, 9, none⟩ (.int .i64 a)).setCell ⟨b, 11, none⟩ (.bool true)) N b B0 l tx { M with fok := true, f1 := some ⟨g, 0, none⟩, f2 := K, f3 := q, fw := a, ov := true } { s with found := some (a, c), over := true } E ∧
    Chg w (((w7.setCell ⟨b, 8, none⟩ (.slice (some ⟨g, 0, none⟩) K q)).setCell ⟨b, 9, none⟩ (.int .i64 a)).setCell ⟨b, 11, none⟩ (.bool true)) (UF b M) (UF b M) := by
  subst hK
  obtain ⟨hn, arr, ha, hsz, hrr⟩ := h.met
  have hs0 : (w.setCell ⟨b, 7, none⟩ (.bool true)).heap.size = w.heap.size := by simp [World.setCell]
  have hc : Chg w (((w7.setCell ⟨b, 8, none⟩ (.slice (some ⟨g, 0, none⟩) M.K q)).setCell ⟨b, 9, none⟩ (.int .i64 a)).setCell ⟨b, 11, none⟩ (.bool true)) (UF b M) (UF b M) := ((((((Chg.refl w (UF b M)).set (a := ⟨b, 7, none⟩) (.bool true) (by simp [UF])).trans (Chg.of_below hb)).set (a := ⟨b, 8, none⟩) _ (by simp [UF])).set (a := ⟨b, 9, none⟩) _ (by simp [UF])).set (a := ⟨b, 11, none⟩) _ (by simp [UF]))
  have hbel := hc.below h.nw (fun k hk => (h.low k hk).1)
  have h3 : ∀ n xs v, w.ownsRow N 3 1 v n xs → (((w7.setCell ⟨b, 8, none⟩ (.slice (some ⟨g, 0, none⟩) M.K q)).setCell ⟨b, 9, none⟩ (.int .i64 a)).setCell ⟨b, 11, none⟩ (.bool true)).ownsRow N 3 1 v n xs := fun n xs v ho => three_kept hc ho h.no3
  have hne : ∀ k, k < w.heap.size → k ≠ b → (((w7.setCell ⟨b, 8, none⟩ (.slice (some ⟨g, 0, none⟩) M.K q)).setCell ⟨b, 9, none⟩ (.int .i64 a)).setCell ⟨b, 11, none⟩ (.bool true)).heap[k]? = w.heap[k]? := fun k hk hkb => (Below.heap_setCell _ _ _ _ hkb).trans ((Below.heap_setCell _ _ _ _ hkb).trans ((Below.heap_setCell _ _ _ _ hkb).trans ((hb.block k (by omega)).trans (Below.heap_setCell _ _ _ _ hkb))))
  have hrb7 : RB w7 b { M with fok := true } := (h.rb.upd 7 (.bool true) { M with fok := true } rfl).kept (hb.block b (by have := h.rb.lt; omega))
  have hrb := ((hrb7.upd 8 (.slice (some ⟨g, 0, none⟩) M.K q) { M with fok := true, f1 := some ⟨g, 0, none⟩, f2 := M.K, f3 := q } rfl).upd 9 (.int .i64 a) { M with fok := true, f1 := some ⟨g, 0, none⟩, f2 := M.K, f3 := q, fw := a } rfl).upd 11 (.bool true) { M with fok := true, f1 := some ⟨g, 0, none⟩, f2 := M.K, f3 := q, fw := a, ov := true } rfl
  have hgb : (Value.slice (some ⟨g, 0, none⟩) M.K q).ownBlock ≠ some b := own_ne hr hrb7 (by decide)
  refine ⟨⟨hrb, h.nb, Nat.le_trans h.nw hbel.size, h.pi.kept hbel (Nat.le_refl _), h.tt.below hbel, h.hj, ⟨hn, arr, (hne _ (Array.getElem?_eq_some_iff.1 ha).1 h.bm).trans ha, hsz, hrr⟩, ⟨h.row.len, row_kept h.row.row (fun k hk => hne k (h.row.row.lt k hk).2 (h.zb k (by simp [zF, hk])).1), fun e he => h3 _ _ _ (h.row.caps e he)⟩, h.nx, ⟨g, rfl, rfl, rfl, rfl, own_setCell (own_setCell (own_setCell hr hgb) hgb) hgb⟩, rfl, h.fs⟩, hc⟩
set_option maxRecDepth 100000 in
set_option maxHeartbeats 8000000 in
theorem rvisit_match {K N b B0 : Nat} {l : List In} {tx : List Int} {w : World} {M : Rv} {s : Vst} {E : List Ef} {i : Nat} {c : List Int} {cb cp : Nat} {S : Int} (hmay : mayB l S (K : Int) = true) (f : Nat) (ih : Hid (WIH K N b B0 l tx f)) (h : WC K N b B0 l tx w M s E i c cb cp) (hf : l.length < f + 1 + s.met.length) (ho : s.over = false) (hm : i ∉ s.met) (hlt : i < l.length) (hop : l[i].op = 5) :
    Calls Try.prog 25 #[.pointer (some ⟨b, 0, none⟩), .int .i64 (i : Int), .slice (some ⟨cb, 0, none⟩) K cp] w (WP N b B0 l tx w M (vis (act l tx M.j) M.j (f + 1) i c s)) := by
  have hmo := may_ok hmay
  have hm20 := hmo.1
  have hok := hmo.2.2.2.2.2 _ (List.getElem_mem hlt)
  have hKs : 2 ≤ K ∧ K ≤ 1002 := by omega
  clear hmo
  obtain ⟨i3, hi3, hz30, hz31, hz32⟩ := info_parts info3
  have e1 : vis (act l tx M.j) M.j (f + 1) i c s = { s.mark i with found := some (l[i].a, c), over := true } := by
    rw [vis_step ho hm]
    have : act l tx M.j i = .fit l[i].a := by unfold act actI; rw [getD_in' hlt, hop]; simp
    rw [this]
  rw [e1]
  have hln := h.wj.pi.len
  have c11 := h.wj.rb.c 11
  have c5 := h.wj.rb.c 5
  simp at c11 c5
  rw [h.wj.ov, ho] at c11
  obtain ⟨hmbN, arr, ha, hsz, hr⟩ := h.wj.met
  have hcell : w.cell? ⟨M.mb, i, none⟩ = some (.bool false) := by rw [Joins.cell_of_block ha, hr i hlt]; simp [hm]
  have hfz : w.frozen? ⟨M.mb, i, none⟩ = false := Joins.unfrozen_of_block ha i
  obtain ⟨hJ1, hC1⟩ := h.wj.mark hlt hm
  have hsmall := h.inv.small
  have hfsv := h.wj.fs
  have hfsl : M.fs ≤ 100000020000 := by have := h.sm; omega
  obtain ⟨W1, hW1⟩ : ∃ W1, W1 = w.setCell ⟨M.mb, i, none⟩ (.bool true) := ⟨_, rfl⟩
  have hrb1 : RB W1 b M := by rw [hW1]; exact h.wj.rb.kept (Below.heap_setCell _ _ _ _ (fun e => h.wj.bm e.symm))
  have k10 := hrb1.c 10
  have u10 := hrb1.u 10
  simp at k10
  have hrb0 := hJ1.rb
  obtain ⟨W2, hW2⟩ : ∃ W2, W2 = W1.setCell ⟨b, 10, none⟩ (.int .i64 ((M.fs + 1 : Nat) : Int)) := ⟨_, rfl⟩
  rw [← hW1, ← hW2] at hJ1 hC1 hrb0
  have k0 := hrb0.c 0
  simp at k0
  obtain ⟨pb, po, r1, r2, r3, hpa, hpr, hcs⟩ := inst_pi hJ1.pi hlt
  obtain ⟨⟨m0, m1, m2, m3, m4⟩, _⟩ := hcs W2 (Below.refl _ _)
  have hpa' : M.ad = some ⟨pb, po, none⟩ := hpa
  rw [hpa'] at k0
  have a10 : IntKind.i64.wrap ((M.fs : Int) + 1) = ((M.fs + 1 : Nat) : Int) := by rw [wrap_ok _ (by omega) (by omega)]; omega
  have b2 : (i : Int) < (M.n : Int) := by omega
  have hlen : ((s.mark i).met).length = s.met.length + 1 := by simp [Vst.mark]
  have HLEN := hid hlen
  have HIV := hid (h.inv.mark hlt hm)
  have HJ1 := hid hJ1
  have HC1 := hid hC1
  have HH := hid h
  have HCS := hid hcs
  have HPR := hid hpr
  have HOP := hid hop
  have HOK := hid hok
  have HW1 := hid hW1
  have HW2 : Hid (W2 = W1.setCell ⟨b, 10, none⟩ (.int .i64 ((M.fs : Int) + 1))) := by show W2 = _; rw [hW2, show ((M.fs + 1 : Nat) : Int) = (M.fs : Int) + 1 by omega]
  have hJV := fun (o : Obj) => hJ1.kept (w' := W2.alloc o) (Joins.below_alloc1 W2 o)
  have HJV := hid hJV
  clear h hJ1 hC1 hcs hpr hop hok hW1 hW2 ha hsz hr hrb1 hrb0 hpa hln hlen e1 hsmall hfsv hfsl hJV
  obtain ⟨Mn, hMn⟩ : ∃ Mn, Mn = M.n := ⟨_, rfl⟩
  obtain ⟨Mm, hMm⟩ : ∃ Mm, Mm = M.mb := ⟨_, rfl⟩
  have HMM := hid hMm
  rw [← hMn] at c5 k0 b2
  rw [← hMm] at c5 hcell hfz HW1
  clear hMn hMm hpa'
  go_enter Try.func25, Try.ntmps25
  go_upto_region 2 with fail
  rw [← HW1.out]
  clear HW1 hcell hfz c11 c5
  go_upto_region 3 with fail
  rw [← HW2.out]
  clear HW2 k10 u10 a10
  go_upto_region 4 with fail
  obtain ⟨V, hV⟩ : ∃ V, V = W2.alloc (.cells #[.int .i64 l[i].op, .int .i64 l[i].x, .int .i64 l[i].y, .int .i64 l[i].a, .slice r1 r2 r3] 49) := ⟨_, rfl⟩
  rw [← hV]
  have hbV : Below W2.heap.size W2 V := by rw [hV]; exact Joins.below_alloc1 W2 _
  have hY : V.heap[W2.heap.size]? = some (.cells #[.int .i64 l[i].op, .int .i64 l[i].x, .int .i64 l[i].y, .int .i64 l[i].a, .slice r1 r2 r3] 49 (0, 0)) := by rw [hV]; exact heap_alloc_new W2 _
  have HJ : Hid (WJ V N b B0 l tx { M with fs := M.fs + 1 } (s.mark i) E) := HJ1.out.kept hbV
  have HC : Hid (Chg w V (UF b M) (UF b { M with fs := M.fs + 1 })) := HC1.out.trans (Chg.of_below hbV)
  have HWC : Hid (∀ i', i' < l.length → WC K N b B0 l tx V { M with fs := M.fs + 1 } (s.mark i) E i' c cb cp) := fun i' hi' => HH.out.next HJ.out rfl HC.out HIV.out hi'
  have HBV : Hid (Below N W2 V) := hbV.mono HJ1.out.nw
  obtain ⟨y, hy⟩ : ∃ y, y = W2.heap.size := ⟨_, rfl⟩
  rw [← hy] at hY ⊢
  obtain ⟨v0, v1, v2, v3, v4⟩ := five hY
  rw [HOP.out] at v0
  have HY := hid hY
  have hyV : y < V.heap.size := (Array.getElem?_eq_some_iff.1 hY).1
  clear hV hbV hY hy m0 m1 m2 m3 m4 k0 HJV
  generalize hla : l[i].a = la at v3 HY
  have HLA := hid hla
  clear hla
  have k7 := HJ.out.rb.c 7
  have u7 := HJ.out.rb.u 7
  simp at k7
  go_upto_region 25 with fail
  obtain ⟨V1, hV1⟩ : ∃ V1, V1 = V.setCell ⟨b, 7, none⟩ (.bool true) := ⟨_, rfl⟩
  rw [← hV1]
  have hs1 : V1.heap.size = V.heap.size := by rw [hV1]; simp [World.setCell]
  have hNV := HJ.out.nw
  have HRB1 : Hid (RB V1 b { M with fs := M.fs + 1, fok := true }) := by rw [hV1]; exact HJ.out.rb.upd 7 _ _ rfl
  have hyb : y ≠ b := fun e => by have := HJ.out.rb; rw [e] at HY; unfold RB at this; rw [HY.out] at this; simp at this
  have HY1 : Hid (V1.heap[y]? = some (.cells #[.int .i64 l[i].op, .int .i64 l[i].x, .int .i64 l[i].y, .int .i64 la, .slice r1 r2 r3] 49 (0, 0))) := by rw [hV1]; exact (Below.heap_setCell _ _ _ _ hyb).trans HY.out
  have hcap1 : V1.ownsRow N 3 1 (.slice (some ⟨cb, 0, none⟩) K cp) K (I64 c) := by rw [hV1]; exact own_setCell (HWC.out i hlt).cap (own_ne (HWC.out i hlt).cap HJ.out.rb (by decide))
  have HRO := hid (empty3 N V1 (by omega))
  have HS1 := hid hs1
  have hNV1 : N ≤ V1.heap.size := by omega
  have hyV1 : y < V1.heap.size := by omega
  have HSR := hid (hcap1.alloc (.cells #[] 3))
  have HV1 := hid hV1
  clear hV1 k7 u7 v0 v1 v2 v3 v4 hcap1 hs1
  go_upto_region 26 with (at_builtin; refine wpList_append_row rfl (.tmp 155) (.tmp 156) 28 rfl N 3 i3 (.int .i64 0) 1 8 Try.underlying28 hi3 hz30 hz31 hz32 rfl (by decide) (.slice (some ⟨V1.heap.size, 0, none⟩) 0 0) 0 [] rfl HRO.out (.slice (some ⟨cb, 0, none⟩) K cp) K N (I64 c) rfl HSR.out (fun h => by omega) (one64 c) (by unfold maxLen; omega) (by omega) (by (try simp) <;> omega) ?_; intro v7 w7 ho7 hf7 _; obtain ⟨g, q, rfl⟩ := row_got ho7.out (by omega); have hb7 := (frm_new hf7.out).1; have hrb7 := HRB1.out.kept (hb7.block b HRB1.out.lt); have k8 := hrb7.c 8; have u8 := hrb7.u 8; simp at k8; have HRB7 := hid hrb7; have HB7 := hid hb7; have HO7 := hid ho7.out; clear hb7 hrb7 ho7 hf7)
  have HO := HO7.out
  rw [Nat.zero_add, List.nil_append] at HO
  obtain ⟨V8, hV8⟩ : ∃ V8, V8 = w7.setCell ⟨b, 8, none⟩ (.slice (some ⟨g, 0, none⟩) K q) := ⟨_, rfl⟩
  rw [← hV8]
  have HRB8 : Hid (RB V8 b { M with fs := M.fs + 1, fok := true, f1 := some ⟨g, 0, none⟩, f2 := K, f3 := q }) := by rw [hV8]; exact HRB7.out.upd 8 _ _ rfl
  have hY8 : V8.heap[y]? = some (.cells #[.int .i64 l[i].op, .int .i64 l[i].x, .int .i64 l[i].y, .int .i64 la, .slice r1 r2 r3] 49 (0, 0)) := by rw [hV8]; exact (Below.heap_setCell _ _ _ _ hyb).trans ((HB7.out.block y hyV1).trans HY1.out)
  obtain ⟨_, _, _, v3, _⟩ := five hY8
  have k9 := HRB8.out.c 9
  have u9 := HRB8.out.u 9
  simp at k9
  have HV8 := hid hV8
  have HO2 := hid HO
  clear hV8 hY8 HO k8 u8
  go_upto_region 27 with fail
  obtain ⟨V9, hV9⟩ : ∃ V9, V9 = V8.setCell ⟨b, 9, none⟩ (.int .i64 la) := ⟨_, rfl⟩
  rw [← hV9]
  have HRB9 : Hid (RB V9 b { M with fs := M.fs + 1, fok := true, f1 := some ⟨g, 0, none⟩, f2 := K, f3 := q, fw := la }) := by rw [hV9]; exact HRB8.out.upd 9 _ _ rfl
  have k11 := HRB9.out.c 11
  have u11 := HRB9.out.u 11
  simp at k11
  have HV9 := hid hV9
  clear hV9 k9 u9 v3
  go_wp2
  go_end0
  rw [HV9.out, HV8.out]
  obtain ⟨p1, p2⟩ := HJ.out.fit2 (a := la) (c := c) (K := K) HH.out.hK (by rw [← HV1.out]; exact HB7.out) HO2.out
  rw [HLA.out]
  exact ⟨rfl, _, E, p1, rfl, HC.out.trans p2⟩
set_option maxRecDepth 100000 in
set_option maxHeartbeats 8000000 in
theorem rvisit_rune_end {K N b B0 : Nat} {l : List In} {tx : List Int} {w : World} {M : Rv} {s : Vst} {E : List Ef} {i : Nat} {c : List Int} {cb cp : Nat} {S : Int} (hmay : mayB l S (K : Int) = true) (f : Nat) (ih : Hid (WIH K N b B0 l tx f)) (h : WC K N b B0 l tx w M s E i c cb cp) (hf : l.length < f + 1 + s.met.length) (ho : s.over = false) (hm : i ∉ s.met) (hlt : i < l.length) (hop : l[i].op = 1) (hh : (decide (M.j < tx.length) && hsB l[i].R (tx.getD M.j 0)) = false) (he : ¬ M.j < tx.length) :
    Calls Try.prog 25 #[.pointer (some ⟨b, 0, none⟩), .int .i64 (i : Int), .slice (some ⟨cb, 0, none⟩) K cp] w (WP N b B0 l tx w M (vis (act l tx M.j) M.j (f + 1) i c s)) := by
  have hmo := may_ok hmay
  have hm20 := hmo.1
  have hok := hmo.2.2.2.2.2 _ (List.getElem_mem hlt)
  have hKs : 2 ≤ K ∧ K ≤ 1002 := by omega
  clear hmo
  have hx := ok_x hok (by rw [hop]; rfl)
  obtain ⟨x, hxe⟩ := Int.eq_ofNat_of_zero_le hx.1
  have hxl : x < l.length := by omega
  have HXE := hid hxe
  have e1 : vis (act l tx M.j) M.j (f + 1) i c s = s.mark i := by
    rw [vis_step ho hm]
    have : act l tx M.j i = .stop := by unfold act actI; rw [getD_in' hlt, hop, hh]; simp
    rw [this]
  rw [e1]
  have hln := h.wj.pi.len
  have c11 := h.wj.rb.c 11
  have c5 := h.wj.rb.c 5
  simp at c11 c5
  rw [h.wj.ov, ho] at c11
  obtain ⟨hmbN, arr, ha, hsz, hr⟩ := h.wj.met
  have hcell : w.cell? ⟨M.mb, i, none⟩ = some (.bool false) := by rw [Joins.cell_of_block ha, hr i hlt]; simp [hm]
  have hfz : w.frozen? ⟨M.mb, i, none⟩ = false := Joins.unfrozen_of_block ha i
  obtain ⟨hJ1, hC1⟩ := h.wj.mark hlt hm
  have hsmall := h.inv.small
  have hfsv := h.wj.fs
  have hfsl : M.fs ≤ 100000020000 := by have := h.sm; omega
  obtain ⟨W1, hW1⟩ : ∃ W1, W1 = w.setCell ⟨M.mb, i, none⟩ (.bool true) := ⟨_, rfl⟩
  have hrb1 : RB W1 b M := by rw [hW1]; exact h.wj.rb.kept (Below.heap_setCell _ _ _ _ (fun e => h.wj.bm e.symm))
  have k10 := hrb1.c 10
  have u10 := hrb1.u 10
  simp at k10
  have hrb0 := hJ1.rb
  obtain ⟨W2, hW2⟩ : ∃ W2, W2 = W1.setCell ⟨b, 10, none⟩ (.int .i64 ((M.fs + 1 : Nat) : Int)) := ⟨_, rfl⟩
  rw [← hW1, ← hW2] at hJ1 hC1 hrb0
  have k0 := hrb0.c 0
  simp at k0
  obtain ⟨pb, po, r1, r2, r3, hpa, hpr, hcs⟩ := inst_pi hJ1.pi hlt
  obtain ⟨⟨m0, m1, m2, m3, m4⟩, _⟩ := hcs W2 (Below.refl _ _)
  have hpa' : M.ad = some ⟨pb, po, none⟩ := hpa
  rw [hpa'] at k0
  have a10 : IntKind.i64.wrap ((M.fs : Int) + 1) = ((M.fs + 1 : Nat) : Int) := by rw [wrap_ok _ (by omega) (by omega)]; omega
  have b2 : (i : Int) < (M.n : Int) := by omega
  have hlen : ((s.mark i).met).length = s.met.length + 1 := by simp [Vst.mark]
  have HLEN := hid hlen
  have HIV := hid (h.inv.mark hlt hm)
  have HJ1 := hid hJ1
  have HC1 := hid hC1
  have HH := hid h
  have HCS := hid hcs
  have HPR := hid hpr
  have HOP := hid hop
  have HOK := hid hok
  have HW1 := hid hW1
  have HW2 : Hid (W2 = W1.setCell ⟨b, 10, none⟩ (.int .i64 ((M.fs : Int) + 1))) := by show W2 = _; rw [hW2, show ((M.fs + 1 : Nat) : Int) = (M.fs : Int) + 1 by omega]
  have hJV := fun (o : Obj) => hJ1.kept (w' := W2.alloc o) (Joins.below_alloc1 W2 o)
  have HJV := hid hJV
  clear h hJ1 hC1 hcs hpr hop hok hW1 hW2 ha hsz hr hrb1 hrb0 hpa hln hlen e1 hsmall hfsv hfsl hJV
  obtain ⟨Mn, hMn⟩ : ∃ Mn, Mn = M.n := ⟨_, rfl⟩
  obtain ⟨Mm, hMm⟩ : ∃ Mm, Mm = M.mb := ⟨_, rfl⟩
  have HMM := hid hMm
  rw [← hMn] at c5 k0 b2
  rw [← hMm] at c5 hcell hfz HW1
  clear hMn hMm hpa'
  have htl : M.tn = tx.length := HH.out.wj.tt.1
  clear hxe hh
  go_enter Try.func25, Try.ntmps25
  go_upto_region 2 with fail
  rw [← HW1.out]
  clear HW1 hcell hfz c11 c5
  go_upto_region 3 with fail
  rw [← HW2.out]
  clear HW2 k10 u10 a10
  go_upto_region 4 with fail
  obtain ⟨V, hV⟩ : ∃ V, V = W2.alloc (.cells #[.int .i64 l[i].op, .int .i64 l[i].x, .int .i64 l[i].y, .int .i64 l[i].a, .slice r1 r2 r3] 49) := ⟨_, rfl⟩
  rw [← hV]
  have hbV : Below W2.heap.size W2 V := by rw [hV]; exact Joins.below_alloc1 W2 _
  have hY : V.heap[W2.heap.size]? = some (.cells #[.int .i64 l[i].op, .int .i64 l[i].x, .int .i64 l[i].y, .int .i64 l[i].a, .slice r1 r2 r3] 49 (0, 0)) := by rw [hV]; exact heap_alloc_new W2 _
  have HJ : Hid (WJ V N b B0 l tx { M with fs := M.fs + 1 } (s.mark i) E) := HJ1.out.kept hbV
  have HC : Hid (Chg w V (UF b M) (UF b { M with fs := M.fs + 1 })) := HC1.out.trans (Chg.of_below hbV)
  have HWC : Hid (∀ i', i' < l.length → WC K N b B0 l tx V { M with fs := M.fs + 1 } (s.mark i) E i' c cb cp) := fun i' hi' => HH.out.next HJ.out rfl HC.out HIV.out hi'
  have HBV : Hid (Below N W2 V) := hbV.mono HJ1.out.nw
  obtain ⟨y, hy⟩ : ∃ y, y = W2.heap.size := ⟨_, rfl⟩
  rw [← hy] at hY ⊢
  obtain ⟨v0, v1, v2, v3, v4⟩ := five hY
  rw [HOP.out] at v0
  have HY := hid hY
  have hyV : y < V.heap.size := (Array.getElem?_eq_some_iff.1 hY).1
  clear hV hbV hY hy m0 m1 m2 m3 m4 k0 HJV
  have q3 := HJ.out.rb.c 3
  have q4 := HJ.out.rb.c 4
  simp at q3 q4
  have g1 : decide ((M.j : Int) < (M.tn : Int)) = false := by simp; omega
  have g2 : ¬ ((M.j : Int) < (M.tn : Int)) := by omega
  generalize hMt : M.tad = tad at q3
  generalize hMn : M.tn = tn at q3 g1 g2
  generalize hMc : M.tc = tc at q3
  clear hMt hMn hMc htl he
  go_upto_region 20 with fail
  go_quiet (fail)
  obtain ⟨V2, hV2⟩ : ∃ V2, V2 = V.drewN nq := ⟨_, rfl⟩
  rw [← hV2]
  have hE2 : Eqw V V2 := by rw [hV2]; exact Eqw.drewN V nq
  have hb2 : Below V.heap.size V V2 := hE2.below _
  have HJ2 := hid (HJ.out.kept hb2)
  have HC2 : Hid (Chg w V2 (UF b M) (UF b { M with fs := M.fs + 1 })) := HC.out.trans (Chg.of_below hb2)
  clear hV2 hE2 hb2 v0 v1 v2 v3 v4 q3 q4
  go_wp2
  go_end0
  exact ⟨rfl, _, E, HJ2.out, rfl, HC2.out⟩
set_option maxRecDepth 100000 in
set_option maxHeartbeats 8000000 in
theorem rvisit_rune_f {K N b B0 : Nat} {l : List In} {tx : List Int} {w : World} {M : Rv} {s : Vst} {E : List Ef} {i : Nat} {c : List Int} {cb cp : Nat} {S : Int} (hmay : mayB l S (K : Int) = true) (f : Nat) (ih : Hid (WIH K N b B0 l tx f)) (h : WC K N b B0 l tx w M s E i c cb cp) (hf : l.length < f + 1 + s.met.length) (ho : s.over = false) (hm : i ∉ s.met) (hlt : i < l.length) (hop : l[i].op = 1) (hh : (decide (M.j < tx.length) && hsB l[i].R (tx.getD M.j 0)) = false) (he : M.j < tx.length) :
    Calls Try.prog 25 #[.pointer (some ⟨b, 0, none⟩), .int .i64 (i : Int), .slice (some ⟨cb, 0, none⟩) K cp] w (WP N b B0 l tx w M (vis (act l tx M.j) M.j (f + 1) i c s)) := by
  have hmo := may_ok hmay
  have hm20 := hmo.1
  have hok := hmo.2.2.2.2.2 _ (List.getElem_mem hlt)
  have hKs : 2 ≤ K ∧ K ≤ 1002 := by omega
  clear hmo
  have hx := ok_x hok (by rw [hop]; rfl)
  obtain ⟨x, hxe⟩ := Int.eq_ofNat_of_zero_le hx.1
  have hxl : x < l.length := by omega
  have HXE := hid hxe
  have e1 : vis (act l tx M.j) M.j (f + 1) i c s = s.mark i := by
    rw [vis_step ho hm]
    have : act l tx M.j i = .stop := by unfold act actI; rw [getD_in' hlt, hop, hh]; simp
    rw [this]
  rw [e1]
  have hln := h.wj.pi.len
  have c11 := h.wj.rb.c 11
  have c5 := h.wj.rb.c 5
  simp at c11 c5
  rw [h.wj.ov, ho] at c11
  obtain ⟨hmbN, arr, ha, hsz, hr⟩ := h.wj.met
  have hcell : w.cell? ⟨M.mb, i, none⟩ = some (.bool false) := by rw [Joins.cell_of_block ha, hr i hlt]; simp [hm]
  have hfz : w.frozen? ⟨M.mb, i, none⟩ = false := Joins.unfrozen_of_block ha i
  obtain ⟨hJ1, hC1⟩ := h.wj.mark hlt hm
  have hsmall := h.inv.small
  have hfsv := h.wj.fs
  have hfsl : M.fs ≤ 100000020000 := by have := h.sm; omega
  obtain ⟨W1, hW1⟩ : ∃ W1, W1 = w.setCell ⟨M.mb, i, none⟩ (.bool true) := ⟨_, rfl⟩
  have hrb1 : RB W1 b M := by rw [hW1]; exact h.wj.rb.kept (Below.heap_setCell _ _ _ _ (fun e => h.wj.bm e.symm))
  have k10 := hrb1.c 10
  have u10 := hrb1.u 10
  simp at k10
  have hrb0 := hJ1.rb
  obtain ⟨W2, hW2⟩ : ∃ W2, W2 = W1.setCell ⟨b, 10, none⟩ (.int .i64 ((M.fs + 1 : Nat) : Int)) := ⟨_, rfl⟩
  rw [← hW1, ← hW2] at hJ1 hC1 hrb0
  have k0 := hrb0.c 0
  simp at k0
  obtain ⟨pb, po, r1, r2, r3, hpa, hpr, hcs⟩ := inst_pi hJ1.pi hlt
  obtain ⟨⟨m0, m1, m2, m3, m4⟩, _⟩ := hcs W2 (Below.refl _ _)
  have hpa' : M.ad = some ⟨pb, po, none⟩ := hpa
  rw [hpa'] at k0
  have a10 : IntKind.i64.wrap ((M.fs : Int) + 1) = ((M.fs + 1 : Nat) : Int) := by rw [wrap_ok _ (by omega) (by omega)]; omega
  have b2 : (i : Int) < (M.n : Int) := by omega
  have hlen : ((s.mark i).met).length = s.met.length + 1 := by simp [Vst.mark]
  have HLEN := hid hlen
  have HIV := hid (h.inv.mark hlt hm)
  have HJ1 := hid hJ1
  have HC1 := hid hC1
  have HH := hid h
  have HCS := hid hcs
  have HPR := hid hpr
  have HOP := hid hop
  have HOK := hid hok
  have HW1 := hid hW1
  have HW2 : Hid (W2 = W1.setCell ⟨b, 10, none⟩ (.int .i64 ((M.fs : Int) + 1))) := by show W2 = _; rw [hW2, show ((M.fs + 1 : Nat) : Int) = (M.fs : Int) + 1 by omega]
  have hJV := fun (o : Obj) => hJ1.kept (w' := W2.alloc o) (Joins.below_alloc1 W2 o)
  have HJV := hid hJV
  clear h hJ1 hC1 hcs hpr hop hok hW1 hW2 ha hsz hr hrb1 hrb0 hpa hln hlen e1 hsmall hfsv hfsl hJV
  obtain ⟨Mn, hMn⟩ : ∃ Mn, Mn = M.n := ⟨_, rfl⟩
  obtain ⟨Mm, hMm⟩ : ∃ Mm, Mm = M.mb := ⟨_, rfl⟩
  have HMM := hid hMm
  rw [← hMn] at c5 k0 b2
  rw [← hMm] at c5 hcell hfz HW1
  clear hMn hMm hpa'
  have htl : M.tn = tx.length := HH.out.wj.tt.1
  have hb0 : hsB l[i].R (tx.getD M.j 0) = false := by simpa [he] using hh
  have hright : rightB l[i].R = true := ok_R HOK.out HOP.out
  have hr5 : r2 ≤ 5000 := by rw [HPR.out]; unfold rightB at hright; simp at hright; exact hright.1
  have HB0 := hid hb0
  clear hxe hh hb0 hright
  go_enter Try.func25, Try.ntmps25
  go_upto_region 2 with fail
  rw [← HW1.out]
  clear HW1 hcell hfz c11 c5
  go_upto_region 3 with fail
  rw [← HW2.out]
  clear HW2 k10 u10 a10
  go_upto_region 4 with fail
  obtain ⟨V, hV⟩ : ∃ V, V = W2.alloc (.cells #[.int .i64 l[i].op, .int .i64 l[i].x, .int .i64 l[i].y, .int .i64 l[i].a, .slice r1 r2 r3] 49) := ⟨_, rfl⟩
  rw [← hV]
  have hbV : Below W2.heap.size W2 V := by rw [hV]; exact Joins.below_alloc1 W2 _
  have hY : V.heap[W2.heap.size]? = some (.cells #[.int .i64 l[i].op, .int .i64 l[i].x, .int .i64 l[i].y, .int .i64 l[i].a, .slice r1 r2 r3] 49 (0, 0)) := by rw [hV]; exact heap_alloc_new W2 _
  have HJ : Hid (WJ V N b B0 l tx { M with fs := M.fs + 1 } (s.mark i) E) := HJ1.out.kept hbV
  have HC : Hid (Chg w V (UF b M) (UF b { M with fs := M.fs + 1 })) := HC1.out.trans (Chg.of_below hbV)
  have HWC : Hid (∀ i', i' < l.length → WC K N b B0 l tx V { M with fs := M.fs + 1 } (s.mark i) E i' c cb cp) := fun i' hi' => HH.out.next HJ.out rfl HC.out HIV.out hi'
  have HBV : Hid (Below N W2 V) := hbV.mono HJ1.out.nw
  obtain ⟨y, hy⟩ : ∃ y, y = W2.heap.size := ⟨_, rfl⟩
  rw [← hy] at hY ⊢
  obtain ⟨v0, v1, v2, v3, v4⟩ := five hY
  rw [HOP.out] at v0
  have HY := hid hY
  have hyV : y < V.heap.size := (Array.getElem?_eq_some_iff.1 hY).1
  clear hV hbV hY hy m0 m1 m2 m3 m4 k0 HJV
  rw [HXE.out] at v1
  have q3 := HJ.out.rb.c 3
  have q4 := HJ.out.rb.c 4
  simp at q3 q4
  have g1 : decide ((M.j : Int) < (M.tn : Int)) = true := by simp; omega
  have g2 : (M.j : Int) < (M.tn : Int) := by omega
  have g3 : (0 : Int) ≤ (M.j : Int) := by omega
  obtain ⟨tb, tof, htad, htbN, htc⟩ : ∃ tb tof, M.tad = some ⟨tb, tof, none⟩ ∧ tb < N ∧ V.cell? ⟨tb, tof + M.j, none⟩ = some (.int .i64 (tx.getD M.j 0)) := by
    obtain ⟨_, _, h0 | ⟨tb, tof, h1, h2, h3⟩⟩ := HJ.out.tt
    · have : M.tn = 0 := h0
      omega
    · exact ⟨tb, tof, h1, h2, h3 M.j (by show M.j < M.tn; omega)⟩
  have htbV : tb < V.heap.size := by have := HJ.out.nw; omega
  rw [htad] at q3
  obtain ⟨rn, hrn⟩ : ∃ rn, rn = tx.getD M.j 0 := ⟨_, rfl⟩
  rw [← hrn] at htc HB0
  have hbV : b < V.heap.size := HJ.out.rb.lt
  have HHS : Hid (∀ W, Eqw V W → Calls Try.prog 39 #[.slice r1 r2 r3, .int .i64 rn] W fun e w' => e = .returned (.bool (hsB l[i].R rn)) ∧ Below V.heap.size V w') := fun W e => by
    have hrow := (HCS.out W (HBV.out.trans (e.below _))).2
    refine (has56 l[i].R rn r1 r2 r3 W HPR.out (by omega) (hrow.below (Below.refl _ _) (Nat.le_refl _) (by have := HJ.out.nw; rw [e.heap]; exact this))).mono ?_
    rintro e2 w' ⟨h1, h2⟩
    exact ⟨h1, (e.below _).trans (by have := h2; rw [e.heap] at this; exact this)⟩
  rw [HB0.out] at HHS
  have HQ3 := hid q3
  have HQ4 := hid q4
  have HV4 := hid v4
  have HV1 := hid v1
  have HTC := hid htc
  generalize hMn : M.tn = tn at q3 HQ3 g1 g2
  generalize hMc : M.tc = tc at q3 HQ3
  generalize hMj : M.j = mj at q4 HQ4 g1 g2 g3 htc HTC
  clear hMn hMc hMj htl he hrn htad
  go_upto_region 20 with fail
  go_region_held3 (fun W => W.cell? ⟨b, 3, none⟩ = some (.slice (some ⟨tb, tof, none⟩) tn tc) ∧ W.cell? ⟨b, 4, none⟩ = some (.int .i64 (mj : Int)) ∧ W.cell? ⟨y, 4, none⟩ = some (.slice r1 r2 r3) ∧ W.cell? ⟨tb, tof + mj, none⟩ = some (.int .i64 rn)) (first | (exact ⟨s0, s1, s2, s3⟩) | (simp [*]; done)) (first | (go_at_call 39; (with_reducible refine (HHS.out _ (by exact ⟨rfl, rfl, rfl, rfl⟩)).mono ?_); rintro e w2 ⟨rfl, hb2⟩; have s0 := (cell_eq (hb2.block b hbV) _).trans HQ3.out; have s1 := (cell_eq (hb2.block b hbV) _).trans HQ4.out; have s2 := (cell_eq (hb2.block y hyV) _).trans HV4.out; have s3 := (cell_eq (hb2.block tb htbV) _).trans HTC.out; have HB2 := hid hb2; clear hb2))
  clear v0 v1 v2 v3 v4 q3 q4 htc s0 s1 s2 s3 HHS HQ3 HQ4 HV4 HTC
  go_wp2
  go_end0
  exact ⟨rfl, _, E, HJ.out.kept HB2.out, rfl, HC.out.trans (Chg.of_below HB2.out)⟩
set_option maxRecDepth 100000 in
set_option maxHeartbeats 8000000 in
theorem rvisit_rune_t {K N b B0 : Nat} {l : List In} {tx : List Int} {w : World} {M : Rv} {s : Vst} {E : List Ef} {i : Nat} {c : List Int} {cb cp : Nat} {S : Int} (hmay : mayB l S (K : Int) = true) (f : Nat) (ih : Hid (WIH K N b B0 l tx f)) (h : WC K N b B0 l tx w M s E i c cb cp) (hf : l.length < f + 1 + s.met.length) (ho : s.over = false) (hm : i ∉ s.met) (hlt : i < l.length) (hop : l[i].op = 1) (hh : (decide (M.j < tx.length) && hsB l[i].R (tx.getD M.j 0)) = true) (he : M.j < tx.length) :
    Calls Try.prog 25 #[.pointer (some ⟨b, 0, none⟩), .int .i64 (i : Int), .slice (some ⟨cb, 0, none⟩) K cp] w (WP N b B0 l tx w M (vis (act l tx M.j) M.j (f + 1) i c s)) := by
  have hmo := may_ok hmay
  have hm20 := hmo.1
  have hok := hmo.2.2.2.2.2 _ (List.getElem_mem hlt)
  have hKs : 2 ≤ K ∧ K ≤ 1002 := by omega
  clear hmo
  have hx := ok_x hok (by rw [hop]; rfl)
  obtain ⟨x, hxe⟩ := Int.eq_ofNat_of_zero_le hx.1
  have hxl : x < l.length := by omega
  have HXE := hid hxe
  have e1 : vis (act l tx M.j) M.j (f + 1) i c s = { s.mark i with next := s.next ++ [(x, c)] } := by
    rw [vis_step ho hm]
    have : act l tx M.j i = .rune x := by unfold act actI; rw [getD_in' hlt, hop, hh]; simp [hxe]
    rw [this]
  rw [e1]
  have hln := h.wj.pi.len
  have c11 := h.wj.rb.c 11
  have c5 := h.wj.rb.c 5
  simp at c11 c5
  rw [h.wj.ov, ho] at c11
  obtain ⟨hmbN, arr, ha, hsz, hr⟩ := h.wj.met
  have hcell : w.cell? ⟨M.mb, i, none⟩ = some (.bool false) := by rw [Joins.cell_of_block ha, hr i hlt]; simp [hm]
  have hfz : w.frozen? ⟨M.mb, i, none⟩ = false := Joins.unfrozen_of_block ha i
  obtain ⟨hJ1, hC1⟩ := h.wj.mark hlt hm
  have hsmall := h.inv.small
  have hfsv := h.wj.fs
  have hfsl : M.fs ≤ 100000020000 := by have := h.sm; omega
  obtain ⟨W1, hW1⟩ : ∃ W1, W1 = w.setCell ⟨M.mb, i, none⟩ (.bool true) := ⟨_, rfl⟩
  have hrb1 : RB W1 b M := by rw [hW1]; exact h.wj.rb.kept (Below.heap_setCell _ _ _ _ (fun e => h.wj.bm e.symm))
  have k10 := hrb1.c 10
  have u10 := hrb1.u 10
  simp at k10
  have hrb0 := hJ1.rb
  obtain ⟨W2, hW2⟩ : ∃ W2, W2 = W1.setCell ⟨b, 10, none⟩ (.int .i64 ((M.fs + 1 : Nat) : Int)) := ⟨_, rfl⟩
  rw [← hW1, ← hW2] at hJ1 hC1 hrb0
  have k0 := hrb0.c 0
  simp at k0
  obtain ⟨pb, po, r1, r2, r3, hpa, hpr, hcs⟩ := inst_pi hJ1.pi hlt
  obtain ⟨⟨m0, m1, m2, m3, m4⟩, _⟩ := hcs W2 (Below.refl _ _)
  have hpa' : M.ad = some ⟨pb, po, none⟩ := hpa
  rw [hpa'] at k0
  have a10 : IntKind.i64.wrap ((M.fs : Int) + 1) = ((M.fs + 1 : Nat) : Int) := by rw [wrap_ok _ (by omega) (by omega)]; omega
  have b2 : (i : Int) < (M.n : Int) := by omega
  have hlen : ((s.mark i).met).length = s.met.length + 1 := by simp [Vst.mark]
  have HLEN := hid hlen
  have HIV := hid (h.inv.mark hlt hm)
  have HJ1 := hid hJ1
  have HC1 := hid hC1
  have HH := hid h
  have HCS := hid hcs
  have HPR := hid hpr
  have HOP := hid hop
  have HOK := hid hok
  have HW1 := hid hW1
  have HW2 : Hid (W2 = W1.setCell ⟨b, 10, none⟩ (.int .i64 ((M.fs : Int) + 1))) := by show W2 = _; rw [hW2, show ((M.fs + 1 : Nat) : Int) = (M.fs : Int) + 1 by omega]
  have hJV := fun (o : Obj) => hJ1.kept (w' := W2.alloc o) (Joins.below_alloc1 W2 o)
  have HJV := hid hJV
  clear h hJ1 hC1 hcs hpr hop hok hW1 hW2 ha hsz hr hrb1 hrb0 hpa hln hlen e1 hsmall hfsv hfsl hJV
  obtain ⟨Mn, hMn⟩ : ∃ Mn, Mn = M.n := ⟨_, rfl⟩
  obtain ⟨Mm, hMm⟩ : ∃ Mm, Mm = M.mb := ⟨_, rfl⟩
  have HMM := hid hMm
  rw [← hMn] at c5 k0 b2
  rw [← hMm] at c5 hcell hfz HW1
  clear hMn hMm hpa'
  have htl : M.tn = tx.length := HH.out.wj.tt.1
  have hb0 : hsB l[i].R (tx.getD M.j 0) = true := by simpa [he] using hh
  have hright : rightB l[i].R = true := ok_R HOK.out HOP.out
  have hr5 : r2 ≤ 5000 := by rw [HPR.out]; unfold rightB at hright; simp at hright; exact hright.1
  have HB0 := hid hb0
  clear hxe hh hb0 hright
  have hnl : s.next.length < 20000 := by have := HIV.out.small; have := HIV.out.le; have := HLEN.out; have : ((s.mark i).next).length = s.next.length := rfl; have := HH.out.inv.le; omega
  go_enter Try.func25, Try.ntmps25
  go_upto_region 2 with fail
  rw [← HW1.out]
  clear HW1 hcell hfz c11 c5
  go_upto_region 3 with fail
  rw [← HW2.out]
  clear HW2 k10 u10 a10
  go_upto_region 4 with fail
  obtain ⟨V, hV⟩ : ∃ V, V = W2.alloc (.cells #[.int .i64 l[i].op, .int .i64 l[i].x, .int .i64 l[i].y, .int .i64 l[i].a, .slice r1 r2 r3] 49) := ⟨_, rfl⟩
  rw [← hV]
  have hbV : Below W2.heap.size W2 V := by rw [hV]; exact Joins.below_alloc1 W2 _
  have hY : V.heap[W2.heap.size]? = some (.cells #[.int .i64 l[i].op, .int .i64 l[i].x, .int .i64 l[i].y, .int .i64 l[i].a, .slice r1 r2 r3] 49 (0, 0)) := by rw [hV]; exact heap_alloc_new W2 _
  have HJ : Hid (WJ V N b B0 l tx { M with fs := M.fs + 1 } (s.mark i) E) := HJ1.out.kept hbV
  have HC : Hid (Chg w V (UF b M) (UF b { M with fs := M.fs + 1 })) := HC1.out.trans (Chg.of_below hbV)
  have HWC : Hid (∀ i', i' < l.length → WC K N b B0 l tx V { M with fs := M.fs + 1 } (s.mark i) E i' c cb cp) := fun i' hi' => HH.out.next HJ.out rfl HC.out HIV.out hi'
  have HBV : Hid (Below N W2 V) := hbV.mono HJ1.out.nw
  obtain ⟨y, hy⟩ : ∃ y, y = W2.heap.size := ⟨_, rfl⟩
  rw [← hy] at hY ⊢
  obtain ⟨v0, v1, v2, v3, v4⟩ := five hY
  rw [HOP.out] at v0
  have HY := hid hY
  have hyV : y < V.heap.size := (Array.getElem?_eq_some_iff.1 hY).1
  clear hV hbV hY hy m0 m1 m2 m3 m4 k0 HJV
  rw [HXE.out] at v1
  have q3 := HJ.out.rb.c 3
  have q4 := HJ.out.rb.c 4
  simp at q3 q4
  have g1 : decide ((M.j : Int) < (M.tn : Int)) = true := by simp; omega
  have g2 : (M.j : Int) < (M.tn : Int) := by omega
  have g3 : (0 : Int) ≤ (M.j : Int) := by omega
  obtain ⟨tb, tof, htad, htbN, htc⟩ : ∃ tb tof, M.tad = some ⟨tb, tof, none⟩ ∧ tb < N ∧ V.cell? ⟨tb, tof + M.j, none⟩ = some (.int .i64 (tx.getD M.j 0)) := by
    obtain ⟨_, _, h0 | ⟨tb, tof, h1, h2, h3⟩⟩ := HJ.out.tt
    · have : M.tn = 0 := h0
      omega
    · exact ⟨tb, tof, h1, h2, h3 M.j (by show M.j < M.tn; omega)⟩
  have htbV : tb < V.heap.size := by have := HJ.out.nw; omega
  rw [htad] at q3
  obtain ⟨rn, hrn⟩ : ∃ rn, rn = tx.getD M.j 0 := ⟨_, rfl⟩
  rw [← hrn] at htc HB0
  have hbV : b < V.heap.size := HJ.out.rb.lt
  have HHS : Hid (∀ W, Eqw V W → Calls Try.prog 39 #[.slice r1 r2 r3, .int .i64 rn] W fun e w' => e = .returned (.bool (hsB l[i].R rn)) ∧ Below V.heap.size V w') := fun W e => by
    have hrow := (HCS.out W (HBV.out.trans (e.below _))).2
    refine (has56 l[i].R rn r1 r2 r3 W HPR.out (by omega) (hrow.below (Below.refl _ _) (Nat.le_refl _) (by have := HJ.out.nw; rw [e.heap]; exact this))).mono ?_
    rintro e2 w' ⟨h1, h2⟩
    exact ⟨h1, (e.below _).trans (by have := h2; rw [e.heap] at this; exact this)⟩
  rw [HB0.out] at HHS
  have HQ3 := hid q3
  have HQ4 := hid q4
  have HV4 := hid v4
  have HV1 := hid v1
  have HTC := hid htc
  generalize hMn : M.tn = tn at q3 HQ3 g1 g2
  generalize hMc : M.tc = tc at q3 HQ3
  generalize hMj : M.j = mj at q4 HQ4 g1 g2 g3 htc HTC
  clear hMn hMc hMj htl he hrn htad
  go_upto_region 20 with fail
  go_region_held3 (fun W => W.cell? ⟨b, 3, none⟩ = some (.slice (some ⟨tb, tof, none⟩) tn tc) ∧ W.cell? ⟨b, 4, none⟩ = some (.int .i64 (mj : Int)) ∧ W.cell? ⟨y, 4, none⟩ = some (.slice r1 r2 r3) ∧ W.cell? ⟨tb, tof + mj, none⟩ = some (.int .i64 rn)) (first | (exact ⟨s0, s1, s2, s3⟩) | (simp [*]; done)) (first | (go_at_call 39; (with_reducible refine (HHS.out _ (by exact ⟨rfl, rfl, rfl, rfl⟩)).mono ?_); rintro e w2 ⟨rfl, hb2⟩; have s0 := (cell_eq (hb2.block b hbV) _).trans HQ3.out; have s1 := (cell_eq (hb2.block b hbV) _).trans HQ4.out; have s2 := (cell_eq (hb2.block y hyV) _).trans HV4.out; have s3 := (cell_eq (hb2.block tb htbV) _).trans HTC.out; have HB2 := hid hb2; clear hb2))
  clear v0 v2 v3 v4 q3 q4 htc s0 s1 s2 s3 HHS HQ3 HQ4 HV4 HTC
  have HJ2 := hid (HJ.out.kept HB2.out)
  have HC2 : Hid (Chg w w2 (UF b M) (UF b { M with fs := M.fs + 1 })) := HC.out.trans (Chg.of_below HB2.out)
  have t1 := (cell_eq (HB2.out.block y hyV) 1).trans v1
  have t6 := HJ2.out.rb.c 6
  simp at t6
  have HT1 := hid t1
  have HT6 := hid t6
  have hcap2 := (HH.out.next HJ2.out rfl HC2.out HIV.out hlt).cap
  have HCAP := hid hcap2
  have hrow2 := HJ2.out.row.row
  rw [show (({ M with fs := M.fs + 1 } : Rv)).K = K from HH.out.hK] at hrow2
  have HROW := hid hrow2
  have hn2 : M.n2 < 20000 := by have h1 := HJ2.out.row.len; have h2 := HJ2.out.nx; have h3 := congrArg List.length h2; simp at h3; have h4 : ((s.mark i).next).length = s.next.length := rfl; have h5 : M.n2 = E.length := h1; omega
  have hNw2 := HJ2.out.nw
  have hbw2 := HJ2.out.rb.lt
  have hyw2 := lt_of_cell t1
  have hzb : (Value.slice M.z M.n2 M.c2).ownBlock ≠ some b := fun e => (HJ2.out.zb b (by simp [zF, e])).1 rfl
  obtain ⟨i2, hi2, hz20, hz21, hz22⟩ := info_parts info69
  clear v1 hcap2 hrow2
  generalize hz : M.z = z at t6 HT6 HROW hzb
  generalize hn : M.n2 = n2 at t6 HT6 HROW hn2 hzb
  generalize hc2 : M.c2 = c2 at t6 HT6 HROW hzb
  have HZ := hid hz
  have HN := hid hn
  have HC0 := hid hc2
  clear hz hn hc2
  go_upto_region 22 with fail
  refine wp_region_lex 9 13 (fun W => W.cell? ⟨b, 6, none⟩ = some (.slice z n2 c2) ∧ W.cell? ⟨y, 1, none⟩ = some (.int .i64 (x : Int))) (by kernel_rfl) (by kernel_rfl) (by decide) (by kernel_rfl) (by kernel_rfl) ⟨by simpa using t6, by simpa using t1⟩ ?_
  simp only [List.take_succ_cons, List.take_zero, List.drop_succ_cons, List.drop_zero]
  iterate 9
    refine lex_cons ?_ rfl (fun W hW => ?_) (fun _ _ _ h => h) ?_
    rotate_left
    · obtain ⟨s0, s1⟩ := hW
      go_simp <;> with_reducible rfl
    simp only [Act.put, List.setIfInBounds_toArray, List.set_cons_zero, List.set_cons_succ]
  refine lex_nil (tail_cons fun KK hKK => ?_)
  go_simp
  have hz10 : (w2.drew.alloc (.cells #[.int .i64 (x : Int), .slice (some ⟨cb, 0, none⟩) K cp] 69)).cell? ⟨b, 6, none⟩ = some (.slice z n2 c2) ∧ (w2.drew.alloc (.cells #[.int .i64 (x : Int), .slice (some ⟨cb, 0, none⟩) K cp] 69)).cell? ⟨y, 1, none⟩ = some (.int .i64 (x : Int)) := by
    rw [World.cell?_alloc_lt _ _ _ (show b < w2.drew.heap.size from hbw2), World.cell?_alloc_lt _ _ _ (show y < w2.drew.heap.size from hyw2)]
    exact ⟨HT6.out, HT1.out⟩
  refine hKK.out _ _ (fun _ => hz10) (tail_cons fun KK hKK => ?_)
  have HO : Hid ((w2.drew.alloc (.cells #[.int .i64 (x : Int), .slice (some ⟨cb, 0, none⟩) K cp] 69)).ownsRow N 69 2 (.slice z n2 c2) n2 (cellsF K E)) := (show w2.drew.ownsRow N 69 2 (.slice z n2 c2) n2 (cellsF K E) from HROW.out).alloc _
  refine step_append_row rfl (.tmp 139) (.tmp 144) 65 rfl N 69 i2 (.agg #[.int .i64 0, .slice none 0 0]) 2 32 Try.underlying65 hi2 hz20 hz21 hz22 rfl (by decide) (.slice z n2 c2) n2 (cellsF K E) (by simp [Act.eval, Act.put]) (by exact HO.out) w2.drew.heap.size 1 1 #[.int .i64 (x : Int), .slice (some ⟨cb, 0, none⟩) K cp] 69 (by simp [Act.eval, Act.put]) (by exact heap_alloc_new w2.drew _) rfl (by decide) (by simp [Value.oneCell']) (by unfold maxLen; omega) (by omega) (by (try simp) <;> omega) ?_
  intro v3 w3 ho3 hf3
  obtain ⟨y1, y3, rfl, _⟩ := row_shape ho3.out
  have e3 : w3.heap[b]? = w2.heap[b]? := (hf3.out.block b (by (try simp) <;> omega) hzb).trans (heap_alloc_old w2.drew _ hbw2)
  have ey : w3.heap[y]? = w2.heap[y]? := (hf3.out.block y (by (try simp) <;> omega) (own_ne HROW.out ((HB2.out.block y hyV).trans HY.out) (by decide))).trans (heap_alloc_old w2.drew _ hyw2)
  have q6 : w3.cell? ⟨b, 6, none⟩ = some (.slice z n2 c2) ∧ w3.cell? ⟨y, 1, none⟩ = some (.int .i64 (x : Int)) := ⟨(cell_eq e3 _).trans HT6.out, (cell_eq ey _).trans HT1.out⟩
  have q6' := q6.1
  have u6 := (HJ2.out.rb.kept e3).u 6
  clear e3 ey
  refine hKK.out _ _ (fun _ => q6) (tail_cons fun KK hKK => ?_)
  simp only [Act.put, List.setIfInBounds_toArray, List.set_cons_zero, List.set_cons_succ]
  go_simp
  refine hKK.out _ _ (fun _ => q6) (tail_cons fun KK hKK => ?_)
  simp only [Act.put, List.setIfInBounds_toArray, List.set_cons_zero, List.set_cons_succ]
  go_simp
  refine hKK.out _ _ (fun _ => q6) (tail_cons fun KK hKK => ?_)
  simp only [Act.put, List.setIfInBounds_toArray, List.set_cons_zero, List.set_cons_succ]
  go_simp
  refine hKK.out _ _ (fun h => absurd rfl h) (tail_nil ?_)
  have hfin : WP N b B0 l tx w M { s.mark i with next := s.next ++ [(x, c)] } (.returned (.tuple #[])) (w3.setCell ⟨b, 6, none⟩ (.slice y1 (n2 + 1) y3)) := by
    have hn' : M.n2 = n2 := HN.out
    have hz' : M.z = z := HZ.out
    have hc' : M.c2 = c2 := HC0.out
    subst hn' hz' hc'
    obtain ⟨p1, p2⟩ := HJ2.out.put (V := w2.drew.alloc (.cells #[.int .i64 (x : Int), .slice (some ⟨cb, 0, none⟩) K cp] 69)) (w7 := w3) (y1 := y1) (y3 := y3) (x := x) (cb := cb) (cq := cp) (c := c) (((Eqw.drew w2).below w2.heap.size).trans (Joins.below_alloc1 w2.drew _)) hf3.out (by show w3.ownsRow N 69 2 _ _ (cellsF M.K E ++ Ef.cs M.K ⟨x, cb, cp, c⟩); rw [HH.out.hK]; exact ho3.out) (by show w2.ownsRow N 3 1 (.slice _ M.K cp) M.K _; rw [HH.out.hK]; exact HCAP.out)
    exact ⟨rfl, _, _, p1, rfl, HC2.out.trans p2⟩
  have HFIN := hid hfin
  clear hfin q6 q6' u6 ho3 hf3 HO hz10 hKK t1 t6
  go_wp2
  go_end0
  exact HFIN.out
/-- a visit, of whatever instruction -/
theorem visit25 {K N b B0 : Nat} {l : List In} {tx : List Int} {S : Int} (hmay : mayB l S (K : Int) = true) : ∀ f, WIH K N b B0 l tx f := by
  intro f
  induction f with
  | zero => intro i c s w M E cb cp h hf; have := h.inv.small; omega
  | succ f ih =>
    intro i c s w M E cb cp h hf
    cases ho : s.over
    · by_cases hm : i ∈ s.met
      · exact rvisit_old f h ho hm
      · have hlt := h.lt
        have hok := (may_ok hmay).2.2.2.2.2 _ (List.getElem_mem hlt)
        rcases ok_op hok with hp | hp | hp | hp | hp | hp | hp
        · by_cases he : M.j < tx.length
          · cases hh : (decide (M.j < tx.length) && hsB l[i].R (tx.getD M.j 0))
            · exact rvisit_rune_f hmay f ih h hf ho hm hlt hp hh he
            · exact rvisit_rune_t hmay f ih h hf ho hm hlt hp hh he
          · exact rvisit_rune_end hmay f ih h hf ho hm hlt hp (by simp [he]) he
        · exact rvisit_alt hmay f ih h hf ho hm hlt hp
        · exact rvisit_cap hmay f ih h hf ho hm hlt hp
        · cases hh : holdsB l[i].a (atP tx M.j)
          · exact rvisit_assert_f hmay f ih h hf ho hm hlt hp hh
          · exact rvisit_assert_t hmay f ih h hf ho hm hlt hp hh
        · exact rvisit_match hmay f ih h hf ho hm hlt hp
        · exact rvisit_fail hmay f ih h hf ho hm hlt hp
        · exact rvisit_nop hmay f ih h hf ho hm hlt hp
    · exact rvisit_over f h ho
end Go.Proofs.Ytaoagcnbdfklnaa
/- HELPERS: the document's Run, asked wrongly. -/
namespace Go.Proofs.Ytaoagcnbdfklnaa
open Go.RowKit Go.Lk
set_option linter.unusedVariables false
set_option linter.unusedSimpArgs false
set_option maxRecDepth 100000 in
set_option maxHeartbeats 8000000 in
theorem run11_long {w : World} {ad tad : Option Addr} {n c tn tc : Nat} {s k a : Int} {anch : Bool} {l : List In} (hP : PI w w.heap.size ad n l) (hl : 4194304 < tn) :
    Calls Try.prog 11 #[pv ad n c s k, .slice tad tn tc, .int .i64 a, .bool anch] w (FE 2 w) := by
  obtain ⟨U, hU⟩ : ∃ U, U = (w.alloc (.cells #[.slice ad n c, .int .i64 s, .int .i64 k] 27)).alloc (.cells #[.bool false, .slice none 0 0, .int .i64 0, .int .i64 0] 33) := ⟨_, rfl⟩
  have hb : Below w.heap.size w U := by rw [hU]; exact below_two' w _ _
  have hX : U.heap[w.heap.size]? = some (.cells #[.slice ad n c, .int .i64 s, .int .i64 k] 27 (0, 0)) := by rw [hU]; exact (heap_alloc_old _ _ (by simp)).trans (heap_alloc_new w _)
  have hY : U.heap[w.heap.size + 1]? = some (.cells #[.bool false, .slice none 0 0, .int .i64 0, .int .i64 0] 33 (0, 0)) := by rw [hU]; exact two_new w _ _ _
  obtain ⟨x, hx⟩ : ∃ x, x = w.heap.size := ⟨_, rfl⟩
  obtain ⟨y, hy⟩ : ∃ y, y = w.heap.size + 1 := ⟨_, rfl⟩
  have hyU : w.heap.size + 1 < U.heap.size := (Array.getElem?_eq_some_iff.1 hY).1
  have hPU := hP.kept hb hb.size
  have HCK := rcheck9 (c := c) (s := s) (k := k) hPU
  rw [← hx] at hX hb
  rw [← hy] at hY hyU
  obtain ⟨c0, c1, c2⟩ := three_cells hX
  have HB := hid hb
  have HX := hid hX
  have HY := hid hY
  have HXE := hid hx
  have hxy : x < y := by omega
  have b1 : decide ((4194304 : Int) < (tn : Int)) = true := by simp; omega
  have b1' : decide ((tn : Int) > (4194304 : Int)) = true := by simp; omega
  have s0 := Joins.unfrozen_of_block hY 0
  have s1 := Joins.unfrozen_of_block hY 1
  have s2 := Joins.unfrozen_of_block hY 2
  have s3 := Joins.unfrozen_of_block hY 3
  have y0 := Joins.cell_of_block hY 0
  have y1 := Joins.cell_of_block hY 1
  have y2 := Joins.cell_of_block hY 2
  have y3 := Joins.cell_of_block hY 3
  clear hP hPU hb hX hY
  go_enter Try.func11, Try.ntmps11
  go_upto_region 1 with fail
  rw [← hU, ← hy, ← hx]
  clear hU hx hy
  go_wp2
  refine bodyPost_ret (results_cell_tmp rfl _ _ y 33 _ (0, 0) _ rfl (Joins.block_setCell (i := 3) (Joins.block_setCell (i := 2) (Joins.block_setCell (i := 1) (Joins.block_setCell (i := 0) HY.out _) _) _) _) Try.underlying33 rfl (by kernel_rfl)) rfl ?_
  refine ⟨?_, rfl⟩
  rw [← HXE.out]
  exact (((HB.out.setCell (p := ⟨y, 0, none⟩) (by show x ≤ y; omega) _).setCell (p := ⟨y, 1, none⟩) (by show x ≤ y; omega) _).setCell (p := ⟨y, 2, none⟩) (by show x ≤ y; omega) _).setCell (p := ⟨y, 3, none⟩) (by show x ≤ y; omega) _
set_option maxRecDepth 100000 in
set_option maxHeartbeats 8000000 in
theorem run11_prog {w : World} {ad tad : Option Addr} {n c tn tc : Nat} {s k a : Int} {anch : Bool} {l : List In} (hP : PI w w.heap.size ad n l) (hl : tn ≤ 4194304) (hmay : mayB l s k = false) :
    Calls Try.prog 11 #[pv ad n c s k, .slice tad tn tc, .int .i64 a, .bool anch] w (FE 90 w) := by
  obtain ⟨U, hU⟩ : ∃ U, U = (w.alloc (.cells #[.slice ad n c, .int .i64 s, .int .i64 k] 27)).alloc (.cells #[.bool false, .slice none 0 0, .int .i64 0, .int .i64 0] 33) := ⟨_, rfl⟩
  have hb : Below w.heap.size w U := by rw [hU]; exact below_two' w _ _
  have hX : U.heap[w.heap.size]? = some (.cells #[.slice ad n c, .int .i64 s, .int .i64 k] 27 (0, 0)) := by rw [hU]; exact (heap_alloc_old _ _ (by simp)).trans (heap_alloc_new w _)
  have hY : U.heap[w.heap.size + 1]? = some (.cells #[.bool false, .slice none 0 0, .int .i64 0, .int .i64 0] 33 (0, 0)) := by rw [hU]; exact two_new w _ _ _
  obtain ⟨x, hx⟩ : ∃ x, x = w.heap.size := ⟨_, rfl⟩
  obtain ⟨y, hy⟩ : ∃ y, y = w.heap.size + 1 := ⟨_, rfl⟩
  have hyU : w.heap.size + 1 < U.heap.size := (Array.getElem?_eq_some_iff.1 hY).1
  have hPU := hP.kept hb hb.size
  have HCK := rcheck9 (c := c) (s := s) (k := k) hPU
  rw [← hx] at hX hb
  rw [← hy] at hY hyU
  obtain ⟨c0, c1, c2⟩ := three_cells hX
  have HB := hid hb
  have HX := hid hX
  have HY := hid hY
  have HXE := hid hx
  have hxy : x < y := by omega
  have b1 : decide ((4194304 : Int) < (tn : Int)) = false := by simp; omega
  have b1' : decide ((tn : Int) > (4194304 : Int)) = false := by simp; omega
  rw [hmay] at HCK
  clear hmay
  clear hP hPU hb hX hY
  go_enter Try.func11, Try.ntmps11
  go_upto_region 1 with fail
  rw [← hU, ← hy, ← hx]
  clear hU hx hy
  go_upto_region 5 with (go_at_call 24; (with_reducible refine HCK.mono ?_); rintro e w2 ⟨rfl, hb2⟩; have HB2 := hid hb2; have hY2 := (hb2.block y hyU).trans HY.out; have HY2 := hid hY2; clear hb2 HCK c0 c1 c2 hY2)
  have s0 := Joins.unfrozen_of_block HY2.out 0
  have s1 := Joins.unfrozen_of_block HY2.out 1
  have s2 := Joins.unfrozen_of_block HY2.out 2
  have s3 := Joins.unfrozen_of_block HY2.out 3
  have y0 := Joins.cell_of_block HY2.out 0
  have y1 := Joins.cell_of_block HY2.out 1
  have y2 := Joins.cell_of_block HY2.out 2
  have y3 := Joins.cell_of_block HY2.out 3
  have HBW : Hid (Below x w w2) := HB.out.trans (Joins.below_le HB2.out (by omega))
  go_wp2
  refine bodyPost_ret (results_cell_tmp rfl _ _ y 33 _ (0, 0) _ rfl (Joins.block_setCell (i := 3) (Joins.block_setCell (i := 2) (Joins.block_setCell (i := 1) (Joins.block_setCell (i := 0) HY2.out _) _) _) _) Try.underlying33 rfl (by kernel_rfl)) rfl ?_
  refine ⟨?_, rfl⟩
  rw [← HXE.out]
  exact (((HBW.out.setCell (p := ⟨y, 0, none⟩) (by show x ≤ y; omega) _).setCell (p := ⟨y, 1, none⟩) (by show x ≤ y; omega) _).setCell (p := ⟨y, 2, none⟩) (by show x ≤ y; omega) _).setCell (p := ⟨y, 3, none⟩) (by show x ≤ y; omega) _
set_option maxRecDepth 100000 in
set_option maxHeartbeats 8000000 in
theorem run11_neg {w : World} {ad tad : Option Addr} {n c tn tc : Nat} {s k a : Int} {anch : Bool} {l : List In} (hP : PI w w.heap.size ad n l) (hl : tn ≤ 4194304) (hmay : mayB l s k = true) (ha : a < 0) :
    Calls Try.prog 11 #[pv ad n c s k, .slice tad tn tc, .int .i64 a, .bool anch] w (FE 1 w) := by
  obtain ⟨U, hU⟩ : ∃ U, U = (w.alloc (.cells #[.slice ad n c, .int .i64 s, .int .i64 k] 27)).alloc (.cells #[.bool false, .slice none 0 0, .int .i64 0, .int .i64 0] 33) := ⟨_, rfl⟩
  have hb : Below w.heap.size w U := by rw [hU]; exact below_two' w _ _
  have hX : U.heap[w.heap.size]? = some (.cells #[.slice ad n c, .int .i64 s, .int .i64 k] 27 (0, 0)) := by rw [hU]; exact (heap_alloc_old _ _ (by simp)).trans (heap_alloc_new w _)
  have hY : U.heap[w.heap.size + 1]? = some (.cells #[.bool false, .slice none 0 0, .int .i64 0, .int .i64 0] 33 (0, 0)) := by rw [hU]; exact two_new w _ _ _
  obtain ⟨x, hx⟩ : ∃ x, x = w.heap.size := ⟨_, rfl⟩
  obtain ⟨y, hy⟩ : ∃ y, y = w.heap.size + 1 := ⟨_, rfl⟩
  have hyU : w.heap.size + 1 < U.heap.size := (Array.getElem?_eq_some_iff.1 hY).1
  have hPU := hP.kept hb hb.size
  have HCK := rcheck9 (c := c) (s := s) (k := k) hPU
  rw [← hx] at hX hb
  rw [← hy] at hY hyU
  obtain ⟨c0, c1, c2⟩ := three_cells hX
  have HB := hid hb
  have HX := hid hX
  have HY := hid hY
  have HXE := hid hx
  have hxy : x < y := by omega
  have b1 : decide ((4194304 : Int) < (tn : Int)) = false := by simp; omega
  have b1' : decide ((tn : Int) > (4194304 : Int)) = false := by simp; omega
  rw [hmay] at HCK
  clear hmay
  have b2 : decide (a < 0) = true := by simp [ha]
  clear hP hPU hb hX hY
  go_enter Try.func11, Try.ntmps11
  go_upto_region 1 with fail
  rw [← hU, ← hy, ← hx]
  clear hU hx hy
  go_upto_region 7 with (go_at_call 24; (with_reducible refine HCK.mono ?_); rintro e w2 ⟨rfl, hb2⟩; have HB2 := hid hb2; have hY2 := (hb2.block y hyU).trans HY.out; have HY2 := hid hY2; clear hb2 HCK c0 c1 c2 hY2)
  have s0 := Joins.unfrozen_of_block HY2.out 0
  have s1 := Joins.unfrozen_of_block HY2.out 1
  have s2 := Joins.unfrozen_of_block HY2.out 2
  have s3 := Joins.unfrozen_of_block HY2.out 3
  have y0 := Joins.cell_of_block HY2.out 0
  have y1 := Joins.cell_of_block HY2.out 1
  have y2 := Joins.cell_of_block HY2.out 2
  have y3 := Joins.cell_of_block HY2.out 3
  have HBW : Hid (Below x w w2) := HB.out.trans (Joins.below_le HB2.out (by omega))
  go_wp2
  refine bodyPost_ret (results_cell_tmp rfl _ _ y 33 _ (0, 0) _ rfl (Joins.block_setCell (i := 3) (Joins.block_setCell (i := 2) (Joins.block_setCell (i := 1) (Joins.block_setCell (i := 0) HY2.out _) _) _) _) Try.underlying33 rfl (by kernel_rfl)) rfl ?_
  refine ⟨?_, rfl⟩
  rw [← HXE.out]
  exact (((HBW.out.setCell (p := ⟨y, 0, none⟩) (by show x ≤ y; omega) _).setCell (p := ⟨y, 1, none⟩) (by show x ≤ y; omega) _).setCell (p := ⟨y, 2, none⟩) (by show x ≤ y; omega) _).setCell (p := ⟨y, 3, none⟩) (by show x ≤ y; omega) _
set_option maxRecDepth 100000 in
set_option maxHeartbeats 8000000 in
theorem run11_far {w : World} {ad tad : Option Addr} {n c tn tc : Nat} {s k a : Int} {anch : Bool} {l : List In} (hP : PI w w.heap.size ad n l) (hl : tn ≤ 4194304) (hmay : mayB l s k = true) (ha0 : ¬ a < 0) (ha : (tn : Int) < a) :
    Calls Try.prog 11 #[pv ad n c s k, .slice tad tn tc, .int .i64 a, .bool anch] w (FE 1 w) := by
  obtain ⟨U, hU⟩ : ∃ U, U = (w.alloc (.cells #[.slice ad n c, .int .i64 s, .int .i64 k] 27)).alloc (.cells #[.bool false, .slice none 0 0, .int .i64 0, .int .i64 0] 33) := ⟨_, rfl⟩
  have hb : Below w.heap.size w U := by rw [hU]; exact below_two' w _ _
  have hX : U.heap[w.heap.size]? = some (.cells #[.slice ad n c, .int .i64 s, .int .i64 k] 27 (0, 0)) := by rw [hU]; exact (heap_alloc_old _ _ (by simp)).trans (heap_alloc_new w _)
  have hY : U.heap[w.heap.size + 1]? = some (.cells #[.bool false, .slice none 0 0, .int .i64 0, .int .i64 0] 33 (0, 0)) := by rw [hU]; exact two_new w _ _ _
  obtain ⟨x, hx⟩ : ∃ x, x = w.heap.size := ⟨_, rfl⟩
  obtain ⟨y, hy⟩ : ∃ y, y = w.heap.size + 1 := ⟨_, rfl⟩
  have hyU : w.heap.size + 1 < U.heap.size := (Array.getElem?_eq_some_iff.1 hY).1
  have hPU := hP.kept hb hb.size
  have HCK := rcheck9 (c := c) (s := s) (k := k) hPU
  rw [← hx] at hX hb
  rw [← hy] at hY hyU
  obtain ⟨c0, c1, c2⟩ := three_cells hX
  have HB := hid hb
  have HX := hid hX
  have HY := hid hY
  have HXE := hid hx
  have hxy : x < y := by omega
  have b1 : decide ((4194304 : Int) < (tn : Int)) = false := by simp; omega
  have b1' : decide ((tn : Int) > (4194304 : Int)) = false := by simp; omega
  rw [hmay] at HCK
  clear hmay
  have b2 : decide (a < 0) = false := by simp [ha0]
  have b3 : decide (a > (tn : Int)) = true := by simp; omega
  have b3' : decide ((tn : Int) < a) = true := by simp; omega
  clear hP hPU hb hX hY
  go_enter Try.func11, Try.ntmps11
  go_upto_region 1 with fail
  rw [← hU, ← hy, ← hx]
  clear hU hx hy
  go_upto_region 7 with (go_at_call 24; (with_reducible refine HCK.mono ?_); rintro e w2 ⟨rfl, hb2⟩; have HB2 := hid hb2; have hY2 := (hb2.block y hyU).trans HY.out; have HY2 := hid hY2; clear hb2 HCK c0 c1 c2 hY2)
  have s0 := Joins.unfrozen_of_block HY2.out 0
  have s1 := Joins.unfrozen_of_block HY2.out 1
  have s2 := Joins.unfrozen_of_block HY2.out 2
  have s3 := Joins.unfrozen_of_block HY2.out 3
  have y0 := Joins.cell_of_block HY2.out 0
  have y1 := Joins.cell_of_block HY2.out 1
  have y2 := Joins.cell_of_block HY2.out 2
  have y3 := Joins.cell_of_block HY2.out 3
  have HBW : Hid (Below x w w2) := HB.out.trans (Joins.below_le HB2.out (by omega))
  go_wp2
  refine bodyPost_ret (results_cell_tmp rfl _ _ y 33 _ (0, 0) _ rfl (Joins.block_setCell (i := 3) (Joins.block_setCell (i := 2) (Joins.block_setCell (i := 1) (Joins.block_setCell (i := 0) HY2.out _) _) _) _) Try.underlying33 rfl (by kernel_rfl)) rfl ?_
  refine ⟨?_, rfl⟩
  rw [← HXE.out]
  exact (((HBW.out.setCell (p := ⟨y, 0, none⟩) (by show x ≤ y; omega) _).setCell (p := ⟨y, 1, none⟩) (by show x ≤ y; omega) _).setCell (p := ⟨y, 2, none⟩) (by show x ≤ y; omega) _).setCell (p := ⟨y, 3, none⟩) (by show x ≤ y; omega) _
end Go.Proofs.Ytaoagcnbdfklnaa
/- HELPERS: the document's run between two places. -/
namespace Go.Proofs.Ytaoagcnbdfklnaa
open Go.RowKit Go.Lk
set_option linter.unusedVariables false
set_option linter.unusedSimpArgs false
abbrev Rv.cs5 (M : Rv) (m5 : Value) : Array Value := #[.slice M.ad M.n M.c, .int .i64 (M.S : Int), .int .i64 (M.K : Int), .slice M.tad M.tn M.tc, .int .i64 (M.j : Int), m5, .slice M.z M.n2 M.c2, .bool M.fok, .slice M.f1 M.f2 M.f3, .int .i64 M.fw, .int .i64 (M.fs : Int), .bool M.ov]
/-- the document's run before a place is visited: its threads, what is found; none's row -/
structure HG (w : World) (N b g0 : Nat) (l : List In) (tx : List Int) (M : Rv) (m5 : Value) (T : List Th) (fd : Fd) (E : List Ef) : Prop where
  hb : w.heap[b]? = some (.cells (M.cs5 m5) 67 (0, 0))
  nb : N ≤ b
  nw : N ≤ w.heap.size
  pi : PI w N M.ad M.n l
  tt : TextAt N w M.tad M.tn tx
  row : RT w N M.K M.z M.n2 M.c2 E
  nx : E.map Ef.th = T
  fd : GD w N M.K M fd
  un : w.ownsRow N 3 1 (.slice (some ⟨g0, 0, none⟩) M.K M.K) M.K (I64 (List.replicate M.K (-1)))
section
variable {w V : World} {N b g0 mb j B0 : Nat} {l : List In} {tx : List Int} {M M1 : Rv} {m5 : Value} {T : List Th} {fd : Fd} {E : List Ef} {s : Vst}
theorem HG.lt (h : HG w N b g0 l tx M m5 T fd E) : b < w.heap.size := (Array.getElem?_eq_some_iff.1 h.hb).1
theorem HG.kept3 (h : HG w N b g0 l tx M m5 T fd E) (hc : Chg w V [b] [b]) : ∀ n xs v, w.ownsRow N 3 1 v n xs → V.ownsRow N 3 1 v n xs := fun n xs v ho => row_kept ho (fun k hk => hc.block k (ho.lt k hk).2 (fun hm => by simp at hm; subst hm; exact own_ne ho h.hb (by decide) hk))
/-- a place is begun -/
theorem HG.start (h : HG w N b g0 l tx M m5 T fd E) (hc : Chg w V [b] [b]) (hrb : RB V b { M with j := j, mb := mb, z := none, n2 := 0, c2 := 0, ov := false }) (hmb : V.heap[mb]? = some (.cells (madeCells #[.bool false] M.n) 4 (0, 0))) (hlo : N ≤ mb) (hj : j ≤ M.tn) :
    WJ V N b M.fs l tx { M with j := j, mb := mb, z := none, n2 := 0, c2 := 0, ov := false } (newV fd) [] ∧ RT V N M.K M.z M.n2 M.c2 E ∧ V.ownsRow N 3 1 (.slice (some ⟨g0, 0, none⟩) M.K M.K) M.K (I64 (List.replicate M.K (-1))) := by
  have hbel : Below N w V := hc.below h.nw (fun k hk => by simp at hk; subst hk; exact h.nb)
  have h3 := h.kept3 hc
  have hln := h.pi.len
  refine ⟨⟨hrb, h.nb, Nat.le_trans h.nw hbel.size, h.pi.kept hbel (Nat.le_refl _), h.tt.below hbel, hj, ⟨hlo, _, hmb, by rw [size_madeCells]; omega, fun i hi => ?_⟩, ⟨rfl, ⟨rfl, .inl ⟨rfl, rfl⟩⟩, by simp⟩, rfl, h.fd.same h3 ⟨rfl, rfl, rfl, rfl, rfl⟩, rfl, rfl⟩, ⟨h.row.len, row_kept h.row.row (fun k hk => hc.block k (h.row.row.lt k hk).2 (fun hm => by simp at hm; subst hm; exact own_ne h.row.row h.hb (by decide) hk)), fun e he => h3 _ _ _ (h.row.caps e he)⟩, h3 _ _ _ h.un⟩
  have : i < M.n := by omega
  simp [madeCells, this, Nat.mod_one, newV]
/-- a place was visited -/
theorem WJ.head (h : WJ w N b B0 l tx M s E) (hu : w.ownsRow N 3 1 (.slice (some ⟨g0, 0, none⟩) M.K M.K) M.K (I64 (List.replicate M.K (-1)))) : HG w N b g0 l tx M (.slice (some ⟨M.mb, 0, none⟩) M.n M.n) s.next s.found E :=
  ⟨h.rb, h.nb, h.nw, h.pi, h.tt, h.row, h.nx, h.fd, hu⟩
end
/-- the parts of a run that stay -/
def Rv.base (M : Rv) : Rv := { M.core with mb := 0, j := 0 }
theorem base_core {M M' : Rv} (h : M'.core = M.core) : M'.base = M.base := by unfold Rv.base; rw [h]
/-- what the document's Run answers -/
def FQ (K : Nat) (r : Fd × Nat) (w : World) (e : Ending) (w' : World) : Prop := Below w.heap.size w w' ∧ match r.1 with
  | none => e = .returned (.tuple #[.agg #[.bool false, .slice none 0 0, .int .i64 0, .int .i64 (r.2 : Int)], .int .i64 0])
  | some y => ∃ g q, e = .returned (.tuple #[.agg #[.bool true, .slice (some ⟨g, 0, none⟩) K q, .int .i64 y.1, .int .i64 (r.2 : Int)], .int .i64 0]) ∧ w'.ownsRow w.heap.size 3 1 (.slice (some ⟨g, 0, none⟩) K q) K (I64 y.2)
theorem fill_step (i K : Nat) (a b : Int) (h : i < K) : (List.replicate i a ++ List.replicate (K - i) b).set i a = List.replicate (i + 1) a ++ List.replicate (K - (i + 1)) b := by
  rw [List.set_append_right _ _ (by simp), show K - i = (K - (i + 1)) + 1 by omega, List.replicate_succ (n := K - (i + 1)), List.length_replicate, Nat.sub_self, List.set_cons_zero, List.replicate_succ' (n := i)]
  simp
end Go.Proofs.Ytaoagcnbdfklnaa
/- HELPERS: the document's Run. -/
namespace Go.Proofs.Ytaoagcnbdfklnaa
open Go.RowKit Go.Lk
set_option linter.unusedVariables false
set_option linter.unusedSimpArgs false
theorem RT.kept_chg {w w' : World} {N b B0 K n c : Nat} {l : List In} {tx : List Int} {M : Rv} {s : Vst} {E E' : List Ef} {z : Option Addr} {F' : List Nat} (h : WJ w N b B0 l tx M s E') (hz : M.z = none) (hR : RT w N K z n c E) (hc : Chg w w' (UF b M) F') : RT w' N K z n c E := by
  obtain ⟨_, arr, ha, _⟩ := h.met
  refine ⟨hR.len, row_kept hR.row (fun k hk => hc.block k (hR.row.lt k hk).2 (fun hm => ?_)), fun e he => three_kept hc (hR.caps e he) h.no3⟩
  simp only [UF, zF, hz, List.mem_cons, Value.ownBlock] at hm
  rcases hm with rfl | rfl | hm
  · exact own_ne hR.row h.rb (by decide) hk
  · exact own_ne hR.row ha (by decide) hk
  · simp at hm
set_option maxRecDepth 100000 in
set_option maxHeartbeats 16000000 in
theorem run11_ok {w : World} {ad tad : Option Addr} {n c S K tn tc a : Nat} {anch : Bool} {l : List In} {tx : List Int} (hP : PI w w.heap.size ad n l) (hmay : mayB l (S : Int) (K : Int) = true) (hT : TextAt w.heap.size w tad tn tx) (hl : tn ≤ 4194304) (ha : a ≤ tn) :
    Calls Try.prog 11 #[pv ad n c (S : Int) (K : Int), .slice tad tn tc, .int .i64 (a : Int), .bool anch] w (FQ K (lockRun (prOf l tx S K) tx.length a anch) w) := by
  have hln := hP.len
  have hm := may_ok hmay
  have hKs : 2 ≤ K ∧ K ≤ 1002 := by omega
  have hSl : S < l.length := by omega
  have hn20 : n ≤ 20000 := by omega
  obtain ⟨U, hU⟩ : ∃ U, U = (w.alloc (.cells #[.slice ad n c, .int .i64 (S : Int), .int .i64 (K : Int)] 27)).alloc (.cells #[.bool false, .slice none 0 0, .int .i64 0, .int .i64 0] 33) := ⟨_, rfl⟩
  have hb : Below w.heap.size w U := by rw [hU]; exact below_two' w _ _
  have hX : U.heap[w.heap.size]? = some (.cells #[.slice ad n c, .int .i64 (S : Int), .int .i64 (K : Int)] 27 (0, 0)) := by rw [hU]; exact (heap_alloc_old _ _ (by simp)).trans (heap_alloc_new w _)
  have hY : U.heap[w.heap.size + 1]? = some (.cells #[.bool false, .slice none 0 0, .int .i64 0, .int .i64 0] 33 (0, 0)) := by rw [hU]; exact two_new w _ _ _
  have hPU := hP.kept hb hb.size
  have HCK := rcheck9 (c := c) (s := (S : Int)) (k := (K : Int)) hPU
  rw [hmay] at HCK
  have htl : tn = tx.length := hT.1
  obtain ⟨x, hx⟩ : ∃ x, x = w.heap.size := ⟨_, rfl⟩
  obtain ⟨y, hy⟩ : ∃ y, y = w.heap.size + 1 := ⟨_, rfl⟩
  have hyU : w.heap.size + 1 < U.heap.size := (Array.getElem?_eq_some_iff.1 hY).1
  rw [← hx] at hX hb hP hT
  rw [← hy] at hY hyU
  obtain ⟨c0, c1, c2⟩ := three_cells hX
  have HB := hid hb
  have HX := hid hX
  have HY := hid hY
  have HXE := hid hx
  have HP := hid hP
  have HT := hid hT
  have HMAY := hid hmay
  have HTL := hid htl
  have HLN := hid hln
  have HPOK := hid (pr_ok (tx := tx) hmay)
  have hxy : x < y := by omega
  have b1 : decide ((4194304 : Int) < (tn : Int)) = false := by simp; omega
  have b1' : decide ((tn : Int) > (4194304 : Int)) = false := by simp; omega
  have b2 : decide ((a : Int) < 0) = false := by simp
  have b3 : decide ((a : Int) > (tn : Int)) = false := by simp; omega
  have b3' : decide ((tn : Int) < (a : Int)) = false := by simp; omega
  have b3n : decide (tn < a) = false := by simp; omega
  have b1n : decide (4194304 < tn) = false := by simp; omega
  clear hP hT hPU hb hX hY hmay htl hm hln
  generalize hr : lockRun (prOf l tx S K) tx.length a anch = r
  have HR := hid hr
  clear hr
  go_enter Try.func11, Try.ntmps11
  go_upto_region 1 with fail
  rw [← hU, ← hy, ← hx]
  clear hU hy hx
  go_upto_region 8 with (go_at_call 24; (with_reducible refine HCK.mono ?_); rintro e w2 ⟨rfl, hb2⟩; have HB2 := hid hb2; clear hb2 HCK c0 c1 c2)
  have hU2 : U.heap.size ≤ w2.heap.size := HB2.out.size
  have hx2 := (HB2.out.block x (by omega)).trans HX.out
  have hy2 := (HB2.out.block y (by omega)).trans HY.out
  obtain ⟨e0, e1, e2⟩ := three_cells hx2
  have HX2 := hid hx2
  have HY2 := hid hy2
  have HBW2 : Hid (Below x w w2) := HB.out.trans (Joins.below_le HB2.out (by omega))
  have hxw2 : x < w2.heap.size := by omega
  have hyw2 : y < w2.heap.size := by omega
  clear hx2 hy2 HB HB2 HX HY hyU hU2
  have hmk := makeK K (by omega) w2
  have HMR := hid (made_row K x w2 (by omega) (by omega))
  obtain ⟨A, hA⟩ : ∃ A, A = w2.alloc (.cells (madeCells #[.int .i64 0] K) 3) := ⟨_, rfl⟩
  obtain ⟨g0, hg0⟩ : ∃ g0, g0 = w2.heap.size := ⟨_, rfl⟩
  have hbA : Below w2.heap.size w2 A := by rw [hA]; exact Joins.below_alloc1 w2 _
  have HBA := hid hbA
  rw [← hA, ← hg0] at hmk HMR
  have e2A := (cell_eq (hbA.block x hxw2) 2).trans e2
  have HGZ : Hid (w2.heap.size ≤ g0) := hid (by omega)
  clear hbA hA hg0
  go_wp2_with fail
  go_loopw [12] (fun v wq => ∃ i : Nat, v = .int .i64 (i : Int) ∧ i ≤ K ∧ Hid (wq.ownsRow x 3 1 (.slice (some ⟨g0, 0, none⟩) K K) K (I64 (List.replicate i (-1) ++ List.replicate (K - i) 0))) ∧ Hid (Below w2.heap.size w2 wq)) (fun v _ => K - (intOf v).toNat)
  case atStart => exact ⟨0, rfl, by omega, hid (by simpa using HMR.out), HBA.out⟩
  case round =>
    obtain ⟨i, rfl, hi, HRW, HBQ⟩ := hrel
    clear e2A hmk
    have d2 := (cell_eq (HBQ.out.block x hxw2) 2).trans e2
    by_cases hiK : i < K
    · have f1 : decide ((i : Int) < (K : Int)) = true := by simp; omega
      have f2 : (i : Int) < (K : Int) := by omega
      have a1 : IntKind.i64.wrap ((i : Int) + 1) = (i : Int) + 1 := by rw [wrap_ok _ (by omega) (by omega)]
      have hcell : wr.cell? ⟨g0, i, none⟩ = some (.int .i64 0) := by
        rw [HRW.out.cellAt i (by omega), List.getElem?_map, List.getElem?_append_right (by simp)]
        simp [List.getElem?_replicate]
        omega
      have hfz := HRW.out.frozenAt i
      have hst := row_setC HRW.out i (.int .i64 (-1))
      rw [← List.map_set, fill_step i K (-1) 0 hiK] at hst
      have HST := hid hst
      clear hst
      go_wp2
      exact ⟨⟨i + 1, by push_cast; rfl, by omega, HST.out, HBQ.out.setCell (p := ⟨g0, i, none⟩) HGZ.out _⟩, by simp [intOf]; omega⟩
    · have f1 : decide ((i : Int) < (K : Int)) = false := by simp; omega
      obtain rfl : K = i := by omega
      have hun : wr.ownsRow x 3 1 (.slice (some ⟨g0, 0, none⟩) K K) K (I64 (List.replicate K (-1))) := by have := HRW.out; simpa using this
      have d0 := (cell_eq (HBQ.out.block x hxw2) 0).trans e0
      have d1 := (cell_eq (HBQ.out.block x hxw2) 1).trans e1
      have HUN := hid hun
      have hxr : x < wr.heap.size := by have := HBQ.out.size; omega
      have hyr : y < wr.heap.size := by have := HBQ.out.size; omega
      have HXr := hid ((HBQ.out.block x hxw2).trans HX2.out)
      have HYr := hid ((HBQ.out.block y hyw2).trans HY2.out)
      have HBr : Hid (Below x w wr) := HBW2.out.trans (Joins.below_le HBQ.out (by omega))
      clear hun HRW HBQ e0 e1 e2 HX2 HY2 HBW2 HMR HBA HGZ hxw2 hyw2
      obtain ⟨b, hbe⟩ : ∃ b, b = wr.heap.size := ⟨_, rfl⟩
      obtain ⟨B1, hB1⟩ : ∃ B1, B1 = wr.alloc (.cells #[.slice ad n c, .int .i64 (S : Int), .int .i64 (K : Int), .slice tad tn tc, .int .i64 0, .slice none 0 0, .slice none 0 0, .bool false, .slice none 0 0, .int .i64 0, .int .i64 0, .bool false] 67) := ⟨_, rfl⟩
      have hbB : Below wr.heap.size wr B1 := by rw [hB1]; exact Joins.below_alloc1 wr _
      have HBB : Hid (Below x w B1) := HBr.out.trans (Joins.below_le hbB (by omega))
      have HXB := hid ((hbB.block x hxr).trans HXr.out)
      have HYB := hid ((hbB.block y hyr).trans HYr.out)
      have hxb : x ≠ b := by omega
      have hyb : y ≠ b := by omega
      have hxlb : x ≤ b := by omega
      have HG0 : Hid (HG B1 x b g0 l tx ⟨ad, n, c, S, K, tad, tn, tc, 0, 0, none, 0, 0, false, none, 0, 0, 0, 0, false⟩ (.slice none 0 0) [] none []) := by
        refine ⟨?_, hxlb, ?_, HP.out.kept HBB.out (Nat.le_refl _), HT.out.below HBB.out, ⟨rfl, ⟨rfl, .inl ⟨rfl, rfl⟩⟩, by simp⟩, rfl, ⟨rfl, rfl, rfl, rfl, rfl⟩, ?_⟩
        · rw [hB1, hbe]; exact heap_alloc_new wr _
        · have := hbB.size; omega
        · rw [hB1]; exact HUN.out.alloc _
      have HRS : Hid (lock (prOf l tx S K) a anch (tn + 1 - a) a [] none 0 = r) := by
        have := HR.out
        unfold lockRun at this
        rw [← HTL.out, show tn - a + 1 = tn + 1 - a by omega] at this
        exact this
      go_wp2_with fail
      rw [← hB1, ← hbe]
      clear hB1 hbe hbB d0 d1 d2 hxr hyr HXr HYr HBr HUN HR f1
      go_loopw [14, 15] (fun v14 v15 wq => ∃ (j : Nat) (Mq : Rv) (m5 : Value) (T : List Th) (fd : Fd) (E : List Ef), v14 = .slice Mq.z Mq.n2 Mq.c2 ∧ v15 = .int .i64 (j : Int) ∧ Hid (HG wq x b g0 l tx Mq m5 T fd E) ∧ Hid (ad = Mq.ad ∧ n = Mq.n ∧ S = Mq.S ∧ K = Mq.K ∧ tad = Mq.tad ∧ tn = Mq.tn ∧ tc = Mq.tc) ∧ a ≤ j ∧ j ≤ tn + 1 ∧ Hid (Below x w wq ∧ wq.heap[x]? = some (.cells #[.slice ad n c, .int .i64 (S : Int), .int .i64 (K : Int)] 27 (0, 0)) ∧ wq.heap[y]? = some (.cells #[.bool false, .slice none 0 0, .int .i64 0, .int .i64 0] 33 (0, 0))) ∧ Hid ((∀ t ∈ T, t.1 < l.length ∧ t.2.length = K) ∧ (∀ y, fd = some y → y.2.length = K) ∧ Mq.fs ≤ l.length * (j - a) ∧ lock (prOf l tx S K) a anch (tn + 1 - j) j T fd Mq.fs = r)) (fun _ v15 _ => tn + 1 - (intOf v15).toNat)
      case atStart => exact ⟨a, ⟨ad, n, c, S, K, tad, tn, tc, 0, 0, none, 0, 0, false, none, 0, 0, 0, 0, false⟩, .slice none 0 0, [], none, [], rfl, rfl, HG0.out, hid ⟨rfl, rfl, rfl, rfl, rfl, rfl, rfl⟩, by omega, by omega, hid ⟨HBB.out, HXB.out, HYB.out⟩, hid ⟨by simp, by simp, Nat.zero_le _, HRS.out⟩⟩
      case round =>
        obtain ⟨j, Mq, m5, Tq, fdq, Eq, rfl, rfl, HGq, HBS, haj, hjt, HW, HL⟩ := hrel
        clear HG0 HRS HBB HXB HYB
        by_cases hjl : j ≤ tn
        · have f1 : decide ((j : Int) ≤ (tn : Int)) = true := by simp; omega
          have a1 : IntKind.i64.wrap ((j : Int) + 1) = (j : Int) + 1 := by rw [wrap_ok _ (by omega) (by omega)]
          obtain ⟨ad', n', c', S', K', tad', tn', tc', j', mb', z, n2, c2, fok, f1', f2, f3, fw, fs, ov⟩ := Mq
          dsimp only at HBS HGq HL ⊢
          obtain ⟨rfl, rfl, rfl, rfl, rfl, rfl, rfl⟩ := HBS.out
          have hcb := HGq.out.hb
          have k4 := Joins.cell_of_block hcb 4
          have u4 := Joins.unfrozen_of_block hcb 4
          simp at k4
          obtain ⟨W1, hW1⟩ : ∃ W1, W1 = wr.setCell ⟨b, 4, none⟩ (.int .i64 (j : Int)) := ⟨_, rfl⟩
          have hB1 : W1.heap[b]? = some (.cells #[.slice ad n c', .int .i64 (S : Int), .int .i64 (K : Int), .slice tad tn tc, .int .i64 (j : Int), m5, .slice z n2 c2, .bool fok, .slice f1' f2 f3, .int .i64 fw, .int .i64 (fs : Int), .bool ov] 67 (0, 0)) := by rw [hW1]; exact Joins.block_setCell (i := 4) hcb _
          have hx1 := (show W1.heap[x]? = wr.heap[x]? by rw [hW1]; exact Below.heap_setCell _ _ _ _ hxb).trans HW.out.2.1
          obtain ⟨o0, o1, o2⟩ := three_cells hx1
          have hmkB := makeB n (by omega) W1
          obtain ⟨W2, hW2⟩ : ∃ W2, W2 = W1.alloc (.cells (madeCells #[.bool false] n) 4) := ⟨_, rfl⟩
          obtain ⟨mb, hmb⟩ : ∃ mb, mb = W1.heap.size := ⟨_, rfl⟩
          rw [← hW2, ← hmb] at hmkB
          have hb12 : Below W1.heap.size W1 W2 := by rw [hW2]; exact Joins.below_alloc1 W1 _
          have hbW1 : b < W1.heap.size := (Array.getElem?_eq_some_iff.1 hB1).1
          have hB2 := (hb12.block b hbW1).trans hB1
          have hM2 : W2.heap[mb]? = some (.cells (madeCells #[.bool false] n) 4 (0, 0)) := by rw [hW2, hmb]; exact heap_alloc_new W1 _
          have k5 := Joins.cell_of_block hB2 5
          have u5 := Joins.unfrozen_of_block hB2 5
          simp at k5
          obtain ⟨W3, hW3⟩ : ∃ W3, W3 = W2.setCell ⟨b, 5, none⟩ (.slice (some ⟨mb, 0, none⟩) n n) := ⟨_, rfl⟩
          have hB3 : W3.heap[b]? = some (.cells #[.slice ad n c', .int .i64 (S : Int), .int .i64 (K : Int), .slice tad tn tc, .int .i64 (j : Int), .slice (some ⟨mb, 0, none⟩) n n, .slice z n2 c2, .bool fok, .slice f1' f2 f3, .int .i64 fw, .int .i64 (fs : Int), .bool ov] 67 (0, 0)) := by rw [hW3]; exact Joins.block_setCell (i := 5) hB2 _
          have k6 := Joins.cell_of_block hB3 6
          have u6 := Joins.unfrozen_of_block hB3 6
          simp at k6
          obtain ⟨W4, hW4⟩ : ∃ W4, W4 = W3.setCell ⟨b, 6, none⟩ (.slice none 0 0) := ⟨_, rfl⟩
          have hB4 : W4.heap[b]? = some (.cells #[.slice ad n c', .int .i64 (S : Int), .int .i64 (K : Int), .slice tad tn tc, .int .i64 (j : Int), .slice (some ⟨mb, 0, none⟩) n n, .slice none 0 0, .bool fok, .slice f1' f2 f3, .int .i64 fw, .int .i64 (fs : Int), .bool ov] 67 (0, 0)) := by rw [hW4]; exact Joins.block_setCell (i := 6) hB3 _
          have k11 := Joins.cell_of_block hB4 11
          have u11 := Joins.unfrozen_of_block hB4 11
          simp at k11
          obtain ⟨W5, hW5⟩ : ∃ W5, W5 = W4.setCell ⟨b, 11, none⟩ (.bool false) := ⟨_, rfl⟩
          have hB5 : RB W5 b ⟨ad, n, c', S, K, tad, tn, tc, j, mb, none, 0, 0, fok, f1', f2, f3, fw, fs, false⟩ := by rw [hW5]; exact Joins.block_setCell (i := 11) hB4 _
          have hbmb : b ≠ mb := by omega
          have hM5 : W5.heap[mb]? = some (.cells (madeCells #[.bool false] n) 4 (0, 0)) := by
            rw [hW5, hW4, hW3]
            exact (Below.heap_setCell _ _ _ _ (Ne.symm hbmb)).trans ((Below.heap_setCell _ _ _ _ (Ne.symm hbmb)).trans ((Below.heap_setCell _ _ _ _ (Ne.symm hbmb)).trans hM2))
          have hC1 : Chg wr W1 [b] [b] := by rw [hW1]; exact (Chg.refl wr [b]).set (a := ⟨b, 4, none⟩) _ (by simp)
          have hC5 : Chg wr W5 [b] [b] := by
            rw [hW5, hW4, hW3]
            exact (((hC1.trans (Chg.of_below hb12)).set (a := ⟨b, 5, none⟩) _ (by simp)).set (a := ⟨b, 6, none⟩) _ (by simp)).set (a := ⟨b, 11, none⟩) _ (by simp)
          have hmbx : x ≤ mb := by omega
          obtain ⟨hWJ, hRT, hUN⟩ := HGq.out.start (j := j) (mb := mb) hC5 hB5 hM5 hmbx hjl
          have hok : fok = fdq.isSome := by
            have := HGq.out.fd
            cases fdq with
            | none => exact this.1
            | some v => obtain ⟨_, h1, _⟩ := this; exact h1
          have k7 := hB5.c 7
          simp at k7
          obtain ⟨M1, hM1⟩ : ∃ M1 : Rv, M1 = ⟨ad, n, c', S, K, tad, tn, tc, j, mb, none, 0, 0, fok, f1', f2, f3, fw, fs, false⟩ := ⟨_, rfl⟩
          have HWJ : Hid (WJ W5 x b fs l tx M1 (newV fdq) []) := by rw [hM1]; exact hWJ
          have HM1 : Hid (M1.j = j ∧ M1.K = K ∧ M1.z = none ∧ M1.ad = ad ∧ M1.n = n ∧ M1.S = S ∧ M1.tad = tad ∧ M1.tn = tn ∧ M1.tc = tc) := by rw [hM1]; exact ⟨rfl, rfl, rfl, rfl, rfl, rfl, rfl, rfl, rfl⟩
          have HRT : Hid (RT W5 x K z n2 c2 Eq) := hRT
          have HUN : Hid (W5.ownsRow x 3 1 (.slice (some ⟨g0, 0, none⟩) K K) K (I64 (List.replicate K (-1)))) := hUN
          have HC5 := hid hC5
          have hszw : x ≤ wr.heap.size := HGq.out.nw
          have hx5 := (hC5.block x (Array.getElem?_eq_some_iff.1 HW.out.2.1).1 (by simp; exact hxb)).trans HW.out.2.1
          have hywr := (Array.getElem?_eq_some_iff.1 HW.out.2.2).1
          have hy5 := (hC5.block y hywr (by simp; exact hyb)).trans HW.out.2.2
          have HX5 := hid hx5
          have HY5 := hid hy5
          have HB5 : Hid (Below x w W5) := HW.out.1.trans (hC5.below hszw (fun k hk => by simp at hk; subst hk; exact hxlb))
          have hzl : n2 = Eq.length := HGq.out.row.len
          have HTQ : Hid (Eq.map Ef.th = Tq) := HGq.out.nx
          have HZL := hid hzl
          have HW1 := hid hW1
          have HW3 := hid hW3
          have HW4 := hid hW4
          have HW5 := hid hW5
          have HKOK := hid hok
          clear hcb hB1 hx1 hb12 hB2 hM2 hB3 hB4 hB5 hM5 hC1 hC5 hWJ hRT hUN hx5 hy5 hW1 hW2 hW3 hW4 hW5 hmb hok HGq hzl hywr hszw hM1
          go_upto_region 19 with fail
          rw [← HW1.out]
          clear HW1 k4 u4
          go_upto_region 20 with fail
          rw [← HW3.out]
          clear HW3 k5 u5 hmkB
          go_upto_region 21 with fail
          rw [← HW4.out]
          clear HW4 k6 u6
          go_upto_region 22 with fail
          rw [← HW5.out]
          clear HW5 k11 u11 o0 o1 o2
          go_cut [16] from 76 to 91 (fun v16 wx => v16 = .bool (bgB a anch j fdq) ∧ wx = W5)
          case first =>
            have hbg : bgB a anch j fdq = (decide (j = a) || (!anch && !fok)) := by unfold bgB; rw [HKOK.out]; cases fdq <;> rfl
            have HBG0 := hid hbg
            clear hbg HKOK
            by_cases hja : j = a
            · have f3' : ((j : Int) == (a : Int)) = true := by simp [hja]
              have f4 : decide ((j : Int) = (a : Int)) = true := by simp [hja]
              have f5 : decide (j = a) = true := by simp [hja]
              clear hja
              go_wp2_with fail
              all_goals go_meet
              all_goals exact ⟨by rw [HBG0.out, f5]; simp, rfl⟩
            · have f3' : ((j : Int) == (a : Int)) = false := by simp; omega
              have f4 : decide ((j : Int) = (a : Int)) = false := by simp; omega
              have f5 : decide (j = a) = false := by simp [hja]
              cases anch
              · go_wp2_with fail
                all_goals go_meet
                all_goals exact ⟨by rw [HBG0.out, f5]; simp, rfl⟩
              · go_wp2_with fail
                all_goals go_meet
                all_goals exact ⟨by rw [HBG0.out, f5]; simp, rfl⟩
          case rest =>
            obtain ⟨rfl, hwc⟩ := hcut
            have hwc' := hwc.symm
            clear hwc
            subst hwc'
            have hfsb : fs ≤ 20000 * 4194304 := by
              have h1 := HL.out.2.2.1
              have h2 : l.length ≤ 20000 := by have := HLN.out; omega
              exact Nat.le_trans h1 (Nat.mul_le_mul h2 (by omega))
            have hn2s : n2 = Tq.length := by rw [← HTQ.out]; simp; exact HZL.out
            have HAI : Hid (∀ k, k < l.length → (act l tx j k).ok l.length) := fun k hk => act_ok HMAY.out j k hk
            have hinv0 : Inv l.length K (newV fdq) := new_inv _ _ _ HL.out.2.1
            have HINV0 := hid hinv0
            have hn2c : n2 ≤ 9223372036854775807 := by
              obtain ⟨_, _, e, h1, h2⟩ := row_shape HRT.out.row
              unfold maxLen at h2
              omega
            have HN2 := hid hn2s
            clear hinv0 k7 hn2s
            go_wp2_with fail
            go_loopw [17] (fun v wq => ∃ k : Nat, v = .int .i64 (k : Int) ∧ k ≤ n2 ∧ Hid (∃ M2 E2, WJ wq x b fs l tx M2 (vall (act l tx j) j (l.length + 1) (Tq.take k) (newV fdq)) E2 ∧ M2.core = M1.core ∧ Chg W5 wq (UF b M1) (UF b M2))) (fun v _ => n2 - (intOf v).toNat)
            case atStart => exact ⟨0, rfl, by omega, hid ⟨M1, [], by simpa [vall] using HWJ.out, rfl, Chg.refl _ _⟩⟩
            case round =>
              obtain ⟨k, rfl, hk, HQ⟩ := hrel
              obtain ⟨M2, E2, hv, hMc, hc⟩ := HQ.out
              have HV := hid hv
              have HMC := hid hMc
              have HCC := hid hc
              have hKe : M2.K = K := (rcore_K hMc).trans HM1.out.2.1
              have hje : M2.j = j := (rcore_j hMc).trans HM1.out.1
              have HKE := hid hKe
              have HJE := hid hje
              clear hv hMc hc hKe hje
              by_cases hkn : k < n2
              · have g1 : decide ((k : Int) < (n2 : Int)) = true := by simp; omega
                have g2 : (k : Int) < (n2 : Int) := by omega
                have g3 : IntKind.i64.wrap ((k : Int) + 1) = (k : Int) + 1 := by rw [wrap_ok _ (by omega) (by omega)]
                have hRTw := RT.kept_chg HWJ.out HM1.out.2.2.1 HRT.out HCC.out
                have hkE : k < Eq.length := by have := HZL.out; omega
                have hkT : k < Tq.length := by have := HN2.out; omega
                obtain ⟨zb, hz⟩ : ∃ zb, z = some ⟨zb, 0, none⟩ := by
                  rcases hRTw.row.2 with ⟨_, e⟩ | ⟨g, cap, cur, e, _⟩
                  · omega
                  · simp only [Value.slice.injEq] at e; exact ⟨g, e.1⟩
                have hrz := hRTw.row
                rw [hz] at hrz
                have t0 := (hrz.cellAt (k * 2) (by omega)).trans (by simpa using cellsF_get K Eq k hkE 0 (by omega))
                have t1 := (hrz.cellAt (k * 2 + 1) (by omega)).trans (cellsF_get K Eq k hkE 1 (by omega))
                simp only [Ef.cs, List.getElem?_cons_zero, List.getElem?_cons_succ] at t0 t1
                have hcap := hRTw.caps Eq[k] (List.getElem_mem hkE)
                have hTk : Tq[k] = (Eq[k].i, Eq[k].c) := by
                  have := HTQ.out
                  subst this
                  simp [Ef.th]
                have hokT := HL.out.1 Tq[k] (List.getElem_mem hkT)
                rw [hTk] at hokT
                have hsucc : vall (act l tx j) j (l.length + 1) (Tq.take (k + 1)) (newV fdq) = vis (act l tx j) j (l.length + 1) Eq[k].i Eq[k].c (vall (act l tx j) j (l.length + 1) (Tq.take k) (newV fdq)) := by
                  rw [vall_take_succ hkT, hTk]
                have hinv : Inv l.length K (vall (act l tx j) j (l.length + 1) (Tq.take k) (newV fdq)) := vall_inv HAI.out _ _ (fun t ht => HL.out.1 t (List.mem_of_mem_take ht)) HINV0.out
                have HI : Hid (∀ W, Eqw wr W → Calls Try.prog 25 #[.pointer (some ⟨b, 0, none⟩), .int .i64 (Eq[k].i : Int), .slice (some ⟨Eq[k].b, 0, none⟩) K Eq[k].q] W (WP x b fs l tx wr M2 (vis (act l tx j) j (l.length + 1) Eq[k].i Eq[k].c (vall (act l tx j) j (l.length + 1) (Tq.take k) (newV fdq))))) := by
                  intro W e
                  have h3 := visit25 HMAY.out (l.length + 1) Eq[k].i Eq[k].c _ W M2 E2 Eq[k].b Eq[k].q ⟨HV.out.kept (e.below _), HKE.out, hinv, hokT.1, e.row hcap, by omega⟩ (by omega)
                  rw [HJE.out] at h3
                  refine h3.mono ?_
                  rintro e2 w' ⟨h4, M4, E4, h5, h6, h7⟩
                  exact ⟨h4, M4, E4, h5, h6, e.chg h7⟩
                have HSC := hid hsucc
                subst hz
                clear hRTw hrz hcap hTk hokT hsucc hinv
                generalize hei : Eq[k].i = ei at t0 HI HSC
                generalize heb : Eq[k].b = eb at t1 HI
                generalize heq : Eq[k].q = eq at t1 HI
                clear hei heb heq
                go_upto_region 26 with fail
                go_region_with (go_at_call 25; (with_reducible refine (HI.out _ (by exact ⟨rfl, rfl, rfl, rfl⟩)).mono ?_); rintro e w4 ⟨he, M4, E4, hv4, hM4, hc4⟩; subst he; have HV4 := hid hv4; have HM4 := hid hM4; have HC4 := hid hc4; clear hv4 hM4 hc4)
                all_goals go_wp2
                all_goals exact ⟨⟨k + 1, by push_cast; rfl, by omega, hid ⟨M4, E4, by rw [HSC.out]; exact HV4.out, HM4.out.trans HMC.out, HCC.out.trans HC4.out⟩⟩, by simp [intOf]; omega⟩
              · have g1 : decide ((k : Int) < (n2 : Int)) = false := by simp; omega
                have hTk : Tq.take k = Tq := List.take_of_length_le (by have := HN2.out; omega)
                rw [hTk] at HV
                clear HQ hTk
                have hpl : place (prOf l tx S K) a anch j Tq fdq = if bgB a anch j fdq = true then vis (act l tx j) j (l.length + 1) S (List.replicate K (-1)) (vall (act l tx j) j (l.length + 1) Tq (newV fdq)) else vall (act l tx j) j (l.length + 1) Tq (newV fdq) := rfl
                have hinv1 : Inv l.length K (vall (act l tx j) j (l.length + 1) Tq (newV fdq)) := vall_inv HAI.out _ _ HL.out.1 HINV0.out
                have hip : Inv l.length K (place (prOf l tx S K) a anch j Tq fdq) := place_inv (P := prOf l tx S K) HPOK.out HL.out.1 HL.out.2.1
                generalize hs1 : vall (act l tx j) j (l.length + 1) Tq (newV fdq) = s1 at HV hpl hinv1
                generalize hs2 : place (prOf l tx S K) a anch j Tq fdq = s2 at hpl hip
                have HPL := hid hpl
                have HIP := hid hip
                have HIV1 := hid hinv1
                have HS2 := hid hs2
                clear hs1 hs2 hpl hip hinv1
                have hxU : x ∉ UF b M1 := fun hm => by
                  simp only [UF, zF, HM1.out.2.2.1, List.mem_cons, Value.ownBlock] at hm
                  rcases hm with h' | h' | h'
                  · exact hxb h'
                  · obtain ⟨_, arr, ha', _⟩ := HWJ.out.met
                    rw [← h', HX5.out] at ha'
                    simp at ha'
                  · simp at h'
                have hyU : y ∉ UF b M1 := fun hm => by
                  simp only [UF, zF, HM1.out.2.2.1, List.mem_cons, Value.ownBlock] at hm
                  rcases hm with h' | h' | h'
                  · exact hyb h'
                  · obtain ⟨_, arr, ha', _⟩ := HWJ.out.met
                    rw [← h', HY5.out] at ha'
                    simp at ha'
                  · simp at h'
                have hxW := (Array.getElem?_eq_some_iff.1 HX5.out).1
                have hyW := (Array.getElem?_eq_some_iff.1 HY5.out).1
                have HXX : Hid (∀ W F, Chg W5 W (UF b M1) F → W.heap[x]? = some (.cells #[.slice ad n c, .int .i64 (S : Int), .int .i64 (K : Int)] 27 (0, 0)) ∧ W.heap[y]? = some (.cells #[.bool false, .slice none 0 0, .int .i64 0, .int .i64 0] 33 (0, 0)) ∧ Below x w W ∧ W.ownsRow x 3 1 (.slice (some ⟨g0, 0, none⟩) K K) K (I64 (List.replicate K (-1)))) := fun W F h => ⟨(h.block x hxW hxU).trans HX5.out, (h.block y hyW hyU).trans HY5.out, HB5.out.trans (h.below HWJ.out.nw (fun k hk => (HWJ.out.low k hk).1)), three_kept h HUN.out HWJ.out.no3⟩
                clear hxU hyU hxW hyW
                generalize hbg : bgB a anch j fdq = bb at HPL ⊢
                clear hbg
                go_upto_if 109 with fail
                go_cut [] from 110 to 115 (fun wx => Hid (∃ M3 E3, WJ wx x b fs l tx M3 s2 E3 ∧ M3.core = M1.core ∧ Chg W5 wx (UF b M1) (UF b M3)))
                case first =>
                  cases bb
                  · have HS21 : Hid (s2 = s1) := by show s2 = s1; rw [HPL.out]; rfl
                    go_wp2_with fail
                    all_goals go_meet
                    all_goals exact hid ⟨M2, E2, by rw [HS21.out]; exact HV.out, HMC.out, HCC.out⟩
                  · have HS21 : Hid (s2 = vis (act l tx j) j (l.length + 1) S (List.replicate K (-1)) s1) := by show s2 = _; rw [HPL.out]; rfl
                    obtain ⟨hx', hy', hb', hun'⟩ := HXX.out _ _ HCC.out
                    obtain ⟨_, o1, _⟩ := three_cells hx'
                    have HI := visit25 HMAY.out (l.length + 1) S (List.replicate K (-1)) s1 wr M2 E2 g0 K ⟨HV.out, HKE.out, HIV1.out, hSl, hun', by omega⟩ (by omega)
                    rw [HJE.out, ← HS21.out] at HI
                    clear hx' hy' hb' hun'
                    go_wp2_with (go_at_call 25; (with_reducible refine HI.mono ?_); rintro e w4 ⟨he, M4, E4, hv4, hM4, hc4⟩; subst he; have HV4 := hid hv4; have HM4 := hid hM4; have HC4 := hid hc4; clear hv4 hM4 hc4 HI)
                    all_goals go_meet
                    all_goals exact hid ⟨M4, E4, HV4.out, HM4.out.trans HMC.out, HCC.out.trans HC4.out⟩
                case rest =>
                  obtain ⟨M3, E3, hv3, hM3, hc3⟩ := hcut.out
                  clear HV HMC HCC HKE HJE HPL HIV1
                  obtain ⟨hx', hy', hb', hun'⟩ := HXX.out _ _ hc3
                  have hK3 : M3.K = K := (rcore_K hM3).trans HM1.out.2.1
                  have HGq := hid (hv3.head (g0 := g0) (by rw [hK3]; exact hun'))
                  have HBS3 : Hid (ad = M3.ad ∧ n = M3.n ∧ S = M3.S ∧ K = M3.K ∧ tad = M3.tad ∧ tn = M3.tn ∧ tc = M3.tc) := by
                    obtain ⟨q1, q2, q3, q4, q5, q6, q7, q8, q9⟩ := HM1.out
                    exact ⟨q4.symm.trans (congrArg Rv.ad hM3).symm, q5.symm.trans (congrArg Rv.n hM3).symm, q6.symm.trans (congrArg Rv.S hM3).symm, q2.symm.trans (congrArg Rv.K hM3).symm, q7.symm.trans (congrArg Rv.tad hM3).symm, q8.symm.trans (congrArg Rv.tn hM3).symm, q9.symm.trans (congrArg Rv.tc hM3).symm⟩
                  have HKQ : Hid (M3.K = K) := hK3
                  have HXY := hid (And.intro hx' hy')
                  have HBW := hid hb'
                  have hn3 : M3.n2 = s2.next.length := by have h1 := hv3.row.len; have h2 := congrArg List.length hv3.nx; simp at h2; omega
                  have hfs3 : M3.fs = fs + s2.met.length := hv3.fs
                  have hok3 : M3.fok = s2.found.isSome := by
                    have := hv3.fd
                    cases hq : s2.found with
                    | none => rw [hq] at this; exact this.1
                    | some v => rw [hq] at this; obtain ⟨_, h1, _⟩ := this; exact h1
                  have t6 := hv3.rb.c 6
                  have t7 := hv3.rb.c 7
                  simp at t6 t7
                  have hlk := HL.out.2.2.2
                  rw [show tn + 1 - j = (tn - j) + 1 by omega, lock_succ, HS2.out, ← hfs3] at hlk
                  have HLK := hid hlk
                  have HF3 := hid hfs3
                  have hms := HIP.out.small
                  have HMS := hid hms
                  clear hcut hv3 hM3 hc3 hx' hy' hb' hun' hK3 hlk hfs3 hms
                  have HCO : Hid (((s2.next.isEmpty && (s2.found.isSome || anch)) = false) → ∃ (j' : Nat) (Mq : Rv) (m5 : Value) (T : List Th) (fd : Fd) (E : List Ef), Value.slice M3.z M3.n2 M3.c2 = .slice Mq.z Mq.n2 Mq.c2 ∧ Value.int .i64 ((j : Int) + 1) = .int .i64 (j' : Int) ∧ Hid (HG wc x b g0 l tx Mq m5 T fd E) ∧ Hid (ad = Mq.ad ∧ n = Mq.n ∧ S = Mq.S ∧ K = Mq.K ∧ tad = Mq.tad ∧ tn = Mq.tn ∧ tc = Mq.tc) ∧ a ≤ j' ∧ j' ≤ tn + 1 ∧ Hid (Below x w wc ∧ wc.heap[x]? = some (.cells #[.slice ad n c, .int .i64 (S : Int), .int .i64 (K : Int)] 27 (0, 0)) ∧ wc.heap[y]? = some (.cells #[.bool false, .slice none 0 0, .int .i64 0, .int .i64 0] 33 (0, 0))) ∧ Hid ((∀ t ∈ T, t.1 < l.length ∧ t.2.length = K) ∧ (∀ y, fd = some y → y.2.length = K) ∧ Mq.fs ≤ l.length * (j' - a) ∧ lock (prOf l tx S K) a anch (tn + 1 - j') j' T fd Mq.fs = r)) := fun hno => by
                    refine ⟨j + 1, M3, _, s2.next, s2.found, E3, rfl, by push_cast; rfl, HGq.out, HBS3.out, by omega, by omega, hid ⟨HBW.out, HXY.out⟩, hid ⟨HIP.out.nx, HIP.out.fd, ?_, ?_⟩⟩
                    · rw [HF3.out, show j + 1 - a = (j - a) + 1 by omega, Nat.mul_add]
                      have := HL.out.2.2.1
                      have := HMS.out
                      omega
                    · have h1 := HLK.out
                      rw [hno, Bool.or_false] at h1
                      by_cases ht : tn - j = 0
                      · rw [if_pos (by simp [ht])] at h1
                        rw [show tn + 1 - (j + 1) = 0 by omega]
                        exact h1
                      · rw [if_neg (by simp [ht])] at h1
                        rw [show tn + 1 - (j + 1) = tn - j by omega]
                        exact h1
                  have HBRK : Hid (((s2.next.isEmpty && (s2.found.isSome || anch)) = true) → (s2.found, M3.fs) = r) := fun hy => by
                    have h1 := HLK.out
                    rw [hy, Bool.or_true, if_pos rfl] at h1
                    exact h1
                  by_cases hne : s2.next.length = 0
                  · have hem : s2.next.isEmpty = true := by rw [List.isEmpty_iff, ← List.length_eq_zero_iff]; exact hne
                    have h0 : M3.n2 = 0 := by omega
                    rw [h0] at t6
                    rw [hem, Bool.true_and] at HCO HBRK
                    rw [h0] at HCO
                    rw [hok3] at t7
                    generalize hfd3 : s2.found = fd3 at *
                    clear hem h0 hne hn3 hok3
                    cases hso : (fd3.isSome || anch)
                    · have HC9 := hid (HCO.out hso)
                      simp only [Bool.or_eq_false_iff] at hso
                      obtain ⟨h1, rfl⟩ := hso
                      rw [h1] at t7
                      clear h1 HCO HBRK
                      go_wp2
                      all_goals exact ⟨HC9.out, by simp [intOf]; omega⟩
                    · have HRR := hid (HBRK.out hso)
                      have HSO := hid hso
                      clear hso HCO HBRK
                      generalize hi3 : fd3.isSome = bs at t7 HSO
                      have HI3 := hid hi3
                      clear hi3
                      cases bs with
                      | true =>
                        go_upto_region 31 with fail
                        have HFD := hid HGq.out.fd
                        have k7 := Joins.cell_of_block HGq.out.hb 7
                        have k8 := Joins.cell_of_block HGq.out.hb 8
                        have k9 := Joins.cell_of_block HGq.out.hb 9
                        have k10 := Joins.cell_of_block HGq.out.hb 10
                        simp at k7 k8 k9 k10
                        have hY4 := HXY.out.2
                        have s0 := Joins.unfrozen_of_block hY4 0
                        have s1 := Joins.unfrozen_of_block hY4 1
                        have s2 := Joins.unfrozen_of_block hY4 2
                        have s3 := Joins.unfrozen_of_block hY4 3
                        have y0 := Joins.cell_of_block hY4 0
                        have y1 := Joins.cell_of_block hY4 1
                        have y2 := Joins.cell_of_block hY4 2
                        have y3 := Joins.cell_of_block hY4 3
                        have HY4 := hid hY4
                        clear hY4
                        cases fd3 with
                        | none =>
                          exact absurd HI3.out (by simp)
                        | some v =>
                          obtain ⟨g, g1, g2, g3, g4, g5⟩ := HFD.out
                          rw [g1] at k7
                          rw [g2, g3, HKQ.out] at k8
                          rw [g4] at k9
                          rw [HKQ.out] at g5
                          have HG5 := hid g5
                          clear g1 g2 g3 g4 g5
                          go_wp2
                          refine bodyPost_ret (results_cell_tmp rfl _ _ y 33 _ (0, 0) _ rfl (Joins.block_setCell (i := 3) (Joins.block_setCell (i := 2) (Joins.block_setCell (i := 1) (Joins.block_setCell (i := 0) HY4.out _) _) _) _) Try.underlying33 rfl (by kernel_rfl)) rfl ?_
                          refine ⟨?_, ?_⟩
                          · rw [← HXE.out]
                            exact (((HBW.out.setCell (p := ⟨y, 0, none⟩) (by show x ≤ y; omega) _).setCell (p := ⟨y, 1, none⟩) (by show x ≤ y; omega) _).setCell (p := ⟨y, 2, none⟩) (by show x ≤ y; omega) _).setCell (p := ⟨y, 3, none⟩) (by show x ≤ y; omega) _
                          · rw [← HRR.out]
                            have hgy : (Value.slice (some ⟨g, 0, none⟩) K M3.f3).ownBlock ≠ some y := own_ne HG5.out HY4.out (by decide)
                            refine ⟨g, M3.f3, rfl, ?_⟩
                            rw [← HXE.out]
                            exact own_setCell (own_setCell (own_setCell (own_setCell HG5.out hgy) hgy) hgy) hgy
                      | false =>
                        obtain rfl : anch = true := by simpa using HSO.out
                        go_upto_region 31 with fail
                        have HFD := hid HGq.out.fd
                        have k7 := Joins.cell_of_block HGq.out.hb 7
                        have k8 := Joins.cell_of_block HGq.out.hb 8
                        have k9 := Joins.cell_of_block HGq.out.hb 9
                        have k10 := Joins.cell_of_block HGq.out.hb 10
                        simp at k7 k8 k9 k10
                        have hY4 := HXY.out.2
                        have s0 := Joins.unfrozen_of_block hY4 0
                        have s1 := Joins.unfrozen_of_block hY4 1
                        have s2 := Joins.unfrozen_of_block hY4 2
                        have s3 := Joins.unfrozen_of_block hY4 3
                        have y0 := Joins.cell_of_block hY4 0
                        have y1 := Joins.cell_of_block hY4 1
                        have y2 := Joins.cell_of_block hY4 2
                        have y3 := Joins.cell_of_block hY4 3
                        have HY4 := hid hY4
                        clear hY4
                        cases fd3 with
                        | none =>
                          obtain ⟨g1, g2, g3, g4, g5⟩ := HFD.out
                          rw [g1] at k7
                          rw [g2, g3, g4] at k8
                          rw [g5] at k9
                          clear g1 g2 g3 g4 g5
                          go_wp2
                          refine bodyPost_ret (results_cell_tmp rfl _ _ y 33 _ (0, 0) _ rfl (Joins.block_setCell (i := 3) (Joins.block_setCell (i := 2) (Joins.block_setCell (i := 1) (Joins.block_setCell (i := 0) HY4.out _) _) _) _) Try.underlying33 rfl (by kernel_rfl)) rfl ?_
                          refine ⟨?_, ?_⟩
                          · rw [← HXE.out]
                            exact (((HBW.out.setCell (p := ⟨y, 0, none⟩) (by show x ≤ y; omega) _).setCell (p := ⟨y, 1, none⟩) (by show x ≤ y; omega) _).setCell (p := ⟨y, 2, none⟩) (by show x ≤ y; omega) _).setCell (p := ⟨y, 3, none⟩) (by show x ≤ y; omega) _
                          · rw [← HRR.out]; rfl
                        | some v =>
                          exact absurd HI3.out (by simp)
                  · have hem : s2.next.isEmpty = false := by
                      cases hq : s2.next with
                      | nil => rw [hq] at hne; exact absurd rfl hne
                      | cons _ _ => rfl
                    have HC9 := hid (HCO.out (by rw [hem]; rfl))
                    have v1 : ¬ M3.n2 = 0 := by omega
                    have v2 : ((M3.n2 : Int) == 0) = false := by simp; omega
                    have v3 : decide ((M3.n2 : Int) = 0) = false := by simp; omega
                    have v4 : (M3.n2 == 0) = false := by simp; omega
                    clear HCO HBRK hem hne hn3
                    go_wp2
                    all_goals exact ⟨HC9.out, by simp [intOf]; omega⟩
        · have f1 : decide ((j : Int) ≤ (tn : Int)) = false := by simp; omega
          have HRR : Hid ((fdq, Mq.fs) = r) := by
            have := HL.out.2.2.2
            rw [show tn + 1 - j = 0 by omega] at this
            exact this
          have HKQ : Hid (Mq.K = K) := HBS.out.2.2.2.1.symm
          have HXY := hid HW.out.2
          have HBW := hid HW.out.1
          have HFD := hid HGq.out.fd
          have k7 := Joins.cell_of_block HGq.out.hb 7
          have k8 := Joins.cell_of_block HGq.out.hb 8
          have k9 := Joins.cell_of_block HGq.out.hb 9
          have k10 := Joins.cell_of_block HGq.out.hb 10
          simp at k7 k8 k9 k10
          have hY4 := HXY.out.2
          have s0 := Joins.unfrozen_of_block hY4 0
          have s1 := Joins.unfrozen_of_block hY4 1
          have s2 := Joins.unfrozen_of_block hY4 2
          have s3 := Joins.unfrozen_of_block hY4 3
          have y0 := Joins.cell_of_block hY4 0
          have y1 := Joins.cell_of_block hY4 1
          have y2 := Joins.cell_of_block hY4 2
          have y3 := Joins.cell_of_block hY4 3
          have HY4 := hid hY4
          clear hY4
          cases fdq with
          | none =>
            obtain ⟨g1, g2, g3, g4, g5⟩ := HFD.out
            rw [g1] at k7
            rw [g2, g3, g4] at k8
            rw [g5] at k9
            clear g1 g2 g3 g4 g5
            go_wp2
            refine bodyPost_ret (results_cell_tmp rfl _ _ y 33 _ (0, 0) _ rfl (Joins.block_setCell (i := 3) (Joins.block_setCell (i := 2) (Joins.block_setCell (i := 1) (Joins.block_setCell (i := 0) HY4.out _) _) _) _) Try.underlying33 rfl (by kernel_rfl)) rfl ?_
            refine ⟨?_, ?_⟩
            · rw [← HXE.out]
              exact (((HBW.out.setCell (p := ⟨y, 0, none⟩) (by show x ≤ y; omega) _).setCell (p := ⟨y, 1, none⟩) (by show x ≤ y; omega) _).setCell (p := ⟨y, 2, none⟩) (by show x ≤ y; omega) _).setCell (p := ⟨y, 3, none⟩) (by show x ≤ y; omega) _
            · rw [← HRR.out]; rfl
          | some v =>
            obtain ⟨g, g1, g2, g3, g4, g5⟩ := HFD.out
            rw [g1] at k7
            rw [g2, g3, HKQ.out] at k8
            rw [g4] at k9
            rw [HKQ.out] at g5
            have HG5 := hid g5
            clear g1 g2 g3 g4 g5
            go_wp2
            refine bodyPost_ret (results_cell_tmp rfl _ _ y 33 _ (0, 0) _ rfl (Joins.block_setCell (i := 3) (Joins.block_setCell (i := 2) (Joins.block_setCell (i := 1) (Joins.block_setCell (i := 0) HY4.out _) _) _) _) Try.underlying33 rfl (by kernel_rfl)) rfl ?_
            refine ⟨?_, ?_⟩
            · rw [← HXE.out]
              exact (((HBW.out.setCell (p := ⟨y, 0, none⟩) (by show x ≤ y; omega) _).setCell (p := ⟨y, 1, none⟩) (by show x ≤ y; omega) _).setCell (p := ⟨y, 2, none⟩) (by show x ≤ y; omega) _).setCell (p := ⟨y, 3, none⟩) (by show x ≤ y; omega) _
            · rw [← HRR.out]
              have hgy : (Value.slice (some ⟨g, 0, none⟩) K Mq.f3).ownBlock ≠ some y := own_ne HG5.out HY4.out (by decide)
              refine ⟨g, Mq.f3, rfl, ?_⟩
              rw [← HXE.out]
              exact own_setCell (own_setCell (own_setCell (own_setCell HG5.out hgy) hgy) hgy) hgy
end Go.Proofs.Ytaoagcnbdfklnaa
/- HELPERS: the document's Run whole. -/
namespace Go.Proofs.Ytaoagcnbdfklnaa
open Go.RowKit Go.Lk
/-- what the document's Run answers, of whatever is asked -/
def RunB (l : List In) (tx : List Int) (s k a : Int) (anch : Bool) (w : World) (e : Ending) (w' : World) : Prop :=
  (errR l s k tx.length a = 0 ∧ FQ k.toNat (lockRun (prOf l tx s.toNat k.toNat) tx.length a.toNat anch) w e w') ∨ (errR l s k tx.length a ≠ 0 ∧ FE (errR l s k tx.length a) w e w')
theorem run11 {w : World} {ad tad : Option Addr} {n c tn tc : Nat} {s k a : Int} {anch : Bool} {l : List In} {tx : List Int} (hP : PI w w.heap.size ad n l) (hT : TextAt w.heap.size w tad tn tx) :
    Calls Try.prog 11 #[pv ad n c s k, .slice tad tn tc, .int .i64 a, .bool anch] w (RunB l tx s k a anch w) := by
  have htl : tn = tx.length := hT.1
  by_cases h1 : 4194304 < tn
  · have e : errR l s k tx.length a = 2 := by unfold errR; rw [if_pos (by omega)]
    refine (run11_long hP h1).mono fun e' w' h => ?_
    exact .inr (by rw [e]; exact ⟨by decide, h⟩)
  · cases hm : mayB l s k
    · have e : errR l s k tx.length a = 90 := by unfold errR; rw [if_neg (by omega), if_pos hm]
      refine (run11_prog hP (by omega) hm).mono fun e' w' h => ?_
      exact .inr (by rw [e]; exact ⟨by decide, h⟩)
    · by_cases h2 : a < 0
      · have e : errR l s k tx.length a = 1 := by unfold errR; rw [if_neg (by omega), if_neg (by rw [hm]; decide), if_pos (.inl h2)]
        refine (run11_neg hP (by omega) hm h2).mono fun e' w' h => ?_
        exact .inr (by rw [e]; exact ⟨by decide, h⟩)
      · by_cases h3 : (tn : Int) < a
        · have e : errR l s k tx.length a = 1 := by unfold errR; rw [if_neg (by omega), if_neg (by rw [hm]; decide), if_pos (.inr (by omega))]
          refine (run11_far hP (by omega) hm h2 h3).mono fun e' w' h => ?_
          exact .inr (by rw [e]; exact ⟨by decide, h⟩)
        · have e : errR l s k tx.length a = 0 := by unfold errR; rw [if_neg (by omega), if_neg (by rw [hm]; decide), if_neg (by omega)]
          have hmo := may_ok hm
          obtain ⟨S, rfl⟩ := Int.eq_ofNat_of_zero_le hmo.2.1
          obtain ⟨K, rfl⟩ := Int.eq_ofNat_of_zero_le (show 0 ≤ k by omega)
          obtain ⟨A, rfl⟩ := Int.eq_ofNat_of_zero_le (show 0 ≤ a by omega)
          refine (run11_ok hP hm hT (by omega) (by omega)).mono fun e' w' h => ?_
          exact .inl ⟨e, h⟩
end Go.Proofs.Ytaoagcnbdfklnaa
namespace Go.Proofs.Ytaoagcnbdfklnaa
open Go.RowKit Go.Lk
set_option linter.unusedVariables false
set_option linter.unusedSimpArgs false
theorem four_cells {w : World} {b : Nat} {v0 v1 v2 v3 : Value} {t : TypeId} {fr : Nat × Nat} (h : w.heap[b]? = some (.cells #[v0, v1, v2, v3] t fr)) : w.cell? ⟨b, 0, none⟩ = some v0 ∧ w.cell? ⟨b, 1, none⟩ = some v1 ∧ w.cell? ⟨b, 2, none⟩ = some v2 ∧ w.cell? ⟨b, 3, none⟩ = some v3 :=
  ⟨Joins.cell_of_block h 0, Joins.cell_of_block h 1, Joins.cell_of_block h 2, Joins.cell_of_block h 3⟩
set_option maxRecDepth 100000 in
set_option maxHeartbeats 4000000 in
theorem same15 {w : World} {ok : Bool} {a1 a2 : Option Addr} {n1 c1 n2 c2 : Nat} {wh st : Int} (hs : ∀ W, Below w.heap.size w W → Calls Try.prog 14 #[.slice a1 n1 c1, .slice a2 n2 c2] W fun e w' => e = .returned (.bool true) ∧ Below W.heap.size W w') :
    Calls Try.prog 15 #[.agg #[.bool ok, .slice a1 n1 c1, .int .i64 wh, .int .i64 st], .agg #[.bool ok, .slice a2 n2 c2, .int .i64 wh, .int .i64 st]] w fun e w' => e = .returned (.bool true) ∧ Below w.heap.size w w' := by
  obtain ⟨U, hU⟩ : ∃ U, U = (w.alloc (.cells #[.bool ok, .slice a1 n1 c1, .int .i64 wh, .int .i64 st] 33)).alloc (.cells #[.bool ok, .slice a2 n2 c2, .int .i64 wh, .int .i64 st] 33) := ⟨_, rfl⟩
  have hb : Below w.heap.size w U := by rw [hU]; exact below_two' w _ _
  have hX : U.heap[w.heap.size]? = some (.cells #[.bool ok, .slice a1 n1 c1, .int .i64 wh, .int .i64 st] 33 (0, 0)) := by rw [hU]; exact (heap_alloc_old _ _ (by simp)).trans (heap_alloc_new w _)
  have hY : U.heap[w.heap.size + 1]? = some (.cells #[.bool ok, .slice a2 n2 c2, .int .i64 wh, .int .i64 st] 33 (0, 0)) := by rw [hU]; exact two_new w _ _ _
  obtain ⟨x, hx⟩ : ∃ x, x = w.heap.size := ⟨_, rfl⟩
  obtain ⟨y, hy⟩ : ∃ y, y = w.heap.size + 1 := ⟨_, rfl⟩
  have HC := hs U hb
  have hyU : w.heap.size + 1 < U.heap.size := (Array.getElem?_eq_some_iff.1 hY).1
  rw [← hx] at hX hb
  rw [← hy] at hY hyU
  have HX := hid hX
  have HY := hid hY
  have HB := hid hb
  have HXE := hid hx
  obtain ⟨c0, c1', c2', c3⟩ := four_cells hX
  obtain ⟨d0, d1, d2, d3⟩ := four_cells hY
  have hxU : x < U.heap.size := by omega
  clear hX hY hb hs
  go_enter Try.func15, Try.ntmps15
  go_upto_region 1 with fail
  rw [← hU, ← hy, ← hx]
  clear hU hy hx
  go_upto_region 2 with (go_at_call 14; (with_reducible refine HC.mono ?_); rintro e w2 ⟨rfl, hb2⟩; have HB2 := hid hb2; obtain ⟨e0, e1, e2, e3⟩ := four_cells ((hb2.block x hxU).trans HX.out); obtain ⟨g0, g1, g2, g3⟩ := four_cells ((hb2.block y hyU).trans HY.out); clear hb2 HC c0 c1' c2' c3 d0 d1 d2 d3)
  have HBW : Hid (Below x w w2) := HB.out.trans (Joins.below_le HB2.out (by omega))
  go_wp2
  all_goals go_ret
  all_goals refine ⟨?_, by rw [← HXE.out]; exact HBW.out⟩
  all_goals first | rfl | (simp) | (exact ret_bool (by simp))
end Go.Proofs.Ytaoagcnbdfklnaa
