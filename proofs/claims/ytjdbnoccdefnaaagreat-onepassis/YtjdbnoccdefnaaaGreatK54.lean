/- HELPERS: texts of ours put together. -/
import Derived.Test.YtjdbnoccdefnaaaGreatK53
import Derived.Deep.MidRow
namespace Go.Proofs.YtjdbnoccdefnaaaGreat
open Go.RowKit
set_option linter.unusedVariables false
set_option linter.unusedSimpArgs false
theorem O2_marks (R:List (Int × Int)):(O2 (R ++ M2))[R.length * 2]? = some (.int .i64 (-77)) ∧ (O2 (R ++ M2))[(R.length + 1) * 2]? = some (.int .i64 (-78)):=by
  have h0:=(O2_at (R ++ M2) R.length (by simp)).1
  have h1:=(O2_at (R ++ M2) (R.length + 1) (by simp)).1
  simp at h0 h1
  exact ⟨by simpa using h0,by simpa using h1⟩
theorem insts_marks (MS:List Iv):((MS ++ [mkI (-77),mkI (-78)]).flatMap Iv.cs)[MS.length * 5]? = some (.int .i64 (-77)) ∧ ((MS ++ [mkI (-77),mkI (-78)]).flatMap Iv.cs)[(MS.length + 1) * 5]? = some (.int .i64 (-78)):=by
  have h0:=flat5 (MS ++ [mkI (-77),mkI (-78)]) MS.length 0 (by simp) (by omega)
  have h1:=flat5 (MS ++ [mkI (-77),mkI (-78)]) (MS.length + 1) 0 (by simp) (by omega)
  rw [Nat.add_zero] at h0 h1
  rw [h0,h1]
  simp
theorem PL.at5 {w:World} {base n c gz:Nat} {l:List In} {MS:List Iv} (h:PL w base (some ⟨gz,0,none⟩) n c l MS) (i:Nat) (hi:i < n):I5 w gz 0 i (MS.getD i default):=by
  have hjl:i < MS.length:=by have:=h.lms;omega
  have hg:MS.getD i default = MS[i]:=by simp [List.getD_eq_getElem?_getD,List.getElem?_eq_getElem hjl]
  have f:∀ q,q < 5 → w.cell? ⟨gz,i * 5 + q,none⟩ = (Iv.cs MS[i])[q]?:=fun q hq => by
    rw [h.row.cellAt (i * 5 + q) (by omega),flat5 (MS ++ [mkI (-77),mkI (-78)]) i q (by simp;omega) hq,List.getElem_append_left hjl]
  have f0:=f 0 (by omega)
  rw [Nat.add_zero] at f0
  rw [hg]
  unfold I5
  rw [Nat.zero_add]
  exact ⟨f0,f 1 (by omega),f 2 (by omega),f 3 (by omega),f 4 (by omega)⟩
theorem PL.blk {w:World} {base n c:Nat} {ad:Option Addr} {l:List In} {MS:List Iv} (h:PL w base ad n c l MS):∃ gz,ad = some ⟨gz,0,none⟩ ∧ n + 2 ≤ c ∧ c ≤ maxLen:=by
  obtain ⟨a,c',e,h1,h2⟩:=row_shape h.row
  simp only [Value.slice.injEq] at e
  obtain ⟨_,_,rfl⟩:=e
  rcases h.row.2 with ⟨_,e⟩ | ⟨g,cap,cur,e,_⟩
  · omega
  · simp only [Value.slice.injEq] at e;exact ⟨g,e.1,h1,h2⟩
theorem LO.blk {w:World} {base:Nat} {z:Value} {N:Iv} {I:In} (h:LO w base z N I):∃ g,N.r1 = some ⟨g,0,none⟩ ∧ I.R.length + 2 ≤ N.r3 ∧ N.r3 ≤ maxLen:=by
  obtain ⟨a,c',e,h1,h2⟩:=row_shape h.rr
  simp only [Value.slice.injEq] at e
  obtain ⟨_,_,rfl⟩:=e
  rcases h.rr.2 with ⟨_,e⟩ | ⟨g,cap,cur,e,_⟩
  · omega
  · simp only [Value.slice.injEq] at e;exact ⟨g,e.1,h1,h2⟩
theorem PL.below {w w':World} {base n c:Nat} {ad:Option Addr} {l:List In} {MS:List Iv} (h:PL w base ad n c l MS) (hb:Below w.heap.size w w'):PL w' base ad n c l MS:=
  ⟨h.len,h.lms,row_kept h.row (fun b hb' => hb.block b (h.row.lt b hb').2),fun j hj => by
    have hO:=h.lo j hj
    exact ⟨hO.op,hO.x,hO.y,hO.a,hO.len,hO.sm,row_kept hO.rr (fun b hb' => hb.block b (hO.rr.lt b hb').2),hO.ne⟩,h.pw⟩
theorem PL.pi {w:World} {base n c:Nat} {ad:Option Addr} {l:List In} {MS:List Iv} (h:PL w base ad n c l MS):PI w w.heap.size ad n l:=by
  obtain ⟨gz,rfl,_,_⟩:=h.blk
  refine ⟨h.len,fun hp => ⟨gz,0,fun j => MS.getD j default,rfl,(h.row.lt gz rfl).2,fun i hi => ⟨h.at5 i (by have:=h.len;omega),?_⟩⟩⟩
  have hO:=h.lo i hi
  refine ⟨hO.op,hO.x,hO.y,hO.a,hO.len,hO.sm,?_⟩
  obtain ⟨g,e,_,_⟩:=hO.blk
  have hrr:=hO.rr
  rw [e] at hrr
  refine ⟨_,_,by rw [hO.len],?_⟩
  right
  refine ⟨g,0,e,(hrr.lt g rfl).2,fun k hk => ?_,fun k hk => ?_⟩
  · rw [Nat.zero_add,hrr.cellAt (k * 2) (by omega),(O2_at (l[i].R ++ M2) k (by simp;omega)).1,List.getElem_append_left hk]
    simp [List.getD_eq_getElem?_getD,List.getElem?_eq_getElem hk]
  · rw [Nat.zero_add,hrr.cellAt (k * 2 + 1) (by omega),(O2_at (l[i].R ++ M2) k (by simp;omega)).2,List.getElem_append_left hk]
    simp [List.getD_eq_getElem?_getD,List.getElem?_eq_getElem hk]
set_option maxRecDepth 100000 in
set_option maxHeartbeats 8000000 in
theorem kept12 {w:World} {ad:Option Addr} {n c:Nat} {l:List In} {MS:List Iv} {s k:Int} {base:Nat} (h:PL w base ad n c l MS) (hn:n * 56 ≤ 140737488351232) :
    Calls Tryz.prog 11 #[pv ad n c s k] w fun e w' => e = .returned (.bool true) ∧ Below w.heap.size w w':=by
  obtain ⟨gz,rfl,hc1,hc2⟩:=h.blk
  have hb:=Joins.below_alloc1 w (.cells #[.slice (some ⟨gz,0,none⟩) n c,.int .i64 s,.int .i64 k] 24)
  obtain ⟨U,hU⟩:∃ U,U = w.alloc (.cells #[.slice (some ⟨gz,0,none⟩) n c,.int .i64 s,.int .i64 k] 24):=⟨_,rfl⟩
  rw [← hU] at hb
  have hX:U.heap[w.heap.size]? = some (.cells #[.slice (some ⟨gz,0,none⟩) n c,.int .i64 s,.int .i64 k] 24 (0,0)):=by rw [hU];exact heap_alloc_new w _
  have hP:=h.below hb
  have hm:=insts_marks MS
  rw [h.lms] at hm
  have m0:U.cell? ⟨gz,n * 5,none⟩ = some (.int .i64 (-77)):=(hP.row.cellAt (n * 5) (by omega)).trans hm.1
  have m1:U.cell? ⟨gz,(n + 1) * 5,none⟩ = some (.int .i64 (-78)):=(hP.row.cellAt ((n + 1) * 5) (by omega)).trans hm.2
  have HP:=hid hP
  have HB:=hid hb
  have HL:=hid h.len
  have ad3:IntKind.i64.wrap ((n:Int) + 2) = (n:Int) + 2:=by simp [IntKind.wrap,IntKind.bits,IntKind.signed];omega
  have ad4:IntKind.i64.wrap ((n:Int) + 1) = (n:Int) + 1:=by simp [IntKind.wrap,IntKind.bits,IntKind.signed];omega
  have hsz:w.heap.size < U.heap.size:=(Array.getElem?_eq_some_iff.1 hX).1
  obtain ⟨b,hbe⟩:∃ b,b = w.heap.size:=⟨_,rfl⟩
  have u1:(0:Int) ≤ (n:Int) + 2:=by omega
  have u2:(n:Int) + 2 ≤ (c:Int):=by omega
  have u3:(n:Int) < (n:Int) + 2:=by omega
  have u4:(n:Int) + 1 < (n:Int) + 2:=by omega
  clear h hb hP hm
  go_enter Tryz.func11,Tryz.ntmps11
  go_upto_region 1 with fail
  rw [← hU,← hbe]
  rw [← hbe] at hX hsz HB
  have HX:=hid hX
  have HBE:=hid hbe
  obtain ⟨p0,p1,p2⟩:=three_cells hX
  clear hU hbe hX
  go_wp2_with fail
  clear p0 p1 p2 m0 m1 ad3 ad4 u1 u2 u3 u4
  go_loopw [5] (fun y wq => ∃ i:Nat,y = .int .i64 (i:Int) ∧ i ≤ n ∧ Hid (Below U.heap.size U wq)) (fun y _ => n - (intOf y).toNat)
  case atStart => exact ⟨0,rfl,by omega,Below.refl _ _⟩
  case round =>
    obtain ⟨i,rfl,hi,BK⟩:=hrel
    by_cases hil:i < n
    · have b1:decide ((i:Int) < (n:Int)) = true:=by simp;omega
      have b2:(i:Int) < (n:Int):=by omega
      have b3:(i:Int) < (n:Int) + 2:=by omega
      have ad1:IntKind.i64.wrap ((i:Int) + 1) = (i:Int) + 1:=by simp [IntKind.wrap,IntKind.bits,IntKind.signed];omega
      have hlt:i < l.length:=by have:=HL.out;omega
      have hPq:=HP.out.below BK.out
      have hI5:=hPq.at5 i hil
      have hO:=hPq.lo i hlt
      obtain ⟨N,hN⟩:∃ N,N = MS.getD i default:=⟨_,rfl⟩
      rw [← hN] at hI5 hO
      obtain ⟨g,e,h1,h2⟩:=hO.blk
      obtain ⟨op,xx,yy,aa,r1,r2,r3⟩:=N
      dsimp only at e h1 h2
      subst e
      have hlen:r2 = l[i].R.length:=hO.len
      have hsm:r2 * 16 ≤ 140737488351232:=hO.sm
      have hrr:=hO.rr
      dsimp only at hrr
      have hmm:=O2_marks l[i].R
      rw [← hlen] at hrr hmm h1
      have q0:wr.cell? ⟨g,r2 * 2,none⟩ = some (.int .i64 (-77)):=(hrr.cellAt (r2 * 2) (by omega)).trans hmm.1
      have q1:wr.cell? ⟨g,(r2 + 1) * 2,none⟩ = some (.int .i64 (-78)):=(hrr.cellAt ((r2 + 1) * 2) (by omega)).trans hmm.2
      unfold I5 at hI5
      simp only [Nat.zero_add] at hI5
      obtain ⟨n0,n1,n2,n3,n4⟩:=hI5
      have a1:IntKind.i64.wrap ((r2:Int) + 2) = (r2:Int) + 2:=by simp [IntKind.wrap,IntKind.bits,IntKind.signed];omega
      have a2:IntKind.i64.wrap ((r2:Int) + 1) = (r2:Int) + 1:=by simp [IntKind.wrap,IntKind.bits,IntKind.signed];omega
      have u1:(0:Int) ≤ (r2:Int) + 2:=by omega
      have u2:(r2:Int) + 2 ≤ (r3:Int):=by omega
      have u3:(r2:Int) < (r2:Int) + 2:=by omega
      have u4:(r2:Int) + 1 < (r2:Int) + 2:=by omega
      clear hN hO hPq hrr hmm hlen
      go_wp2
      exact ⟨⟨i + 1,by push_cast;rfl,by omega,BK.out⟩,by simp [intOf];omega⟩
    · have b1:decide ((i:Int) < (n:Int)) = false:=by simp;omega
      go_wp2
      all_goals go_ret
      all_goals refine ⟨rfl,?_⟩
      rw [← HBE.out]
      exact HB.out.trans (Joins.below_le BK.out (by omega))
abbrev I6:Iv:=⟨6,0,0,0,none,0,0⟩
abbrev J6:In:=⟨6,0,0,0,[]⟩
def JO (w:World) (base:Nat) (z:Value) (N:Iv) (I:In):Prop:=LO w base z N I ∨ (N = I6 ∧ I = J6)
theorem LO.kept {w w':World} {base:Nat} {z:Value} {N:Iv} {I:In} (h:LO w base z N I) (hk:∀ b,N.rv.ownBlock = some b → w'.heap[b]? = w.heap[b]?):LO w' base z N I:=
  ⟨h.op,h.x,h.y,h.a,h.len,h.sm,row_kept h.rr (fun b hb => hk b ((ob_len _ _ _ _ _).trans hb)),h.ne⟩
structure TV (w:World) (base:Nat) (ad:Option Addr) (n c:Nat) (l:List In) (MS:List Iv):Prop where
  len:n = l.length
  lms:MS.length = n
  row:w.ownsRow base 43 5 (.slice ad (n + 2) c) (n + 2) ((MS ++ [mkI (-77),mkI (-78)]).flatMap Iv.cs)
  lo:∀ j (hj:j < l.length),JO w base (.slice ad (n + 2) c) (MS.getD j default) l[j]
  pw:∀ j j' b,j < n → j' < n → j ≠ j' → (MS.getD j default).rv.ownBlock = some b → (MS.getD j' default).rv.ownBlock ≠ some b
theorem PL.tv {w:World} {base n c:Nat} {ad:Option Addr} {l:List In} {MS:List Iv} (h:PL w base ad n c l MS):TV w base ad n c l MS:=⟨h.len,h.lms,h.row,fun j hj => .inl (h.lo j hj),h.pw⟩
theorem TV.below {w w':World} {base n c:Nat} {ad:Option Addr} {l:List In} {MS:List Iv} (h:TV w base ad n c l MS) (hb:Below w.heap.size w w'):TV w' base ad n c l MS:=
  ⟨h.len,h.lms,row_kept h.row (fun b hb' => hb.block b (h.row.lt b hb').2),fun j hj => (h.lo j hj).imp (fun hO => hO.kept (fun b hb' => hb.block b (hO.rr.lt b ((ob_len _ _ _ _ _).trans hb')).2)) id,h.pw⟩
theorem TV.at5 {w:World} {base n c gz:Nat} {l:List In} {MS:List Iv} (h:TV w base (some ⟨gz,0,none⟩) n c l MS) (i:Nat) (hi:i < n):I5 w gz 0 i (MS.getD i default):=by
  have hjl:i < MS.length:=by have:=h.lms;omega
  have hg:MS.getD i default = MS[i]:=by simp [List.getD_eq_getElem?_getD,List.getElem?_eq_getElem hjl]
  have f:∀ q,q < 5 → w.cell? ⟨gz,i * 5 + q,none⟩ = (Iv.cs MS[i])[q]?:=fun q hq => by
    rw [h.row.cellAt (i * 5 + q) (by omega),flat5 (MS ++ [mkI (-77),mkI (-78)]) i q (by simp;omega) hq,List.getElem_append_left hjl]
  have f0:=f 0 (by omega)
  rw [Nat.add_zero] at f0
  rw [hg]
  unfold I5
  rw [Nat.zero_add]
  exact ⟨f0,f 1 (by omega),f 2 (by omega),f 3 (by omega),f 4 (by omega)⟩
theorem LO.im {w:World} {base:Nat} {z:Value} {N:Iv} {I:In} (hO:LO w base z N I):IM w w.heap.size N I:=by
  refine ⟨hO.op,hO.x,hO.y,hO.a,hO.len,hO.sm,?_⟩
  obtain ⟨g,e,_,_⟩:=hO.blk
  have hrr:=hO.rr
  rw [e] at hrr
  refine ⟨_,_,by rw [hO.len],?_⟩
  right
  refine ⟨g,0,e,(hrr.lt g rfl).2,fun k hk => ?_,fun k hk => ?_⟩
  · rw [Nat.zero_add,hrr.cellAt (k * 2) (by omega),(O2_at (I.R ++ M2) k (by simp;omega)).1,List.getElem_append_left hk]
    simp [List.getD_eq_getElem?_getD,List.getElem?_eq_getElem hk]
  · rw [Nat.zero_add,hrr.cellAt (k * 2 + 1) (by omega),(O2_at (I.R ++ M2) k (by simp;omega)).2,List.getElem_append_left hk]
    simp [List.getD_eq_getElem?_getD,List.getElem?_eq_getElem hk]
theorem TV.pi {w:World} {base n c gz:Nat} {l:List In} {MS:List Iv} (h:TV w base (some ⟨gz,0,none⟩) n c l MS):PI w w.heap.size (some ⟨gz,0,none⟩) n l:=by
  refine ⟨h.len,fun hp => ⟨gz,0,fun j => MS.getD j default,rfl,(h.row.lt gz rfl).2,fun i hi => ⟨h.at5 i (by have:=h.len;omega),?_⟩⟩⟩
  rcases h.lo i hi with hO | ⟨e1,e2⟩
  · exact hO.im
  · show IM w w.heap.size (MS.getD i default) l[i]
    rw [e1,e2]
    exact ⟨rfl,rfl,rfl,rfl,rfl,by decide,⟨none,0,rfl,.inl rfl⟩⟩
theorem O2_set:∀ (L:List (Int × Int)) (i:Nat) (x y:Int),((O2 L).set (i * 2) (.int .i64 x)).set (i * 2 + 1) (.int .i64 y) = O2 (L.set i (x,y)):=by
  intro L
  induction L with
  | nil => intro i x y;simp [O2]
  | cons a L ih =>
    intro i x y
    cases i with
    | zero => simp [O2]
    | succ i =>
      have h:=ih i x y
      have e:O2 (a :: L) = .int .i64 a.1 :: .int .i64 a.2 :: O2 L:=by simp [O2]
      have e2:O2 ((a :: L).set (i + 1) (x,y)) = .int .i64 a.1 :: .int .i64 a.2 :: O2 (L.set i (x,y)):=by simp [O2]
      rw [e,e2,← h,show (i + 1) * 2 = i * 2 + 1 + 1 by omega]
      simp
theorem flat5_set:∀ (L:List Iv) (i:Nat) (M:Iv),i < L.length → (L.flatMap Iv.cs).take (i * 5) ++ Iv.cs M ++ (L.flatMap Iv.cs).drop (i * 5 + (Iv.cs M).length) = (L.set i M).flatMap Iv.cs:=by
  intro L
  induction L with
  | nil => intro i M h;simp at h
  | cons a L ih =>
    intro i M h
    cases i with
    | zero => simp [List.flatMap_cons]
    | succ i =>
      have h1:=ih i M (by simpa using h)
      rw [List.set_cons_succ,List.flatMap_cons,List.flatMap_cons,← h1]
      rw [show (i + 1) * 5 = (Iv.cs a).length + i * 5 by simp;omega,List.take_length_add_append,show (Iv.cs a).length + i * 5 + (Iv.cs M).length = (Iv.cs a).length + (i * 5 + (Iv.cs M).length) by omega,List.drop_length_add_append]
      simp
theorem TV.setR {w:World} {base n c gz g r3:Nat} {l:List In} {MS:List Iv} {op x y a:Int} {r2:Nat} (h:TV w base (some ⟨gz,0,none⟩) n c l MS) (i:Nat) (hi:i < n) (hN:MS.getD i default = ⟨op,x,y,a,some ⟨g,0,none⟩,r2,r3⟩) (k:Nat) (hk:k < r2) (p q:Int) :
    ∃ l',TV ((w.setCell ⟨g,k * 2,none⟩ (.int .i64 p)).setCell ⟨g,k * 2 + 1,none⟩ (.int .i64 q)) base (some ⟨gz,0,none⟩) n c l' MS:=by
  have hl:=h.len
  have hil:i < l.length:=by omega
  rcases h.lo i hil with hO | ⟨e1,_⟩
  rotate_left
  · rw [hN] at e1
    cases e1
  rw [hN] at hO
  have hne:gz ≠ g:=fun e => hO.ne g rfl (by rw [e];rfl)
  have hkeep:∀ b,b ≠ g → ((w.setCell ⟨g,k * 2,none⟩ (.int .i64 p)).setCell ⟨g,k * 2 + 1,none⟩ (.int .i64 q)).heap[b]? = w.heap[b]?:=fun b hb => (Below.heap_setCell _ _ _ _ hb).trans (Below.heap_setCell _ _ _ _ hb)
  have hlen:r2 = l[i].R.length:=hO.len
  refine ⟨l.set i { l[i] with R:=l[i].R.set k (p,q) },by simpa using hl,h.lms,row_kept h.row (fun b hb => hkeep b (by cases hb;exact hne)),fun j hj => ?_,h.pw⟩
  have hjl:j < l.length:=by simpa using hj
  by_cases e:i = j
  · subst e
    left
    rw [hN,List.getElem_set_self]
    refine ⟨hO.op,hO.x,hO.y,hO.a,by simpa using hlen,hO.sm,?_,hO.ne⟩
    have h1:=row_setC (row_setC hO.rr (k * 2) (.int .i64 p)) (k * 2 + 1) (.int .i64 q)
    rw [O2_set,List.set_append_left _ _ (by omega)] at h1
    simpa using h1
  · rw [List.getElem_set_ne e]
    refine (h.lo j hjl).imp (fun hOj => hOj.kept (fun b hb => hkeep b (fun eb => ?_))) id
    subst eb
    exact h.pw j i b (by omega) hi (fun e' => e e'.symm) hb (by rw [hN];rfl)
theorem TV.setI {w:World} {base n c gz:Nat} {l:List In} {MS:List Iv} (h:TV w base (some ⟨gz,0,none⟩) n c l MS) (i:Nat) (hi:i < n) :
    TV (w.setCells gz (i * 5) (Iv.cs I6)) base (some ⟨gz,0,none⟩) n c (l.set i J6) (MS.set i I6):=by
  have hl:=h.len
  have hm:=h.lms
  have hset:=row_setCells (Iv.cs I6) (i * 5) w _ h.row (by rw [flat5_len];simp;omega)
  rw [flat5_set _ i I6 (by simp;omega),List.set_append_left _ _ (by omega)] at hset
  have hkeep:∀ b,b ≠ gz → (w.setCells gz (i * 5) (Iv.cs I6)).heap[b]? = w.heap[b]?:=fun b hb => setCells_old gz _ _ _ b hb
  have hget:∀ j,(MS.set i I6).getD j default = if j = i then I6 else MS.getD j default:=fun j => by
    by_cases e:j = i
    · subst e;rw [if_pos rfl];simp [List.getD_eq_getElem?_getD,show j < MS.length by omega]
    · rw [if_neg e];simp [List.getD_eq_getElem?_getD,List.getElem?_set_ne (fun e' => e e'.symm)]
  refine ⟨by simpa using hl,by simpa using hm,hset,fun j hj => ?_,fun j j' b hj hj' hne h1 h2 => ?_⟩
  · have hjl:j < l.length:=by simpa using hj
    rw [hget]
    by_cases e:i = j
    · subst e
      rw [if_pos rfl,List.getElem_set_self]
      exact .inr ⟨rfl,rfl⟩
    · rw [if_neg (fun e' => e e'.symm),List.getElem_set_ne e]
      exact (h.lo j hjl).imp (fun hOj => hOj.kept (fun b hb => hkeep b (fun eb => hOj.ne b hb (by rw [eb];rfl)))) id
  · rw [hget] at h1 h2
    by_cases e:j = i
    · rw [if_pos e] at h1;cases h1
    · by_cases e':j' = i
      · rw [if_pos e'] at h2;cases h2
      · rw [if_neg e] at h1
        rw [if_neg e'] at h2
        exact h.pw j j' b hj hj' hne h1 h2
theorem size49:(Tryz.prog.info? 50).map (·.size) = some 2:=by kernel_rfl
theorem size51:(Tryz.prog.info? 43).map (·.size) = some 5:=by kernel_rfl
theorem store49 {ops:Array Oper} {rest:List Oper} {op:Oper} {a:Act} {w:World} {Q:Exit → Act → World → Prop} (hgd:op.guard = none) (x y:Operand) (ho:op.op = .store 50 x y)
    (b i:Nat) (p q:Int) (hx:a.eval x = .pointer (some ⟨b,i * 2,none⟩)) (hy:a.eval y = .agg #[.int .i64 p,.int .i64 q]) (ht:w.there b (i * 2) 2)
    (h:wpList Tryz.prog ops Q rest (a.put op.dst undef) ((w.setCell ⟨b,i * 2,none⟩ (.int .i64 p)).setCell ⟨b,i * 2 + 1,none⟩ (.int .i64 q))):wpList Tryz.prog ops Q (op :: rest) a w:=
  wpList_store_mid hgd 50 x y ho b (i * 2) #[.int .i64 p,.int .i64 q] hx hy ht size49 (by simp [Value.oneCell']) h
theorem store51 {ops:Array Oper} {rest:List Oper} {op:Oper} {a:Act} {w:World} {Q:Exit → Act → World → Prop} (hgd:op.guard = none) (x y:Operand) (ho:op.op = .store 43 x y)
    (b i:Nat) (hx:a.eval x = .pointer (some ⟨b,i * 5,none⟩)) (hy:a.eval y = I6.v) (ht:w.there b (i * 5) 5)
    (h:wpList Tryz.prog ops Q rest (a.put op.dst undef) (w.setCells b (i * 5) (Iv.cs I6))):wpList Tryz.prog ops Q (op :: rest) a w:=
  wpList_store_mid hgd 43 x y ho b (i * 5) #[.int .i64 6,.int .i64 0,.int .i64 0,.int .i64 0,.slice none 0 0] hx hy ht size51 (by simp [Value.oneCell']) h
end Go.Proofs.YtjdbnoccdefnaaaGreat
