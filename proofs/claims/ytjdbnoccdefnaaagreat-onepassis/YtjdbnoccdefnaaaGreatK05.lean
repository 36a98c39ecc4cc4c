/- HELPERS: texts of ours put together. -/
import Derived.Test.YtjdbnoccdefnaaaGreatK04
import Derived.Test.YtjdbnoccdefnaaaGreatProg
import Derived.WalkKit
import Derived.ProofKit
import Derived.BigQuiet
import Derived.WalkSmall
import Derived.Deep.QuietTactic
import Derived.Deep.RegionWith
import Derived.Lib.SmallJoins
import Derived.Lib.MinMax
import Derived.Maps.AppendAt
import Derived.Laws.AppendOwnNone
import Derived.Test.YtjdbnoccdefnaaaGreatK01
namespace Go.Proofs.YtjdbnoccdefnaaaGreat
open Go.RowKit
set_option linter.unusedVariables false
set_option linter.unusedSimpArgs false
def I5 (w:World) (b o i:Nat) (N:Iv):Prop:=w.cell? ⟨b,o + i * 5,none⟩ = some (.int .i64 N.op) ∧ w.cell? ⟨b,o + i * 5 + 1,none⟩ = some (.int .i64 N.x) ∧ w.cell? ⟨b,o + i * 5 + 2,none⟩ = some (.int .i64 N.y) ∧ w.cell? ⟨b,o + i * 5 + 3,none⟩ = some (.int .i64 N.a) ∧ w.cell? ⟨b,o + i * 5 + 4,none⟩ = some (.slice N.r1 N.r2 N.r3)
theorem I5.kept {w w':World} {b o i:Nat} {N:Iv} (h:I5 w b o i N) (hk:w'.heap[b]? = w.heap[b]?):I5 w' b o i N:=by
  obtain ⟨h0,h1,h2,h3,h4⟩:=h
  exact ⟨(cell_eq hk _).trans h0,(cell_eq hk _).trans h1,(cell_eq hk _).trans h2,(cell_eq hk _).trans h3,(cell_eq hk _).trans h4⟩
structure IM (w:World) (B:Nat) (N:Iv) (I:In):Prop where
  op:N.op = I.op
  x:N.x = I.x
  y:N.y = I.y
  a:N.a = I.a
  len:N.r2 = I.R.length
  sm:N.r2 * 16 ≤ 140737488351232
  row:RowAt B w (.slice N.r1 N.r2 N.r3) I.R
theorem IM.kept {w w':World} {B B':Nat} {N:Iv} {I:In} (h:IM w B N I) (hb:Below B w w') (hB:B ≤ B'):IM w' B' N I:=⟨h.op,h.x,h.y,h.a,h.len,h.sm,h.row.below hb (Nat.le_refl _) hB⟩
structure PI (w:World) (B:Nat) (ad:Option Addr) (n:Nat) (l:List In):Prop where
  len:n = l.length
  mem:0 < n → ∃ (b o:Nat) (ND:Nat → Iv),ad = some ⟨b,o,none⟩ ∧ b < B ∧ ∀ i (hi:i < l.length),I5 w b o i (ND i) ∧ IM w B (ND i) l[i]
theorem PI.kept {w w':World} {B B':Nat} {ad:Option Addr} {n:Nat} {l:List In} (h:PI w B ad n l) (hb:Below B w w') (hB:B ≤ B'):PI w' B' ad n l:=by
  refine ⟨h.len,fun hp => ?_⟩
  obtain ⟨b,o,ND,e,h1,h2⟩:=h.mem hp
  exact ⟨b,o,ND,e,by omega,fun i hi => ⟨(h2 i hi).1.kept (hb.block b h1),(h2 i hi).2.kept hb hB⟩⟩
def mayB (l:List In) (s k:Int):Bool:=decide (l.length ≤ 20000) && belowB s l.length && capsB k && l.all fun I => I.okB l.length k
abbrev pv (ad:Option Addr) (n c:Nat) (s k:Int):Value:=.agg #[.slice ad n c,.int .i64 s,.int .i64 k]
theorem head_no {l:List In} {s k:Int} (h:(decide (l.length ≤ 20000) && belowB s l.length && capsB k) = false):mayB l s k = false:=by
  unfold mayB
  rw [h]
  rfl
set_option maxRecDepth 100000 in
set_option maxHeartbeats 4000000 in
theorem maybe24_no {w:World} {ad:Option Addr} {n c:Nat} {l:List In} {s k:Int} (hl:n = l.length) (hno:(decide (l.length ≤ 20000) && belowB s l.length && capsB k) = false) :
    Calls Tryz.prog 33 #[pv ad n c s k] w fun e w' => e = .returned (.bool (mayB l s k)) ∧ Below w.heap.size w w':=by
  rw [head_no hno]
  rw [← hl] at hno
  clear hl
  have T1:=fun W => below38 s n W
  have T2:=fun W => caps39 k W
  by_cases hA:n ≤ 20000
  · have b1:decide ((n:Int) > 20000) = false:=by simp;omega
    have b1':decide ((20000:Int) < (n:Int)) = false:=by simp;omega
    cases g1:belowB s n
    · simp only [g1] at T1
      go_enter Tryz.func33,Tryz.ntmps33
      go_wp2_with (first | (go_at_call 45;(with_reducible refine (T1 _).mono ?_);rintro e w2 ⟨rfl,rfl⟩))
      all_goals go_ret
      all_goals exact ⟨rfl,Joins.below_alloc1 w _⟩
    · simp only [g1] at T1
      have g2:capsB k = false:=by simpa [g1,hA] using hno
      simp only [g2] at T2
      go_enter Tryz.func33,Tryz.ntmps33
      go_wp2_with (first | (go_at_call 45;(with_reducible refine (T1 _).mono ?_);rintro e w2 ⟨rfl,rfl⟩) | (go_at_call 46;(with_reducible refine (T2 _).mono ?_);rintro e w2 ⟨rfl,rfl⟩))
      all_goals go_ret
      all_goals exact ⟨rfl,Joins.below_alloc1 w _⟩
  · have b1:decide ((n:Int) > 20000) = true:=by simp;omega
    have b1':decide ((20000:Int) < (n:Int)) = true:=by simp;omega
    go_enter Tryz.func33,Tryz.ntmps33
    go_wp2
    all_goals go_ret
    all_goals exact ⟨rfl,Joins.below_alloc1 w _⟩
theorem three_cells {w:World} {b:Nat} {v0 v1 v2:Value} {t:TypeId} {fr:Nat × Nat} (h:w.heap[b]? = some (.cells #[v0,v1,v2] t fr)):w.cell? ⟨b,0,none⟩ = some v0 ∧ w.cell? ⟨b,1,none⟩ = some v1 ∧ w.cell? ⟨b,2,none⟩ = some v2:=
  ⟨Joins.cell_of_block h 0,Joins.cell_of_block h 1,Joins.cell_of_block h 2⟩
set_option maxRecDepth 100000 in
set_option maxHeartbeats 4000000 in
theorem maybe24_ok {w:World} {ad:Option Addr} {n c:Nat} {l:List In} {s k:Int} (h:PI w w.heap.size ad n l) (hyes:(decide (l.length ≤ 20000) && belowB s l.length && capsB k) = true) :
    Calls Tryz.prog 33 #[pv ad n c s k] w fun e w' => e = .returned (.bool (mayB l s k)) ∧ Below w.heap.size w w':=by
  have hm:mayB l s k = l.all fun I => I.okB l.length k:=by unfold mayB;rw [hyes];rfl
  rw [hm]
  have hl:=h.len
  rw [← hl] at hyes ⊢
  simp only [Bool.and_eq_true,decide_eq_true_eq] at hyes
  obtain ⟨⟨hA,g1⟩,g2⟩:=hyes
  have T1:=fun W => below38 s n W
  have T2:=fun W => caps39 k W
  simp only [g1] at T1
  simp only [g2] at T2
  have b1:decide ((n:Int) > 20000) = false:=by simp;omega
  have b1':decide ((20000:Int) < (n:Int)) = false:=by simp;omega
  obtain ⟨U,hU⟩:∃ U,U = w.alloc (.cells #[.slice ad n c,.int .i64 s,.int .i64 k] 24):=⟨_,rfl⟩
  have hb:Below w.heap.size w U:=by rw [hU];exact Joins.below_alloc1 w _
  have hX:U.heap[w.heap.size]? = some (.cells #[.slice ad n c,.int .i64 s,.int .i64 k] 24 (0,0)):=by rw [hU];exact heap_alloc_new w _
  have hsz:w.heap.size < U.heap.size:=(Array.getElem?_eq_some_iff.1 hX).1
  have HP:=hid' (h.kept hb hb.size)
  have HB:=hid' hb
  have HX:=hid' hX
  have HL:=hid' hl
  have hz:w.heap.size ≤ w.heap.size:=Nat.le_refl _
  clear h hl hb hX hm hz
  obtain ⟨b,hbe⟩:∃ b,b = w.heap.size:=⟨_,rfl⟩
  go_enter Tryz.func33,Tryz.ntmps33
  go_upto_region 1 with fail
  rw [← hU,← hbe]
  rw [← hbe] at hsz HX HB
  have HBE:=hid' hbe
  clear hU hbe
  obtain ⟨c0,c1,c2⟩:=three_cells HX.out
  go_wp2_with (first | (go_at_call 45;(with_reducible refine (T1 _).mono ?_);rintro e w2 ⟨rfl,hw⟩;have hw':=hw.symm;clear hw;subst hw') | (go_at_call 46;(with_reducible refine (T2 _).mono ?_);rintro e w2 ⟨rfl,hw⟩;have hw':=hw.symm;clear hw;subst hw'))
  clear c0 c1 c2 T1 T2 b1 b1'
  go_loopw [27] (fun y wq => ∃ i:Nat,y = .int .i64 (i:Int) ∧ i ≤ n ∧ Hid (Below U.heap.size U wq) ∧ Hid (∀ j (hj:j < l.length),j < i → (l[j]).okB n k = true)) (fun y _ => n - (intOf y).toNat)
  case atStart => exact ⟨0,rfl,by omega,Below.refl _ _,fun j hj h0 => by omega⟩
  case round =>
    obtain ⟨i,rfl,hi,BK,HA⟩:=hrel
    by_cases hil:i < n
    · have b1:decide ((i:Int) < (n:Int)) = true:=by simp;omega
      have b2:(i:Int) < (n:Int):=by omega
      have ad1:IntKind.i64.wrap ((i:Int) + 1) = (i:Int) + 1:=by simp [IntKind.wrap,IntKind.bits,IntKind.signed];omega
      have hlt:i < l.length:=by have:=HL.out;omega
      obtain ⟨q,o,ND,e,hq,hcs⟩:=HP.out.mem (by omega)
      subst e
      obtain ⟨m0,m1,m2,m3,m4⟩:=(hcs i hlt).1.kept (BK.out.block q hq)
      have hIM:=(hcs i hlt).2.kept BK.out BK.out.size
      obtain ⟨M,hM⟩:∃ M,M = ND i:=⟨_,rfl⟩
      rw [← hM] at m0 m1 m2 m3 m4 hIM
      have hbw:b < wr.heap.size:=by have:=BK.out.size;omega
      have hcc:wr.cell? ⟨b,2,none⟩ = some (.int .i64 k):=(three_cells ((BK.out.block b hsz).trans HX.out)).2.2
      obtain ⟨V,hV⟩:∃ V,V = wr.alloc (.cells #[.int .i64 M.op,.int .i64 M.x,.int .i64 M.y,.int .i64 M.a,.slice M.r1 M.r2 M.r3] 43):=⟨_,rfl⟩
      have hbV:Below wr.heap.size wr V:=by rw [hV];exact Joins.below_alloc1 wr _
      have hIV:=hIM.kept hbV hbV.size
      have HC:=inst40 M l[i].R n k V hIV.len hIV.sm hIV.row
      rw [hIV.op,hIV.x,hIV.y,hIV.a] at HC
      have HBV:=hid' hbV
      have hVe:In.okB ⟨l[i].op,l[i].x,l[i].y,l[i].a,l[i].R⟩ n k = l[i].okB n k:=rfl
      rw [hVe] at HC
      rw [hV] at HC HBV
      clear hM hIM hIV hbV hV hVe hcs
      cases g:l[i].okB n k
      · rw [g] at HC
        go_wp2_with (first | (go_at_call 47;(with_reducible refine HC.mono ?_);rintro e w2 ⟨rfl,hb2⟩;have HB2:=hid' hb2;clear hb2 HC))
        all_goals go_ret
        all_goals refine ⟨ret_bool ?_,?_⟩
        · symm
          rw [List.all_eq_false]
          exact ⟨l[i],List.getElem_mem hlt,by rw [g];simp⟩
        · rw [← HBE.out]
          exact HB.out.trans (Joins.below_le (BK.out.trans (Joins.below_le (HBV.out.trans (Joins.below_le HB2.out HBV.out.size)) BK.out.size)) (by omega))
      · rw [g] at HC
        go_wp2_with (first | (go_at_call 47;(with_reducible refine HC.mono ?_);rintro e w2 ⟨rfl,hb2⟩;have HB2:=hid' hb2;clear hb2 HC))
        refine ⟨⟨i + 1,by push_cast;rfl,by omega,BK.out.trans (Joins.below_le (HBV.out.trans (Joins.below_le HB2.out HBV.out.size)) BK.out.size),fun j hj h1 => ?_⟩,by simp [intOf];omega⟩
        by_cases e:j = i
        · subst e;exact g
        · exact HA.out j hj (by omega)
    · have b1:decide ((i:Int) < (n:Int)) = false:=by simp;omega
      go_wp2
      all_goals go_ret
      all_goals refine ⟨ret_bool ?_,?_⟩
      · symm
        rw [List.all_eq_true]
        intro I hI
        obtain ⟨j,hj,rfl⟩:=List.getElem_of_mem hI
        exact HA.out j hj (by have:=HL.out;omega)
      · rw [← HBE.out]
        exact HB.out.trans (Joins.below_le BK.out (by omega))
theorem maybe24 {w:World} {ad:Option Addr} {n c:Nat} {l:List In} {s k:Int} (h:PI w w.heap.size ad n l):Calls Tryz.prog 33 #[pv ad n c s k] w fun e w' => e = .returned (.bool (mayB l s k)) ∧ Below w.heap.size w w':=by
  cases hh:decide (l.length ≤ 20000) && belowB s l.length && capsB k with
  | false => exact maybe24_no h.len hh
  | true => exact maybe24_ok h hh
theorem check10 {w:World} {ad:Option Addr} {n c:Nat} {l:List In} {s k:Int} (h:PI w w.heap.size ad n l):Calls Tryz.prog 22 #[pv ad n c s k] w fun e w' => e = .returned (.int .i64 (if mayB l s k then 0 else 90)) ∧ Below w.heap.size w w':=by
  have hb:=Joins.below_alloc1 w (.cells #[.slice ad n c,.int .i64 s,.int .i64 k] 24)
  have HC:=maybe24 (c:=c) (s:=s) (k:=k) (h.kept hb hb.size)
  have HB:=hid' hb
  clear h hb
  cases g:mayB l s k
  · rw [g] at HC
    go_enter Tryz.func22,Tryz.ntmps22
    go_wp2_with (first | (go_at_call 33;(with_reducible refine HC.mono ?_);rintro e w2 ⟨rfl,hb2⟩;have HB2:=hid' hb2;clear hb2 HC))
    all_goals go_ret
    all_goals exact ⟨rfl,HB.out.trans (Joins.below_le HB2.out HB.out.size)⟩
  · rw [g] at HC
    go_enter Tryz.func22,Tryz.ntmps22
    go_wp2_with (first | (go_at_call 33;(with_reducible refine HC.mono ?_);rintro e w2 ⟨rfl,hb2⟩;have HB2:=hid' hb2;clear hb2 HC))
    all_goals go_ret
    all_goals exact ⟨rfl,HB.out.trans (Joins.below_le HB2.out HB.out.size)⟩
abbrev I64 (l:List Int):List Value:=l.map (Value.int .i64)
theorem info3:(Tryz.prog.info? 3).map (fun i => (i.zero,i.size,i.bytes)) = some (some (.int .i64 0),1,8):=by kernel_rfl
theorem one_cell_ints (l:List Int):∀ u ∈ I64 l,u.oneCell' = true:=by
  intro u hu
  obtain ⟨x,_,rfl⟩:=List.mem_map.1 hu
  rfl
theorem run_append_move {P:Program} (w:World) (base:Nat) (t ty e:TypeId) (i:TypeInfo) (z:Value) (bytes:Nat) (ht:P.underlying t = some (.slice e)) (hi:P.info? e = some i) (hz:i.zero = some z)
    (hsize:i.size = 1) (hby:i.bytes = bytes) (hzs:z.cells.size = 1)
    (v:Value) (n:Nat) (xs:List Value) (hown:w.ownsRow base e 1 v n xs)
    (a:Addr) (m c:Nat) (news:List Value) (hl:news.length = m) (hm:0 < m) (hnews:∀ j u,news[j]? = some u → w.cell? (a.add j) = some u) (h1:∀ u ∈ news,u.oneCell' = true)
    (h63:n + m ≤ maxLen) (hbytes:(n + m) * bytes ≤ 140737488355328) (hbase:base ≤ w.heap.size) :
    ∃ v' w',(Builtin.append_ #[t,t] ty #[v,.slice (some a) m c]).run P w = .ok v' w' ∧ w'.ownsRow base e 1 v' (n + m) (xs ++ news) ∧ Moved w w' v v':=by
  obtain ⟨v',w',hrun,h2,h3,h4,h5⟩:=run_append_own_at (P:=P) w base t ty e i z 1 bytes ht hi hz hsize hby hzs (by decide) v n xs hown a m c news (by omega) hnews h1 h63 hbytes hbase
  refine ⟨v',w',hrun,h2,?_⟩
  rcases hown.2 with ⟨rfl,rfl⟩ | ⟨g,cap,cur,rfl,hbg,hg,hnc,hcm,hcs,htake⟩
  · rcases h5 with h5 | h5
    · exact .inl ⟨h5,h3⟩
    · exact .inr ⟨h5,h3⟩
  · by_cases hroom:n + m ≤ cap
    · have hr:=run_append_room (P:=P) w t ty e i ht hi g n cap cur hg a m c news (by rw [hsize];omega) hnews h1 hroom (by rw [hsize,hcs];omega)
      have he:=hrun.symm.trans hr
      injection he with e1 e2
      left
      exact ⟨by rw [e1];rfl,h3⟩
    · have holds:∀ j u,xs[j]? = some u → w.cell? ((⟨g,0,none⟩:Addr).add j) = some u:=hown.cells (g:=g) rfl
      have hr:=run_append_grow (P:=P) w t ty e i z ht hi hz ⟨g,0,none⟩ n cap xs (by rw [hsize];exact hown.1) holds a m c news (by rw [hsize];omega) hnews (by omega) (by unfold maxLen at h63;omega) (growslice_fits (by omega) (by rw [hby];exact hbytes))
      have he:=hrun.symm.trans hr
      injection he with e1 e2
      right
      refine ⟨by rw [e1];rfl,?_⟩
      rw [e2]
      exact ⟨rfl,rfl,rfl,by simp,fun k hk _ => heap_alloc_old w.drew _ hk⟩
theorem wpList_append_move {P:Program} {w:World} {ops:Array Oper} {rest:List Oper} {o:Oper} {a:Act} {Q:Exit → Act → World → Prop} (hgd:o.guard = none) (s x:Operand) (t:TypeId)
    (ho:o.op = .call { callee:=.builtin .append,args:=#[s,x],argTypes:=#[t,t] })
    (base:Nat) (e:TypeId) (i:TypeInfo) (z:Value) (bytes:Nat) (ht:P.underlying t = some (.slice e)) (hi:P.info? e = some i) (hz:i.zero = some z)
    (hsize:i.size = 1) (hby:i.bytes = bytes) (hzs:z.cells.size = 1)
    (v:Value) (n:Nat) (xs:List Value) (hs:a.eval s = v) (hown:w.ownsRow base e 1 v n xs)
    (ad:Addr) (m c:Nat) (news:List Value) (hx:a.eval x = .slice (some ad) m c) (hl:news.length = m) (hm:0 < m) (hnews:∀ j u,news[j]? = some u → w.cell? (ad.add j) = some u) (h1:∀ u ∈ news,u.oneCell' = true)
    (h63:n + m ≤ maxLen) (hbytes:(n + m) * bytes ≤ 140737488355328) (hbase:base ≤ w.heap.size)
    (h:∀ v' w',Hid (w'.ownsRow base e 1 v' (n + m) (xs ++ news)) → Hid (Moved w w' v v') → wpList P ops Q rest (a.put o.dst v') w'):wpList P ops Q (o :: rest) a w:=by
  refine wpList_plain hgd fun K hK => ?_
  obtain ⟨v',w',hr,h2,h3⟩:=run_append_move (P:=P) w base t o.type e i z bytes ht hi hz hsize hby hzs v n xs hown ad m c news hl hm hnews h1 h63 hbytes hbase
  unfold Oper.wp execOp
  simp only [ho,resolve,invoke,builtin,Sem.run_bind,Sem.run_pure,Result.andThen_ok,List.map_toArray,List.map_cons,List.map_nil,hs,hx,hr]
  exact hK _ _ (h v' w' h2 h3)
theorem wpList_append_one {P:Program} {w:World} {ops:Array Oper} {rest:List Oper} {op:Oper} {a:Act} {Q:Exit → Act → World → Prop} (hgd:op.guard = none) (s x:Operand) (t:TypeId)
    (ho:op.op = .call { callee:=.builtin .append,args:=#[s,x],argTypes:=#[t,t] })
    (base:Nat) (e:TypeId) (z:Value) (bytes:Nat) (ht:P.underlying t = some (.slice e)) (hi:(P.info? e).map (fun i => (i.zero,i.size,i.bytes)) = some (some z,1,bytes)) (hzs:z.cells.size = 1)
    (v u:Value) (n c:Nat) (xs:List Value) (hs:a.eval s = v) (hown:w.ownsRow base e 1 v n xs)
    (G:Nat) (hG:G = w.heap.size) (hx:a.eval x = .slice (some ⟨G,0,none⟩) 1 c) (h1:u.oneCell' = true)
    (h63:n + 1 ≤ maxLen) (hbytes:(n + 1) * bytes ≤ 140737488355328) (hbase:base ≤ w.heap.size)
    (h:∀ v' w',Hid (w'.ownsRow base e 1 v' (n + 1) (xs ++ [u])) → Hid (Moved (w.alloc (.cells #[u] e)) w' v v') → wpList P ops Q rest (a.put op.dst v') w'):wpList P ops Q (op :: rest) a (w.alloc (.cells #[u] e)):=by
  subst hG
  obtain ⟨i0,hi,hz0,hz1,hz2⟩:=info_parts hi
  refine wpList_append_move hgd s x t ho base e i0 z bytes ht hi hz0 hz1 hz2 hzs v n xs hs (hown.alloc _) ⟨w.heap.size,0,none⟩ 1 c [u] hx rfl (by decide) ?_ ?_ h63 hbytes (by simp;omega) h
  · intro j y hj
    match j,hj with
    | 0,hj => simp at hj;subst hj;simp [Addr.add]
  · intro y hy;simp at hy;subst hy;exact h1
theorem Chg.of_below {w w':World} {F:List Nat} (h:Below w.heap.size w w'):Chg w w' F F:=⟨h.os,h.tape,h.output,h.size,fun k hk _ => h.block k hk,fun k hk => .inl hk⟩
theorem chg_moved {w w1:World} {o:Obj} {v v':Value} (hm:Moved (w.alloc o) w1 v v') (G:List Nat):Chg w w1 (G ++ v.ownBlock.toList) (G ++ v'.ownBlock.toList):=by
  rcases hm with ⟨he,h⟩ | ⟨he,h⟩
  · refine ⟨h.os,h.tape,h.output,by have:=h.size;simp at this;omega,fun k hk hn => (h.block k (by simp;omega) (fun e => hn (by simp [← e]))).trans (heap_alloc_old w _ hk),fun k hk => ?_⟩
    rw [he] at hk
    exact .inl hk
  · refine ⟨h.os,h.tape,h.output,by have:=h.size;simp at this;omega,fun k hk hn => (h.block k (by simp;omega) (by simp)).trans (heap_alloc_old w _ hk),fun k hk => ?_⟩
    rw [he] at hk
    simp at hk
    rcases hk with hk | hk
    · exact .inl (by simp [hk])
    · exact .inr (by omega)
def StkI (N:Nat) (w:World) (g:Nat) (F:List Nat) (l:List Int) (m:Nat):Prop:=
  ∃ v,w.heap[g]? = some (.cells #[v,.int .i64 (m:Int)] 41 (0,0)) ∧ N ≤ g ∧ w.ownsRow N 3 1 v l.length (I64 l) ∧ F = g :: v.ownBlock.toList
theorem StkI.low {N:Nat} {w:World} {g:Nat} {F:List Nat} {l:List Int} {m:Nat} (h:StkI N w g F l m):∀ k ∈ F,N ≤ k ∧ k < w.heap.size:=by
  obtain ⟨v,h1,h2,h3,rfl⟩:=h
  intro k hk
  simp only [List.mem_cons,Option.mem_toList] at hk
  rcases hk with rfl | hk
  · exact ⟨h2,(Array.getElem?_eq_some_iff.1 h1).1⟩
  · exact h3.lt k hk
theorem StkI.kept {N:Nat} {w w':World} {g:Nat} {F:List Nat} {l:List Int} {m:Nat} (h:StkI N w g F l m) (hk:∀ k ∈ F,w'.heap[k]? = w.heap[k]?):StkI N w' g F l m:=by
  obtain ⟨v,h1,h2,h3,rfl⟩:=h
  refine ⟨v,(hk g (by simp)).trans h1,h2,⟨h3.1,?_⟩,rfl⟩
  rcases h3.2 with hn | ⟨b,cap,cur,rfl,hb,hgg,rest⟩
  · exact .inl hn
  · exact .inr ⟨b,cap,cur,rfl,hb,(hk b (by simp [Value.ownBlock])).trans hgg,rest⟩
theorem StkI.zero (N:Nat) (w:World) (hN:N ≤ w.heap.size):StkI N (w.alloc (.cells #[.slice none 0 0,.int .i64 0] 41)) w.heap.size [w.heap.size] [] 0:=
  ⟨_,heap_alloc_new w _,hN,World.ownsRow_nil _ _ _ _,rfl⟩
theorem row_cap {w:World} {base e n b cap:Nat} {xs:List Value} (h:w.ownsRow base e 1 (.slice (some ⟨b,0,none⟩) n cap) n xs):n ≤ cap ∧ cap ≤ 9223372036854775807:=by
  rcases h.2 with ⟨h,_⟩ | ⟨g,cap',cur,he,hb,hgg,h1,h2,h3,h4⟩
  · cases h
  · simp only [Value.slice.injEq,Option.some.injEq,Addr.mk.injEq] at he
    obtain ⟨⟨rfl,_⟩,_,rfl⟩:=he
    unfold maxLen at h2
    omega
end Go.Proofs.YtjdbnoccdefnaaaGreat
