/- HELPERS: texts of ours put together. -/
import Derived.Test.YtbdhiichhcihgaaK08
namespace Go.Proofs.Ytbdhiichhcihgaa
open Go.RowKit
set_option linter.unusedVariables false
set_option linter.unusedSimpArgs false
theorem row_setN {w:World} {base e size n b cap:Nat} {xs:List Value} (h:w.ownsRow base e size (.slice (some ⟨b,0,none⟩) n cap) n xs) (k:Nat) (x:Value):(w.setCell ⟨b,k,none⟩ x).ownsRow base e size (.slice (some ⟨b,0,none⟩) n cap) n (xs.set k x) ∧ w.frozen? ⟨b,k,none⟩ = false:=by
 have hl:=h.1
 rcases h.2 with ⟨h,_⟩ | ⟨g,cap',cur,he,hb,hgg,h1,h2,h3,h4⟩
 ·cases h
 ·simp only [Value.slice.injEq,Option.some.injEq,Addr.mk.injEq] at he
  obtain ⟨⟨rfl,_⟩,_,rfl⟩:=he
  refine ⟨⟨by simp [hl],.inr ⟨b,cap,cur.setIfInBounds k x,rfl,hb,Joins.block_setCell hgg _,h1,h2,by simpa using h3,?_⟩⟩,Joins.unfrozen_of_block hgg k⟩
  simp only [Array.toList_setIfInBounds]
  rw [List.take_set,h4]
structure UM (tb N0:Nat) (W:World) (v:Value) (Q:List E8):Prop where
 box:W.heap[tb]? = some (.cells #[v] 52 (0,0))
 row:W.ownsRow N0 66 8 v Q.length (Q.flatMap E8.cs)
 tbN:N0 ≤ tb
structure UFr (tb:Nat) (W W':World) (v v':Value):Prop where
 os:W'.os = W.os
 tape:W'.tape = W.tape
 output:W'.output = W.output
 size:W.heap.size ≤ W'.heap.size
 old:∀ b,b < W.heap.size → b ≠ tb → v.ownBlock ≠ some b → W'.heap[b]? = W.heap[b]?
 own:∀ b,v'.ownBlock = some b → v.ownBlock = some b ∨ W.heap.size ≤ b
theorem UFr.refl (tb:Nat) (W:World) (v:Value):UFr tb W W v v:=⟨rfl,rfl,rfl,Nat.le_refl _,fun _ _ _ _ => rfl,fun b h => .inl h⟩
theorem UFr.trans {tb:Nat} {a b c:World} {u v w:Value} (h:UFr tb a b u v) (k:UFr tb b c v w):UFr tb a c u w:=
 ⟨k.os.trans h.os,k.tape.trans h.tape,k.output.trans h.output,Nat.le_trans h.size k.size,fun i hi h1 h2 => (k.old i (Nat.lt_of_lt_of_le hi h.size) h1 (fun e => by
  rcases h.own i e with h3 | h3
  ·exact h2 h3
  ·omega)).trans (h.old i hi h1 h2),fun i hi => by
  rcases k.own i hi with h1 | h1
  ·exact h.own i h1
  ·exact .inr (Nat.le_trans h.size h1)⟩
theorem UFr.below {tb:Nat} {W W':World} {v:Value} (h:Below W.heap.size W W'):UFr tb W W' v v:=⟨h.os,h.tape,h.output,h.size,fun b hb _ _ => h.block b hb,fun b h => .inl h⟩
theorem UM.below {tb N0:Nat} {W W':World} {v:Value} {Q:List E8} (h:UM tb N0 W v Q) (k:Below W.heap.size W W'):UM tb N0 W' v Q:=
 ⟨(k.block tb (Array.getElem?_eq_some_iff.1 h.box).1).trans h.box,row_kept h.row fun b hb => k.block b (h.row.lt b hb).2,h.tbN⟩
theorem UFr.ki {tb N0:Nat} {W W':World} {v v':Value} {Q:List E8} (f:UFr tb W W' v v') (h:UM tb N0 W v Q) (hN:N0 ≤ W.heap.size):KI N0 W W':=by
 refine ⟨fun b hb => f.old b (by omega) (by have:=h.tbN;omega) (fun e => by have:=(h.row.lt b e).1;omega),fun b cur hx => ?_⟩
 refine (f.old b (Array.getElem?_eq_some_iff.1 hx).1 (fun e => ?_) (own_ne h.row hx (by decide))).trans hx
 rw [e,h.box] at hx
 simp at hx
theorem UM.at {tb N0 pb n vc:Nat} {W:World} {Q:List E8} (h:UM tb N0 W (.slice (some ⟨pb,0,none⟩) n vc) Q) (j:Nat) (hj:j < Q.length):N8 W pb (j * 8) Q[j].k Q[j].a Q[j].ix (.slice Q[j].r1 Q[j].r2 Q[j].r3) (.slice Q[j].sa Q[j].sn Q[j].sc) Q[j].lz Q[j].up Q[j].nth:=by
 have hn:n = Q.length:=by
  rcases h.row.2 with ⟨e,_⟩ | ⟨g,cap,cur,e,_⟩
  ·cases e
  ·simp only [Value.slice.injEq] at e;exact e.2.1
 have hr:W.ownsRow N0 66 8 (.slice (some ⟨pb,0,none⟩) n vc) n (Q.flatMap E8.cs):=by rw [hn] at h ⊢;exact h.row
 have key:∀ k v,(E8.cs Q[j])[k]? = some v → W.cell? ⟨pb,j * 8 + k,none⟩ = some v:=fun k v hv => by
  have hk:k < 8:=(List.getElem?_eq_some_iff.1 hv).1
  have hl:j * 8 + k < (Q.flatMap E8.cs).length:=by rw [flat8_len];omega
  have hc:=World.ownsRow.cellAt hr (j * 8 + k) (by omega)
  rw [hc]
  rw [flat8 Q j k hj hk,hv]
 exact ⟨key 0 _ rfl,key 1 _ rfl,key 2 _ rfl,key 3 _ rfl,key 4 _ rfl,key 5 _ rfl,key 6 _ rfl,key 7 _ rfl⟩
theorem UM.push {tb N0:Nat} {W W3:World} {v v':Value} {Q:List E8} {q:E8} {o:Obj} (h:UM tb N0 W v Q) (hm:Moved (W.alloc o) W3 v v') (ho:W3.ownsRow N0 66 8 v' (Q.length + 1) (Q.flatMap E8.cs ++ E8.cs q)) :
  UM tb N0 (W3.setCell ⟨tb,0,none⟩ v') v' (Q ++ [q]) ∧ UFr tb W (W3.setCell ⟨tb,0,none⟩ v') v v':=by
 have hbl:=(Array.getElem?_eq_some_iff.1 h.box).1
 have hs3:W.heap.size + 1 ≤ W3.heap.size:=by have:=moved_size hm;simpa using this
 have old:∀ k,k < W.heap.size → v.ownBlock ≠ some k → W3.heap[k]? = W.heap[k]?:=fun k hk hne => (moved_old' hm (by simp;omega) hne).trans (heap_alloc_old W _ hk)
 have hb3:W3.heap[tb]? = some (.cells #[v] 52 (0,0)):=(old tb hbl (own_ne h.row h.box (by decide))).trans h.box
 have set:∀ k,k ≠ tb → (W3.setCell ⟨tb,0,none⟩ v').heap[k]? = W3.heap[k]?:=fun k hk => Below.heap_setCell _ _ _ _ hk
 refine ⟨⟨Joins.block_setCell (i:=0) hb3 _,?_,h.tbN⟩,?_,?_,?_,by simp [World.setCell];omega,fun b hb1 hb2 hb3 => ?_,fun b hb => ?_⟩
 ·rw [List.length_append,List.flatMap_append]
  simp only [List.length_cons,List.length_nil,List.flatMap_cons,List.flatMap_nil,List.append_nil]
  exact own_setCell ho (own_ne ho hb3 (by decide))
 ·rcases hm with ⟨_,h⟩ | ⟨_,h⟩ <;> exact h.os
 ·rcases hm with ⟨_,h⟩ | ⟨_,h⟩ <;> exact h.tape
 ·rcases hm with ⟨_,h⟩ | ⟨_,h⟩ <;> exact h.output
 ·exact (set b hb2).trans (old b hb1 hb3)
 ·rcases hm with ⟨e,_⟩ | ⟨e,_⟩
  ·left;rw [← e];exact hb
  ·right
   rw [e] at hb
   simp at hb
   omega
theorem UM.setUp {tb N0 pb n vc:Nat} {W:World} {Q:List E8} (h:UM tb N0 W (.slice (some ⟨pb,0,none⟩) n vc) Q) (hn:n = Q.length) {j:Nat} (hj:j < Q.length) (u:Int):UM tb N0 (W.setCell ⟨pb,j * 8 + 6,none⟩ (.int .i64 u)) (.slice (some ⟨pb,0,none⟩) n vc) (Q.set j { Q[j] with up:=u }) ∧ UFr tb W (W.setCell ⟨pb,j * 8 + 6,none⟩ (.int .i64 u)) (.slice (some ⟨pb,0,none⟩) n vc) (.slice (some ⟨pb,0,none⟩) n vc) ∧ W.frozen? ⟨pb,j * 8 + 6,none⟩ = false:=by
 have hr:W.ownsRow N0 66 8 (.slice (some ⟨pb,0,none⟩) n vc) n (Q.flatMap E8.cs):=by rw [hn] at h ⊢;exact h.row
 obtain ⟨h1,h2⟩:=row_setN hr (j * 8 + 6) (.int .i64 u)
 have hne:tb ≠ pb:=fun e => own_ne h.row h.box (by decide) (by rw [e];rfl)
 refine ⟨⟨(Below.heap_setCell _ _ _ _ hne).trans h.box,?_,h.tbN⟩,⟨rfl,rfl,rfl,by simp [World.setCell],fun b _ _ hb => Below.heap_setCell _ _ _ _ (fun e => hb (by rw [e];rfl)),fun b hb => .inl hb⟩,h2⟩
 rw [List.length_set,← flat8_setUp Q j hj u,← hn]
 exact h1
theorem UM.setNth {tb N0 pb n vc:Nat} {W:World} {Q:List E8} (h:UM tb N0 W (.slice (some ⟨pb,0,none⟩) n vc) Q) (hn:n = Q.length) {j:Nat} (hj:j < Q.length) (u:Int):UM tb N0 (W.setCell ⟨pb,j * 8 + 7,none⟩ (.int .i64 u)) (.slice (some ⟨pb,0,none⟩) n vc) (Q.set j { Q[j] with nth:=u }) ∧ UFr tb W (W.setCell ⟨pb,j * 8 + 7,none⟩ (.int .i64 u)) (.slice (some ⟨pb,0,none⟩) n vc) (.slice (some ⟨pb,0,none⟩) n vc) ∧ W.frozen? ⟨pb,j * 8 + 7,none⟩ = false:=by
 have hr:W.ownsRow N0 66 8 (.slice (some ⟨pb,0,none⟩) n vc) n (Q.flatMap E8.cs):=by rw [hn] at h ⊢;exact h.row
 obtain ⟨h1,h2⟩:=row_setN hr (j * 8 + 7) (.int .i64 u)
 have hne:tb ≠ pb:=fun e => own_ne h.row h.box (by decide) (by rw [e];rfl)
 refine ⟨⟨(Below.heap_setCell _ _ _ _ hne).trans h.box,?_,h.tbN⟩,⟨rfl,rfl,rfl,by simp [World.setCell],fun b _ _ hb => Below.heap_setCell _ _ _ _ (fun e => hb (by rw [e];rfl)),fun b hb => .inl hb⟩,h2⟩
 rw [List.length_set,← flat8_setNth Q j hj u,← hn]
 exact h1
theorem ups_step {n i a:Nat} {Q:List E8} (ha:a < Q.length):(match Q[a]? with | some q => Q.set a { q with up:=(n:Int),nth:=(i:Int) } | none => Q) = (Q.set a { Q[a] with up:=(n:Int) }).set a { (Q.set a { Q[a] with up:=(n:Int) })[a]'(by simpa using ha) with nth:=(i:Int) }:=by
 rw [List.getElem?_eq_getElem ha]
 simp
theorem ups_snoc (n:Nat):∀ (S:List Nat) (a i:Nat) (Q:List E8),ups n (S ++ [a]) i Q = ups n [a] (i + S.length) (ups n S i Q)
 | [],a,i,Q => by simp [ups]
 | b :: S,a,i,Q => by
  simp only [List.cons_append,ups]
  rw [ups_snoc n S a (i + 1)]
  simp only [ups,List.length_cons]
  rw [show i + 1 + S.length = i + (S.length + 1) by omega]
theorem info141:(Try.prog.info? 66).map (fun i => (i.zero,i.size,i.bytes)) = some (some (.agg #[.int .i64 0,.int .i64 0,.int .i64 0,.slice none 0 0,.slice none 0 0,.bool false,.int .i64 0,.int .i64 0]),8,96):=by kernel_rfl
theorem PLw.up {C:WC} {W:World} {e:Pl} (h:PLw C W e):W.cell? ⟨C.pb,e.t.lb * 8 + 6,none⟩ = some (.int .i64 e.up) ∧ W.cell? ⟨C.pb,e.t.lb * 8 + 7,none⟩ = some (.int .i64 (e.nth:Int)):=by
 obtain ⟨⟨lb,k,R,a,s,mn,mx,lz,ix,nm⟩,B,up,nth⟩:=e
 obtain ⟨a',ix',r1,r2,r3,sa,sc,lz',⟨-,-,-,-,-,-,n6,n7⟩,-⟩:=h
 exact ⟨n6,n7⟩
theorem box8 {W:World} {y:Nat} {v0 v1 v2 v3 v4 v5 v6 v7:Value} {t:TypeId} (h:W.heap[y]? = some (.cells #[v0,v1,v2,v3,v4,v5,v6,v7] t (0,0))):W.cell? ⟨y,0,none⟩ = some v0 ∧ W.cell? ⟨y,1,none⟩ = some v1 ∧ W.cell? ⟨y,2,none⟩ = some v2 ∧ W.cell? ⟨y,3,none⟩ = some v3 ∧ W.cell? ⟨y,4,none⟩ = some v4 ∧ W.cell? ⟨y,5,none⟩ = some v5:=
 ⟨Joins.cell_of_block h 0,Joins.cell_of_block h 1,Joins.cell_of_block h 2,Joins.cell_of_block h 3,Joins.cell_of_block h 4,Joins.cell_of_block h 5⟩
theorem WIn.go {C:WC} {W V:World} {s s':Sg} {p q:Nat} {caps caps':List Int} {cv cv':Value} (h:WIn C W s p caps cv) (fm:FM C V s'.done s'.parses) (hq:q ≤ C.tn) (hc:Rw V cv' caps') (hl:caps'.length = caps.length) (hn:s'.notes = caps'.set 0 C.frm) (ho:s'.parses.length ≤ 70):WIn C V s' q caps' cv':=⟨fm,hq,hc,by rw [hl];exact h.capl,hn,ho⟩
theorem kinds_sub {C:WC} (hk:WCk C) {lb:Nat} {k:Int} {R:List (Int × Int)} {a:Int} {s:List Lt} {mn mx:Int} {lz:Bool} {ix:Int} {nm:ByteArray} {B:Way} {up:Int} {nth:Nat} (he:(⟨.mk lb k R a s mn mx lz ix nm,B,up,nth⟩:Pl) ∈ C.L):FineNZ k R a s.length mn mx lz ix nm:=node_fine (hk.fine _ he)
set_option maxRecDepth 100000 in
set_option maxHeartbeats 16000000 in
theorem behind_up {C:WC} (hk:WCk C) {lb:Nat} {k:Int} {R:List (Int × Int)} {a:Int} {s:List Lt} {mn mx:Int} {lz:Bool} {ix:Int} {nm:ByteArray} {B:Way} {up:Int} {nth:Nat} {p i:Nat} {g g1:Sg}
  (he:(⟨.mk lb k R a s mn mx lz ix nm,B,up,nth⟩:Pl) ∈ C.L) (hi:i < s.length)
  (hN:Hid (∀ (h:i + 1 < s.length),k = 4 → WCall C 20 (s[i + 1]).lb p g g1))
  (hU:Hid ((k = 4 → ¬ i + 1 < s.length) → k ≠ 7 → ¬ (k = 6 ∧ mx < 0) → WCall C 28 lb p g g1))
  (hG:Hid (k = 7 → ∃ g2,WCall C 28 lb p { g with notes:=g.notes.set (2 * ix.toNat + 1) (p:Int) } g2 ∧ g2.done = g1.done ∧ g2.parses = g1.parses))
  (hD:Hid (k = 6 → mx < 0 → WCall C 34 lb p g g1)):WCall C 28 (s[i]).lb p g g1:=by
 intro W caps cv h
 have hF:=kinds_sub hk he
 have hkid:=hk.child _ he i (by simpa [Lt.sub] using hi)
 obtain ⟨c,hc⟩:∃ c,c = (s[i]).lb:=⟨_,rfl⟩
 rw [← hc]
 have hlb:=hk.num _ he
 have hcb:=hk.num _ hkid
 simp only [child,Lt.sub] at hcb
 rw [← hc] at hcb
 have hnn:=hk.nn
 have htn:=hk.tn64
 have hp:=h.p64
 simp only [Lt.lb] at hlb
 have hsl:s.length ≤ 300000:=hk.subs _ he
 obtain ⟨k0,-,-,-,-,-,t0⟩:=h.fm.cells
 have c67:W.cell? ⟨C.pb,(s[i]).lb * 8 + 6,none⟩ = some (.int .i64 (lb:Int)) ∧ W.cell? ⟨C.pb,(s[i]).lb * 8 + 7,none⟩ = some (.int .i64 (i:Int)):=(h.fm.pl _ hkid).up
 rw [← hc] at c67
 obtain ⟨c6,c7⟩:=c67
 obtain ⟨a',ix',r1,r2,r3,sa,sc,lz',⟨n0,n1,n2,n3,n4,n5,n6,n7⟩,hnd⟩:=h.fm.pl _ he
 obtain ⟨kv,hkv⟩:∃ kv,kv = Lt.kk (.mk lb k R a s mn mx lz ix nm):=⟨_,rfl⟩
 rw [← hkv] at n0
 obtain ⟨V,hV⟩:∃ V,V = W.alloc (.cells #[.int .i64 kv,.int .i64 a',.int .i64 ix',.slice r1 r2 r3,.slice sa s.length sc,.bool lz',.int .i64 up,.int .i64 (nth:Int)] 66):=⟨_,rfl⟩
 have hbV:Below W.heap.size W V:=by rw [hV];exact Joins.below_alloc1 W _
 obtain ⟨fmV,frV⟩:=h.fm.below hk hbV
 have hY:V.heap[W.heap.size]? = some (.cells #[.int .i64 kv,.int .i64 a',.int .i64 ix',.slice r1 r2 r3,.slice sa s.length sc,.bool lz',.int .i64 up,.int .i64 (nth:Int)] 66 (0,0)):=by rw [hV];exact heap_alloc_new W _
 obtain ⟨y,hy⟩:∃ y,y = W.heap.size:=⟨_,rfl⟩
 rw [← hy] at hY
 obtain ⟨y0,y1,y2,y3,y4,y5⟩:=box8 hY
 obtain ⟨v0,-,-,-,-,-,w0⟩:=fmV.cells
 have d6:=(cell_eq (frV.typ C.pb _ _ (by decide) (by decide) (by decide) h.fm.nod.choose_spec |>.trans h.fm.nod.choose_spec.symm) (c * 8 + 7)).trans c7
 have HIN:=hid (h.go (q:=p) fmV hp (frV.row h.cap) rfl h.nt h.ol)
 have HFV:=hid frV
 have HSU:=hid (frV.row hnd.su)
 have HGR:=hid hnd.gr
 have i1:(c:Int) < (C.n:Int):=by omega
 have i2:(lb:Int) < (C.n:Int):=by omega
 have i3:(c:Int) ≤ 300000:=by omega
 have i4:(lb:Int) ≤ 300000:=by omega
 have i5:(p:Int) ≤ 64:=by omega
 have i6:(i:Int) < (s.length:Int):=by omega
 have i7:(s.length:Int) ≤ 300000:=by omega
 have i8:IntKind.i64.wrap ((i:Int) + 1) = (i:Int) + 1:=by simp [IntKind.wrap,IntKind.bits,IntKind.signed];omega
 have u0:decide ((lb:Int) < 0) = false:=by simp
 have HV:=hid hV
 have HYE:=hid hy
 have HFN:=hid hF
 have HKV:=hid hkv
 have HHK:=hid hk
 have HHE:=hid he
 have HH:=hid h
 have HII:=hid hi
 clear hk he hi hF hkid hc hlb hcb hnn htn hp hsl h hnd hV hbV fmV frV hY hy hkv
 obtain ⟨sl,hsl⟩:∃ sl,sl = s.length:=⟨_,rfl⟩
 rw [← hsl] at i6 i7 n4 y4 HSU HV
 have HSL:=hid hsl
 clear hsl
 go_enter Try.func28,Try.ntmps28
 go_upto_region 7 with fail
 rw [← HV.out,← HYE.out]
 clear n0 n1 n2 n3 n4 n5 n6 n7 c6 c7 k0 t0
 rcases HFN.out.kind with rfl | rfl | rfl | rfl | rfl | rfl | rfl
 ·have:=HFN.out.leaf (by omega);have:=HII.out;omega
 ·have:=HFN.out.leaf (by omega);have:=HII.out;omega
 ·have:=HFN.out.leaf (by omega);have:=HII.out;omega
 ·obtain rfl:kv = 4:=HKV.out
  by_cases hnx:i + 1 < s.length
  ·have HC:=(hN.out hnx rfl) V caps cv HIN.out
   have i9:(i:Int) + 1 < (sl:Int):=by have:=HSL.out;omega
   obtain ⟨gg,rfl,hg⟩:=sub_at (by rw [HSL.out] at HSU;exact HSU.out) hnx
   have b1:decide ((i:Int) + 1 < (sl:Int)) = true:=by simp;omega
   generalize (s[i + 1]).lb = nx at HC hg
   clear hnx
   go_wp2_with (first | (go_at_call 20;(with_reducible refine HC.mono ?_);rintro e w1 hq;have HQ:=hid (hq.pre HFV.out);obtain ⟨rfl,-⟩:=hq;clear HC))
   go_end0
   exact HQ.out
  ·have HC:=(hU.out (fun _ => hnx) (by decide) (fun h => by simp at h)) V caps cv HIN.out
   have b1:decide ((i:Int) + 1 < (sl:Int)) = false:=by have:=HSL.out;simp;omega
   clear hnx
   go_wp2_with (first | (go_at_call 28;(with_reducible refine HC.mono ?_);rintro e w1 hq;have HQ:=hid (hq.pre HFV.out);obtain ⟨rfl,-⟩:=hq;clear HC))
   go_end0
   exact HQ.out
 ·obtain rfl:kv = 5:=HKV.out
  have HC:=(hU.out (fun h => absurd h (by decide)) (by decide) (fun h => by simp at h)) V caps cv HIN.out
  go_wp2_with (first | (go_at_call 28;(with_reducible refine HC.mono ?_);rintro e w1 hq;have HQ:=hid (hq.pre HFV.out);obtain ⟨rfl,-⟩:=hq;clear HC))
  go_end0
  exact HQ.out
 ·by_cases hm:mx < 0
  ·have HC:=(hD.out rfl hm) V caps cv HIN.out
   by_cases hn:mn = 0
   ·obtain rfl:kv = 101:=by rw [HKV.out];simp [Lt.kk,hm,hn]
    clear hm hn
    go_wp2_with (first | (go_at_call 34;(with_reducible refine HC.mono ?_);rintro e w1 hq;have HQ:=hid (hq.pre HFV.out);obtain ⟨rfl,-⟩:=hq;clear HC))
    go_end0
    exact HQ.out
   ·obtain rfl:kv = 102:=by rw [HKV.out];simp [Lt.kk,hm,hn]
    clear hm hn
    go_wp2_with (first | (go_at_call 34;(with_reducible refine HC.mono ?_);rintro e w1 hq;have HQ:=hid (hq.pre HFV.out);obtain ⟨rfl,-⟩:=hq;clear HC))
    go_end0
    exact HQ.out
  ·obtain rfl:kv = 103:=by rw [HKV.out];simp [Lt.kk,hm]
   have HC:=(hU.out (fun h => absurd h (by decide)) (by decide) (fun h => hm h.2)) V caps cv HIN.out
   clear hm
   go_wp2_with (first | (go_at_call 28;(with_reducible refine HC.mono ?_);rintro e w1 hq;have HQ:=hid (hq.pre HFV.out);obtain ⟨rfl,-⟩:=hq;clear HC))
   go_end0
   exact HQ.out
 ·obtain rfl:kv = 7:=HKV.out
  obtain ⟨g2,hc2,hd2,hp2⟩:=hG.out rfl
  obtain ⟨x1,x2⟩:=HHK.out.grp _ _ _ _ _ _ _ _ _ _ _ _ _ HHE.out rfl
  have hxe:=HGR.out rfl
  subst hxe
  obtain ⟨z,rfl⟩:=Int.eq_ofNat_of_zero_le (show 0 ≤ ix' by omega)
  have hkk:=HHK.out.k2
  have hcl:=HH.out.capl
  have hz2:2 * z + 1 < caps.length:=by omega
  have m1:IntKind.i64.wrap (2 * (z:Int)) = 2 * (z:Int):=by simp [IntKind.wrap,IntKind.bits,IntKind.signed];omega
  have m2:IntKind.i64.wrap (2 * (z:Int) + 1) = 2 * (z:Int) + 1:=by simp [IntKind.wrap,IntKind.bits,IntKind.signed];omega
  have HS:=set39 caps cv (2 * z + 1) (p:Int) V HIN.out.cap.src hz2 (by omega)
  rw [show ((2 * z + 1:Nat):Int) = 2 * (z:Int) + 1 by omega] at HS
  have HCC:Hid (∀ w2 v',w2.ownsRow V.heap.size 3 1 v' caps.length (I64 (caps.set (2 * z + 1) (p:Int))) → Below V.heap.size V w2 → Calls Try.prog 28 #[.pointer (some ⟨C.wb,0,none⟩),.int .i64 (lb:Int),.int .i64 (p:Int),v'] w2 (fun e w' => WPost C g1 W e w')):=fun w2 v' ho hb => by
   obtain ⟨fm2,fr2⟩:=HIN.out.fm.below HHK.out hb
   have hr:Rw w2 v' (caps.set (2 * z + 1) (p:Int)):=Rw.of ho (by omega)
   refine (hc2 w2 (caps.set (2 * z + 1) (p:Int)) v' (HIN.out.go (s':={ g with notes:=g.notes.set (2 * z + 1) (p:Int) }) fm2 HIN.out.p64 hr (by simp) ?_ HIN.out.ol)).mono fun e w' hq => ?_
   ·show g.notes.set (2 * z + 1) (p:Int) = (caps.set (2 * z + 1) (p:Int)).set 0 C.frm
    rw [HIN.out.nt,List.set_comm _ _ (by omega)]
   ·obtain ⟨q1,q2,q3⟩:=hq
    exact ⟨q1,by rw [← hd2,← hp2];exact q2,HFV.out.trans (fr2.trans q3)⟩
  clear hc2 hd2 hp2 x1 x2 hkk hcl hz2
  go_wp2_with (first | (go_at_call 32;(with_reducible refine HS.mono ?_);rintro e w2 ⟨v',rfl,ho,hb⟩;have HC:=HCC.out w2 v' ho hb;clear ho hb HS) | (go_at_call 28;(with_reducible refine HC.mono ?_);rintro e w1 hq;have HQ:=hid hq;obtain ⟨rfl,-⟩:=hq;clear HC))
  go_end0
  exact HQ.out
abbrev E8.v (q:E8):Value:=.agg #[.int .i64 q.k,.int .i64 q.a,.int .i64 q.ix,.slice q.r1 q.r2 q.r3,.slice q.sa q.sn q.sc,.bool q.lz,.int .i64 q.up,.int .i64 q.nth]
theorem eight_cells {W:World} {y:Nat} {v0 v1 v2 v3 v4 v5 v6 v7:Value} {t:TypeId} (h:W.heap[y]? = some (.cells #[v0,v1,v2,v3,v4,v5,v6,v7] t (0,0))):W.cell? ⟨y,0,none⟩ = some v0 ∧ W.cell? ⟨y,1,none⟩ = some v1 ∧ W.cell? ⟨y,2,none⟩ = some v2 ∧ W.cell? ⟨y,3,none⟩ = some v3 ∧ W.cell? ⟨y,4,none⟩ = some v4 ∧ W.cell? ⟨y,5,none⟩ = some v5 ∧ W.cell? ⟨y,6,none⟩ = some v6 ∧ W.cell? ⟨y,7,none⟩ = some v7:=
 ⟨Joins.cell_of_block h 0,Joins.cell_of_block h 1,Joins.cell_of_block h 2,Joins.cell_of_block h 3,Joins.cell_of_block h 4,Joins.cell_of_block h 5,Joins.cell_of_block h 6,Joins.cell_of_block h 7⟩
theorem eight_set {W:World} {y:Nat} {v0 v1 v2 v3 v4 v5 v6 v7 x:Value} {t:TypeId} (h:W.heap[y]? = some (.cells #[v0,v1,v2,v3,v4,v5,v6,v7] t (0,0))):(W.setCell ⟨y,6,none⟩ x).heap[y]? = some (.cells #[v0,v1,v2,v3,v4,v5,x,v7] t (0,0)):=Joins.block_setCell (i:=6) h _
set_option maxRecDepth 100000 in
set_option maxHeartbeats 16000000 in
theorem put81 {tb N0:Nat} {W:World} {v:Value} {Q:List E8} {q:E8} {S:List Nat} (h:UM tb N0 W v Q) (hN:N0 ≤ W.heap.size) (hS:Rw W (.slice q.sa q.sn q.sc) (S.map fun (x:Nat) => (x:Int))) (hq:q.sn = S.length) (hlt:∀ x ∈ S,x < Q.length) (hQ:Q.length ≤ 100000) (hS2:S.length ≤ 100000) :
  Calls Try.prog 27 #[.pointer (some ⟨tb,0,none⟩),q.v] W fun e w' => ∃ v',e = .returned (.int .i64 (Q.length:Int)) ∧ UM tb N0 w' v' (ups Q.length S 0 (Q ++ [{ q with up:=-1 }])) ∧ UFr tb W w' v v':=by
 obtain ⟨k,a,ix,r1,r2,r3,sa,sn,sc,lz,up,nth⟩:=q
 simp only at hS hq
 subst hq
 obtain ⟨va,vc,hva⟩:∃ va vc,v = .slice va Q.length vc:=by
  obtain ⟨x,y,e,_⟩:=row_form h.row
  exact ⟨x,y,e⟩
 subst hva
 obtain ⟨U,hU⟩:∃ U,U = W.alloc (.cells #[.int .i64 k,.int .i64 a,.int .i64 ix,.slice r1 r2 r3,.slice sa S.length sc,.bool lz,.int .i64 up,.int .i64 nth] 66):=⟨_,rfl⟩
 have hbU:Below W.heap.size W U:=by rw [hU];exact Joins.below_alloc1 W _
 have hUX:U.heap[W.heap.size]? = some (.cells #[.int .i64 k,.int .i64 a,.int .i64 ix,.slice r1 r2 r3,.slice sa S.length sc,.bool lz,.int .i64 up,.int .i64 nth] 66 (0,0)):=by rw [hU];exact heap_alloc_new W _
 have hUM:=h.below hbU
 obtain ⟨x,hx⟩:∃ x,x = W.heap.size:=⟨_,rfl⟩
 rw [← hx] at hUX
 have k0:U.cell? ⟨tb,0,none⟩ = some (.slice va Q.length vc):=Joins.cell_of_block hUM.box 0
 have hxt:x ≠ tb:=fun e => by rw [e,hUM.box] at hUX;simp at hUX
 have hxo:(Value.slice va Q.length vc).ownBlock ≠ some x:=fun e => by have:=(h.row.lt x e).2;omega
 have u6:=Joins.unfrozen_of_block hUX 6
 have y6:U.cell? ⟨x,6,none⟩ = some (.int .i64 up):=Joins.cell_of_block hUX 6
 -- the box with up set
 obtain ⟨U2,hU2⟩:∃ U2,U2 = U.setCell ⟨x,6,none⟩ (.int .i64 (-1)):=⟨_,rfl⟩
 have hUX2:U2.heap[x]? = some (.cells #[.int .i64 k,.int .i64 a,.int .i64 ix,.slice r1 r2 r3,.slice sa S.length sc,.bool lz,.int .i64 (-1),.int .i64 nth] 66 (0,0)):=by rw [hU2];exact eight_set hUX
 have set2:∀ b,b ≠ x → U2.heap[b]? = U.heap[b]?:=fun b hb => by rw [hU2];exact Below.heap_setCell _ _ _ _ hb
 have hUM2:UM tb N0 U2 (.slice va Q.length vc) Q:=⟨(set2 tb (fun e => hxt e.symm)).trans hUM.box,row_kept hUM.row fun b hb => set2 b (fun e => hxo (e ▸ hb)),h.tbN⟩
 have hs2:U2.heap.size = U.heap.size:=by rw [hU2];simp [World.setCell]
 have hsU:U.heap.size = x + 1:=by rw [hU,hx];simp
 have fr2:UFr tb W U2 (.slice va Q.length vc) (.slice va Q.length vc):=⟨by rw [hU2,hU];rfl,by rw [hU2,hU];rfl,by rw [hU2,hU];rfl,by omega,fun b hb _ _ => (set2 b (by omega)).trans (hbU.block b hb),fun b hb => .inl hb⟩
 obtain ⟨x0,x1,x2,x3,x4,x5,x6,x7⟩:=eight_cells hUX2
 have k0':U2.cell? ⟨tb,0,none⟩ = some (.slice va Q.length vc):=Joins.cell_of_block hUM2.box 0
 have HUM2:=hid hUM2
 have HFR2:=hid fr2
 have HUX2:=hid hUX2
 have HSR:Hid (Rw U2 (.slice sa S.length sc) (S.map fun (x:Nat) => (x:Int))):=(fr2.ki h hN).row hS
 have HLT:=hid hlt
 have HXT:=hid hxt
 have HXO:=hid hxo
 have HHU:=hid hU
 have HHU2:=hid hU2
 have HX:=hid hx
 have HN0:Hid (N0 ≤ U2.heap.size):=by show _ ≤ _;omega
 have HXL:Hid (x < U2.heap.size):=by show _ < _;omega
 clear h hS hlt hbU hUX hUM hUM2 set2 hs2 hsU fr2 hUX2
 obtain ⟨n,hn⟩:∃ n,n = Q.length:=⟨_,rfl⟩
 rw [← hn] at k0 k0' HUM2 HFR2 hQ HXO ⊢
 have HNL:=hid hn
 obtain ⟨m,hm⟩:∃ m,m = S.length:=⟨_,rfl⟩
 rw [← hm] at x4 HUX2 HSR HHU hS2 ⊢
 have HML:=hid hm
 clear hn hm hU hU2 hx hxt hxo
 go_enter Try.func27,Try.ntmps27
 go_upto_region 1 with fail
 rw [← HHU.out,← HX.out]
 go_upto_region 3 with fail
 rw [← HHU2.out]
 clear k0 u6 y6
 obtain ⟨i0,hi0,hz0,hz1,hz2⟩:=info_parts info141
 have hrow:U2.ownsRow N0 66 8 (.slice va n vc) n (Q.flatMap E8.cs):=by have:=HUM2.out.row;rw [← HNL.out] at this;exact this
 have HROW:=hid hrow
 clear hrow
 have HSW:Hid (∀ V,Below U2.heap.size U2 V → V.cell? ⟨tb,0,none⟩ = some (.slice va n vc)):=fun V hV => (cell_eq (hV.block tb (Array.getElem?_eq_some_iff.1 HUM2.out.box).1) _).trans k0'
 refine wp_region_lexK [0,1,2,3,4,5] [6,7,8,9,10] 10 (fun V => V.cell? ⟨tb,0,none⟩ = some (.slice va n vc) ∧ V.cell? ⟨x,0,none⟩ = some (.int .i64 k) ∧ V.cell? ⟨x,1,none⟩ = some (.int .i64 a) ∧ V.cell? ⟨x,2,none⟩ = some (.int .i64 ix) ∧ V.cell? ⟨x,3,none⟩ = some (.slice r1 r2 r3) ∧ V.cell? ⟨x,4,none⟩ = some (.slice sa m sc) ∧ V.cell? ⟨x,5,none⟩ = some (.bool lz) ∧ V.cell? ⟨x,6,none⟩ = some (.int .i64 (-1)) ∧ V.cell? ⟨x,7,none⟩ = some (.int .i64 nth)) (by kernel_rfl) (by kernel_rfl) rfl (by kernel_rfl) (by kernel_rfl) ⟨k0',x0,x1,x2,x3,x4,x5,x6,x7⟩ ?_
 simp only [opsAt,opsNo,List.getElem?_toArray,List.getElem?_cons_zero,List.getElem?_cons_succ]
 iterate 6
  refine lex_cons ?_ rfl (fun V hV => ?_) (fun _ _ _ h => h) ?_
  rotate_left
  ·obtain ⟨s0,s1,s2,s3,s4,s5,s6,s7,s8⟩:=hV
   go_simp <;> with_reducible rfl
  simp only [Act.put,List.setIfInBounds_toArray,List.set_cons_zero,List.set_cons_succ]
 refine lex_nil (tailK_cons fun K hK => ?_)
 go_simp
 obtain ⟨q,hq⟩:∃ q:E8,q = ⟨k,a,ix,r1,r2,r3,sa,m,sc,lz,-1,nth⟩:=⟨_,rfl⟩
 have hBA:Below U2.heap.size U2 (U2.drew.alloc (.cells #[.int .i64 k,.int .i64 a,.int .i64 ix,.slice r1 r2 r3,.slice sa m sc,.bool lz,.int .i64 (-1),.int .i64 nth] 66)):=(show Below U2.heap.size U2 U2.drew from ⟨rfl,rfl,rfl,Nat.le_refl _,fun _ _ => rfl⟩).trans (Joins.below_alloc1 U2.drew _)
 have HSX:Hid (∀ V,Below U2.heap.size U2 V → V.cell? ⟨tb,0,none⟩ = some (.slice va n vc) ∧ V.cell? ⟨x,0,none⟩ = some (.int .i64 k) ∧ V.cell? ⟨x,1,none⟩ = some (.int .i64 a) ∧ V.cell? ⟨x,2,none⟩ = some (.int .i64 ix) ∧ V.cell? ⟨x,3,none⟩ = some (.slice r1 r2 r3) ∧ V.cell? ⟨x,4,none⟩ = some (.slice sa m sc) ∧ V.cell? ⟨x,5,none⟩ = some (.bool lz) ∧ V.cell? ⟨x,6,none⟩ = some (.int .i64 (-1)) ∧ V.cell? ⟨x,7,none⟩ = some (.int .i64 nth)):=fun V hV => ⟨HSW.out V hV,eight_cells ((hV.block x HXL.out).trans HUX2.out)⟩
 refine hK.out _ _ (fun _ => HSX.out _ hBA) (tailK_cons fun K hK => ?_)
 clear hBA
 have hN0:=HN0.out
 refine step_append rfl (.tmp 17) (.tmp 19) 50 rfl N0 66 i0 (.agg #[.int .i64 0,.int .i64 0,.int .i64 0,.slice none 0 0,.slice none 0 0,.bool false,.int .i64 0,.int .i64 0]) 8 96 Try.underlying50 hi0 hz0 hz1 hz2 rfl (by decide) (.slice va n vc) n (Q.flatMap E8.cs) rfl ((show U2.drew.ownsRow N0 66 8 (.slice va n vc) n (Q.flatMap E8.cs) from HROW.out).alloc _) ⟨U2.drew.heap.size,0,none⟩ 1 1 (E8.cs q) rfl rfl (by decide) ?_ ?_ (by unfold maxLen;omega) (by omega) (by have:U2.drew.heap.size = U2.heap.size:=rfl;simp;omega) ?_
 ·intro j u hj
  rw [hq] at hj
  match j,hj with
  | 0,hj => simp at hj;subst hj;simp [Addr.add]
  | 1,hj => simp at hj;subst hj;simp [Addr.add]
  | 2,hj => simp at hj;subst hj;simp [Addr.add]
  | 3,hj => simp at hj;subst hj;simp [Addr.add]
  | 4,hj => simp at hj;subst hj;simp [Addr.add]
  | 5,hj => simp at hj;subst hj;simp [Addr.add]
  | 6,hj => simp at hj;subst hj;simp [Addr.add]
  | 7,hj => simp at hj;subst hj;simp [Addr.add]
 ·intro u hu
  simp at hu
  rcases hu with rfl | rfl | rfl | rfl | rfl | rfl | rfl | rfl <;> rfl
 intro v' w4 ho4 hm4
 obtain ⟨pb,pc,rfl⟩:=Joins.ownsRow_form ho4.out (by omega)
 have hmv:Moved (U2.drew.alloc (.cells #[.int .i64 k,.int .i64 a,.int .i64 ix,.slice r1 r2 r3,.slice sa m sc,.bool lz,.int .i64 (-1),.int .i64 nth] 66)) w4 (.slice va n vc) (.slice (some ⟨pb,0,none⟩) (n + 1) pc):=hm4.out
 have hpu0:=(show UM tb N0 U2.drew (.slice va n vc) Q from ⟨HUM2.out.box,HUM2.out.row,HUM2.out.tbN⟩).push (q:=q) hmv (by rw [← HNL.out];exact ho4.out)
 have HPU:Hid (UM tb N0 (w4.setCell ⟨tb,0,none⟩ (.slice (some ⟨pb,0,none⟩) (n + 1) pc)) (.slice (some ⟨pb,0,none⟩) (n + 1) pc) (Q ++ [q]) ∧ UFr tb U2 (w4.setCell ⟨tb,0,none⟩ (.slice (some ⟨pb,0,none⟩) (n + 1) pc)) (.slice va n vc) (.slice (some ⟨pb,0,none⟩) (n + 1) pc)):=⟨hpu0.1,hpu0.2.os,hpu0.2.tape,hpu0.2.output,hpu0.2.size,hpu0.2.old,hpu0.2.own⟩
 clear hpu0
 have old:∀ b,b < U2.heap.size → (Value.slice va n vc).ownBlock ≠ some b → w4.heap[b]? = U2.heap[b]?:=fun b hb hne => (moved_old' hmv (by have:U2.drew.heap.size = U2.heap.size:=rfl;simp;omega) hne).trans (heap_alloc_old U2.drew _ hb)
 have hb4:w4.heap[tb]? = some (.cells #[.slice va n vc] 52 (0,0)):=(old tb (Array.getElem?_eq_some_iff.1 HUM2.out.box).1 (own_ne HROW.out HUM2.out.box (by decide))).trans HUM2.out.box
 have hx4:w4.heap[x]? = some (.cells #[.int .i64 k,.int .i64 a,.int .i64 ix,.slice r1 r2 r3,.slice sa m sc,.bool lz,.int .i64 (-1),.int .i64 nth] 66 (0,0)):=(old x HXL.out HXO.out).trans HUX2.out
 have q0:w4.cell? ⟨tb,0,none⟩ = some (.slice va n vc):=Joins.cell_of_block hb4 0
 have uq0:=Joins.unfrozen_of_block hb4 0
 have e8:=eight_cells hx4
 obtain ⟨V1,hV1⟩:∃ V1,V1 = w4.setCell ⟨tb,0,none⟩ (.slice (some ⟨pb,0,none⟩) (n + 1) pc):=⟨_,rfl⟩
 have hx5:V1.heap[x]? = some (.cells #[.int .i64 k,.int .i64 a,.int .i64 ix,.slice r1 r2 r3,.slice sa m sc,.bool lz,.int .i64 (-1),.int .i64 nth] 66 (0,0)):=by rw [hV1];exact (Below.heap_setCell _ _ _ _ HXT.out).trans hx4
 rw [← hV1] at HPU
 have hpx:x ≠ pb:=fun e => by
  rcases HPU.out.2.own x (by rw [e];rfl) with h1 | h1
  ·exact HXO.out h1
  ·have:=HXL.out;omega
 have HUV:=hid HPU.out.1
 have HFV:=hid (HFR2.out.trans HPU.out.2)
 have HSV:Hid (Rw V1 (.slice sa m sc) (S.map fun (x:Nat) => (x:Int))):=(HPU.out.2.ki HUM2.out HN0.out).row HSR.out
 have HX5:=hid hx5
 have HPX:=hid hpx
 have HV1:=hid hV1
 have HQE:=hid hq
 clear hmv old hx4 hb4 ho4 hm4 hx5 hpx hV1 HPU hq
 refine hK.out _ _ (fun _ => ⟨q0,e8⟩) (tailK_cons fun K hK => ?_)
 simp only [Act.put,List.setIfInBounds_toArray,List.set_cons_zero,List.set_cons_succ]
 go_simp
 refine hK.out _ _ (fun _ => ⟨q0,e8⟩) (tailK_cons fun K hK => ?_)
 simp only [Act.put,List.setIfInBounds_toArray,List.set_cons_zero,List.set_cons_succ]
 go_simp
 refine hK.out _ _ (fun _ => ⟨q0,e8⟩) (tailK_cons fun K hK => ?_)
 simp only [Act.put,List.setIfInBounds_toArray,List.set_cons_zero,List.set_cons_succ]
 go_simp
 refine hK.out _ _ (fun h => absurd rfl h) (tailK_nil ?_)
 try simp only [Act.put,List.setIfInBounds_toArray,List.set_cons_zero,List.set_cons_succ]
 rw [← HV1.out]
 clear q0 uq0 e8 k0' x0 x1 x2 x3 x4 x5 x6 x7
 go_wp2_with fail
 go_loopw [6] (fun u wq => ∃ i:Nat,u = .int .i64 (i:Int) ∧ i ≤ m ∧ Hid (UM tb N0 wq (.slice (some ⟨pb,0,none⟩) (n + 1) pc) (ups n (S.take i) 0 (Q ++ [q]))) ∧ Hid (UFr tb V1 wq (.slice (some ⟨pb,0,none⟩) (n + 1) pc) (.slice (some ⟨pb,0,none⟩) (n + 1) pc))) (fun u _ => m - (intOf u).toNat)
 case atStart => exact ⟨0,rfl,Nat.zero_le _,by simp only [List.take_zero,ups];exact HUV.out,UFr.refl _ _ _⟩
 case round =>
  obtain ⟨i,rfl,hi,HUQ,HFQ⟩:=hrel
  have hx6:=(HFQ.out.old x (Array.getElem?_eq_some_iff.1 HX5.out).1 HXT.out (fun e => HPX.out (by simpa [Value.ownBlock] using e.symm))).trans HX5.out
  obtain ⟨-,-,-,-,x4,-,-,-⟩:=eight_cells hx6
  by_cases hit:i < m
  ·have b1:decide ((i:Int) < (m:Int)) = true:=by simp;omega
   have b2:(i:Int) < (m:Int):=by omega
   have a1:IntKind.i64.wrap ((i:Int) + 1) = (i:Int) + 1:=by simp [IntKind.wrap,IntKind.bits,IntKind.signed];omega
   have hil:i < S.length:=by have:=HML.out;omega
   have hsu:=(HFQ.out.ki HUV.out (by have:=HFV.out.size;have:=hN;omega)).row HSV.out
   obtain ⟨gg,hsa,hg⟩:=sub_cell hsu (by simp;exact HML.out) hit
   subst hsa
   have hgv:(List.map (fun (x:Nat) => (x:Int)) S).getD i 0 = ((S[i]:Nat):Int):=by simp [List.getD_eq_getElem?_getD,List.getElem?_eq_getElem hil]
   rw [hgv] at hg
   obtain ⟨c,hc⟩:∃ c,c = S[i]:=⟨_,rfl⟩
   rw [← hc] at hg
   have hcl:c < n:=by rw [hc,HNL.out];exact HLT.out _ (List.getElem_mem hil)
   have c1:(c:Int) < ((n + 1:Nat):Int):=by omega
   have c2:(c:Int) ≤ 100000:=by omega
   have c3:(c:Int) < (n:Int) + 1:=by omega
   have hql:c < (ups n (S.take i) 0 (Q ++ [q])).length:=by rw [ups_len];simp;have:=HNL.out;omega
   have hnl:n + 1 = (ups n (S.take i) 0 (Q ++ [q])).length:=by rw [ups_len];simp;exact HNL.out
   have um0:UM tb N0 wr.drew (.slice (some ⟨pb,0,none⟩) (n + 1) pc) (ups n (S.take i) 0 (Q ++ [q])):=⟨HUQ.out.box,HUQ.out.row,HUQ.out.tbN⟩
   have fr0:UFr tb wr wr.drew (.slice (some ⟨pb,0,none⟩) (n + 1) pc) (.slice (some ⟨pb,0,none⟩) (n + 1) pc):=⟨rfl,rfl,rfl,Nat.le_refl _,fun _ _ _ _ => rfl,fun _ h => .inl h⟩
   obtain ⟨um1o,fr1o,fz1⟩:=um0.setUp hnl hql (n:Int)
   obtain ⟨y1,hy1⟩:∃ y1,y1 = (wr.setCell ⟨pb,c * 8 + 6,none⟩ (.int .i64 (n:Int))).drew:=⟨_,rfl⟩
   have um1:UM tb N0 y1 (.slice (some ⟨pb,0,none⟩) (n + 1) pc) ((ups n (S.take i) 0 (Q ++ [q])).set c { (ups n (S.take i) 0 (Q ++ [q]))[c] with up:=(n:Int) }):=by rw [hy1];exact um1o
   have fr1:UFr tb wr.drew y1 (.slice (some ⟨pb,0,none⟩) (n + 1) pc) (.slice (some ⟨pb,0,none⟩) (n + 1) pc):=by rw [hy1];exact fr1o
   have um1':UM tb N0 y1.drew (.slice (some ⟨pb,0,none⟩) (n + 1) pc) ((ups n (S.take i) 0 (Q ++ [q])).set c { (ups n (S.take i) 0 (Q ++ [q]))[c] with up:=(n:Int) }):=⟨um1.box,um1.row,um1.tbN⟩
   have fr1':UFr tb y1 y1.drew (.slice (some ⟨pb,0,none⟩) (n + 1) pc) (.slice (some ⟨pb,0,none⟩) (n + 1) pc):=⟨rfl,rfl,rfl,Nat.le_refl _,fun _ _ _ _ => rfl,fun _ h => .inl h⟩
   obtain ⟨um2,fr2o,fz2⟩:=um1'.setNth (by rw [List.length_set];exact hnl) (j:=c) (by simpa using hql) (i:Int)
   obtain ⟨y2,hy2⟩:∃ y2,y2 = (y1.setCell ⟨pb,c * 8 + 7,none⟩ (.int .i64 (i:Int))).drew:=⟨_,rfl⟩
   have fr2:UFr tb y1.drew y2 (.slice (some ⟨pb,0,none⟩) (n + 1) pc) (.slice (some ⟨pb,0,none⟩) (n + 1) pc):=by rw [hy2];exact fr2o
   have hstep:ups n (S.take (i + 1)) 0 (Q ++ [q]) = ((ups n (S.take i) 0 (Q ++ [q])).set c { (ups n (S.take i) 0 (Q ++ [q]))[c] with up:=(n:Int) }).set c { ((ups n (S.take i) 0 (Q ++ [q])).set c { (ups n (S.take i) 0 (Q ++ [q]))[c] with up:=(n:Int) })[c]'(by simpa using hql) with nth:=(i:Int) }:=by
    rw [List.take_succ_eq_append_getElem hil,ups_snoc,← hc]
    simp only [ups,List.length_take,Nat.min_eq_left (Nat.le_of_lt hil),Nat.zero_add]
    exact ups_step hql
   rw [← hstep] at um2
   have HU2:Hid (UM tb N0 y2 (.slice (some ⟨pb,0,none⟩) (n + 1) pc) (ups n (S.take (i + 1)) 0 (Q ++ [q]))):=by rw [hy2];exact hid um2
   have HF2:=hid (HFQ.out.trans (fr0.trans (fr1.trans (fr1'.trans fr2))))
   obtain ⟨u6,n6⟩:∃ u6,wr.cell? ⟨pb,c * 8 + 6,none⟩ = some (.int .i64 u6):=by obtain ⟨-,-,-,-,-,-,n6,-⟩:=HUQ.out.at c hql;exact ⟨_,n6⟩
   obtain ⟨u7,n7⟩:∃ u7,y1.cell? ⟨pb,c * 8 + 7,none⟩ = some (.int .i64 u7):=by obtain ⟨-,-,-,-,-,-,-,n7⟩:=um1.at c (by simpa using hql);exact ⟨_,n7⟩
   have t0:wr.cell? ⟨tb,0,none⟩ = some (.slice (some ⟨pb,0,none⟩) (n + 1) pc):=Joins.cell_of_block HUQ.out.box 0
   have t1:y1.cell? ⟨tb,0,none⟩ = some (.slice (some ⟨pb,0,none⟩) (n + 1) pc):=Joins.cell_of_block um1.box 0
   have hx7:y1.heap[x]? = _:=(fr1.old x (Array.getElem?_eq_some_iff.1 hx6).1 HXT.out (fun e => HPX.out (by simpa [Value.ownBlock] using e.symm))).trans hx6
   obtain ⟨-,-,-,-,z4,-,-,-⟩:=eight_cells hx7
   have hg1:y1.cell? ⟨gg,i,none⟩ = some (.int .i64 (c:Int)):=by
    have hsu1:=(fr1.ki um0 (by show _ ≤ wr.heap.size;have:=HFQ.out.size;have:=HFV.out.size;have:=hN;omega)).row (show Rw wr.drew _ _ from hsu)
    obtain ⟨g2,e2,h2⟩:=sub_cell hsu1 (by simp;exact HML.out) hit
    simp only [Option.some.injEq,Addr.mk.injEq] at e2
    rw [← e2.1] at h2
    rw [h2,hgv,hc]
   have fz1':wr.frozen? ⟨pb,c * 8 + 6,none⟩ = false:=fz1
   have fz2':y1.frozen? ⟨pb,c * 8 + 7,none⟩ = false:=fz2
   have HY1:=hid hy1
   have HY2:=hid hy2
   clear um0 um1o fr1o fr2o um1 um1' um2 fr0 fr1 fr1' fr2 fz1 fz2 hstep hsu hgv hc hx6 hx7 hql hnl hil hy1 hy2
   go_upto_region 7 with fail
   refine wp_region_lexK [0,1,2,3,4,5,6,7,8,9] [10,11,12] 12 (fun V => V.cell? ⟨tb,0,none⟩ = some (.slice (some ⟨pb,0,none⟩) (n + 1) pc) ∧ V.cell? ⟨x,4,none⟩ = some (.slice (some ⟨gg,0,none⟩) m sc) ∧ V.cell? ⟨gg,i,none⟩ = some (.int .i64 (c:Int))) (by kernel_rfl) (by kernel_rfl) rfl (by kernel_rfl) (by kernel_rfl) ⟨t0,x4,hg⟩ ?_
   simp only [opsAt,opsNo,List.getElem?_toArray,List.getElem?_cons_zero,List.getElem?_cons_succ]
   iterate 10
    refine lex_cons ?_ rfl (fun V hV => ?_) (fun _ _ _ h => h) ?_
    rotate_left
    ·obtain ⟨s0,s1,s2⟩:=hV
     go_simp <;> with_reducible rfl
    simp only [Act.put,List.setIfInBounds_toArray,List.set_cons_zero,List.set_cons_succ]
   refine lex_nil (tailK_cons fun K hK => ?_)
   go_simp
   refine hK.out _ _ (fun _ => ⟨t0,x4,hg⟩) (tailK_cons fun K hK => ?_)
   simp only [Act.put,List.setIfInBounds_toArray,List.set_cons_zero,List.set_cons_succ]
   go_simp
   refine hK.out _ _ (fun _ => ⟨t0,x4,hg⟩) (tailK_cons fun K hK => ?_)
   simp only [Act.put,List.setIfInBounds_toArray,List.set_cons_zero,List.set_cons_succ]
   go_simp
   refine hK.out _ _ (fun h => absurd rfl h) (tailK_nil ?_)
   try simp only [Act.put,List.setIfInBounds_toArray,List.set_cons_zero,List.set_cons_succ]
   rw [← HY1.out]
   go_upto_region 8 with fail
   refine wp_region_lexK [0,1,2,3,4,5,6,7,8,9] [10,11,12] 12 (fun V => V.cell? ⟨tb,0,none⟩ = some (.slice (some ⟨pb,0,none⟩) (n + 1) pc) ∧ V.cell? ⟨x,4,none⟩ = some (.slice (some ⟨gg,0,none⟩) m sc) ∧ V.cell? ⟨gg,i,none⟩ = some (.int .i64 (c:Int))) (by kernel_rfl) (by kernel_rfl) rfl (by kernel_rfl) (by kernel_rfl) ⟨t1,z4,hg1⟩ ?_
   simp only [opsAt,opsNo,List.getElem?_toArray,List.getElem?_cons_zero,List.getElem?_cons_succ]
   iterate 10
    refine lex_cons ?_ rfl (fun V hV => ?_) (fun _ _ _ h => h) ?_
    rotate_left
    ·obtain ⟨s0,s1,s2⟩:=hV
     go_simp <;> with_reducible rfl
    simp only [Act.put,List.setIfInBounds_toArray,List.set_cons_zero,List.set_cons_succ]
   refine lex_nil (tailK_cons fun K hK => ?_)
   go_simp
   refine hK.out _ _ (fun _ => ⟨t1,z4,hg1⟩) (tailK_cons fun K hK => ?_)
   simp only [Act.put,List.setIfInBounds_toArray,List.set_cons_zero,List.set_cons_succ]
   go_simp
   refine hK.out _ _ (fun _ => ⟨t1,z4,hg1⟩) (tailK_cons fun K hK => ?_)
   simp only [Act.put,List.setIfInBounds_toArray,List.set_cons_zero,List.set_cons_succ]
   go_simp
   refine hK.out _ _ (fun h => absurd rfl h) (tailK_nil ?_)
   try simp only [Act.put,List.setIfInBounds_toArray,List.set_cons_zero,List.set_cons_succ]
   rw [← HY2.out]
   clear t0 t1 x4 z4 hg hg1 n6 n7 fz1' fz2'
   go_wp2_with fail
   exact ⟨⟨i + 1,by push_cast;rfl,by omega,HU2.out,HF2.out⟩,by simp [intOf];omega⟩
  ·have b1:decide ((i:Int) < (m:Int)) = false:=by simp;omega
   have hie:S.take i = S:=List.take_of_length_le (by have:=HML.out;omega)
   have hfin:=HUQ.out
   rw [hie,HQE.out] at hfin
   have HFIN:=hid hfin
   clear hfin hie
   go_wp2_with fail
   all_goals go_ret
   all_goals exact ⟨_,rfl,HFIN.out,HFV.out.trans HFQ.out⟩
end Go.Proofs.Ytbdhiichhcihgaa
