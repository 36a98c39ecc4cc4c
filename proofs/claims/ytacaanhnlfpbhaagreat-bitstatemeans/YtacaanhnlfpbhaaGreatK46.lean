/- HELPERS: texts of ours put together. -/
import Derived.Test.YtacaanhnlfpbhaaGreatK45
import Derived.Test.YtacaanhnlfpbhaaGreatK28
namespace Go.Proofs.YtacaanhnlfpbhaaGreat
open Go.RowKit Go.Lk
set_option linter.unusedVariables false
set_option linter.unusedSimpArgs false
abbrev L4:List In:=[⟨3,1,0,0,[]⟩,⟨1,2,0,0,[(97,97)]⟩,⟨3,3,0,1,[]⟩,⟨5,0,0,0,[]⟩]
abbrev F4 (q1:Option Addr) (q3:Nat):List Value:=[.int .i64 3,.int .i64 1,.int .i64 0,.int .i64 0,.slice none 0 0,.int .i64 1,.int .i64 2,.int .i64 0,.int .i64 0,.slice q1 1 q3,.int .i64 3,.int .i64 3,.int .i64 0,.int .i64 1,.slice none 0 0,.int .i64 5,.int .i64 0,.int .i64 0,.int .i64 0,.slice none 0 0]
abbrev N4 (q1:Option Addr) (q3:Nat):List Iv:=[⟨3,1,0,0,none,0,0⟩,⟨1,2,0,0,q1,1,q3⟩,⟨3,3,0,1,none,0,0⟩,⟨5,0,0,0,none,0,0⟩]
theorem pi4 {w:World} {base:Nat} {z1 q1:Option Addr} {c q3:Nat} (h:w.ownsRow base 86 5 (.slice z1 4 c) 4 (F4 q1 q3)) (hq:RowAt w.heap.size w (.slice q1 1 q3) [(97,97)]):PI w w.heap.size z1 4 L4:=by
 refine ⟨rfl,fun _ => ?_⟩
 rcases h.2 with ⟨_,h0⟩ | ⟨b,cap,cur,e,_⟩
 ·omega
 ·simp only [Value.slice.injEq] at e
  have hb:=(h.lt b (by rw [e.1];rfl)).2
  rw [e.1] at h
  have hF:F4 q1 q3 = (N4 q1 q3).flatMap Iv.cs:=by simp [F4,N4]
  refine ⟨b,0,fun i => (N4 q1 q3).getD i default,e.1,hb,fun i hi => ⟨?_,?_⟩⟩
  ·have hi4:i < (N4 q1 q3).length:=by simpa using hi
   have f:∀ k,k < 5 → w.cell? ⟨b,i * 5 + k,none⟩ = (Iv.cs (N4 q1 q3)[i])[k]?:=fun k hk => by
    rw [h.cellAt (i * 5 + k) (by simp at hi;omega),hF,flat5 (N4 q1 q3) i k hi4 hk]
   have f0:=f 0 (by omega)
   rw [Nat.add_zero] at f0
   show I5 w b 0 i ((N4 q1 q3).getD i default)
   rw [show (N4 q1 q3).getD i default = (N4 q1 q3)[i] by simp only [List.getD_eq_getElem?_getD,List.getElem?_eq_getElem hi4,Option.getD_some]]
   unfold I5
   rw [Nat.zero_add]
   exact ⟨f0,f 1 (by omega),f 2 (by omega),f 3 (by omega),f 4 (by omega)⟩
  ·have nil:∀ a b c d:Int,IM w w.heap.size ⟨a,b,c,d,none,0,0⟩ ⟨a,b,c,d,[]⟩:=fun a b c d => ⟨rfl,rfl,rfl,rfl,rfl,by show 0 * 16 ≤ _;omega,⟨none,0,rfl,.inl rfl⟩⟩
   match i,hi with
   | 0,_ => exact nil _ _ _ _
   | 1,_ => exact ⟨rfl,rfl,rfl,rfl,rfl,by show 1 * 16 ≤ _;omega,hq⟩
   | 2,_ => exact nil _ _ _ _
   | 3,_ => exact nil _ _ _ _
abbrev A4 (g:Nat):Array Value:=#[.int .i64 3,.int .i64 1,.int .i64 0,.int .i64 0,.slice none 0 0,.int .i64 1,.int .i64 2,.int .i64 0,.int .i64 0,.slice (some ⟨g,0,none⟩) 1 1,.int .i64 3,.int .i64 3,.int .i64 0,.int .i64 1,.slice none 0 0,.int .i64 5,.int .i64 0,.int .i64 0,.int .i64 0,.slice none 0 0]
set_option maxRecDepth 100000 in
set_option maxHeartbeats 8000000 in
theorem letter16 (w:World):Calls Tryz.prog 67 #[] w fun e w' => ∃ g,e = .returned (pv (some ⟨g,0,none⟩) 4 4 0 2) ∧ PI w' w'.heap.size (some ⟨g,0,none⟩) 4 L4 ∧ Below w.heap.size w w':=by
 go_enter Tryz.func67,Tryz.ntmps67
 go_wp2
 obtain ⟨U,hU⟩:∃ U,U = (((w.alloc (.cells #[.slice (some ⟨w.heap.size + 1 + 1,0,none⟩) 4 4,.int .i64 0,.int .i64 2] 46)).alloc (.cells #[.int .i64 97,.int .i64 97] 70)).alloc (.cells (A4 (w.heap.size + 1)) 86)):=⟨_,rfl⟩
 rw [← hU]
 obtain ⟨h0,h1,h2,h3⟩:=three_new w (.cells #[.slice (some ⟨w.heap.size + 1 + 1,0,none⟩) 4 4,.int .i64 0,.int .i64 2] 46) (.cells #[.int .i64 97,.int .i64 97] 70) (.cells (A4 (w.heap.size + 1)) 86)
 rw [← hU] at h0 h1 h2 h3
 refine bodyPost_ret (results_cell_row rfl _ _ w.heap.size 46 _ (0,0) _ rfl h0 Tryz.underlying46 rfl (by kernel_rfl)) rfl ?_
 have hb:Below w.heap.size w U:=⟨by rw [hU];rfl,by rw [hU];rfl,by rw [hU];rfl,by rw [hU];simp;omega,h3⟩
 have hrow:U.ownsRow 0 86 5 (.slice (some ⟨w.heap.size + 1 + 1,0,none⟩) 4 4) 4 (F4 (some ⟨w.heap.size + 1,0,none⟩) 1):=by
  have h4:=World.ownsRow_lit (base:=0) (e:=86) (size:=5) ((w.alloc (.cells #[.slice (some ⟨w.heap.size + 1 + 1,0,none⟩) 4 4,.int .i64 0,.int .i64 2] 46)).alloc (.cells #[.int .i64 97,.int .i64 97] 70)) (A4 (w.heap.size + 1)) 4 (Nat.zero_le _) (by unfold maxLen;omega) rfl
  rw [← hU] at h4
  rw [show ((w.alloc (.cells #[.slice (some ⟨w.heap.size + 1 + 1,0,none⟩) 4 4,.int .i64 0,.int .i64 2] 46)).alloc (.cells #[.int .i64 97,.int .i64 97] 70)).heap.size = w.heap.size + 1 + 1 by simp] at h4
  exact h4
 have hlt:w.heap.size + 1 < U.heap.size:=(Array.getElem?_eq_some_iff.1 h1).1
 have hr:RowAt U.heap.size U (.slice (some ⟨w.heap.size + 1,0,none⟩) 1 1) [(97,97)]:=
  ⟨some ⟨w.heap.size + 1,0,none⟩,1,rfl,.inr ⟨w.heap.size + 1,0,rfl,hlt,fun k hk => by have:k = 0:=(by simpa using hk);subst this;exact Joins.cell_of_block h1 0,fun k hk => by have:k = 0:=(by simpa using hk);subst this;exact Joins.cell_of_block h1 1⟩⟩
 exact ⟨w.heap.size + 1 + 1,rfl,pi4 hrow hr,hb⟩
abbrev T4:List Int:=[97,98,97]
theorem df41:Df (act L4 T4) [] 0 1 [-1,-1] [(0,1),(1,1)] none:=
 .cap _ _ _ _ 1 0 _ _ (by decide) (by kernel_rfl) (.stop _ _ _ _ (by decide) (by kernel_rfl))
theorem df42:Df (act L4 T4) [(0,1),(1,1)] 0 2 [-1,-1] [(0,1),(1,1),(0,2),(1,2),(2,3),(3,3)] (some (0,[2,3])):=
 .cap _ _ _ _ 1 0 _ _ (by decide) (by kernel_rfl) (.rune _ _ _ _ 2 _ _ (by decide) (by kernel_rfl) (.cap _ _ _ _ 3 1 _ _ (by decide) (by kernel_rfl) (.fit _ _ _ _ 0 (by decide) (by kernel_rfl))))
theorem bit4f:BitA L4 T4 0 2 1 false (some (0,[2,3])) [(0,1),(1,1),(0,2),(1,2),(2,3),(3,3)]:=by
 show Da (act L4 T4) [] [(0,1,[-1,-1]),(0,2,[-1,-1]),(0,3,[-1,-1])] _ _
 exact .miss _ _ _ _ _ _ _ _ df41 (.hit _ _ _ _ _ _ _ df42)
theorem bit4t:BitA L4 T4 0 2 1 true none [(0,1),(1,1)]:=by
 show Da (act L4 T4) [] [(0,1,[-1,-1])] _ _
 exact .miss _ _ _ _ _ _ _ _ df41 (.nil _)
theorem err4:errB L4 0 2 3 1 = 0:=by kernel_rfl
theorem text4 {w:World} {tb:Nat} (hn:w.heap[tb]? = some (.cells #[.int .i64 97,.int .i64 98,.int .i64 97] 3 (0,0))):TextAt w.heap.size w (some ⟨tb,0,none⟩) 3 T4:=⟨rfl,by omega,.inr ⟨tb,0,rfl,(Array.getElem?_eq_some_iff.1 hn).1,fun k hk => by
  match k,hk with
  | 0,_ => exact Joins.cell_of_block hn 0
  | 1,_ => exact Joins.cell_of_block hn 1
  | 2,_ => exact Joins.cell_of_block hn 2⟩⟩
theorem awake_f {w:World} {g tb:Nat} (hp:PI w w.heap.size (some ⟨g,0,none⟩) 4 L4) (hn:w.heap[tb]? = some (.cells #[.int .i64 97,.int .i64 98,.int .i64 97] 3 (0,0))):Calls Tryz.prog 37 #[pv (some ⟨g,0,none⟩) 4 4 0 2,.slice (some ⟨tb,0,none⟩) 3 3,.int .i64 1,.bool false] w fun e w' => ∃ q,e = .returned (.tuple #[.agg #[.bool true,.slice (some ⟨q,0,none⟩) 2 2,.int .i64 0,.int .i64 6],.int .i64 0]) ∧ w'.cell? ⟨q,0,none⟩ = some (.int .i64 2) ∧ w'.cell? ⟨q,1,none⟩ = some (.int .i64 3) ∧ q < w'.heap.size ∧ Below w.heap.size w w':=by
 have hr:=run9 (c:=4) (s:=0) (k:=2) (tc:=3) (a:=1) (anch:=false) hp (text4 hn) (fun _ => bit4f)
 refine hr.mono ?_
 rintro e w' (⟨_,h1,q,rfl,h2⟩ | ⟨h,_⟩)
 ·exact ⟨q,rfl,h2.cellAt 0 (by decide),h2.cellAt 1 (by decide),(h2.lt q rfl).2,h1⟩
 ·exact absurd err4 h
theorem awake_t {w:World} {g tb:Nat} (hp:PI w w.heap.size (some ⟨g,0,none⟩) 4 L4) (hn:w.heap[tb]? = some (.cells #[.int .i64 97,.int .i64 98,.int .i64 97] 3 (0,0))):Calls Tryz.prog 37 #[pv (some ⟨g,0,none⟩) 4 4 0 2,.slice (some ⟨tb,0,none⟩) 3 3,.int .i64 1,.bool true] w fun e w' => e = .returned (.tuple #[.agg #[.bool false,.slice none 0 0,.int .i64 0,.int .i64 2],.int .i64 0]) ∧ Below w.heap.size w w':=by
 have hr:=run9 (c:=4) (s:=0) (k:=2) (tc:=3) (a:=1) (anch:=true) hp (text4 hn) (fun _ => bit4t)
 refine hr.mono ?_
 rintro e w' (⟨_,h1,rfl⟩ | ⟨h,_⟩)
 ·exact ⟨rfl,h1⟩
 ·exact absurd err4 h
set_option maxRecDepth 100000 in
set_option maxHeartbeats 8000000 in
theorem awake5 (w:World):Calls Tryz.prog 36 #[] w fun e w' => e = .returned (.bool true) ∧ Below w.heap.size w w':=by
 obtain ⟨U,hU⟩:∃ U,U = w.alloc (.cells #[.int .i64 97,.int .i64 98,.int .i64 97] 3):=⟨_,rfl⟩
 obtain ⟨tb,htb⟩:∃ tb,tb = w.heap.size:=⟨_,rfl⟩
 have hbU:Below w.heap.size w U:=by rw [hU];exact Joins.below_alloc1 w _
 have hn:U.heap[tb]? = some (.cells #[.int .i64 97,.int .i64 98,.int .i64 97] 3 (0,0)):=by rw [hU,htb];exact heap_alloc_new w _
 have htU:tb < U.heap.size:=(Array.getElem?_eq_some_iff.1 hn).1
 have HL:=hid letter16
 have HN:=hid hn
 have HBU:=hid hbU
 clear hn hbU
 go_enter Tryz.func36,Tryz.ntmps36
 go_upto_region 2 with fail
 rw [← hU,← htb]
 have HTB:=hid htb
 clear hU htb
 have HL1:=HL.out U
 go_upto_region 3 with (first | (go_at_call 67;(with_reducible refine HL1.mono ?_);rintro e w2 ⟨g,rfl,hp,hb⟩;have HB:=hid hb;have HR:=awake_f hp ((hb.block tb htU).trans HN.out);clear hp hb HL1) | (go_at_call 37;(with_reducible refine HR.mono ?_);rintro e w3 ⟨q,rfl,q0,q1,hq,hb3⟩;have HB3:=hid hb3;have HQ:=hid (⟨q0,q1,hq⟩:_ ∧ _ ∧ _);clear hb3 HR q0 q1 hq))
 obtain ⟨U3,hU3⟩:∃ U3,U3 = w3.alloc (.cells #[.bool true,.slice (some ⟨q,0,none⟩) 2 2,.int .i64 0,.int .i64 6] 54):=⟨_,rfl⟩
 obtain ⟨x,hx⟩:∃ x,x = w3.heap.size:=⟨_,rfl⟩
 rw [← hU3,← hx]
 have hb3':Below w3.heap.size w3 U3:=by rw [hU3];exact Joins.below_alloc1 w3 _
 have hX:U3.heap[x]? = some (.cells #[.bool true,.slice (some ⟨q,0,none⟩) 2 2,.int .i64 0,.int .i64 6] 54 (0,0)):=by rw [hU3,hx];exact heap_alloc_new w3 _
 have hxU:x < U3.heap.size:=(Array.getElem?_eq_some_iff.1 hX).1
 have hU23:Below U.heap.size U U3:=HB.out.trans (Joins.below_le (HB3.out.trans (Joins.below_le hb3' HB3.out.size)) HB.out.size)
 have hN3:=(hU23.block tb htU).trans HN.out
 have p0:=(hb3'.cell (p:=⟨q,0,none⟩) HQ.out.2.2).trans HQ.out.1
 have p1:=(hb3'.cell (p:=⟨q,1,none⟩) HQ.out.2.2).trans HQ.out.2.1
 have hqU:q < U3.heap.size:=by have:=hb3'.size;have:=HQ.out.2.2;omega
 have HX:=hid hX
 have HP:=hid (⟨p0,p1⟩:_ ∧ _)
 have HN3:=hid hN3
 have HU3:=hid hU23
 have htU3:tb < U3.heap.size:=by have:=hU23.size;omega
 clear hU3 hx hb3' hX hU23 hN3 p0 p1 HB HB3 HQ
 have HL2:=HL.out U3
 go_upto_region 4 with (first | (go_at_call 67;(with_reducible refine HL2.mono ?_);rintro e w4 ⟨g2,rfl,hp,hb⟩;have HB:=hid hb;have HR:=awake_t hp ((hb.block tb htU3).trans HN3.out);clear hp hb HL2) | (go_at_call 37;(with_reducible refine HR.mono ?_);rintro e w5 ⟨rfl,hb5⟩;have HB5:=hid hb5;clear hb5 HR))
 have h35:Below U3.heap.size U3 w5:=HB.out.trans (Joins.below_le HB5.out HB.out.size)
 obtain ⟨U5,hU5⟩:∃ U5,U5 = w5.alloc (.cells #[.bool false,.slice none 0 0,.int .i64 0,.int .i64 2] 54):=⟨_,rfl⟩
 obtain ⟨z,hz⟩:∃ z,z = w5.heap.size:=⟨_,rfl⟩
 rw [← hU5,← hz]
 have hb5':Below w5.heap.size w5 U5:=by rw [hU5];exact Joins.below_alloc1 w5 _
 have hZ:U5.heap[z]? = some (.cells #[.bool false,.slice none 0 0,.int .i64 0,.int .i64 2] 54 (0,0)):=by rw [hU5,hz];exact heap_alloc_new w5 _
 have h3U5:Below U3.heap.size U3 U5:=h35.trans (Joins.below_le hb5' h35.size)
 have x0:=(h3U5.cell (p:=⟨x,0,none⟩) hxU).trans (Joins.cell_of_block HX.out 0)
 have x1:=(h3U5.cell (p:=⟨x,1,none⟩) hxU).trans (Joins.cell_of_block HX.out 1)
 have x3:=(h3U5.cell (p:=⟨x,3,none⟩) hxU).trans (Joins.cell_of_block HX.out 3)
 have q0:=(h3U5.cell (p:=⟨q,0,none⟩) hqU).trans HP.out.1
 have q1:=(h3U5.cell (p:=⟨q,1,none⟩) hqU).trans HP.out.2
 have z0:=Joins.cell_of_block hZ 0
 have z3:=Joins.cell_of_block hZ 3
 simp at x0 x1 x3 z0 z3
 have HBZ:=hid (HBU.out.trans (Joins.below_le (HU3.out.trans (Joins.below_le h3U5 HU3.out.size)) HBU.out.size))
 clear h35 hU5 hz hb5' hZ h3U5 HB HB5
 go_wp2
 go_ret
 exact ⟨rfl,HBZ.out⟩
def IR (w:World) (v:Value) (l:List Int):Prop:=∃ ad c,v = .slice ad l.length c ∧ (l.length = 0 ∨ ∃ b o,ad = some ⟨b,o,none⟩ ∧ b < w.heap.size ∧ ∀ k,k < l.length → w.cell? ⟨b,o + k,none⟩ = some (.int .i64 (l.getD k 0)))
theorem IR.below {w w':World} {v:Value} {l:List Int} (h:IR w v l) (hb:Below w.heap.size w w'):IR w' v l:=by
 obtain ⟨ad,c,e,h⟩:=h
 refine ⟨ad,c,e,?_⟩
 rcases h with h | ⟨b,o,e,hl,hc⟩
 ·exact .inl h
 ·exact .inr ⟨b,o,e,by have:=hb.size;omega,fun k hk => (hb.cell (p:=⟨b,o + k,none⟩) hl).trans (hc k hk)⟩
theorem IR.row {w:World} {base:Nat} {v:Value} {l:List Int} {n:Nat} (h:w.ownsRow base 3 1 v n (I64 l)):IR w v l:=by
 have hn:l.length = n:=by have:=h.1;simpa [I64] using this
 subst hn
 rcases h.2 with ⟨e,h0⟩ | ⟨g,cap,cur,e,_⟩
 ·exact ⟨none,0,by rw [e,h0],.inl h0⟩
 ·refine ⟨some ⟨g,0,none⟩,cap,e,.inr ⟨g,0,rfl,?_,fun k hk => ?_⟩⟩
  ·exact (h.lt g (by rw [e];rfl)).2
  ·rw [e] at h
   rw [Nat.zero_add,h.cellAt k (by omega)]
   simp [I64,hk,List.getD_eq_getElem?_getD]
theorem IR.nil (w:World):IR w (.slice none 0 0) []:=⟨none,0,rfl,.inl rfl⟩
theorem four_cells {w:World} {b:Nat} {v0 v1 v2 v3:Value} {t:TypeId} {fr:Nat × Nat} (h:w.heap[b]? = some (.cells #[v0,v1,v2,v3] t fr)):w.cell? ⟨b,0,none⟩ = some v0 ∧ w.cell? ⟨b,1,none⟩ = some v1 ∧ w.cell? ⟨b,2,none⟩ = some v2 ∧ w.cell? ⟨b,3,none⟩ = some v3:=
 ⟨Joins.cell_of_block h 0,Joins.cell_of_block h 1,Joins.cell_of_block h 2,Joins.cell_of_block h 3⟩
set_option maxRecDepth 100000 in
set_option maxHeartbeats 4000000 in
theorem same10 {w:World} {ok:Bool} {a1 a2:Option Addr} {n1 c1 n2 c2:Nat} {wh st:Int} {l:List Int} (h1:IR w (.slice a1 n1 c1) l) (h2:IR w (.slice a2 n2 c2) l) (hl:l.length ≤ 100000) :
  Calls Tryz.prog 71 #[.agg #[.bool ok,.slice a1 n1 c1,.int .i64 wh,.int .i64 st],.agg #[.bool ok,.slice a2 n2 c2,.int .i64 wh,.int .i64 st]] w fun e w' => e = .returned (.bool true) ∧ Below w.heap.size w w':=by
 obtain ⟨U,hU⟩:∃ U,U = (w.alloc (.cells #[.bool ok,.slice a1 n1 c1,.int .i64 wh,.int .i64 st] 54)).alloc (.cells #[.bool ok,.slice a2 n2 c2,.int .i64 wh,.int .i64 st] 54):=⟨_,rfl⟩
 have hb:Below w.heap.size w U:=by rw [hU];exact below_two' w _ _
 have hX:U.heap[w.heap.size]? = some (.cells #[.bool ok,.slice a1 n1 c1,.int .i64 wh,.int .i64 st] 54 (0,0)):=by rw [hU];exact (heap_alloc_old _ _ (by simp)).trans (heap_alloc_new w _)
 have hY:U.heap[w.heap.size + 1]? = some (.cells #[.bool ok,.slice a2 n2 c2,.int .i64 wh,.int .i64 st] 54 (0,0)):=by rw [hU];exact two_new w _ _ _
 obtain ⟨x,hx⟩:∃ x,x = w.heap.size:=⟨_,rfl⟩
 obtain ⟨y,hy⟩:∃ y,y = w.heap.size + 1:=⟨_,rfl⟩
 rw [← hx] at hX hb
 rw [← hy] at hY
 obtain ⟨n,hn⟩:∃ n,n = l.length:=⟨_,rfl⟩
 obtain ⟨ad1,cc1,e1,h1'⟩:=h1.below (by rw [← hx];exact hb)
 obtain ⟨ad2,cc2,e2,h2'⟩:=h2.below (by rw [← hx];exact hb)
 simp only [Value.slice.injEq] at e1 e2
 obtain ⟨rfl,rfl,rfl⟩:=e1
 obtain ⟨rfl,rfl,rfl⟩:=e2
 rw [← hn] at hX hY h1' h2' hl hU ⊢
 have HX:=hid hX
 have HY:=hid hY
 have HB:=hid hb
 have HXE:=hid hx
 have HN:=hid hn
 have H1:=hid h1'
 have H2:=hid h2'
 obtain ⟨p0,p1,p2,p3⟩:=four_cells hX
 obtain ⟨d0,d1,d2,d3⟩:=four_cells hY
 have b0':(ok != ok) = false:=by cases ok <;> rfl
 clear hX hY hb h1 h2 h1' h2' hn
 go_enter Tryz.func71,Tryz.ntmps71
 go_upto_region 1 with fail
 rw [← hU,← hy,← hx]
 clear hU hy hx
 go_wp2
 go_loopw [5] (fun s5 wr => ∃ k:Nat,s5 = .int .i64 (k:Int) ∧ k ≤ n ∧ Hid (Below x w wr) ∧ Hid (Below U.heap.size U wr)) (fun s5 _ => n - (intOf s5).toNat)
 case atStart => exact ⟨0,rfl,Nat.zero_le _,HB.out,Below.refl _ _⟩
 case round =>
  obtain ⟨k,rfl,hk,HBW,HBU⟩:=hrel
  have hxU:x < U.heap.size:=(Array.getElem?_eq_some_iff.1 HX.out).1
  have hyU:y < U.heap.size:=(Array.getElem?_eq_some_iff.1 HY.out).1
  replace p1:=(HBU.out.cell (p:=⟨x,1,none⟩) hxU).trans p1
  replace d1:=(HBU.out.cell (p:=⟨y,1,none⟩) hyU).trans d1
  clear p0 p2 p3 d0 d2 d3
  by_cases hkn:k < n
  ·have b1:decide ((k:Int) < (n:Int)) = true:=by simp;omega
   have b2:(k:Int) < (n:Int):=by omega
   have a3:=wrap_ok ((k:Int) + 1) (by omega) (by omega)
   rcases H1.out with h0 | ⟨q1,o1,rfl,hq1,hc1⟩
   ·omega
   rcases H2.out with h0 | ⟨q2,o2,rfl,hq2,hc2⟩
   ·omega
   have m1:=(HBU.out.cell (p:=⟨q1,o1 + k,none⟩) hq1).trans (hc1 k (by omega))
   have m2:=(HBU.out.cell (p:=⟨q2,o2 + k,none⟩) hq2).trans (hc2 k (by omega))
   generalize l.getD k 0 = v at m1 m2
   have hk2:k < 9223372036854775807:=by omega
   clear hc1 hc2 H1 H2
   go_wp2_with fail
   go_quiet (fail)
   go_wp2
   refine ⟨⟨k + 1,by push_cast;rfl,by omega,below_drewN' HBW.out _,below_drewN' HBU.out _⟩,by simp [intOf];omega⟩
  ·have b1:decide ((k:Int) < (n:Int)) = false:=by simp;omega
   have b2:¬ ((k:Int) < (n:Int)):=by omega
   clear H1 H2
   go_wp2
   all_goals go_ret
   all_goals exact ⟨rfl,by rw [← HXE.out];exact HBW.out⟩
set_option maxRecDepth 100000 in
set_option maxHeartbeats 4000000 in
theorem find15 {w:World} {ok:Bool} {a1 a2:Option Addr} {n1 c1 n2 c2:Nat} {wh st st2:Int} {l:List Int} (h1:IR w (.slice a1 n1 c1) l) (h2:IR w (.slice a2 n2 c2) l) (hl:l.length ≤ 100000) :
  Calls Tryz.prog 38 #[.agg #[.bool ok,.slice a1 n1 c1,.int .i64 wh,.int .i64 st],.agg #[.bool ok,.slice a2 n2 c2,.int .i64 wh,.int .i64 st2]] w fun e w' => e = .returned (.bool true) ∧ Below w.heap.size w w':=by
 obtain ⟨U,hU⟩:∃ U,U = (w.alloc (.cells #[.bool ok,.slice a1 n1 c1,.int .i64 wh,.int .i64 st] 54)).alloc (.cells #[.bool ok,.slice a2 n2 c2,.int .i64 wh,.int .i64 st2] 54):=⟨_,rfl⟩
 have hb:Below w.heap.size w U:=by rw [hU];exact below_two' w _ _
 have hX:U.heap[w.heap.size]? = some (.cells #[.bool ok,.slice a1 n1 c1,.int .i64 wh,.int .i64 st] 54 (0,0)):=by rw [hU];exact (heap_alloc_old _ _ (by simp)).trans (heap_alloc_new w _)
 have hY:U.heap[w.heap.size + 1]? = some (.cells #[.bool ok,.slice a2 n2 c2,.int .i64 wh,.int .i64 st2] 54 (0,0)):=by rw [hU];exact two_new w _ _ _
 obtain ⟨x,hx⟩:∃ x,x = w.heap.size:=⟨_,rfl⟩
 obtain ⟨y,hy⟩:∃ y,y = w.heap.size + 1:=⟨_,rfl⟩
 rw [← hx] at hX hb
 rw [← hy] at hY
 have hxy:x ≠ y:=by omega
 have hyx:y ≠ x:=by omega
 obtain ⟨p0,p1,p2,p3⟩:=four_cells hX
 obtain ⟨d0,d1,d2,d3⟩:=four_cells hY
 have u3:=Joins.unfrozen_of_block hX 3
 obtain ⟨U2,hU2⟩:∃ U2,U2 = U.setCell ⟨x,3,none⟩ (.int .i64 st2):=⟨_,rfl⟩
 have hb2:Below x w U2:=by rw [hU2];exact hb.setCell (p:=⟨x,3,none⟩) (Nat.le_refl _) _
 have hX2:U2.heap[x]? = some (.cells #[.bool ok,.slice a1 n1 c1,.int .i64 wh,.int .i64 st2] 54 (0,0)):=by rw [hU2];exact Joins.block_setCell (i:=3) hX _
 have hY2:U2.heap[y]? = some (.cells #[.bool ok,.slice a2 n2 c2,.int .i64 wh,.int .i64 st2] 54 (0,0)):=by rw [hU2];exact (Below.heap_setCell _ _ _ _ hyx).trans hY
 obtain ⟨r0,r1,r2,r3⟩:=four_cells hX2
 obtain ⟨t0,t1,t2,t3⟩:=four_cells hY2
 have HS:=same10 (ok:=ok) (wh:=wh) (st:=st2) (h1.below (by rw [← hx];exact hb2)) (h2.below (by rw [← hx];exact hb2)) hl
 have HB2:=hid hb2
 have HXE:=hid hx
 clear hX hY hb h1 h2 hX2 hY2 hb2
 go_enter Tryz.func38,Tryz.ntmps38
 go_upto_region 1 with fail
 rw [← hU,← hy,← hx]
 clear hU hy hx
 go_upto_region 2 with fail
 rw [← hU2]
 clear hU2 p0 p1 p2 p3 d0 d1 d2 d3 u3
 go_wp2_with (go_at_call 71;(with_reducible refine HS.mono ?_);rintro e w2 ⟨rfl,hb2⟩;have HB3:=hid hb2;clear hb2 HS)
 all_goals go_ret
 all_goals exact ⟨rfl,by rw [← HXE.out];exact HB2.out.trans (Joins.below_le HB3.out (by have:=HB2.out.size;have:=HXE.out;omega))⟩
end Go.Proofs.YtacaanhnlfpbhaaGreat
namespace Go.Proofs.YtacaanhnlfpbhaaGreat
set_option linter.unusedVariables false
set_option linter.unusedSimpArgs false
def Goes (A:Nat → Nat → Ac) (p q:Pt):Prop:=
 match A p.2 p.1 with
 | .alt x y => q = (x,p.2) ∨ q = (y,p.2)
 | .go x => q = (x,p.2)
 | .cap x _ => q = (x,p.2)
 | .rune x => q = (x,p.2 + 1)
 | .fit _ => False
 | .stop => False
def Cl (A:Nat → Nat → Ac) (m D:List Pt):Prop:=∀ p ∈ D,p ∈ m ∨ ((∀ a,A p.2 p.1 ≠ .fit a) ∧ ∀ q,Goes A p q → q ∈ D)
theorem df_sub {A:Nat → Nat → Ac} {m:List Pt} {i j:Nat} {c:List Int} {m':List Pt} {r:Fd} (h:Df A m i j c m' r):(∀ p ∈ m,p ∈ m') ∧ (i,j) ∈ m' ∧ m.length ≤ m'.length:=by
 induction h with
 | old m i j c h => exact ⟨fun p hp => hp,h,Nat.le_refl _⟩
 | fit m i j c a h e => exact ⟨fun p hp => by simp [hp],by simp,by simp⟩
 | stop m i j c h e => exact ⟨fun p hp => by simp [hp],by simp,by simp⟩
 | go m i j c x m' r h e hd ih => exact ⟨fun p hp => ih.1 p (by simp [hp]),ih.1 _ (by simp),by have:=ih.2.2;simp at this;omega⟩
 | cap m i j c x a m' r h e hd ih => exact ⟨fun p hp => ih.1 p (by simp [hp]),ih.1 _ (by simp),by have:=ih.2.2;simp at this;omega⟩
 | rune m i j c x m' r h e hd ih => exact ⟨fun p hp => ih.1 p (by simp [hp]),ih.1 _ (by simp),by have:=ih.2.2;simp at this;omega⟩
 | altx m i j c x y m' z h e hd ih => exact ⟨fun p hp => ih.1 p (by simp [hp]),ih.1 _ (by simp),by have:=ih.2.2;simp at this;omega⟩
 | alty m i j c x y m1 m' r h e hd hd2 ih ih2 => exact ⟨fun p hp => ih2.1 p (ih.1 p (by simp [hp])),ih2.1 _ (ih.1 _ (by simp)),by have:=ih.2.2;have:=ih2.2.2;simp at *;omega⟩
theorem df_closed {A:Nat → Nat → Ac} {m:List Pt} {i j:Nat} {c:List Int} {m':List Pt} {r:Fd} (h:Df A m i j c m' r):r = none → Cl A m m':=by
 induction h with
 | old m i j c h => intro _ p hp;exact .inl hp
 | fit m i j c a h e => intro h0;cases h0
 | stop m i j c h e =>
  intro _ p hp
  rcases List.mem_append.1 hp with hp | hp
  ·exact .inl hp
  ·rw [List.mem_singleton] at hp
   subst hp
   right
   exact ⟨fun a => by simp [e],fun q hq => by simp [Goes,e] at hq⟩
 | go m i j c x m' r h e hd ih =>
  intro h0 p hp
  rcases ih h0 p hp with h1 | h1
  ·rcases List.mem_append.1 h1 with h2 | h2
   ·exact .inl h2
   ·rw [List.mem_singleton] at h2
    subst h2
    right
    refine ⟨fun a => by simp [e],fun q hq => ?_⟩
    simp [Goes,e] at hq
    subst hq
    exact (df_sub hd).2.1
  ·exact .inr h1
 | cap m i j c x a m' r h e hd ih =>
  intro h0 p hp
  rcases ih h0 p hp with h1 | h1
  ·rcases List.mem_append.1 h1 with h2 | h2
   ·exact .inl h2
   ·rw [List.mem_singleton] at h2
    subst h2
    right
    refine ⟨fun a => by simp [e],fun q hq => ?_⟩
    simp [Goes,e] at hq
    subst hq
    exact (df_sub hd).2.1
  ·exact .inr h1
 | rune m i j c x m' r h e hd ih =>
  intro h0 p hp
  rcases ih h0 p hp with h1 | h1
  ·rcases List.mem_append.1 h1 with h2 | h2
   ·exact .inl h2
   ·rw [List.mem_singleton] at h2
    subst h2
    right
    refine ⟨fun a => by simp [e],fun q hq => ?_⟩
    simp [Goes,e] at hq
    subst hq
    exact (df_sub hd).2.1
  ·exact .inr h1
 | altx m i j c x y m' z h e hd ih => intro h0;cases h0
 | alty m i j c x y m1 m' r h e hd hd2 ih ih2 =>
  intro h0 p hp
  rcases ih2 h0 p hp with h1 | h1
  ·rcases ih rfl p h1 with h2 | h2
   ·rcases List.mem_append.1 h2 with h3 | h3
    ·exact .inl h3
    ·rw [List.mem_singleton] at h3
     subst h3
     right
     refine ⟨fun a => by simp [e],fun q hq => ?_⟩
     simp [Goes,e] at hq
     rcases hq with rfl | rfl
     ·exact (df_sub hd2).1 _ (df_sub hd).2.1
     ·exact (df_sub hd2).2.1
   ·exact .inr ⟨h2.1,fun q hq => (df_sub hd2).1 q (h2.2 q hq)⟩
  ·exact .inr h1
theorem da_sub {A:Nat → Nat → Ac} {m:List Pt} {T:List (Nat × Nat × List Int)} {m':List Pt} {r:Fd} (h:Da A m T m' r):(∀ p ∈ m,p ∈ m') ∧ m.length ≤ m'.length:=by
 induction h with
 | nil m => exact ⟨fun p h => h,Nat.le_refl _⟩
 | hit m i j c T m' z hd => exact ⟨(df_sub hd).1,(df_sub hd).2.2⟩
 | miss m i j c T m1 m' r hd h ih => exact ⟨fun p hp => ih.1 p ((df_sub hd).1 p hp),Nat.le_trans (df_sub hd).2.2 ih.2⟩
theorem df_dead {A:Nat → Nat → Ac} {D:List Pt} (hD:Cl A [] D) {m:List Pt} {i j:Nat} {c:List Int} {m':List Pt} {r:Fd} (h:Df A m i j c m' r):(i,j) ∈ D → r = none ∧ ∀ p ∈ m',p ∈ m ∨ p ∈ D:=by
 have step:∀ {p q:Pt},p ∈ D → Goes A p q → q ∈ D:=fun hp hq => by
  rcases hD _ hp with h | h
  ·cases h
  ·exact h.2 _ hq
 induction h with
 | old m i j c h => exact fun _ => ⟨rfl,fun p hp => .inl hp⟩
 | fit m i j c a h e =>
  intro hd
  rcases hD _ hd with h1 | h1
  ·cases h1
  ·exact absurd e (h1.1 a)
 | stop m i j c h e =>
  intro hd
  refine ⟨rfl,fun p hp => ?_⟩
  rcases List.mem_append.1 hp with hp | hp
  ·exact .inl hp
  ·rw [List.mem_singleton] at hp;subst hp;exact .inr hd
 | go m i j c x m' r h e hd ih =>
  intro hp
  obtain ⟨h1,h2⟩:=ih (step hp (by simp [Goes,e]))
  refine ⟨h1,fun p hp' => ?_⟩
  rcases h2 p hp' with h3 | h3
  ·rcases List.mem_append.1 h3 with h4 | h4
   ·exact .inl h4
   ·rw [List.mem_singleton] at h4;subst h4;exact .inr hp
  ·exact .inr h3
 | cap m i j c x a m' r h e hd ih =>
  intro hp
  obtain ⟨h1,h2⟩:=ih (step hp (by simp [Goes,e]))
  refine ⟨h1,fun p hp' => ?_⟩
  rcases h2 p hp' with h3 | h3
  ·rcases List.mem_append.1 h3 with h4 | h4
   ·exact .inl h4
   ·rw [List.mem_singleton] at h4;subst h4;exact .inr hp
  ·exact .inr h3
 | rune m i j c x m' r h e hd ih =>
  intro hp
  obtain ⟨h1,h2⟩:=ih (step hp (by simp [Goes,e]))
  refine ⟨h1,fun p hp' => ?_⟩
  rcases h2 p hp' with h3 | h3
  ·rcases List.mem_append.1 h3 with h4 | h4
   ·exact .inl h4
   ·rw [List.mem_singleton] at h4;subst h4;exact .inr hp
  ·exact .inr h3
 | altx m i j c x y m' z h e hd ih =>
  intro hp
  obtain ⟨h1,h2⟩:=ih (step hp (by simp [Goes,e]))
  cases h1
 | alty m i j c x y m1 m' r h e hd hd2 ih ih2 =>
  intro hp
  obtain ⟨h1,h2⟩:=ih (step hp (by simp [Goes,e]))
  obtain ⟨g1,g2⟩:=ih2 (step hp (by simp [Goes,e]))
  refine ⟨g1,fun p hp' => ?_⟩
  rcases g2 p hp' with h3 | h3
  ·rcases h2 p h3 with h4 | h4
   ·rcases List.mem_append.1 h4 with h5 | h5
    ·exact .inl h5
    ·rw [List.mem_singleton] at h5;subst h5;exact .inr hp
   ·exact .inr h4
  ·exact .inr h3
def Lik (D m1 m2:List Pt):Prop:=∀ p,p ∈ m1 ↔ p ∈ m2 ∨ p ∈ D
theorem Lik.add {D m1 m2:List Pt} (h:Lik D m1 m2) (q:Pt):Lik D (m1 ++ [q]) (m2 ++ [q]):=fun p => by
 simp only [List.mem_append,List.mem_singleton,h p]
 constructor
 ·rintro ((h1 | h1) | h1)
  ·exact .inl (.inl h1)
  ·exact .inr h1
  ·exact .inl (.inr h1)
 ·rintro ((h1 | h1) | h1)
  ·exact .inl (.inl h1)
  ·exact .inr h1
  ·exact .inl (.inr h1)
theorem df_fresh {P:Pr} (hP:P.Ok) {a len:Nat} (hlen:∀ i x,P.A len i ≠ .rune x) {D:List Pt} (hD:Cl P.A [] D) {m1:List Pt} {i j:Nat} {c:List Int} {m1':List Pt} {r:Fd} (h:Df P.A m1 i j c m1' r):i < P.n → a ≤ j → j ≤ len → c.length = P.K → ∀ m2,Lik D m1 m2 → OkP P.n a len m2 → ∃ m2',Df P.A m2 i j c m2' r ∧ Lik D m1' m2':=by
 have dead:∀ {i j:Nat} {c:List Int} {m1 m2:List Pt},i < P.n → a ≤ j → j ≤ len → c.length = P.K → Lik D m1 m2 → OkP P.n a len m2 → (i,j) ∈ m1 → ∃ m2',Df P.A m2 i j c m2' none ∧ Lik D m1 m2':=fun {i j c m1 m2} hi ha hj hc hL ho hm => by
  by_cases h2:(i,j) ∈ m2
  ·exact ⟨m2,.old _ _ _ _ h2,hL⟩
  ·have hd:(i,j) ∈ D:=((hL _).1 hm).resolve_left h2
   obtain ⟨m',r,h⟩:=df_total hP hlen (P.n * (len - a + 1)) m2 ho (by omega) i j c hi ha hj hc
   obtain ⟨rfl,h3⟩:=df_dead hD h hd
   refine ⟨m',h,fun p => ?_⟩
   rw [hL p]
   constructor
   ·rintro (h4 | h4)
    ·exact .inl ((df_sub h).1 p h4)
    ·exact .inr h4
   ·rintro (h4 | h4)
    ·exact h3 p h4
    ·exact .inr h4
 induction h with
 | old m i j c h => exact fun hi ha hj hc m2 hL ho => dead hi ha hj hc hL ho h
 | fit m i j c b h e => exact fun hi ha hj hc m2 hL ho => ⟨_,.fit _ _ _ _ b (fun h2 => h ((hL _).2 (.inl h2))) e,hL.add _⟩
 | stop m i j c h e => exact fun hi ha hj hc m2 hL ho => ⟨_,.stop _ _ _ _ (fun h2 => h ((hL _).2 (.inl h2))) e,hL.add _⟩
 | go m i j c x m' r h e hd ih =>
  intro hi ha hj hc m2 hL ho
  have hx:=hP.ok j i hi
  rw [e] at hx
  have hn:(i,j) ∉ m2:=fun h2 => h ((hL _).2 (.inl h2))
  obtain ⟨m2',g1,g2⟩:=ih hx ha hj hc _ (hL.add _) (ho.add hn hi ha hj)
  exact ⟨m2',.go _ _ _ _ x _ _ hn e g1,g2⟩
 | cap m i j c x b m' r h e hd ih =>
  intro hi ha hj hc m2 hL ho
  have hx:=hP.ok j i hi
  rw [e] at hx
  have hn:(i,j) ∉ m2:=fun h2 => h ((hL _).2 (.inl h2))
  obtain ⟨m2',g1,g2⟩:=ih hx ha hj (by simpa using hc) _ (hL.add _) (ho.add hn hi ha hj)
  exact ⟨m2',.cap _ _ _ _ x b _ _ hn e g1,g2⟩
 | rune m i j c x m' r h e hd ih =>
  intro hi ha hj hc m2 hL ho
  have hx:=hP.ok j i hi
  rw [e] at hx
  have hne:j ≠ len:=fun h => hlen i x (h ▸ e)
  have hn:(i,j) ∉ m2:=fun h2 => h ((hL _).2 (.inl h2))
  obtain ⟨m2',g1,g2⟩:=ih hx (by omega) (by omega) hc _ (hL.add _) (ho.add hn hi ha hj)
  exact ⟨m2',.rune _ _ _ _ x _ _ hn e g1,g2⟩
 | altx m i j c x y m' z h e hd ih =>
  intro hi ha hj hc m2 hL ho
  have hx:=hP.ok j i hi
  rw [e] at hx
  have hn:(i,j) ∉ m2:=fun h2 => h ((hL _).2 (.inl h2))
  obtain ⟨m2',g1,g2⟩:=ih hx.1 ha hj hc _ (hL.add _) (ho.add hn hi ha hj)
  exact ⟨m2',.altx _ _ _ _ x y _ _ hn e g1,g2⟩
 | alty m i j c x y m1 m' r h e hd hd2 ih ih2 =>
  intro hi ha hj hc m2 hL ho
  have hx:=hP.ok j i hi
  rw [e] at hx
  have hn:(i,j) ∉ m2:=fun h2 => h ((hL _).2 (.inl h2))
  have ho':=ho.add hn hi ha hj
  obtain ⟨m2',g1,g2⟩:=ih hx.1 ha hj hc _ (hL.add _) ho'
  obtain ⟨o1,_,_⟩:=df_ok hP hlen g1 hx.1 ha hj hc ho'
  obtain ⟨m3',k1,k2⟩:=ih2 hx.2 ha hj hc _ g2 o1
  exact ⟨m3',.alty _ _ _ _ x y _ _ _ hn e g1 k1,k2⟩
theorem da_first {P:Pr} (hP:P.Ok) {a len:Nat} (hlen:∀ i x,P.A len i ≠ .rune x):∀ (T:List (Nat × Nat × List Int)) (D m':List Pt) (r:Fd),(∀ t ∈ T,t.1 < P.n ∧ a ≤ t.2.1 ∧ t.2.1 ≤ len ∧ t.2.2.length = P.K) → Cl P.A [] D → Da P.A D T m' r →
  (r = none ∧ ∀ t ∈ T,∃ m2,Df P.A [] t.1 t.2.1 t.2.2 m2 none) ∨ ∃ z T1 t T2 m2,r = some z ∧ T = T1 ++ t :: T2 ∧ (∀ u ∈ T1,∃ m3,Df P.A [] u.1 u.2.1 u.2.2 m3 none) ∧ Df P.A [] t.1 t.2.1 t.2.2 m2 (some z)
 | [],D,m',r,hT,hD,h => by cases h;exact .inl ⟨rfl,fun t ht => by cases ht⟩
 | (i,j,c) :: T,D,m',r,hT,hD,h => by
  have h1:=hT (i,j,c) (by simp)
  have hL:Lik D D []:=fun p => by simp
  cases h with
  | hit _ _ _ _ _ _ z hd =>
   obtain ⟨m2,g,_⟩:=df_fresh hP hlen hD hd h1.1 h1.2.1 h1.2.2.1 h1.2.2.2 [] hL (OkP.nil _ _ _)
   exact .inr ⟨z,[],(i,j,c),T,m2,rfl,rfl,(fun u hu => absurd hu (by simp)),g⟩
  | miss _ _ _ _ _ m1 _ _ hd hda =>
   obtain ⟨m2,g,_⟩:=df_fresh hP hlen hD hd h1.1 h1.2.1 h1.2.2.1 h1.2.2.2 [] hL (OkP.nil _ _ _)
   have hD1:Cl P.A [] m1:=fun p hp => by
    rcases df_closed hd rfl p hp with h2 | h2
    ·rcases hD p h2 with h3 | h3
     ·cases h3
     ·exact .inr ⟨h3.1,fun q hq => (df_sub hd).1 q (h3.2 q hq)⟩
    ·exact .inr h2
   rcases da_first hP hlen T m1 m' r (fun t ht => hT t (by simp [ht])) hD1 hda with ⟨e,h2⟩ | ⟨z,T1,t,T2,m3,e1,e2,e3,e4⟩
   ·refine .inl ⟨e,fun t ht => ?_⟩
    rcases List.mem_cons.1 ht with rfl | ht
    ·exact ⟨m2,g⟩
    ·exact h2 t ht
   ·refine .inr ⟨z,(i,j,c) :: T1,t,T2,m3,e1,by rw [e2];rfl,fun u hu => ?_,e4⟩
    rcases List.mem_cons.1 hu with rfl | hu
    ·exact ⟨m2,g⟩
    ·exact e3 u hu
end Go.Proofs.YtacaanhnlfpbhaaGreat
