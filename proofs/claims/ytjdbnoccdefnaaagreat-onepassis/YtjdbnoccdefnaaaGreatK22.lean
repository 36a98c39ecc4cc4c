/- HELPERS: texts of ours put together. -/
import Derived.Test.YtjdbnoccdefnaaaGreatK18
import Derived.Laws.BitsLemmas
import Derived.Deep.RegionWith
namespace Go.Proofs.YtjdbnoccdefnaaaGreat
open Go.Shelf Go.RowKit Go.Lib Go.Sort
set_option linter.unusedVariables false
set_option linter.unusedSimpArgs false
set_option maxHeartbeats 1000000 in
theorem cmp117 (lo hi x:Int) (W:World):Calls Tryz.prog 117 #[.agg #[.int .i64 lo,.int .i64 hi],.int .i64 x] W fun e w' => e = .returned (.int .i64 (Lib.compareInt hi x)) ∧ Below W.heap.size W w':=by
  have hcon:=fun W' => AnyG.cmp_Compare_int Tryz.cmpInt hi x W'
  change ∀ W',Calls Tryz.prog 83 _ _ _ at hcon
  generalize Lib.compareInt hi x = r at hcon ⊢
  go_enter Tryz.func117,Tryz.ntmps117
  go_wp2_with (go_at_call 83;refine (hcon _).mono ?_;rintro e w' ⟨rfl,rfl⟩)
  go_ret
  exact ⟨rfl,(Below.refl _ _).alloc (Nat.le_refl _) _⟩
theorem row_at {w:World} {ad:Option Addr} {n c:Nat} {G:List (Int × Int)} {N i:Nat} (h:RowAt N w (.slice ad n c) G) (hi:i < n):∃ b off,ad = some ⟨b,off,none⟩ ∧ b < N ∧ ∃ hg:i < G.length,w.cell? ⟨b,off + i * 2,none⟩ = some (.int .i64 G[i].1) ∧ w.cell? ⟨b,off + i * 2 + 1,none⟩ = some (.int .i64 G[i].2):=by
  obtain ⟨a',cap',he,h1⟩:=h
  simp only [Value.slice.injEq] at he
  obtain ⟨rfl,hnl,rfl⟩:=he
  rcases h1 with h1 | ⟨b,off,rfl,hb,k0,k1⟩
  · omega
  have hlt:i < G.length:=by omega
  have hg:G.getD i (0,0) = G[i]:=by simp [List.getD_eq_getElem?_getD,List.getElem?_eq_getElem hlt]
  have q0:=k0 i hlt
  have q1:=k1 i hlt
  rw [hg] at q0 q1
  exact ⟨b,off,rfl,hb,hlt,q0,q1⟩
set_option maxRecDepth 100000 in
set_option maxHeartbeats 4000000 in
theorem search81 {w:World} {ad:Option Addr} {n c:Nat} {G:List (Int × Int)} {x:Int} (hG:RowAt w.heap.size w (.slice ad n c) G) (hn:n = G.length) (hn2:n ≤ 100000000) (hm:∀ a b (hb:b < G.length) (hab:a ≤ b),G[b].2 < x → (G[a]'(by omega)).2 < x) :
    Calls Tryz.prog 81 #[.slice ad n c,.int .i64 x,.func (.func 117) #[] #[]] w fun e w' => ∃ (j:Nat) (bb:Bool),e = .returned (.tuple #[.int .i64 (j:Int),.bool bb]) ∧ j ≤ n ∧ (∀ q (hq:q < G.length),q < j → G[q].2 < x) ∧ (∀ q (hq:q < G.length),j ≤ q → x ≤ G[q].2) ∧ Below w.heap.size w w':=by
  have HG:=hid hG
  have HN:=hid hn
  have HM:=hid hm
  clear hG hn hm
  go_enter Tryz.func81,Tryz.ntmps81
  go_upto_region 3 with fail
  go_loopw [9,10] (fun y z wq => ∃ i j:Nat,y = .int .i64 (i:Int) ∧ z = .int .i64 (j:Int) ∧ i ≤ j ∧ j ≤ n ∧ Hid (∀ q (hq:q < G.length),q < i → G[q].2 < x) ∧ Hid (∀ q (hq:q < G.length),j ≤ q → x ≤ G[q].2) ∧ Hid (Below w.heap.size w wq)) (fun y z _ => (intOf z).toNat - (intOf y).toNat)
  case atStart => exact ⟨0,n,rfl,rfl,by omega,by omega,fun q _ h => by omega,fun q hq h => by have:=HN.out;omega,Below.refl _ _⟩
  case round =>
    obtain ⟨i,j,rfl,rfl,hij,hjn,HI,HJ,HB⟩:=hrel
    by_cases hlt:i < j
    · have b1:decide ((i:Int) < (j:Int)) = true:=by simp;omega
      have b2:(i:Int) < (j:Int):=by omega
      have ad1:IntKind.i64.wrap ((i:Int) + (j:Int)) = ((i + j:Nat):Int):=by simp [IntKind.wrap,IntKind.bits,IntKind.signed];omega
      have hq:((i + j:Nat):Int) ≤ 200000000:=by omega
      obtain ⟨hh,hhd⟩:∃ hh,hh = (i + j) / 2:=⟨_,rfl⟩
      obtain ⟨b,off,rfl,hb,hgl,q0,q1⟩:=row_at HG.out (show hh < n by omega)
      have b5:(hh:Int) < (n:Int):=by omega
      have b6:(0:Int) ≤ (hh:Int):=by omega
      have ad2:IntKind.i64.wrap ((hh:Int) + 1) = ((hh:Int) + 1):=by simp [IntKind.wrap,IntKind.bits,IntKind.signed];omega
      have p0:=(HB.out.cell (p:=⟨b,off + hh * 2,none⟩) hb).trans q0
      have p1:=(HB.out.cell (p:=⟨b,off + hh * 2 + 1,none⟩) hb).trans q1
      obtain ⟨lo,hlo⟩:∃ lo,G[hh].1 = lo:=⟨_,rfl⟩
      obtain ⟨hi,hhi⟩:∃ hi,G[hh].2 = hi:=⟨_,rfl⟩
      rw [hlo] at p0
      rw [hhi] at p1
      have HHI:=hid hhi
      clear q0 q1 hlo hhi
      have D117:=fun W => cmp117 lo hi x W
      have hcmp:Lib.compareInt hi x < 0 ↔ hi < x:=by
        unfold Lib.compareInt
        by_cases h1:hi < x
        · simp [h1]
        · by_cases h2:x < hi <;> simp [h1,h2]
      obtain ⟨cc,hcc⟩:∃ cc,Lib.compareInt hi x = cc:=⟨_,rfl⟩
      rw [hcc] at D117 hcmp
      have HCM:=hid hcmp
      clear hcc hcmp
      go_upto_region 5 with fail
      have e9:((i:Int) + (j:Int)) / 2 = (hh:Int):=by omega
      rw [e9]
      have HHD:=hid hhd
      clear e9 ad1 hhd hq
      by_cases hcl:cc < 0
      · have b7:decide (cc < 0) = true:=by simpa using hcl
        go_wp2_with (go_at_call 117;refine (D117 _).mono ?_;rintro e w' ⟨rfl,hbw⟩)
        have hhd:=HHD.out
        exact ⟨⟨hh + 1,j,by push_cast;rfl,rfl,by omega,hjn,fun q hq hqi => by
          have hx:=HCM.out.1 hcl
          exact HM.out q hh hgl (by omega) (by rw [HHI.out];exact hx),HJ.out,HB.out.trans (hbw.mono HB.out.size)⟩,by simp [intOf];omega⟩
      · have b7:decide (cc < 0) = false:=by simpa using hcl
        go_wp2_with (go_at_call 117;refine (D117 _).mono ?_;rintro e w' ⟨rfl,hbw⟩)
        have hhd:=HHD.out
        exact ⟨⟨i,hh,rfl,rfl,by omega,by omega,HI.out,fun q hq hqi => by
          have hx:¬ G[hh].2 < x:=by rw [HHI.out];exact fun h => by have:=HCM.out.2 h;omega
          have h9:¬ G[q].2 < x:=fun h => hx (HM.out hh q hq hqi h)
          omega,HB.out.trans (hbw.mono HB.out.size)⟩,by simp [intOf];omega⟩
    · have b1:decide ((i:Int) < (j:Int)) = false:=by simp;omega
      have hij2:i = j:=by omega
      subst hij2
      by_cases hin:i < n
      · have b3:decide ((i:Int) < (n:Int)) = true:=by simp;omega
        have b5:(i:Int) < (n:Int):=by omega
        have b6:(0:Int) ≤ (i:Int):=by omega
        obtain ⟨b,off,rfl,hb,hgl,q0,q1⟩:=row_at HG.out hin
        have p0:=(HB.out.cell (p:=⟨b,off + i * 2,none⟩) hb).trans q0
        have p1:=(HB.out.cell (p:=⟨b,off + i * 2 + 1,none⟩) hb).trans q1
        obtain ⟨lo,hlo⟩:∃ lo,G[i].1 = lo:=⟨_,rfl⟩
        obtain ⟨hi,hhi⟩:∃ hi,G[i].2 = hi:=⟨_,rfl⟩
        rw [hlo] at p0
        rw [hhi] at p1
        clear q0 q1 hlo hhi
        have D117:=fun W => cmp117 lo hi x W
        obtain ⟨cc,hcc⟩:∃ cc,Lib.compareInt hi x = cc:=⟨_,rfl⟩
        rw [hcc] at D117
        clear hcc
        go_wp2_with (go_at_call 117;refine (D117 _).mono ?_;rintro e w' ⟨rfl,hbw⟩)
        refine bodyPost_ret (results_tmp2 rfl _ _ _) rfl ?_
        exact ⟨i,_,rfl,hjn,HI.out,HJ.out,HB.out.trans (hbw.mono HB.out.size)⟩
      · have b3:decide ((i:Int) < (n:Int)) = false:=by simp;omega
        go_wp2_with fail
        refine bodyPost_ret (results_tmp2 rfl _ _ _) rfl ?_
        exact ⟨i,_,rfl,hjn,HI.out,HJ.out,HB.out⟩
theorem own_row {N:Nat} {w:World} {ad:Option Addr} {c:Nat} {G:List (Int × Int)} (h:w.ownsRow N 50 2 (.slice ad G.length c) G.length (O2 G)):RowAt w.heap.size w (.slice ad G.length c) G:=by
  refine ⟨ad,c,rfl,?_⟩
  by_cases h0:G.length = 0
  · exact .inl h0
  have h':=h
  rcases h.2 with ⟨e,_⟩ | ⟨g',cap,cur,e,hb,hg,_⟩
  · simp only [Value.slice.injEq] at e;omega
  · simp only [Value.slice.injEq] at e
    obtain ⟨rfl,-,rfl⟩:=e
    refine .inr ⟨g',0,rfl,(Array.getElem?_eq_some_iff.1 hg).1,fun k hk => ?_,fun k hk => ?_⟩
    · have:=(h'.cellAt (k * 2) (by omega)).trans (O2_at G k hk).1
      rw [Nat.zero_add,this];simp [List.getD_eq_getElem?_getD,List.getElem?_eq_getElem hk]
    · have:=(h'.cellAt (k * 2 + 1) (by omega)).trans (O2_at G k hk).2
      rw [Nat.zero_add,this];simp [List.getD_eq_getElem?_getD,List.getElem?_eq_getElem hk]
def hits (G:List (Int × Int)) (r:Int × Int):Bool:=decide (∃ a ∈ G,a.1 ≤ r.2 ∧ r.1 ≤ a.2)
theorem box_after {w w1:World} {cs:Array Value} {t:TypeId} (m:Nat) (h:RowKit.Below ((w.alloc (.cells cs t (0,0))).drewN m).heap.size ((w.alloc (.cells cs t (0,0))).drewN m) w1):(∀ i,w1.cell? ⟨w.heap.size,i,none⟩ = cs[i]?) ∧ RowKit.Below w.heap.size w w1:=by
  have hs:w.heap.size < ((w.alloc (.cells cs t (0,0))).drewN m).heap.size:=by
    show w.heap.size < (w.alloc (.cells cs t (0,0))).heap.size
    simp
  have hb:w1.heap[w.heap.size]? = some (.cells cs t (0,0)):=(h.block _ hs).trans (by show (w.heap.push _)[w.heap.size]? = _;simp)
  refine ⟨fun i => Joins.cell_of_block hb i,?_⟩
  have h1:=(Below.refl w.heap.size w).alloc (Nat.le_refl _) (.cells cs t (0,0))
  have h2:RowKit.Below w.heap.size w ((w.alloc (.cells cs t (0,0))).drewN m):=⟨h1.os,h1.tape,h1.output,h1.size,h1.block⟩
  exact h2.trans (h.mono (Nat.le_of_lt hs))
theorem hits_yes {G:List (Int × Int)} {r:Int × Int} {i:Nat} (hi:i < G.length) (h1:G[i].1 ≤ r.2) (h2:r.1 ≤ G[i].2):hits G r = true:=by
  unfold hits
  exact decide_eq_true ⟨_,List.getElem_mem hi,h1,h2⟩
theorem hits_no {G:List (Int × Int)} {r:Int × Int} (h:∀ q (hq:q < G.length),¬ (G[q].1 ≤ r.2 ∧ r.1 ≤ G[q].2)):hits G r = false:=by
  unfold hits
  refine decide_eq_false ?_
  rintro ⟨a,ha,h1⟩
  obtain ⟨q,hq,rfl⟩:=List.getElem_of_mem ha
  exact h q hq h1
set_option maxRecDepth 100000 in
set_option maxHeartbeats 4000000 in
theorem shares102 {w:World} {sb o n c:Nat} {ad:Option Addr} {G:List (Int × Int)} {lo hi:Int} (hc:w.cell? ⟨sb,o + 3,none⟩ = some (.slice ad n c)) (hsb:sb < w.heap.size) (hG:RowAt w.heap.size w (.slice ad n c) G) (hn:n = G.length) (hn2:n ≤ 100000000) (hs:G.Pairwise fun x y => x.2 < y.1) (hok:∀ x ∈ G,x.1 ≤ x.2) :
    Calls Tryz.prog 102 #[.pointer (some ⟨sb,o,none⟩),.agg #[.int .i64 lo,.int .i64 hi]] w fun e w' => e = .returned (.bool (hits G (lo,hi))) ∧ Below w.heap.size w w':=by
  have hord:∀ a b (hb:b < G.length) (hab:a < b),(G[a]'(by omega)).2 < G[b].1:=fun a b hb hab => List.pairwise_iff_getElem.1 hs a b (by omega) hb hab
  have hok2:∀ a (ha:a < G.length),G[a].1 ≤ G[a].2:=fun a ha => hok _ (List.getElem_mem ha)
  have hm:∀ a b (hb:b < G.length) (hab:a ≤ b),G[b].2 < lo → (G[a]'(by omega)).2 < lo:=fun a b hb hab h => by
    by_cases e:a = b
    · subst e;exact h
    · have h1:=hord a b hb (by omega)
      have h2:=hok2 b hb
      omega
  have D81:=fun W (hW:Below w.heap.size w W) => search81 (x:=lo) (RowAt.below hG hW (Nat.le_refl _) hW.size) hn hn2 hm
  have HG:=hid hG
  have HN:=hid hn
  have HO:=hid hord
  have HK:=hid hok2
  clear hG hn hs hok hord hok2 hm
  go_enter Tryz.func102,Tryz.ntmps102
  have B81:∀ (ob:Obj) m,RowKit.Below w.heap.size w ((w.alloc ob).drewN m):=fun ob m => by
    have h1:=(Below.refl w.heap.size w).alloc (Nat.le_refl _) ob
    exact ⟨h1.os,h1.tape,h1.output,h1.size,h1.block⟩
  go_upto_region 2 with fail
  go_region_with (first | (go_at_call 81;(with_reducible refine (D81 _ ?_).mono ?_);(exact B81 _ _);rintro e w1 ⟨j,bb,rfl,hj,h1,h2,hbw⟩;have H1:=hid h1;have H2:=hid h2;obtain ⟨kb,hb2⟩:=box_after _ hbw;have k1:=kb 1;have HB:=hid hb2;clear h1 h2 hbw kb hb2))
  all_goals
    have BQ:∀ m,RowKit.Below w.heap.size w (w1.drewN m):=fun m => ⟨HB.out.os,HB.out.tape,HB.out.output,HB.out.size,HB.out.block⟩
    have k2:w1.cell? ⟨sb,o + 3,none⟩ = some (.slice ad n c):=(HB.out.cell (p:=⟨sb,o + 3,none⟩) hsb).trans hc
    clear D81 B81
    by_cases hin:j < n
    · obtain ⟨b,off,rfl,hb,hgl,q0,q1⟩:=row_at HG.out hin
      have b3:decide ((j:Int) < (n:Int)) = true:=by simp;omega
      have b5:(j:Int) < (n:Int):=by omega
      have b6:(0:Int) ≤ (j:Int):=by omega
      have p0:=(HB.out.cell (p:=⟨b,off + j * 2,none⟩) hb).trans q0
      obtain ⟨l2,hl2⟩:∃ l2,G[j].1 = l2:=⟨_,rfl⟩
      rw [hl2] at p0
      have HL2:=hid hl2
      clear q0 q1 hl2
      by_cases hle:l2 ≤ hi
      · have b7:decide (l2 ≤ hi) = true:=by simpa using hle
        go_wp2
        go_simp
        go_big_quiet (fail)
        go_wp2
        go_ret
        exact ⟨by rw [hits_yes hgl (by rw [HL2.out];exact hle) (H2.out j hgl (Nat.le_refl _))];rfl,BQ _⟩
      · have b7:decide (l2 ≤ hi) = false:=by simpa using hle
        go_wp2
        go_simp
        go_big_quiet (fail)
        go_wp2
        go_ret
        refine ⟨by
          rw [hits_no];rfl
          rintro q hq ⟨h5,h6⟩
          change G[q].1 ≤ hi at h5
          change lo ≤ G[q].2 at h6
          by_cases hqj:q < j
          · have:=H1.out q hq hqj;omega
          · have e1:=HL2.out
            by_cases e:q = j
            · subst e;omega
            · have:=HO.out j q hq (by omega)
              have:=HK.out j hgl
              omega,BQ _⟩
    · have b4:decide (j < n) = false:=by simpa using hin
      have b5:n ≤ j:=by omega
      clear hin
      go_wp2
      go_simp
      go_big_quiet (fail)
      go_wp2
      go_ret
      refine ⟨by
        rw [hits_no];rfl
        rintro q hq ⟨h5,h6⟩
        change lo ≤ G[q].2 at h6
        have:=H1.out q hq (by have:=HN.out;omega)
        omega,BQ _⟩
end Go.Proofs.YtjdbnoccdefnaaaGreat
namespace Go.Proofs.YtjdbnoccdefnaaaGreat
open Go.RowKit
set_option linter.unusedVariables false
set_option linter.unusedSimpArgs false
set_option maxRecDepth 100000 in
set_option maxHeartbeats 4000000 in
theorem index116 {w:World} {ad:Option Addr} {n c:Nat} {G:List (Int × Int)} {p:Int × Int → Bool} {P:Value} (hG:RowAt w.heap.size w (.slice ad n c) G) (hn:n = G.length) (hn2:n ≤ 100000000)
    (hD:∀ W (lo hi:Int),Below w.heap.size w W → Calls Tryz.prog 102 #[P,.agg #[.int .i64 lo,.int .i64 hi]] W fun e w' => e = .returned (.bool (p (lo,hi))) ∧ Below w.heap.size w w') :
    Calls Tryz.prog 116 #[.slice ad n c,.func (.func 102) #[P] #[]] w fun e w' => ∃ v:Int,e = .returned (.int .i64 v) ∧ decide (0 ≤ v) = G.any p ∧ Below w.heap.size w w':=by
  have HG:=hid hG
  have HN:=hid hn
  clear hG hn
  go_enter Tryz.func116,Tryz.ntmps116
  go_upto_region 2 with fail
  go_loopw [8] (fun y wq => ∃ i:Nat,y = .int .i64 (i:Int) ∧ i ≤ n ∧ Hid (∀ q (hq:q < G.length),q < i → p G[q] = false) ∧ Hid (Below w.heap.size w wq)) (fun y _ => n - (intOf y).toNat)
  case atStart => exact ⟨0,rfl,by omega,fun q _ h => by omega,Below.refl _ _⟩
  case round =>
    obtain ⟨i,rfl,hi,HI,HB⟩:=hrel
    by_cases hil:i < n
    · have b1:decide ((i:Int) < (n:Int)) = true:=by simp;omega
      have b2:(i:Int) < (n:Int):=by omega
      have b6:(0:Int) ≤ (i:Int):=by omega
      have ad1:IntKind.i64.wrap ((i:Int) + 1) = (i:Int) + 1:=by simp [IntKind.wrap,IntKind.bits,IntKind.signed];omega
      obtain ⟨b,off,rfl,hb,hgl,q0,q1⟩:=row_at HG.out hil
      have p0:=(HB.out.cell (p:=⟨b,off + i * 2,none⟩) hb).trans q0
      have p1:=(HB.out.cell (p:=⟨b,off + i * 2 + 1,none⟩) hb).trans q1
      have D102:=hD wr G[i].1 G[i].2 HB.out
      obtain ⟨x,hx⟩:∃ x,G[i] = x:=⟨_,rfl⟩
      rw [hx] at p0 p1 D102
      obtain ⟨lo,hh⟩:=x
      obtain ⟨bb,hbb⟩:∃ bb,p (lo,hh) = bb:=⟨_,rfl⟩
      simp only at p0 p1 D102
      rw [hbb] at D102
      have HX:=hid hx
      have HBB:=hid hbb
      clear q0 q1 hx hbb
      cases bb
      · go_wp2_with (go_at_call 102;(with_reducible refine D102.mono ?_);rintro e w' ⟨rfl,hbw⟩)
        exact ⟨⟨i + 1,by push_cast;rfl,by omega,fun q hq hqi => by
          by_cases e:q = i
          · subst e;rw [HX.out];exact HBB.out
          · exact HI.out q hq (by omega),hbw⟩,by simp [intOf];omega⟩
      · go_wp2_with (go_at_call 102;(with_reducible refine D102.mono ?_);rintro e w' ⟨rfl,hbw⟩)
        go_ret
        refine ⟨_,rfl,?_,hbw⟩
        have:G.any p = true:=List.any_eq_true.2 ⟨G[i],List.getElem_mem hgl,by rw [HX.out];exact HBB.out⟩
        rw [this]
        simp
    · have b1:decide ((i:Int) < (n:Int)) = false:=by simp;omega
      have b2:decide (i < n) = false:=by simpa using hil
      have hin:i = n:=by omega
      clear hil
      go_wp2
      all_goals go_ret
      all_goals
        refine ⟨_,rfl,?_,HB.out⟩
        have:G.any p = false:=by
          rw [List.any_eq_false]
          intro a ha
          obtain ⟨q,hq,rfl⟩:=List.getElem_of_mem ha
          have:=HI.out q hq (by have:=HN.out;omega)
          simp [this]
        rw [this]
        simp
set_option maxRecDepth 100000 in
set_option maxHeartbeats 4000000 in
theorem contains101 {w:World} {ad:Option Addr} {n c:Nat} {G:List (Int × Int)} {p:Int × Int → Bool} {P:Value} (hG:RowAt w.heap.size w (.slice ad n c) G) (hn:n = G.length) (hn2:n ≤ 100000000)
    (hD:∀ W (lo hi:Int),Below w.heap.size w W → Calls Tryz.prog 102 #[P,.agg #[.int .i64 lo,.int .i64 hi]] W fun e w' => e = .returned (.bool (p (lo,hi))) ∧ Below w.heap.size w w') :
    Calls Tryz.prog 101 #[.slice ad n c,.func (.func 102) #[P] #[]] w fun e w' => e = .returned (.bool (G.any p)) ∧ Below w.heap.size w w':=by
  have D116:=index116 hG hn hn2 hD
  clear hG hn hD
  go_enter Tryz.func101,Tryz.ntmps101
  go_wp2_with (go_at_call 116;(with_reducible refine D116.mono ?_);rintro e w' ⟨v,rfl,hv,hbw⟩)
  go_ret
  exact ⟨by rw [← hv];rfl,hbw⟩
end Go.Proofs.YtjdbnoccdefnaaaGreat
