/- HELPERS: texts of ours put together. -/
import Derived.Test.YtacaanhnlfpbhaaGreatK22
import Derived.Test.YtacaanhnlfpbhaaGreatK16
import Derived.Test.YtacaanhnlfpbhaaGreatK15
import Derived.Test.YtacaanhnlfpbhaaGreatK07
import Derived.LoopN
import Derived.Deep.OwnRows
import Derived.Laws.IdiomCopy
import Derived.Laws.BitsLemmas
import Derived.Test.YtacaanhnlfpbhaaGreatK17
import Derived.Test.YtacaanhnlfpbhaaGreatK18
import Derived.Test.YtacaanhnlfpbhaaGreatK19
import Derived.Test.YtacaanhnlfpbhaaGreatK03
import Derived.Test.YtacaanhnlfpbhaaGreatK06
import Derived.Laws.EntriesVeiled
import Derived.Test.YtacaanhnlfpbhaaGreatK08
import Derived.Test.YtacaanhnlfpbhaaGreatK14
import Derived.Test.YtacaanhnlfpbhaaGreatK05
import Derived.Test.YtacaanhnlfpbhaaGreatProg
import Derived.WalkKit
import Derived.ProofKit
import Derived.BigQuiet
import Derived.WalkSmall
import Derived.Deep.QuietTactic
import Derived.Deep.RegionWith
import Derived.Deep.WholeRow
import Derived.Test.YtacaanhnlfpbhaaGreatK04
import Derived.Test.YtacaanhnlfpbhaaGreatK01
namespace Go.Proofs.YtacaanhnlfpbhaaGreat
open Go.RowKit
set_option linter.unusedVariables false
set_option linter.unusedSimpArgs false
set_option maxHeartbeats 8000000 in
set_option maxRecDepth 1000000 in
theorem own21 {base g n N cp:Nat} {v:Nat→Value} {len:Nat→Nat} {E:Nat→List Value} {A:Nat→Value} {cl:Nat→Nat} {w0:World} (HH:Hid (OwH base g n N v len E A cl w0)) :
  Calls Tryz.prog 21 #[.slice (some ⟨g,0,none⟩) n cp] w0 fun e w'=>e=.returned (.bool true)∧Below base w0 w':=by
 obtain ⟨i0,hi0,hz0,hz1,hz2⟩:=info_parts info3H
 obtain ⟨i1,hj0,hy0,hy1,hy2⟩:=info_parts infoIntsH
 have hn:n≤1000:=HH.out.nn
 have hNN:N≤1000000:=HH.out.NN
 go_enter Tryz.func21,Tryz.ntmps21
 go_wp2
 go_loopw [3,4] (fun a i wr=>∃ (j:Nat) (a':Value),j≤n∧i=.int .i64 j∧a'=a∧Hid (I0H base n v len E A w0 j 0 (offs len j) a' wr)) (fun _ i _=>n - (intOf i).toNat)
 case atStart=>exact ⟨0,_,by omega,rfl,rfl,I0H.start HH.out.own⟩
 case round =>
  obtain ⟨j,a,hj,rfl,rfl,HI⟩:=hrel
  by_cases hlt:j < n
  ·have hform:∃ ad m cap,v j=.slice ad m cap∧m=len j∧(0 < m→∃ b,ad=some ⟨b,0,none⟩):=by
    obtain ⟨⟨ad,cap,he⟩,hb⟩:=form_headG (HH.out.own j hlt)
    exact ⟨ad,_,cap,he,rfl,fun hp=>hb ad cap he hp⟩
   obtain ⟨ad,m,cap,hv,hm,hb⟩:=hform
   have hmN:offs len j + m≤N:=by rw [hm,HH.out.off];exact offs_le len j n hlt
   have HV:Hid (v j=.slice ad m cap):=hv
   have HM:Hid (m=len j):=hm
   have HB:Hid (0 < m→∃ b,ad=some ⟨b,0,none⟩):=hb
   have hm8:m≤1000000:=by omega
   clear hv hm hb
   obtain ⟨oj,hoj⟩:∃ oj,oj=offs len j:=⟨_,rfl⟩
   rw [← hoj] at HI hmN
   have HOJ:Hid (oj=offs len j):=hoj
   clear hoj
   go_wp2
   go_loopw [3,5] (fun a i wr=>∃ (t:Nat) (a':Value),t≤m∧i=.int .i64 t∧a'=a∧Hid (I0H base n v len E A w0 j t (oj + t) a' wr)) (fun _ i _=>m - (intOf i).toNat)
   case atStart=>exact ⟨0,_,by omega,rfl,rfl,HI⟩
   case round =>
    clear HI
    obtain ⟨t,a,ht,rfl,rfl,HT⟩:=hrel
    have c0:wr.cell? ⟨g,j,none⟩=some (.slice ad m cap):=by
     rw [HH.out.cellg HT.out.fr hlt,HV.out]
    by_cases hlt2:t < m
    ·obtain ⟨b,rfl⟩:=HB.out (by omega)
     obtain ⟨⟨aa,ac,hAe⟩,-⟩:(∃ aa ac,A (oj + t)=.slice aa (cl (oj + t)) ac)∧True:=by
      obtain ⟨X,hX⟩:=HH.out.aow (oj + t) (by omega)
      exact ⟨(form_headG hX).1,trivial⟩
     obtain ⟨al,hal⟩:∃ al,al=cl (oj + t):=⟨_,rfl⟩
     rw [← hal] at hAe
     clear hal
     have HAE:Hid (A (oj + t)=.slice aa al ac):=hAe
     clear hAe
     have d0:wr.cell? ⟨b,t * 2 + 1,none⟩=some (.slice aa al ac):=by
      have ho:=HT.out.own j hlt
      rw [HV.out,← HM.out] at ho
      rw [ho.cellAt (t * 2 + 1) (by omega),← HAE.out,HOJ.out]
      exact Yr_at (HH.out.lenE hlt) (by rw [← HM.out];exact hlt2) _ (HH.out.cap j t hlt (by rw [← HM.out];exact hlt2))
     go_upto_region 9 with (at_builtin;refine wpList_append_move rfl (.tmp 29) (.tmp 38) 84 rfl w0.heap.size 26 i1 (.slice none 0 0) 24 Tryz.underlying84 hj0 hy0 hy1 hy2 rfl a (oj + t) _ rfl (HT.out.all.alloc _) ⟨wr.heap.size,0,none⟩ 1 1 [.slice aa al ac] rfl rfl (by decide) (by exact news_oneH _ _ _ _ rfl) (one_cell_sliceH _ _ _) (by unfold maxLen;omega) (by omega) (by have:=HT.out.siz;simp;omega) ?_;intro a2 w' ho hmv)
     have HN:Hid (I0H base n v len E A w0 j t (oj + t + 1) a2 w'):=by
      have ho':=ho.out
      rw [← HAE.out] at ho'
      exact HT.out.put HH.out.R ho' hmv.out
     clear ho hmv HT c0 d0
     have c1:w'.cell? ⟨g,j,none⟩=some (.slice (some ⟨b,0,none⟩) m cap):=by
      rw [HH.out.cellg HN.out.fr hlt,HV.out]
     have hth:w'.there b (t * 2) 2:=by
      have ho:=HN.out.own j hlt
      rw [HV.out,← HM.out] at ho
      exact row_there ho (by omega)
     have HN2:Hid (I0H base n v len E A w0 j (t + 1) (oj + t + 1) a2 ((w'.setCell ⟨b,t * 2,none⟩ (.int .i64 (-1 - (j:Int)))).setCell ⟨b,t * 2 + 1,none⟩ NilS)):=
      HN.out.write HH.out.R (HH.out.lenE hlt) hlt (by rw [← HM.out];exact hlt2) (by rw [HV.out,HM.out])
     clear HN
     go_wp2_with ((with_reducible refine store57H rfl (.tmp 48) (.tmp 47) rfl b t (-1 - (j:Int)) ?_ ?_ hth ?_);(rfl);(rfl))
     go_roundw
     case rel=>exact ⟨t + 1,_,by omega,by go_num,rfl,HN2⟩
     case measure=>simp [intOf];omega
    ·have htm:t=m:=by omega
     have HN:Hid (I0H base n v len E A w0 (j + 1) 0 (offs len (j + 1)) a wr):=by
      have h1:=HT.out
      rw [htm,HM.out,HOJ.out] at h1
      exact h1.next (HH.out.lenE hlt)
     clear HT
     go_wp2
     go_roundw
     case rel=>exact ⟨j + 1,_,by omega,by go_num,rfl,HN⟩
     case measure=>simp [intOf];omega
  ·have hjn:j=n:=by omega
   have HI1:Hid (I0H base n v len E A w0 n 0 N a wr):=by
    have h1:=HI.out
    rw [hjn,← HH.out.off] at h1
    exact h1
   clear HI
   obtain ⟨w1,hw1⟩:∃ w1,w1=wr:=⟨_,rfl⟩
   rw [← hw1] at HI1 ⊢
   obtain ⟨ad,cap,gA,rfl,hgA,hR,hOw,hCe⟩:=HH.out.mid HI1.out
   have HGA:Hid (0 < N→ad=some ⟨gA,0,none⟩):=hgA
   have R:Hid (RwsH 3 26 base gA N A cl mkP w1):=hR
   have HOw:Hid (∀ q,q < N→∃ X,w1.ownsRow base 3 1 (A q) (cl q) X):=hOw
   have HCe:Hid (∀ q,q < N→w1.cell? ⟨gA,q,none⟩=some (A q)):=hCe
   clear hgA hR hOw hCe hjn hj hw1
   go_wp2
   go_loopw [6] (fun i wr=>∃ (k:Nat),k≤N∧i=.int .i64 k∧Hid (∃ X,I1H 3 base gA N A cl w1 X wr∧∀ j,j < k→X j=List.replicate (cl j) (mkP j))) (fun i _=>N - (intOf i).toNat)
   case atStart =>
    refine ⟨0,by omega,rfl,?_⟩
    obtain ⟨X,hX⟩:=Deep.choose_lt (α:=List Value) (n:=N) (p:=fun j X=>w1.ownsRow base 3 1 (A j) (cl j) X) HOw.out
    exact ⟨X,⟨hX,HCe.out,rfl,Below.refl _ _,fun b _ _=>rfl⟩,fun j hj=>absurd hj (by omega)⟩
   case round =>
    obtain ⟨k,hk,rfl,HI⟩:=hrel
    by_cases hlt:k < N
    ·obtain rfl:=HGA.out (by omega)
     have hform:∃ ad m cap,A k=.slice ad m cap∧m=cl k∧(0 < m→∃ b,ad=some ⟨b,0,none⟩):=by
      obtain ⟨X,h1,_⟩:=HI.out
      obtain ⟨⟨ad,cap,he⟩,hb⟩:=form_headG (h1.own k hlt)
      exact ⟨ad,_,cap,he,rfl,fun hp=>hb ad cap he hp⟩
     obtain ⟨ad,m,cap,hv,hm,hb⟩:=hform
     have HV:Hid (A k=.slice ad m cap):=hv
     have HM:Hid (m=cl k):=hm
     have HB:Hid (0 < m→∃ b,ad=some ⟨b,0,none⟩):=hb
     have hm8:m≤100000000:=by rw [hm];exact HH.out.cll k hlt
     clear hv hm hb
     go_wp2
     go_loopw [7] (fun i wr=>∃ (t:Nat),t≤m∧i=.int .i64 t∧Hid (∃ X,I1H 3 base gA N A cl w1 X wr∧(∀ j,j < k→X j=List.replicate (cl j) (mkP j))∧(X k).take t=List.replicate t (mkP k))) (fun i _=>m - (intOf i).toNat)
     case atStart =>
      refine ⟨0,by omega,rfl,?_⟩
      obtain ⟨X,h1,h2⟩:=HI.out
      exact ⟨X,h1,h2,rfl⟩
     case round =>
      clear HI
      obtain ⟨t,ht,rfl,HT⟩:=hrel
      have c0:wr.cell? ⟨gA,k,none⟩=some (.slice ad m cap):=by
       obtain ⟨X,h1,_⟩:=HT.out
       rw [h1.cel k hlt,HV.out]
      by_cases hlt2:t < m
      ·obtain ⟨b,rfl⟩:=HB.out (by omega)
       have hcell:∃ y,wr.cell? ⟨b,t,none⟩=some y:=by
        obtain ⟨X,h1,_⟩:=HT.out
        have ho:=h1.own k hlt
        rw [HV.out,← HM.out] at ho
        refine ⟨_,(ho.cellAt t (by omega)).trans (List.getElem?_eq_getElem (by have:=ho.1;omega))⟩
       have hfr:wr.frozen? ⟨b,t,none⟩=false:=by
        obtain ⟨X,h1,_⟩:=HT.out
        have ho:=h1.own k hlt
        rw [HV.out,← HM.out] at ho
        exact ho.frozenAt t
       obtain ⟨y,hy⟩:=hcell
       have HN:Hid (∃ X,I1H 3 base gA N A cl w1 X (wr.setCell ⟨b,t,none⟩ (mkP k))∧(∀ j,j < k→X j=List.replicate (cl j) (mkP j))∧(X k).take (t + 1)=List.replicate (t + 1) (mkP k)):=by
        obtain ⟨X,h1,h2,h3⟩:=HT.out
        refine ⟨updRH X k ((X k).set t (mkP k)),h1.step R.out hlt (by rw [HV.out,HM.out]) _,fun j hj=>?_,?_⟩
        ·unfold updRH
         rw [if_neg (by omega)]
         exact h2 j hj
        ·unfold updRH
         rw [if_pos rfl]
         exact take_set_snocH _ _ m _ (by have:=(h1.own k hlt).1;rw [this,HM.out];omega) hlt2 h3
       clear HT
       go_wp2
       go_roundw
       case rel=>exact ⟨t + 1,by omega,by go_num,HN⟩
       case measure=>simp [intOf];omega
      ·have htm:t=m:=by omega
       have HN:Hid (∃ X,I1H 3 base gA N A cl w1 X wr∧∀ j,j < k + 1→X j=List.replicate (cl j) (mkP j)):=by
        obtain ⟨X,h1,h2,h3⟩:=HT.out
        refine ⟨X,h1,fun j hj=>?_⟩
        by_cases hjk:j=k
        ·subst hjk
         rw [htm,List.take_of_length_le (by have:=(h1.own j hlt).1;rw [this,HM.out];omega)] at h3
         rw [h3,HM.out]
        ·exact h2 j (by omega)
       clear HT
       go_wp2
       go_roundw
       case rel=>exact ⟨k + 1,by omega,by go_num,HN⟩
       case measure=>simp [intOf];omega
    ·have hkn:k=N:=by omega
     have HS:Hid (I3H 3 26 base gA N A cl mkP w1 0 0 (.slice none 0 0) [] wr):=by
      obtain ⟨X,h1,h2⟩:=HI.out
      refine ⟨fun j _ hj=>by rw [← h2 j (by omega)];exact h1.own j hj,h1.cel,World.ownsRow_nil _ _ _ _,fun q hq=>absurd hq (by omega),by rw [h1.siz];exact Nat.le_refl _,h1.bel,rfl,fun q hq=>absurd hq (by omega),h1.fr⟩
     clear HI HOw HCe hkn
     go_wp2
     go_loopw [8,9] (fun lo i wr=>∃ (k:Nat) (L:List Value) (lo':Value),k≤N∧i=.int .i64 k∧lo'=lo∧Hid (I3H 3 26 base gA N A cl mkP w1 k k lo' L wr)) (fun _ i _=>N - (intOf i).toNat)
     case atStart=>exact ⟨0,[],_,by omega,rfl,rfl,HS⟩
     case round =>
      clear HS
      obtain ⟨k,L,lo,hk,rfl,rfl,HI⟩:=hrel
      by_cases hlt:k < N
      ·obtain rfl:=HGA.out (by omega)
       have c0:=HI.out.cel k hlt
       have H4:Hid (I4H 3 26 base gA N A cl mkP w1 k 0 lo L (A k) wr):=I4H.start HI.out hlt
       have HF:=form_headG (HI.out.own k (Nat.le_refl _) hlt)
       have HF1:Hid (∃ ad cap,A k=.slice ad (cl k) cap):=HF.1
       have HF2:Hid (∀ ad cap,A k=.slice ad (cl k) cap→0 < cl k→∃ b,ad=some ⟨b,0,none⟩):=HF.2
       have hm8:=HH.out.cll k hlt
       clear HF HI
       obtain ⟨vk,hvk⟩:∃ vk,vk=A k:=⟨_,rfl⟩
       rw [← hvk] at c0 H4
       have HVK:Hid (vk=A k):=hvk
       clear hvk
       go_wp2
       go_loopw [10,11] (fun x i wr=>∃ (t:Nat) (x':Value),t≤9∧i=.int .i64 t∧x'=x∧Hid (I4H 3 26 base gA N A cl mkP w1 k t lo L x' wr)) (fun _ i _=>9 - (intOf i).toNat)
       case atStart=>exact ⟨0,_,by omega,rfl,rfl,H4⟩
       case round =>
        clear H4 c0
        obtain ⟨t,x,ht,rfl,rfl,H4⟩:=hrel
        by_cases hlt2:t < 9
        ·go_wp2_with (at_builtin;refine wpList_append_move rfl (.tmp 86) (.tmp 89) 26 rfl base 3 i0 (.int .i64 0) 8 Tryz.underlying26 hi0 hz0 hz1 hz2 rfl x (cl k + t) _ rfl (H4.out.own.alloc _) ⟨wr.heap.size,0,none⟩ 1 1 [.int .i64 (-1 - (k:Int))] rfl rfl (by decide) (by exact news_oneH _ _ _ _ rfl) (one_cell_intH _ _) (by unfold maxLen;omega) (by omega) (by have:=H4.out.inv.siz;have:=R.out.hgb;simp;omega) ?_;intro x' w' ho hmv)
         have HN:Hid (I4H 3 26 base gA N A cl mkP w1 k (t + 1) lo L x' w'):=H4.out.step R.out hlt HF1.out HF2.out ho.out hmv.out
         clear ho hmv H4
         go_wp2
         go_roundw
         case rel=>exact ⟨t + 1,_,by omega,by go_num,rfl,HN⟩
         case measure=>simp [intOf];omega
        ·have ht9:t=9:=by omega
         subst ht9
         obtain ⟨⟨adx,capx,hex⟩,-⟩:=form_headG H4.out.own
         obtain ⟨lx,hlx⟩:∃ lx,lx=cl k + 9:=⟨_,rfl⟩
         rw [← hlx] at hex
         subst hex
         clear hlx
         go_wp2_with (at_builtin;refine wpList_append_move rfl (.tmp 91) (.tmp 93) 84 rfl w1.heap.size 26 i1 (.slice none 0 0) 24 Tryz.underlying84 hj0 hy0 hy1 hy2 rfl lo k _ rfl (H4.out.inv.lon.alloc _) ⟨wr.heap.size,0,none⟩ 1 1 [.slice adx lx capx] rfl rfl (by decide) (by exact news_oneH _ _ _ _ rfl) (one_cell_sliceH _ _ _) (by unfold maxLen;omega) (by omega) (by have:=H4.out.inv.siz;simp;omega) ?_;intro lo2 w' ho hmv)
         have HN:Hid (∃ L',I3H 3 26 base gA N A cl mkP w1 (k + 1) (k + 1) lo2 L' w'):=⟨_,H4.out.put R.out hlt ho.out hmv.out⟩
         obtain ⟨L2,hN⟩:=HN.out
         have HN2:Hid (I3H 3 26 base gA N A cl mkP w1 (k + 1) (k + 1) lo2 L2 w'):=hN
         clear ho hmv H4 HN hN
         go_wp2
         go_roundw
         case rel=>exact ⟨k + 1,L2,_,by omega,by go_num,rfl,HN2⟩
         case measure=>simp [intOf];omega
      ·have hkn2:k=N:=by omega
       rw [hkn2] at HI
       clear hkn2
       have hLf:∃ adL capL,lo=.slice adL N capL∧(0 < N→∃ b,adL=some ⟨b,0,none⟩):=by
        obtain ⟨⟨ad,cap,he⟩,hb⟩:=form_headG HI.out.lon
        exact ⟨ad,cap,he,fun hp=>hb ad cap he hp⟩
       obtain ⟨adL,capL,rfl,hLb⟩:=hLf
       have HLB:Hid (0 < N→∃ b,adL=some ⟨b,0,none⟩):=hLb
       clear hLb
       go_wp2
       go_loopw [12] (fun i wr'=>∃ (q:Nat),q≤N∧i=.int .i64 q∧wr'=wr) (fun i _=>N - (intOf i).toNat)
       case atStart=>exact ⟨0,by omega,rfl,rfl⟩
       case round =>
        obtain ⟨q,hq,rfl,rfl⟩:=hrel
        by_cases hlq:q < N
        ·obtain rfl:=HGA.out (by omega)
         obtain ⟨gL,rfl⟩:=HLB.out (by omega)
         have c0:wr.cell? ⟨gL,q,none⟩=some (L.getD (2 * q) undef):=by
          rw [HI.out.lon.cellAt q (by omega)]
          exact evn_get N L HI.out.ll q hlq
         have c1:=HI.out.cel q hlq
         obtain ⟨ad,cap,hv,hmk⟩:=(HI.out.mar (2 * q) (by omega)).1
         obtain ⟨ad2,cap2,hv2,hmk2⟩:=(HI.out.mar (2 * q + 1) (by omega)).1
         rw [HI.out.od q hlq] at hv2
         have hm8:cntH cl (2 * q)≤100000100:=by
          have:=HH.out.cll q hlq
          unfold cntH
          rw [show 2 * q / 2=q by omega]
          split <;> omega
         have hm9:cntH cl (2 * q + 1)≤100000100:=by
          have:=HH.out.cll q hlq
          unfold cntH
          rw [show (2 * q + 1) / 2=q by omega]
          split <;> omega
         rw [hv] at c0
         rw [hv2] at c1
         rw [show 2 * q / 2=q by omega] at hmk
         rw [show (2 * q + 1) / 2=q by omega] at hmk2
         generalize cntH cl (2 * q)=m at c0 hmk hm8
         generalize cntH cl (2 * q + 1)=m2 at c1 hmk2 hm9
         have HMK:Hid (m=0∨∃ b,ad=some ⟨b,0,none⟩∧∀ k,k < m→wr.cell? ⟨b,k,none⟩=some (mkP q)):=hmk
         have HMK2:Hid (m2=0∨∃ b,ad2=some ⟨b,0,none⟩∧∀ k,k < m2→wr.cell? ⟨b,k,none⟩=some (mkP q)):=hmk2
         clear hv hmk hv2 hmk2
         go_wp2
         go_loopw [13] (fun i wr'=>∃ (t:Nat),t≤m∧i=.int .i64 t∧wr'=wr) (fun i _=>m - (intOf i).toNat)
         case atStart=>exact ⟨0,by omega,rfl,rfl⟩
         case round =>
          obtain ⟨t,ht,rfl,rfl⟩:=hrel
          by_cases hlt3:t < m
          ·obtain ⟨b,rfl,hcb⟩:=HMK.out.resolve_left (by omega)
           have d0:wr.cell? ⟨b,t,none⟩=some (.int .i64 (-1 - (q:Int))):=hcb t hlt3
           clear hcb
           by_cases hlt4:t < m2
           ·obtain ⟨b2,rfl,hcb2⟩:=HMK2.out.resolve_left (by omega)
            have d1:wr.cell? ⟨b2,t,none⟩=some (.int .i64 (-1 - (q:Int))):=hcb2 t hlt4
            clear hcb2
            go_wp2
            go_roundw
            case rel=>exact ⟨t + 1,by omega,by go_num,trivial⟩
            case measure=>simp [intOf];omega
           ·have hn4:¬ ((t:Int) < (m2:Int)):=by omega
            go_wp2
            go_roundw
            case rel=>exact ⟨t + 1,by omega,by go_num,trivial⟩
            case measure=>simp [intOf];omega
          ·have htm:t=m:=by omega
           go_wp2
           go_roundw
           case rel=>exact ⟨q + 1,by omega,by go_num,trivial⟩
           case measure=>simp [intOf];omega
        ·have hqn:q=N:=by omega
         have HBX:Hid (Below base w0 wr):=HI1.out.bel.trans HI.out.bel
         have HG:=HH.out.last HI1.out HI.out.fr HI.out.siz
         have HCL:Hid (Calls Tryz.prog 48 #[.slice (some ⟨g,0,none⟩) n cp] wr fun e w'=>e=.returned (.bool true)∧Below base wr w'):=
          grown48 base g n cp v len wr hn HG.1 HG.2.1 HG.2.2 HH.out.ll
         clear HI HG
         go_wp2_with (go_at_call 48;(with_reducible refine HCL.out.mono ?_);rintro e U1 ⟨rfl,hb⟩;have HB1:=hid hb;clear hb HCL)
         go_ret
         exact ⟨rfl,HBX.out.trans HB1.out⟩
theorem PR.ends {N:Nat} {w:World} {cs:List Value} {l:List (Int × List Int)} {F:List Nat} (h:PR N w cs l F):∀ (i:Nat) (hi:i < l.length),cs[i * 2]?=some (.int .i64 l[i].1):=by
 induction h with
 | nil=>intro i hi;simp at hi
 | cons h hl ih =>
  intro i hi
  cases i with
  | zero=>simp
  | succ i =>
   have:=ih i (by simpa using hi)
   rw [show (i + 1) * 2=i * 2 + 1 + 1 by omega]
   simpa using this
theorem Parsed.ends {N:Nat} {w:World} {pv:Value} {l:List (Int × List Int)} (h:Parsed N w pv l):(pv=.slice none 0 0∧l=[])∨∃ b cap,pv=.slice (some ⟨b,0,none⟩) l.length cap∧b < w.heap.size∧N≤b∧∀ i (hi:i < l.length),w.cell? ⟨b,i * 2,none⟩=some (.int .i64 l[i].1):=by
 obtain ⟨cs,F,h1,h2⟩:=h
 rcases Joins.ownsRow_forms h1 with ⟨e,h0⟩ | ⟨b,cap,e⟩
 ·exact .inl ⟨e,List.length_eq_zero_iff.1 h0⟩
 ·have hlt:=h1.lt b (by rw [e];rfl)
  rw [e] at h1
  refine .inr ⟨b,cap,e,hlt.2,hlt.1,fun i hi=>?_⟩
  have hl:cs.length=l.length * 2:=h1.1
  rw [h1.cellAt (i * 2) (by omega),h2.ends i hi]
def muchB (t:Tn) (tn:Nat):Bool:=decide (tn≤64) && t.sound && decide (t.sz≤2000) && decide (16777216 < (t.sz:Int) * ((tn:Int) + 1) * (2 * t.gi + 2))
theorem mul_bd {a b:Int} {A B:Int} (h1:0≤a) (h2:a≤A) (h3:0≤b) (h4:b≤B):0≤a * b∧a * b≤A * B:=⟨Int.mul_nonneg h1 h3,Int.mul_le_mul h2 h4 h3 (by omega)⟩
set_option maxRecDepth 100000 in
set_option maxHeartbeats 4000000 in
theorem much11 (N:Nv) (t:Tn) (ad:Option Addr) (tn tcap:Nat) (w:World) (hTI:TI w w.heap.size N t) (htm:tn≤35184372088832) :
  Calls Tryz.prog 9 #[N.v,.slice ad tn tcap] w fun e w'=>e=.returned (.bool (muchB t tn))∧Below w.heap.size w w':=by
 have hb0:Below w.heap.size w (w.alloc (.cells #[.int .i64 N.k,.slice N.r1 N.r2 N.r3,.int .i64 N.a2,.slice N.s1 N.s2 N.s3,.int .i64 N.a4,.int .i64 N.a5,.bool N.a6,.int .i64 N.a7,.string N.a8] 25)):=Joins.below_alloc1 w _
 have HB0:=hid hb0
 by_cases c1:64 < tn
 ·have e1:muchB t tn=false:=by unfold muchB;rw [decide_eq_false (by omega)];rfl
  rw [e1]
  have b1:decide ((tn:Int) > 64)=true:=by simp;omega
  have b1':decide (64 < (tn:Int))=true:=by simp;omega
  obtain ⟨k,r1,r2,r3,a2,s1,s2,s3,a4,a5,a6,a7,a8⟩:=N
  clear hTI e1 hb0
  go_enter Tryz.func9,Tryz.ntmps9
  go_wp2
  go_ret
  exact ⟨rfl,HB0.out⟩
 have b1:decide ((tn:Int) > 64)=false:=by simp;omega
 have b1':decide (64 < (tn:Int))=false:=by simp;omega
 have hT1:∀ w1,Below w.heap.size w w1→TI w1 w1.heap.size N t:=fun w1 h=>(hTI.kept fun b hb=>h.block b hb).le h.size
 have H25:=sound25 (hT1 _ hb0)
 cases hs:t.sound with
 | false =>
  have e1:muchB t tn=false:=by unfold muchB;rw [hs];simp
  rw [e1]
  rw [hs] at H25
  simp only [Bool.false_eq_true,if_false] at H25
  obtain ⟨k,r1,r2,r3,a2,s1,s2,s3,a4,a5,a6,a7,a8⟩:=N
  dsimp only at H25
  clear hTI e1 hb0 hT1 hs
  go_enter Tryz.func9,Tryz.ntmps9
  go_wp2_with (first | (go_at_call 32;(with_reducible refine H25.mono ?_);rintro e w1 ⟨rfl,hb1⟩;have HB1:=hid hb1;clear hb1 H25))
  go_ret
  exact ⟨rfl,HB0.out.trans (Joins.below_le HB1.out (by simp))⟩
 | true =>
  obtain ⟨hf,_,hno⟩:=sound_parts hs
  have hgi:=fine_gi t hf
  have hT2:∀ w1,Below w.heap.size w w1→Calls Tryz.prog 33 #[N.v] w1 fun e w'=>e=.returned (.int .i64 (min 1073741824 t.sz:Nat))∧Below w1.heap.size w1 w':=fun w1 h=>refsize28 hTI hf w1 h.size (fun b hb=>h.block b hb)
  have hT3:∀ w1,Below w.heap.size w w1→Calls Tryz.prog 40 #[N.v] w1 fun e w'=>e=.returned (.int .i64 t.gi)∧Below w1.heap.size w1 w':=fun w1 h=>greatest15 hTI w1 h.size (fun b hb=>h.block b hb)
  have hnode:∀ w1,Below (w.alloc (.cells #[.int .i64 N.k,.slice N.r1 N.r2 N.r3,.int .i64 N.a2,.slice N.s1 N.s2 N.s3,.int .i64 N.a4,.int .i64 N.a5,.bool N.a6,.int .i64 N.a7,.string N.a8] 25)).heap.size (w.alloc (.cells #[.int .i64 N.k,.slice N.r1 N.r2 N.r3,.int .i64 N.a2,.slice N.s1 N.s2 N.s3,.int .i64 N.a4,.int .i64 N.a5,.bool N.a6,.int .i64 N.a7,.string N.a8] 25)) w1→w1.heap[w.heap.size]?=some (.cells #[.int .i64 N.k,.slice N.r1 N.r2 N.r3,.int .i64 N.a2,.slice N.s1 N.s2 N.s3,.int .i64 N.a4,.int .i64 N.a5,.bool N.a6,.int .i64 N.a7,.string N.a8] 25 (0,0)):=fun w1 h=>(h.block w.heap.size (by simp)).trans (heap_alloc_new w _)
  rw [hs] at H25
  simp only [if_true] at H25
  have HN:=hid hnode
  have HT2:=hid hT2
  have HT3:=hid hT3
  obtain ⟨r,hr⟩:∃ r,r=min 1073741824 t.sz:=⟨_,rfl⟩
  rw [← hr] at HT2
  by_cases c3:2000 < t.sz
  ·have e1:muchB t tn=false:=by unfold muchB;rw [decide_eq_false (show ¬ t.sz≤2000 by omega)];simp
   rw [e1]
   have b3:decide ((r:Int)≤2000)=false:=by simp;omega
   obtain ⟨k,r1,r2,r3,a2,s1,s2,s3,a4,a5,a6,a7,a8⟩:=N
   dsimp only at H25 HN
   clear hTI e1 hb0 hT1 hT2 hT3 hnode hs hf hno hr hgi
   go_enter Tryz.func9,Tryz.ntmps9
   go_wp2_with (first | (go_at_call 32;(with_reducible refine H25.mono ?_);rintro e w1 ⟨rfl,hb1⟩;obtain ⟨o0,o1,o2,o3,o4,o5,o6,o7,o8⟩:=nine' (HN.out w1 hb1);have HC1:=HT2.out w1 (HB0.out.trans (Joins.below_le hb1 (by simp)));have HB1:=hid hb1;clear hb1 H25) | (go_at_call 33;(with_reducible refine HC1.mono ?_);rintro e w2 ⟨rfl,hb2⟩;have HB2:=hid hb2;clear hb2 HC1))
   go_ret
   exact ⟨rfl,HB0.out.trans (Joins.below_le (HB1.out.trans (Joins.below_le HB2.out HB1.out.size)) (by simp))⟩
  ·have hrz:r=t.sz:=by omega
   have b3:decide ((r:Int)≤2000)=true:=by simp;omega
   have e1:muchB t tn=decide (16777216 < (r:Int) * ((tn:Int) + 1) * (2 * t.gi + 2)):=by
    unfold muchB
    rw [hs,decide_eq_true (show tn≤64 by omega),decide_eq_true (show t.sz≤2000 by omega),hrz]
    simp
   rw [e1]
   have k1:=mul_bd (a:=(r:Int)) (b:=(tn:Int) + 1) (A:=2000) (B:=65) (by omega) (by omega) (by omega) (by omega)
   have k2:=mul_bd (a:=(r:Int) * ((tn:Int) + 1)) (b:=2 * t.gi + 2) (A:=130000) (B:=1002) k1.1 (by omega) (by omega) (by omega)
   have w1':IntKind.i64.wrap ((tn:Int) + 1)=(tn:Int) + 1:=by simp [IntKind.wrap,IntKind.bits,IntKind.signed];omega
   have w2':IntKind.i64.wrap ((r:Int) * ((tn:Int) + 1))=(r:Int) * ((tn:Int) + 1):=by simp [IntKind.wrap,IntKind.bits,IntKind.signed];omega
   obtain ⟨gi,hgg⟩:∃ gi,gi=t.gi:=⟨_,rfl⟩
   rw [← hgg] at k2 hgi HT3 ⊢
   have w3':IntKind.i64.wrap (2 * gi)=2 * gi:=by simp [IntKind.wrap,IntKind.bits,IntKind.signed];omega
   have w4':IntKind.i64.wrap (2 * gi + 2)=2 * gi + 2:=by simp [IntKind.wrap,IntKind.bits,IntKind.signed];omega
   have w5':IntKind.i64.wrap ((r:Int) * ((tn:Int) + 1) * (2 * gi + 2))=(r:Int) * ((tn:Int) + 1) * (2 * gi + 2):=by simp [IntKind.wrap,IntKind.bits,IntKind.signed];omega
   obtain ⟨k,r1,r2,r3,a2,s1,s2,s3,a4,a5,a6,a7,a8⟩:=N
   dsimp only at H25 HN
   clear hTI e1 hb0 hT1 hT2 hT3 hnode hs hf hno hr hrz hgg k1 k2 c3
   go_enter Tryz.func9,Tryz.ntmps9
   go_wp2_with (first | (go_at_call 32;(with_reducible refine H25.mono ?_);rintro e w1 ⟨rfl,hb1⟩;obtain ⟨o0,o1,o2,o3,o4,o5,o6,o7,o8⟩:=nine' (HN.out w1 hb1);have HC1:=HT2.out w1 (HB0.out.trans (Joins.below_le hb1 (by simp)));have HB1:=hid hb1;clear hb1 H25) | (go_at_call 33;(with_reducible refine HC1.mono ?_);rintro e w2 ⟨rfl,hb2⟩;obtain ⟨p0,p1,p2,p3,p4,p5,p6,p7,p8⟩:=nine' (HN.out w2 (HB1.out.trans (Joins.below_le hb2 HB1.out.size)));have HC2:=HT3.out w2 (HB0.out.trans (Joins.below_le (HB1.out.trans (Joins.below_le hb2 HB1.out.size)) (by simp)));have HB2:=hid hb2;clear hb2 HC1 o0 o1 o2 o3 o4 o5 o6 o7 o8) | (go_at_call 40;(with_reducible refine HC2.mono ?_);rintro e w3 ⟨rfl,hb3⟩;have HB3:=hid hb3;clear hb3 HC2))
   go_ret
   exact ⟨rfl,HB0.out.trans (Joins.below_le ((HB1.out.trans (Joins.below_le HB2.out HB1.out.size)).trans (Joins.below_le HB3.out (by have:=HB1.out.size;have:=HB2.out.size;omega))) (by simp))⟩
theorem Parsed.kept {N:Nat} {w w':World} {pv:Value} {l:List (Int × List Int)} (h:Parsed N w pv l) (hb:Below w.heap.size w w'):Parsed N w' pv l:=by
 obtain ⟨cs,F,h1,h2⟩:=h
 exact ⟨cs,F,row_kept h1 (fun b hb'=>hb.block b (h1.lt b hb').2),h2.kept (fun k hk=>hb.block k (h2.low k hk).2)⟩
theorem Parsed.form {N:Nat} {w:World} {pv:Value} {l:List (Int × List Int)} (h:Parsed N w pv l):∃ a c,pv=.slice a l.length c:=by
 rcases h.ends with ⟨rfl,rfl⟩ | ⟨b,cap,rfl,_⟩
 ·exact ⟨none,0,rfl⟩
 ·exact ⟨_,_,rfl⟩
theorem PR.caps {N:Nat} {w:World} {cs:List Value} {l:List (Int × List Int)} {F:List Nat} (h:PR N w cs l F):∀ (i:Nat) (hi:i < l.length),∃ cv,cs[i * 2 + 1]?=some cv∧w.ownsRow N 3 1 cv l[i].2.length (I64 l[i].2):=by
 induction h with
 | nil=>intro i hi;simp at hi
 | cons h hl ih =>
  intro i hi
  cases i with
  | zero=>exact ⟨_,by simp,h⟩
  | succ i =>
   obtain ⟨cv,h1,h2⟩:=ih i (by simpa using hi)
   refine ⟨cv,?_,by simpa using h2⟩
   rw [show (i + 1) * 2 + 1=i * 2 + 1 + 1 + 1 by omega]
   simpa using h1
theorem Parsed.caps {N:Nat} {w:World} {b cap n:Nat} {l:List (Int × List Int)} (h:Parsed N w (.slice (some ⟨b,0,none⟩) n cap) l) (i:Nat) (hi:i < l.length) (hc:0 < l[i].2.length):∃ cb cc,w.cell? ⟨b,i * 2 + 1,none⟩=some (.slice (some ⟨cb,0,none⟩) l[i].2.length cc)∧∀ j,j < l[i].2.length→w.cell? ⟨cb,j,none⟩=some (.int .i64 (l[i].2.getD j 0)):=by
 obtain ⟨cs,F,h1,h2⟩:=h
 obtain ⟨cv,q1,q2⟩:=h2.caps i hi
 obtain ⟨cb,cc,rfl⟩:=Joins.ownsRow_form q2 hc
 have hn:n=l.length:=by
  rcases h1.2 with ⟨e,h0⟩ | ⟨g,cap',cur,e,_⟩
  ·cases e
  ·simp only [Value.slice.injEq] at e
   exact e.2.1
 subst hn
 refine ⟨cb,cc,?_,fun j hj=>?_⟩
 ·have hl:cs.length=l.length * 2:=h1.1
  rw [h1.cellAt (i * 2 + 1) (by omega),q1]
 ·rw [q2.cellAt j (by simpa using hj)]
  simp [List.getD_eq_getElem?_getD,List.getElem?_eq_getElem hj]
def ods:List Value→List Value
 | _ :: y :: r=>y :: ods r
 | _=>[]
theorem ods_get:∀ (L:List Value) (k:Nat),(ods L)[k]?=L[k * 2 + 1]?
 | [],k=>by simp [ods]
 | [_],k=>by simp [ods]
 | x :: y :: r,0=>by simp [ods]
 | x :: y :: r,k + 1=>by
  have:=ods_get r k
  rw [show (k + 1) * 2 + 1=k * 2 + 1 + 1 + 1 by omega]
  simpa [ods] using this
theorem ods_len:∀ (m:Nat) (L:List Value),L.length=m * 2→(ods L).length=m
 | 0,[],_=>rfl
 | 0,_ :: _,h=>by simp at h
 | m + 1,[],h=>by simp at h
 | m + 1,[_],h=>by simp at h;omega
 | m + 1,x :: y :: r,h=>by
  have:=ods_len m r (by simp at h;omega)
  simp [ods,this]
def flt {α:Type} (f:Nat→List α):Nat→List α
 | 0=>[]
 | n + 1=>flt f n ++ f n
theorem flt_len {α:Type} {f:Nat→List α} {len:Nat→Nat}:∀ n,(∀ j,j < n→(f j).length=len j)→(flt f n).length=offs len n
 | 0,_=>rfl
 | n + 1,h=>by
  rw [flt,List.length_append,flt_len n (fun j hj=>h j (by omega)),h n (by omega)]
  rfl
theorem flt_get {α:Type} {f:Nat→List α} {len:Nat→Nat}:∀ n,(∀ j,j < n→(f j).length=len j)→∀ j k,j < n→k < len j→(flt f n)[offs len j + k]?=(f j)[k]?
 | 0,_,j,k,hj,_=>by omega
 | n + 1,h,j,k,hj,hk=>by
  have hl:=flt_len n (fun j hj=>h j (by omega))
  rw [flt]
  by_cases e:j=n
  ·subst e
   rw [List.getElem?_append_right (by omega),hl,show offs len j + k - offs len j=k by omega]
  ·have:=offs_le len j n (by omega)
   rw [List.getElem?_append_left (by omega)]
   exact flt_get n (fun j hj=>h j (by omega)) j k (by omega) hk
theorem offs_split (len:Nat→Nat):∀ n q,q < offs len n→∃ j k,j < n∧k < len j∧q=offs len j + k
 | 0,q,h=>by simp [offs] at h
 | n + 1,q,h=>by
  simp only [offs] at h
  by_cases e:q < offs len n
  ·obtain ⟨j,k,h1,h2,h3⟩:=offs_split len n q e
   exact ⟨j,k,by omega,h2,h3⟩
  ·exact ⟨n,q - offs len n,by omega,by omega,by omega⟩
theorem offs_few {len:Nat→Nat} {m:Nat}:∀ n,(∀ j,j < n→len j≤m)→offs len n≤n * m
 | 0,_=>by simp [offs]
 | n + 1,h=>by
  have:=offs_few n (fun j hj=>h j (by omega))
  have:=h n (by omega)
  simp only [offs,Nat.add_mul]
  omega
theorem PR.mem {N:Nat} {w:World} {cs:List Value} {l:List (Int × List Int)} {F:List Nat} (h:PR N w cs l F):∀ (i:Nat) (cv:Value) (b:Nat),cs[i * 2 + 1]?=some cv→cv.ownBlock=some b→b ∈ F:=by
 induction h with
 | nil=>intro i cv b h;simp at h
 | @cons e cp cv cs l F h hl ih =>
  intro i cv' b hi hb
  cases i with
  | zero=>simp at hi;subst hi;simp [hb]
  | succ i =>
   rw [show (i + 1) * 2 + 1=i * 2 + 1 + 1 + 1 by omega] at hi
   simp only [List.getElem?_cons_succ] at hi
   exact List.mem_append_right _ (ih i cv' b hi hb)
theorem PR.apart {N:Nat} {w:World} {cs:List Value} {l:List (Int × List Int)} {F:List Nat} (h:PR N w cs l F):F.Nodup→∀ (i k:Nat) (cv cu:Value) (b:Nat),i≠k→cs[i * 2 + 1]?=some cv→cs[k * 2 + 1]?=some cu→cv.ownBlock=some b→cu.ownBlock≠some b:=by
 induction h with
 | nil=>intro _ i k cv cu b _ h;simp at h
 | @cons e cp cv cs l F h hl ih =>
  intro hn i k u x b hik hi hk hb hx
  rw [List.nodup_append] at hn
  obtain ⟨_,hnF,hd⟩:=hn
  cases i with
  | zero =>
   cases k with
   | zero=>exact hik rfl
   | succ k =>
    rw [show (k + 1) * 2 + 1=k * 2 + 1 + 1 + 1 by omega] at hk
    simp only [List.getElem?_cons_succ] at hk
    simp at hi
    subst hi
    exact hd b (by simp [hb]) b (hl.mem k x b hk hx) rfl
  | succ i =>
   rw [show (i + 1) * 2 + 1=i * 2 + 1 + 1 + 1 by omega] at hi
   simp only [List.getElem?_cons_succ] at hi
   cases k with
   | zero =>
    simp at hk
    subst hk
    exact hd b (by simp [hx]) b (hl.mem i u b hi hb) rfl
   | succ k =>
    rw [show (k + 1) * 2 + 1=k * 2 + 1 + 1 + 1 by omega] at hk
    simp only [List.getElem?_cons_succ] at hk
    exact ih hnF i k u x b (by omega) hi hk hb hx
structure Ans4 (base g n:Nat) (v:Nat→Value) (l:Nat→List (Int × List Int)) (cs:Nat→List Value) (F:Nat→List Nat) (lo hi:Nat→Nat) (w:World):Prop where
 own:∀ j,j < n→w.ownsRow (lo j) 57 2 (v j) (l j).length (cs j)
 pr:∀ j,j < n→PR (lo j) w (cs j) (l j) (F j)
 nd:∀ j,j < n→(F j).Nodup
 lh:∀ j,j < n→base≤lo j
 top:∀ j,j < n→∀ b,(v j).ownBlock=some b→b < hi j
 topF:∀ j,j < n→∀ b,b ∈ F j→b < hi j
 sep:∀ i j,i < j→j < n→hi i≤lo j
 gt:∀ j,j < n→hi j≤g
 hg:g < w.heap.size
 hb:base≤w.heap.size
 cel:∀ j,j < n→w.cell? ⟨g,j,none⟩=some (v j)
 few:∀ j,j < n→(l j).length≤65
 cfew:∀ j,j < n→∀ i (h:i < (l j).length),(l j)[i].2.length≤100000000
 nn:n≤1000
theorem Ans4.ow {base g n:Nat} {v:Nat→Value} {l:Nat→List (Int × List Int)} {cs:Nat→List Value} {F:Nat→List Nat} {lo hi:Nat→Nat} {w:World} (h:Ans4 base g n v l cs F lo hi w) :
  ∃ N A cl,OwH base g n N v (fun j=>(l j).length) cs A cl w:=by
 obtain ⟨len,hlen⟩:∃ len:Nat→Nat,len=fun j=>(l j).length:=⟨_,rfl⟩
 have hln:∀ j,len j=(l j).length:=fun j=>by rw [hlen]
 have hA:∀ j,j < n→(ods (cs j)).length=len j:=fun j hj=>by rw [hln];exact ods_len _ _ (h.own j hj).1
 have hC:∀ j,j < n→((l j).map fun x=>x.2.length).length=len j:=fun j hj=>by rw [hln];simp
 obtain ⟨A,eA⟩:∃ A:Nat→Value,A=fun q=>((flt (fun j=>ods (cs j)) n)[q]?).getD undef:=⟨_,rfl⟩
 obtain ⟨cl,eC⟩:∃ cl:Nat→Nat,cl=fun q=>((flt (fun j=>(l j).map fun x=>x.2.length) n)[q]?).getD 0:=⟨_,rfl⟩
 have one:∀ j k,j < n→k < len j→∃ cv,(cs j)[k * 2 + 1]?=some cv∧A (offs len j + k)=cv∧(∃ X,w.ownsRow (lo j) 3 1 cv (cl (offs len j + k)) X)∧cl (offs len j + k)≤100000000:=by
  intro j k hj hk
  have hk':k < (l j).length:=by rw [← hln];exact hk
  obtain ⟨cv,h1,h2⟩:=(h.pr j hj).caps k hk'
  have e1:A (offs len j + k)=cv:=by
   rw [eA]
   show ((flt (fun j=>ods (cs j)) n)[offs len j + k]?).getD undef=cv
   rw [flt_get n hA j k hj hk,ods_get,h1]
   rfl
  have e2:cl (offs len j + k)=(l j)[k].2.length:=by
   rw [eC]
   show ((flt (fun j=>(l j).map fun x=>x.2.length) n)[offs len j + k]?).getD 0=_
   rw [flt_get n hC j k hj hk]
   simp [hk']
  exact ⟨cv,h1,e1,⟨_,by rw [e2];exact h2⟩,by rw [e2];exact h.cfew j hj k hk'⟩
 have blk:∀ j k,j < n→k < len j→∀ b,(A (offs len j + k)).ownBlock=some b→lo j≤b∧b < hi j:=by
  intro j k hj hk b hb
  obtain ⟨cv,h1,h2,_⟩:=one j k hj hk
  rw [h2] at hb
  have hm:=(h.pr j hj).mem k cv b h1 hb
  exact ⟨((h.pr j hj).low b hm).1,h.topF j hj b hm⟩
 have hN:offs len n≤n * 65:=offs_few n (fun j hj=>by rw [hln];exact h.few j hj)
 have hnn:=h.nn
 rw [← hlen]
 refine ⟨offs len n,A,cl,⟨⟨h.hg,h.hb,fun i j hi hj hij b hb e=>?_,fun j hj e=>?_,fun j hj b hb=>⟨?_,?_⟩,fun j=>rfl⟩,rfl,fun j hj=>by rw [hln];exact Joins.ownsRow_le (h.own j hj) (h.lh j hj),h.cel,fun j k hj hk=>?_,fun q hq=>?_,fun p q hp hq hpq b hb e=>?_,fun q j hq hj b hb e=>?_,fun q hq e=>?_,hnn,fun j hj=>by rw [hln];have:=h.few j hj;omega,fun q hq=>?_,by omega⟩⟩
 ·have a1:=(h.own i hi).lt b hb
  have a2:=(h.own j hj).lt b e
  have a3:=h.top i hi b hb
  have a4:=h.top j hj b e
  rcases Nat.lt_or_ge i j with hlt | hge
  ·have:=h.sep i j hlt hj;omega
  ·have:=h.sep j i (by omega) hi;omega
 ·have:=h.top j hj g e
  have:=h.gt j hj
  omega
 ·have:=((h.own j hj).lt b hb).1
  have:=h.lh j hj
  omega
 ·exact ((h.own j hj).lt b hb).2
 ·obtain ⟨cv,h1,h2,_⟩:=one j k hj hk
  rw [h2]
  exact h1
 ·obtain ⟨j,k,hj,hk,rfl⟩:=offs_split len n q hq
  obtain ⟨cv,h1,h2,⟨X,hX⟩,_⟩:=one j k hj hk
  rw [h2]
  exact ⟨X,Joins.ownsRow_le hX (h.lh j hj)⟩
 ·obtain ⟨j,k,hj,hk,rfl⟩:=offs_split len n p hp
  obtain ⟨j',k',hj',hk',rfl⟩:=offs_split len n q hq
  have a1:=blk j k hj hk b hb
  have a2:=blk j' k' hj' hk' b e
  by_cases ej:j=j'
  ·subst ej
   obtain ⟨cv,h1,h2,_⟩:=one j k hj hk
   obtain ⟨cu,h3,h4,_⟩:=one j k' hj hk'
   rw [h2] at hb
   rw [h4] at e
   exact (h.pr j hj).apart (h.nd j hj) k k' cv cu b (fun e=>hpq (by rw [e])) h1 h3 hb e
  ·rcases Nat.lt_or_ge j j' with hlt | hge
   ·have:=h.sep j j' hlt hj';omega
   ·have:=h.sep j' j (by omega) hj;omega
 ·obtain ⟨j',k,hj',hk,rfl⟩:=offs_split len n q hq
  obtain ⟨cv,h1,h2,_⟩:=one j' k hj' hk
  rw [h2] at hb
  obtain ⟨cur,hx⟩:=(h.pr j' hj').typ b ((h.pr j' hj').mem k cv b h1 hb)
  exact own_ne (h.own j hj) hx (by decide) e
 ·obtain ⟨j,k,hj,hk,rfl⟩:=offs_split len n q hq
  have:=(blk j k hj hk g e).2
  have:=h.gt j hj
  omega
 ·obtain ⟨j,k,hj,hk,rfl⟩:=offs_split len n q hq
  obtain ⟨cv,h1,h2,_,h4⟩:=one j k hj hk
  exact h4
end Go.Proofs.YtacaanhnlfpbhaaGreat
