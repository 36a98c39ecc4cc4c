/- HELPERS: texts of ours put together. -/
import Derived.Test.YtacaanhnlfpbhaaGreatK23
import Derived.Test.YtacaanhnlfpbhaaGreatK33
import Derived.Test.YtacaanhnlfpbhaaGreatK32
import Derived.Test.YtacaanhnlfpbhaaGreatK24
import Derived.Test.YtacaanhnlfpbhaaGreatK04
import Derived.Test.YtacaanhnlfpbhaaGreatK17
import Derived.Test.YtacaanhnlfpbhaaGreatK03
import Derived.Laws.EntriesVeiled
namespace Go.Proofs.YtacaanhnlfpbhaaGreat
open Go.RowKit
set_option linter.unusedVariables false
set_option linter.unusedSimpArgs false
def box (top len:Nat):List (Int × Int):=(List.range (top + 1)).flatMap fun (n:Nat) => (List.range (len + 1)).map fun (p:Nat) => ((n:Int),(p:Int))
theorem mem_box {top len:Nat} {n:Int} {p:Nat} (h0:0 ≤ n) (h1:n ≤ (top:Int)) (hp:p ≤ len):(n,(p:Int)) ∈ box top len:=by
 simp only [box,List.mem_flatMap,List.mem_range,List.mem_map]
 exact ⟨n.toNat,by omega,p,by omega,by rw [Int.toNat_of_nonneg h0]⟩
def left (top len:Nat) (s:Sg):Nat:=(box top len).countP fun q => !decide (q ∈ s.done)
def left1 (len:Nat) (s:Sg):Nat:=(List.range (len + 1)).countP fun (p:Nat) => !decide ((1,(p:Int)) ∈ s.done)
theorem countP_lt {α:Type} {l:List α} {p p':α → Bool} (h:∀ x ∈ l,p' x = true → p x = true) {q:α} (hq:q ∈ l) (h1:p q = true) (h2:p' q = false):l.countP p' + 1 ≤ l.countP p:=by
 induction l with
 | nil => cases hq
 | cons x l ih =>
  have hm:l.countP p' ≤ l.countP p:=List.countP_mono_left fun y hy => h y (by simp [hy])
  simp only [List.mem_cons] at hq
  rcases hq with rfl | hq
  ·rw [List.countP_cons_of_pos h1,List.countP_cons_of_neg (by simp [h2])]
   omega
  ·have:=ih (fun y hy => h y (by simp [hy])) hq
   by_cases hx:p' x = true
   ·rw [List.countP_cons_of_pos hx,List.countP_cons_of_pos (h x (by simp) hx)]
    omega
   ·rw [List.countP_cons_of_neg hx,List.countP_cons]
    omega
theorem left_done {top len:Nat} {s:Sg} {n:Int} {p:Nat} (h0:0 ≤ n) (h1:n ≤ (top:Int)) (hp:p ≤ len) (hn:(n,(p:Int)) ∉ s.done):left top len { s with done:=s.done ++ [(n,(p:Int))] } + 1 ≤ left top len s:=by
 refine countP_lt (fun x _ hx => ?_) (mem_box h0 h1 hp) (by simpa using hn) (by simp)
 simp at hx ⊢
 exact hx.1
theorem left1_le {len:Nat} {s:Sg} {q:Int × Int}:left1 len { s with done:=s.done ++ [q] } ≤ left1 len s:=by
 refine List.countP_mono_left fun x _ hx => ?_
 simp at hx ⊢
 exact hx.1
theorem left1_done {len:Nat} {s:Sg} {p:Nat} (hp:p ≤ len) (hn:((1:Int),(p:Int)) ∉ s.done):left1 len { s with done:=s.done ++ [(1,(p:Int))] } + 1 ≤ left1 len s:=by
 refine countP_lt (q:=p) (fun x _ hx => ?_) (by simp;omega) (by simpa using hn) (by simp)
 simp at hx ⊢
 exact hx.1
def Good (tx:List Int) (E:Nat → Way) (top:Nat) (s:Sg) (W:Way) (p:Nat):Prop:=
 ∃ s',Ex tx E W p s s' ∧ s'.parses.length + left1 tx.length s' ≤ s.parses.length + left1 tx.length s ∧ left top tx.length s' ≤ left top tx.length s ∧ s'.notes.length = s.notes.length
section
variable {tx:List Int} {E:Nat → Way} {top:Nat}
mutual
theorem good_way (m:Nat) (IH:∀ s W p,left top tx.length s < m → W.tg top → p ≤ tx.length → Good tx E top s W p) (A:Nat → Prop) (hA:∀ b,A b → ∀ s p,left top tx.length s ≤ m → p ≤ tx.length → Good tx E top s (.again b) p) :
  ∀ (W:Way),W.tg top → (∀ b ∈ W.ua,A b) → ∀ s p,left top tx.length s ≤ m → p ≤ tx.length → Good tx E top s W p
 | .through,hg,_,s,p,hs,hp => by simp [Way.tg] at hg
 | .once n d,hg,_,s,p,hs,hp => by
  simp only [Way.tg] at hg
  by_cases hd:(n,(p:Int)) ∈ s.done
  ·exact ⟨s,.skip hd,Nat.le_refl _,Nat.le_refl _,rfl⟩
  ·have hl:=left_done hg.1.1 hg.1.2 hp hd
   rcases hg.2 with ⟨rfl,rfl⟩ | hg2
   ·have hl1:=left1_done (len:=tx.length) hp hd
    refine ⟨_,.once hd (.through p _),?_,?_,rfl⟩
    ·show (s.parses ++ [((p:Int),s.notes.set 1 (p:Int))]).length + left1 tx.length { s with done:=s.done ++ [(1,(p:Int))] } ≤ _
     simp only [List.length_append,List.length_cons,List.length_nil]
     omega
    ·show left top tx.length { s with done:=s.done ++ [(1,(p:Int))] } ≤ _
     omega
   ·obtain ⟨s',h1,h2,h3,h4⟩:=IH { s with done:=s.done ++ [(n,(p:Int))] } d p (by omega) hg2 hp
    have hl1:=left1_le (len:=tx.length) (s:=s) (q:=(n,(p:Int)))
    exact ⟨s',.once hd h1,by have h2:s'.parses.length + left1 tx.length s' ≤ s.parses.length + left1 tx.length { s with done:=s.done ++ [(n,(p:Int))] }:=h2;omega,by omega,h4⟩
 | .noted c d,hg,hu,s,p,hs,hp => by
  simp only [Way.tg] at hg
  obtain ⟨s',h1,h2,h3,h4⟩:=good_way m IH A hA d hg (fun b hb => hu b (by simpa [Way.ua] using hb)) { s with notes:=s.notes.set c (p:Int) } p hs hp
  exact ⟨_,.noted h1,h2,h3,by simpa using h4⟩
 | .runeOf R d,hg,hu,s,p,hs,hp => by
  simp only [Way.tg] at hg
  by_cases h:tx.length ≤ p
  ·exact ⟨s,.over h,Nat.le_refl _,Nat.le_refl _,rfl⟩
  ·by_cases hr:(rightB R && hasB R (tx.getD p 0)) = true
   ·obtain ⟨s',h1,h2,h3,h4⟩:=good_way m IH A hA d hg (fun b hb => hu b (by simpa [Way.ua] using hb)) s (p + 1) hs (by omega)
    exact ⟨s',.rune (by omega) hr h1,h2,h3,h4⟩
   ·exact ⟨s,.other (by omega) (by simpa using hr),Nat.le_refl _,Nat.le_refl _,rfl⟩
 | .ifHolds a d,hg,hu,s,p,hs,hp => by
  simp only [Way.tg] at hg
  by_cases h:heldB tx a p = true
  ·obtain ⟨s',h1,h2,h3,h4⟩:=good_way m IH A hA d hg (fun b hb => hu b (by simpa [Way.ua] using hb)) s p hs hp
   exact ⟨s',.holds h h1,h2,h3,h4⟩
  ·exact ⟨s,.fails (by simpa using h),Nat.le_refl _,Nat.le_refl _,rfl⟩
 | .inOrder l,hg,hu,s,p,hs,hp => by
  simp only [Way.tg] at hg
  obtain ⟨ss,h0,h1,h2⟩:=good_ways m IH A hA l hg (fun b hb => hu b (by simpa [Way.ua] using hb)) s p hs hp
  subst h0
  exact ⟨_,.inOrder ss h1,h2⟩
 | .again b,hg,hu,s,p,hs,hp => hA b (hu b (by simp [Way.ua])) s p hs hp
theorem good_ways (m:Nat) (IH:∀ s W p,left top tx.length s < m → W.tg top → p ≤ tx.length → Good tx E top s W p) (A:Nat → Prop) (hA:∀ b,A b → ∀ s p,left top tx.length s ≤ m → p ≤ tx.length → Good tx E top s (.again b) p) :
  ∀ (l:List Way),tgL top l → (∀ b ∈ uaL l,A b) → ∀ s p,left top tx.length s ≤ m → p ≤ tx.length → ∃ ss:Nat → Sg,ss 0 = s ∧ (∀ i (hi:i < l.length),Ex tx E (l[i]'hi) p (ss i) (ss (i + 1))) ∧
   (ss l.length).parses.length + left1 tx.length (ss l.length) ≤ s.parses.length + left1 tx.length s ∧ left top tx.length (ss l.length) ≤ left top tx.length s ∧ (ss l.length).notes.length = s.notes.length
 | [],hg,hu,s,p,hs,hp => ⟨fun _ => s,rfl,fun i hi => by simp at hi,Nat.le_refl _,Nat.le_refl _,rfl⟩
 | d :: l,hg,hu,s,p,hs,hp => by
  simp only [tgL] at hg
  obtain ⟨s1,h1,h2,h3,h4⟩:=good_way m IH A hA d hg.1 (fun b hb => hu b (by simp [uaL,hb])) s p hs hp
  obtain ⟨ss,e0,e1,e2,e3,e4⟩:=good_ways m IH A hA l hg.2 (fun b hb => hu b (by simp [uaL,hb])) s1 p (by omega) hp
  refine ⟨fun i => match i with | 0 => s | i + 1 => ss i,rfl,fun i hi => ?_,by simp only [List.length_cons];omega,by simp only [List.length_cons];omega,by simp only [List.length_cons];rw [e4,h4]⟩
  cases i with
  | zero => simpa [e0] using h1
  | succ i => simpa using e1 i (by simpa using hi)
end
theorem good_all (hE:∀ b,(E b).tg top ∧ (E b).ua = []):∀ (m:Nat) (s:Sg) (W:Way) (p:Nat),left top tx.length s ≤ m → W.tg top → p ≤ tx.length → Good tx E top s W p:=by
 intro m
 induction m using Nat.strongRecOn with
 | _ m ihm =>
 have IH:∀ s W p,left top tx.length s < m → W.tg top → p ≤ tx.length → Good tx E top s W p:=fun s W p h1 h2 h3 => ihm (left top tx.length s) h1 s W p (Nat.le_refl _) h2 h3
 have hA:∀ b,True → ∀ s p,left top tx.length s ≤ m → p ≤ tx.length → Good tx E top s (.again b) p:=fun b _ s p hs hp => by
  obtain ⟨s',h1,h2⟩:=good_way m IH (fun _ => False) (fun b hb => hb.elim) (E b) (hE b).1 (fun x hx => by rw [(hE b).2] at hx;cases hx) s p hs hp
  exact ⟨s',.again h1,h2⟩
 intro s W p hs hW hp
 exact good_way m IH (fun _ => True) hA W hW (fun _ _ => trivial) s p hs hp
end
structure PS (t:Tn) (K:Nat) (tx:List Int) (p:Nat) (l:List (Int × List Int)):Prop where
 ex:∃ (E:Nat → Way) (W:Way) (n1:Int) (s':Sg),Beg E t 1 (.once 1 .through) n1 W ∧ (∀ b,Gw (E b) ∧ (E b).ua = []) ∧ Gw W ∧ Ex tx E W p ⟨[],(List.replicate K (-1)).set 0 (p:Int),[]⟩ s' ∧ l = s'.parses
def envOf (LE:List (Nat × Way)) (b:Nat):Way:=((LE.find? fun p => p.1 == b).map Prod.snd).getD (.inOrder [])
theorem envOf_mem:∀ (LE:List (Nat × Way)),(LE.map Prod.fst).Nodup → ∀ p ∈ LE,envOf LE p.1 = p.2:=by
 intro LE
 induction LE with
 | nil => intro _ p hp;cases hp
 | cons q LE ih =>
  intro hn p hp
  simp only [List.map_cons,List.nodup_cons] at hn
  simp only [List.mem_cons] at hp
  rcases hp with rfl | hp
  ·simp [envOf]
  ·have hne:q.1 ≠ p.1:=fun e => hn.1 (by rw [e];exact List.mem_map_of_mem hp)
   have:=ih hn.2 p hp
   simp only [envOf,List.find?_cons] at this ⊢
   rw [show (q.1 == p.1) = false by simpa using hne]
   exact this
theorem envOf_good (LE:List (Nat × Way)) (h:∀ p ∈ LE,Gw p.2 ∧ p.2.ua = []) (b:Nat):Gw (envOf LE b) ∧ (envOf LE b).ua = []:=by
 unfold envOf
 cases hf:LE.find? fun p => p.1 == b with
 | none => exact ⟨.inOrder .nil,by simp [Way.ua,uaL]⟩
 | some p => exact h p (List.mem_of_find?_eq_some hf)
theorem walks_from (t:Tn) (K g p:Nat) (tx:List Int) (ad:Option Addr) (tn tcap lo:Nat) (n1:Int) (W:Way) (u:Value) (F FE B:List Nat) (C:Cx) (LE:List (Nat × Way)) (w w':World) (htx:Look.TextAt w.heap.size w ad tn tx) (htc:tn ≤ tcap) (htn:tn ≤ 64) (hb:Below w.heap.size w w') (hg:g = w.heap.size + 1 + 1)
  (hW:WS w.heap.size w' g C ⟨[],List.replicate K (-1),[]⟩ B) (htv:C.tv = .slice ad tn tcap) (hh:∃ hb,TX w' C.hv (hols tx) [hb] ∧ w.heap.size ≤ hb ∧ hb ∉ B ∧ hb < w'.heap.size) (hwh:C.wh = u) (hCK:C.K = K) (hR:Rep g K AL w' u W F) (hgw:Gw W)
  (hB:BgR g K lo [] (fun E => Beg E t 1 (.once 1 .through) n1 W) W.ags LE FE w') (aF:∀ k ∈ F,k ∉ B) (aE:∀ k ∈ FE,k ∉ B) (aB:∀ k ∈ B,w.heap.size ≤ k) (hp:p ≤ tn) :
  ∃ l,PS t K tx p l ∧ l.length ≤ 65 ∧ Calls Tryz.prog 45 #[pt g,.int .i64 (p:Int)] w' fun e w'' => ∃ pv,e = .returned pv ∧ Parsed w.heap.size w'' pv l ∧ Below w.heap.size w w'':=by
 obtain ⟨hb1,hT2,h3,h4,h5⟩:=hh
 have hlen:=htx.1
 have hE:=envOf_good LE hB.wf
 have hrel:=hB.rel (envOf LE) (envOf_mem LE hB.nd)
 obtain ⟨s',hx,hpar,hl2,hno⟩:=good_all (tx:=tx) (E:=envOf LE) (top:=1000000000) (fun b => ⟨(hE b).1.tg,(hE b).2⟩) _ ⟨[],(List.replicate K (-1)).set 0 (p:Int),[]⟩ W p (Nat.le_refl _) hgw.tg (by omega)
 have hcount:s'.parses.length ≤ 65:=by
  have h1:left1 tx.length ⟨[],(List.replicate K (-1)).set 0 (p:Int),[]⟩ ≤ tx.length + 1:=by
   unfold left1
   exact Nat.le_trans List.countP_le_length (by simp)
  simp only [List.length_nil] at hpar
  omega
 have hL:∀ b ∈ W.ags,b ∈ LE.map Prod.fst:=fun b hb => by
  rcases hB.agw b hb with h | h
  ·cases h
  ·exact h
 have hLL:∀ q ∈ LE,∀ b ∈ q.2.ags,b ∈ LE.map Prod.fst:=fun q hq b hb => by
  rcases hB.agl q hq b hb with h | h
  ·cases h
  ·exact h
 refine ⟨s'.parses,⟨envOf LE,W,n1,s',hrel,hE,hgw,hx,rfl⟩,hcount,?_⟩
 obtain ⟨tb,hT1,htb⟩:∃ tb:List Nat,TX w' C.tv tx tb ∧ ∀ k ∈ tb,k < w.heap.size:=by
  obtain ⟨e1,e2,h | ⟨b,off,ha,hbN,hc⟩⟩:=htx.below hb
  ·exact ⟨[],⟨ad,tcap,by rw [htv,e1],by omega,.inl (by omega)⟩,fun k hk => by cases hk⟩
  ·exact ⟨[b],⟨ad,tcap,by rw [htv,e1],by omega,.inr ⟨b,off,ha,by simp,by have:=hb.size;omega,fun k hk => hc k (by omega)⟩⟩,fun k hk => by simp at hk;omega⟩
 have hwide:∀ {v:Value} {l:List Int} {G G':List Nat},TX w' v l G → (∀ k ∈ G,k ∈ G') → TX w' v l G':=fun h hG => by
  obtain ⟨a,c,e1,e2,h | ⟨b,off,ha,hbN,hc⟩⟩:=h
  ·exact ⟨a,c,e1,e2,.inl h⟩
  ·exact ⟨a,c,e1,e2,.inr ⟨b,off,ha,hG b hbN,hc⟩⟩
 have hs:=hb.size
 refine (from32g w.heap.size g p C (fun b => b ∈ LE.map Prod.fst) (envOf LE) W tx ⟨[],List.replicate K (-1),[]⟩ s' u F FE (tb ++ [hb1]) B w' hs hW hwh (by rw [hCK];exact hR.only hL) (fun b hbm => ?_) true (fun k => (hE k).1.few) hgw.few
  ⟨hwide hT1 (fun k hk => by simp [hk]),fun _ => hwide hT2 (fun k hk => by simp at hk;simp [hk])⟩ (by omega) aF aE (fun k hk => ?_) hB.low (fun k hk => ?_) (by omega) (by omega) hx).mono ?_
 ·simp only [List.mem_map] at hbm
  obtain ⟨q,hq,rfl⟩:=hbm
  obtain ⟨a1,v,F',a2,a3,a4⟩:=hB.env q hq
  rw [envOf_mem LE hB.nd q hq,hCK]
  exact ⟨a1,v,F',a2,a3.only (hLL q hq),a4⟩
 ·rcases List.mem_append.1 hk with h | h
  ·intro hm
   have:=aB k hm
   have:=htb k h
   omega
  ·simp at h
   rw [h]
   exact h4
 ·rcases List.mem_append.1 hk with h | h
  ·have:=htb k h;omega
  ·simp at h;omega
 ·rintro e w'' ⟨pv,rfl,hP,B',hC⟩
  exact ⟨pv,rfl,hP,hb.trans (hC.below hs aB)⟩
section
variable {E:Nat → Way}
def upd (Bd:Int → Way) (n:Int) (W:Way):Int → Way:=fun m => if m = n then W else Bd m
end
def errP (t:Tn) (tn:Nat) (at_:Int):Int:=if 64 < tn then 2 else if t.sound = false then 50 else if 2000 < t.sz then 3 else if at_ < 0 ∨ (tn:Int) < at_ then 1 else 0
theorem fine_gi:∀ (t:Tn),t.fine = true → 0 ≤ t.gi ∧ t.gi ≤ 500:=by
 have key:∀ (ts:List Tn) (m:Int),(∀ t ∈ ts,t.gi ≤ 500) → m ≤ 500 → giL ts m ≤ 500:=by
  intro ts
  induction ts with
  | nil => intro m _ h;simpa [giL] using h
  | cons t ts ih => intro m h1 h2;simp only [giL];exact ih _ (fun u hu => h1 u (by simp [hu])) (by have:=h1 t (by simp);omega)
 have hix:∀ {k:Int} {R:List (Int × Int)} {a:Int} {n:Nat} {mn mx:Int} {lz:Bool} {ix:Int} {nm:ByteArray},nodeB k R a n mn mx lz ix nm = true → 0 ≤ ix ∧ ix ≤ 500:=fun h => by
  have FN:=fine_nodeZ h
  rename_i k _ _ _ _ _ _ _ _
  by_cases h7:k = 7
  ·have:=FN.grp h7;omega
  ·have:=FN.idx h7;omega
 intro t
 obtain ⟨d,hd⟩:∃ d,t.depth ≤ d:=⟨_,Nat.le_refl _⟩
 induction d generalizing t with
 | zero => cases t;simp [Tn.depth] at hd
 | succ d ih =>
  cases t with
  | mk k R a s mn mx lz ix nm =>
   intro hf
   simp only [Tn.fine,Bool.and_eq_true] at hf
   simp only [Tn.depth] at hd
   have hi:=hix hf.1
   have hs:∀ u ∈ s,u.gi ≤ 500:=by
    intro u hu
    have hdu:u.depth ≤ d:=by
     have:∀ (l:List Tn),u ∈ l → u.depth ≤ depthL l:=by
      intro l
      induction l with
      | nil => intro h;cases h
      | cons v l ihl =>
       intro h
       simp only [List.mem_cons] at h
       simp only [depthL]
       rcases h with rfl | h
       ·omega
       ·have:=ihl h;omega
     have:=this s hu
     omega
    obtain ⟨i,hi2,rfl⟩:=List.mem_iff_getElem.1 hu
    exact (ih _ hdu (fineL_get hf.2 i hi2)).2
   simp only [Tn.gi]
   exact ⟨by have:=(giL_ge s ix).1;omega,key s ix hs hi.2⟩
theorem sound_parts {t:Tn} (h:t.sound = true):t.fine = true ∧ t.depth ≤ 10000 ∧ t.nodes ≤ 200000:=by
 simp only [Tn.sound,Bool.and_eq_true,decide_eq_true_eq] at h
 exact ⟨h.1.1,h.1.2,h.2⟩
abbrev Tn.notes (t:Tn):Nat:=(2 * t.gi + 2).toNat
theorem walks31 (N:Nv) (t:Tn) (tx:List Int) (ad:Option Addr) (tn tcap p:Nat) (w:World) (hTI:TI w w.heap.size N t) (hs:t.sound = true) (hz:t.sz ≤ 2000) (htx:Look.TextAt w.heap.size w ad tn tx) (htc:tn ≤ tcap) (htn:tn ≤ 64) (hp:p ≤ tn) :
  Calls Tryz.prog 44 #[N.v,.slice ad tn tcap] w fun e w' => ∃ g l,e = .returned (pt g) ∧ PS t t.notes tx p l ∧ l.length ≤ 65 ∧ Calls Tryz.prog 45 #[pt g,.int .i64 (p:Int)] w' fun e2 w'' => ∃ pv,e2 = .returned pv ∧ Parsed w.heap.size w'' pv l ∧ Below w.heap.size w w'':=by
 obtain ⟨hf,_,hno⟩:=sound_parts hs
 have hgi:=fine_gi t hf
 have hBG:=fun A => begin53 hTI (w.heap.size + 1 + 1) t.notes A (by omega) hf hno (by simp only [Tn.notes];omega)
 refine (newWalks31g N.nd N.k tx ad tn tcap t.notes t.gi w htx htn (by simp only [Tn.notes];omega) hgi (fun w' hb => greatestg52 hTI w' hb.size (fun b hb2 => hb.block b hb2))
  (fun n W F FE w' => Gw W ∧ ∃ lo LE,BgR (w.heap.size + 1 + 1) t.notes lo [] (fun E => Beg E t 1 (.once 1 .through) n W) W.ags LE FE w') (fun n W F FE w' w'' h h1 h2 => by obtain ⟨hg,lo,LE,hB⟩:=h;exact ⟨hg,lo,LE,hB.stab h1 h2⟩)
  (fun A w' v F0 hb hO hR hg hF => ?_)).mono ?_
 ·refine (hBG A w' v 1 (.once 1 .through) F0 hb.size (fun b hb2 => hb.block b hb2) hO hR hg ⟨by simp [Way.tg],by simp [Way.few]⟩ (by omega) ?_).mono ?_
  ·have:t.sz * t.sz ≤ 2000 * 2000:=Nat.mul_le_mul hz hz
   omega
  ·rintro e w'' ⟨u,F,FE,n1,W,rfl,hM,⟨LE,hB⟩,hE,h1,h2,h3,h4⟩
   exact ⟨u,F,FE,n1,W,rfl,hM,⟨h3,_,LE,hB⟩,hE⟩
 ·rintro e w' ⟨g,u,F,FE,B,C,n1,W,rfl,rfl,hW,htv,hh,hwh,hCK,hR,⟨hgw,lo,LE,hB⟩,aF,aE,aB,hb⟩
  obtain ⟨l,h1,h2,h3⟩:=walks_from t t.notes (w.heap.size + 1 + 1) p tx ad tn tcap lo n1 W u F FE B C LE w w' htx htc htn hb rfl hW htv hh hwh hCK hR hgw hB aF aE aB hp
  exact ⟨_,l,rfl,h1,h2,h3⟩
theorem PR.le {N N':Nat} {w:World} {cs:List Value} {l:List (Int × List Int)} {F:List Nat} (h:PR N w cs l F) (hN:N' ≤ N):PR N' w cs l F:=by
 induction h with
 | nil => exact .nil
 | cons h hl ih => exact .cons (Joins.ownsRow_le h hN) ih
def Answers (t:Tn) (tx:List Int) (tn:Nat) (at_:Int) (w:World) (e:Ending) (w':World):Prop:=
 ∃ pv l,e = .returned (.tuple #[pv,.int .i64 (errP t tn at_)]) ∧ Parsed w.heap.size w' pv l ∧ (errP t tn at_ = 0 → PS t t.notes tx at_.toNat l ∧ l.length ≤ 65) ∧ (errP t tn at_ ≠ 0 → pv = .slice none 0 0 ∧ l = []) ∧ Below w.heap.size w w'
theorem answers_none {t:Tn} {tx:List Int} {tn:Nat} {at_ x:Int} {w w':World} (hx:errP t tn at_ = x) (h0:x ≠ 0) (hb:Below w.heap.size w w'):Answers t tx tn at_ w (.returned (.tuple #[.slice none 0 0,.int .i64 x])) w':=by
 subst hx
 exact ⟨.slice none 0 0,[],rfl,⟨[],[],World.ownsRow_nil _ _ _ _,.nil⟩,fun h => absurd h h0,fun _ => ⟨rfl,rfl⟩,hb⟩
set_option maxRecDepth 100000 in
set_option maxHeartbeats 4000000 in
theorem parses13g (N:Nv) (t:Tn) (tx:List Int) (ad:Option Addr) (tn tcap:Nat) (at_:Int) (w:World) (hTI:TI w w.heap.size N t) (htx:Look.TextAt w.heap.size w ad tn tx) (htc:tn ≤ tcap) :
  Calls Tryz.prog 13 #[N.v,.slice ad tn tcap,.int .i64 at_] w fun e w' => Answers t tx tn at_ w e w':=by
 have htm:tn ≤ 35184372088832:=htx.2.1
 have hb0:Below w.heap.size w (w.alloc (.cells #[.int .i64 N.k,.slice N.r1 N.r2 N.r3,.int .i64 N.a2,.slice N.s1 N.s2 N.s3,.int .i64 N.a4,.int .i64 N.a5,.bool N.a6,.int .i64 N.a7,.string N.a8] 25)):=Joins.below_alloc1 w _
 have HB0:=hid hb0
 by_cases c1:64 < tn
 ·have e1:errP t tn at_ = 2:=by simp [errP,c1]
  have HA:∀ w',Below w.heap.size w w' → Answers t tx tn at_ w (.returned (.tuple #[.slice none 0 0,.int .i64 2])) w':=fun w' h => answers_none e1 (by decide) h
  have HHA:=hid HA
  have b1:decide ((tn:Int) > 64) = true:=by simp;omega
  have b1':decide (64 < (tn:Int)) = true:=by simp;omega
  obtain ⟨k,r1,r2,r3,a2,s1,s2,s3,a4,a5,a6,a7,a8⟩:=N
  obtain ⟨Q,hQ⟩:∃ Q,Q = Answers t tx tn at_ w:=⟨_,rfl⟩
  rw [← hQ] at HHA ⊢
  clear HA hTI htx e1 hQ hb0
  go_enter Tryz.func13,Tryz.ntmps13
  go_wp2
  try go_ret2
  exact HHA.out _ HB0.out
 have b1:decide ((tn:Int) > 64) = false:=by simp;omega
 have b1':decide (64 < (tn:Int)) = false:=by simp;omega
 have hT1:∀ w1,Below w.heap.size w w1 → TI w1 w1.heap.size N t:=fun w1 h => (hTI.kept fun b hb => h.block b hb).le h.size
 have H29:=sound29g (hT1 _ hb0)
 cases hs:t.sound with
 | false =>
  have e1:errP t tn at_ = 50:=by simp [errP,c1,hs]
  have HA:∀ w',Below w.heap.size w w' → Answers t tx tn at_ w (.returned (.tuple #[.slice none 0 0,.int .i64 50])) w':=fun w' h => answers_none e1 (by decide) h
  have HHA:=hid HA
  rw [hs] at H29
  obtain ⟨k,r1,r2,r3,a2,s1,s2,s3,a4,a5,a6,a7,a8⟩:=N
  obtain ⟨Q,hQ⟩:∃ Q,Q = Answers t tx tn at_ w:=⟨_,rfl⟩
  rw [← hQ] at HHA ⊢
  dsimp only at H29
  simp only [Bool.false_eq_true,if_false] at H29
  clear HA hTI htx e1 hQ hb0 hT1 hs
  go_enter Tryz.func13,Tryz.ntmps13
  go_wp2_with (first | (go_at_call 42;(with_reducible refine H29.mono ?_);rintro e w1 ⟨rfl,hb1⟩;have HB1:=hid hb1;clear hb1 H29))
  try go_ret2
  exact HHA.out _ (HB0.out.trans (Joins.below_le HB1.out (by simp)))
 | true =>
  obtain ⟨hf,_,hno⟩:=sound_parts hs
  have hT2:∀ w1,Below w.heap.size w w1 → Calls Tryz.prog 43 #[N.v] w1 fun e w' => e = .returned (.int .i64 (min 2001 t.sz:Nat)) ∧ Below w1.heap.size w1 w':=fun w1 h => size30g hTI hf hno w1 h.size (fun b hb => h.block b hb)
  have hnode:∀ w1,Below (w.alloc (.cells #[.int .i64 N.k,.slice N.r1 N.r2 N.r3,.int .i64 N.a2,.slice N.s1 N.s2 N.s3,.int .i64 N.a4,.int .i64 N.a5,.bool N.a6,.int .i64 N.a7,.string N.a8] 25)).heap.size (w.alloc (.cells #[.int .i64 N.k,.slice N.r1 N.r2 N.r3,.int .i64 N.a2,.slice N.s1 N.s2 N.s3,.int .i64 N.a4,.int .i64 N.a5,.bool N.a6,.int .i64 N.a7,.string N.a8] 25)) w1 → w1.heap[w.heap.size]? = some (.cells #[.int .i64 N.k,.slice N.r1 N.r2 N.r3,.int .i64 N.a2,.slice N.s1 N.s2 N.s3,.int .i64 N.a4,.int .i64 N.a5,.bool N.a6,.int .i64 N.a7,.string N.a8] 25 (0,0)):=fun w1 h => (h.block w.heap.size (by simp)).trans (heap_alloc_new w _)
  rw [hs] at H29
  simp only [if_true] at H29
  have HN:=hid hnode
  have HT2:=hid hT2
  by_cases c3:2000 < t.sz
  ·have e1:errP t tn at_ = 3:=by simp [errP,c1,hs,c3]
   have HA:∀ w',Below w.heap.size w w' → Answers t tx tn at_ w (.returned (.tuple #[.slice none 0 0,.int .i64 3])) w':=fun w' h => answers_none e1 (by decide) h
   have HHA:=hid HA
   have b3:decide (((min 2001 t.sz:Nat):Int) > 2000) = true:=by simp;omega
   have b3':decide (2000 < ((min 2001 t.sz:Nat):Int)) = true:=by simp;omega
   obtain ⟨r,hr⟩:∃ r,r = min 2001 t.sz:=⟨_,rfl⟩
   rw [← hr] at HT2 b3 b3'
   obtain ⟨k,r1,r2,r3,a2,s1,s2,s3,a4,a5,a6,a7,a8⟩:=N
   obtain ⟨Q,hQ⟩:∃ Q,Q = Answers t tx tn at_ w:=⟨_,rfl⟩
   rw [← hQ] at HHA ⊢
   dsimp only at H29 HN
   clear HA hTI htx e1 hQ hb0 hT1 hT2 hnode hs hf hno hr
   go_enter Tryz.func13,Tryz.ntmps13
   go_wp2_with (first | (go_at_call 42;(with_reducible refine H29.mono ?_);rintro e w1 ⟨rfl,hb1⟩;obtain ⟨o0,o1,o2,o3,o4,o5,o6,o7,o8⟩:=nine' (HN.out w1 hb1);have HC1:=HT2.out w1 (HB0.out.trans (Joins.below_le hb1 (by simp)));have HB1:=hid hb1;clear hb1 H29) | (go_at_call 43;(with_reducible refine HC1.mono ?_);rintro e w2 ⟨rfl,hb2⟩;have HB2:=hid hb2;clear hb2 HC1))
   try go_ret2
   exact HHA.out _ (HB0.out.trans (Joins.below_le (HB1.out.trans (Joins.below_le HB2.out HB1.out.size)) (by simp)))
  ·have b3:decide (((min 2001 t.sz:Nat):Int) > 2000) = false:=by simp;omega
   have b3':decide (2000 < ((min 2001 t.sz:Nat):Int)) = false:=by simp;omega
   obtain ⟨r,hr⟩:∃ r,r = min 2001 t.sz:=⟨_,rfl⟩
   rw [← hr] at HT2 b3 b3'
   by_cases c4:at_ < 0 ∨ (tn:Int) < at_
   ·have e1:errP t tn at_ = 1:=by simp [errP,c1,hs,c3,c4]
    have HA:∀ w',Below w.heap.size w w' → Answers t tx tn at_ w (.returned (.tuple #[.slice none 0 0,.int .i64 1])) w':=fun w' h => answers_none e1 (by decide) h
    have HHA:=hid HA
    obtain ⟨k,r1,r2,r3,a2,s1,s2,s3,a4,a5,a6,a7,a8⟩:=N
    obtain ⟨Q,hQ⟩:∃ Q,Q = Answers t tx tn at_ w:=⟨_,rfl⟩
    rw [← hQ] at HHA ⊢
    dsimp only at H29 HN
    clear HA hTI htx e1 hQ hb0 hT1 hT2 hnode hs hf hno hr
    by_cases c5:at_ < 0
    ·have b5:decide (at_ < 0) = true:=by simp;omega
     go_enter Tryz.func13,Tryz.ntmps13
     go_wp2_with (first | (go_at_call 42;(with_reducible refine H29.mono ?_);rintro e w1 ⟨rfl,hb1⟩;obtain ⟨o0,o1,o2,o3,o4,o5,o6,o7,o8⟩:=nine' (HN.out w1 hb1);have HC1:=HT2.out w1 (HB0.out.trans (Joins.below_le hb1 (by simp)));have HB1:=hid hb1;clear hb1 H29) | (go_at_call 43;(with_reducible refine HC1.mono ?_);rintro e w2 ⟨rfl,hb2⟩;have HB2:=hid hb2;clear hb2 HC1))
     try go_ret2
     exact HHA.out _ (HB0.out.trans (Joins.below_le (HB1.out.trans (Joins.below_le HB2.out HB1.out.size)) (by simp)))
    ·have b5:decide (at_ < 0) = false:=by simp;omega
     have b6:decide (at_ > (tn:Int)) = true:=by simp;omega
     have b6':decide ((tn:Int) < at_) = true:=by simp;omega
     go_enter Tryz.func13,Tryz.ntmps13
     go_wp2_with (first | (go_at_call 42;(with_reducible refine H29.mono ?_);rintro e w1 ⟨rfl,hb1⟩;obtain ⟨o0,o1,o2,o3,o4,o5,o6,o7,o8⟩:=nine' (HN.out w1 hb1);have HC1:=HT2.out w1 (HB0.out.trans (Joins.below_le hb1 (by simp)));have HB1:=hid hb1;clear hb1 H29) | (go_at_call 43;(with_reducible refine HC1.mono ?_);rintro e w2 ⟨rfl,hb2⟩;have HB2:=hid hb2;clear hb2 HC1))
     try go_ret2
     exact HHA.out _ (HB0.out.trans (Joins.below_le (HB1.out.trans (Joins.below_le HB2.out HB1.out.size)) (by simp)))
   ·have e1:errP t tn at_ = 0:=by simp [errP,c1,hs,c3,c4]
    obtain ⟨p,hp⟩:∃ p:Nat,at_ = (p:Int):=⟨at_.toNat,by omega⟩
    have b5:decide (at_ < 0) = false:=by simp;omega
    have b6:decide (at_ > (tn:Int)) = false:=by simp;omega
    have b6':decide ((tn:Int) < at_) = false:=by simp;omega
    have hT3:∀ w1,Below w.heap.size w w1 → Calls Tryz.prog 44 #[N.v,.slice ad tn tcap] w1 fun e w' => ∃ g l,e = .returned (pt g) ∧ PS t t.notes tx p l ∧ l.length ≤ 65 ∧ Calls Tryz.prog 45 #[pt g,.int .i64 at_] w' fun e2 w'' => ∃ pv,e2 = .returned pv ∧ Parsed w1.heap.size w'' pv l ∧ Below w1.heap.size w1 w'':=fun w1 h => by
     rw [hp]
     exact walks31 N t tx ad tn tcap p w1 (hT1 w1 h) hs (by omega) (text_below htx h h.size) htc (by omega) (by omega)
    have HT3:=hid hT3
    have HA:∀ (w1 w':World) (pv:Value) (l:List (Int × List Int)),Below w.heap.size w w1 → PS t t.notes tx p l → l.length ≤ 65 → Parsed w1.heap.size w' pv l → Below w1.heap.size w1 w' → Answers t tx tn at_ w (.returned (.tuple #[pv,.int .i64 0])) w':=fun w1 w' pv l h1 h2 h3 h4 h5 => by
     refine ⟨pv,l,by rw [e1],?_,fun _ => ⟨by rw [hp];exact h2,h3⟩,fun h => absurd e1 h,h1.trans (Joins.below_le h5 h1.size)⟩
     obtain ⟨cs,F,q1,q2⟩:=h4
     refine ⟨cs,F,Joins.ownsRow_le q1 h1.size,?_⟩
     exact q2.le h1.size
    have HHA:=hid HA
    obtain ⟨k,r1,r2,r3,a2,s1,s2,s3,a4,a5,a6,a7,a8⟩:=N
    obtain ⟨Q,hQ⟩:∃ Q,Q = Answers t tx tn at_ w:=⟨_,rfl⟩
    rw [← hQ] at HHA ⊢
    dsimp only at H29 HN
    clear HA hTI htx e1 hQ hb0 hT1 hT2 hT3 hnode hs hf hno hr hp
    go_enter Tryz.func13,Tryz.ntmps13
    go_wp2_with (first | (go_at_call 42;(with_reducible refine H29.mono ?_);rintro e w1 ⟨rfl,hb1⟩;obtain ⟨o0,o1,o2,o3,o4,o5,o6,o7,o8⟩:=nine' (HN.out w1 hb1);have HC1:=HT2.out w1 (HB0.out.trans (Joins.below_le hb1 (by simp)));have HB1:=hid hb1;clear hb1 H29) | (go_at_call 43;(with_reducible refine HC1.mono ?_);rintro e w2 ⟨rfl,hb2⟩;obtain ⟨p0,p1,p2,p3,p4,p5,p6,p7,p8⟩:=nine' (HN.out w2 (HB1.out.trans (Joins.below_le hb2 HB1.out.size)));have HC2:=HT3.out w2 (HB0.out.trans (Joins.below_le (HB1.out.trans (Joins.below_le hb2 HB1.out.size)) (by simp)));have HB2:=hid hb2;clear hb2 HC1 o0 o1 o2 o3 o4 o5 o6 o7 o8) | (go_at_call 44;(with_reducible refine HC2.mono ?_);rintro e w3 ⟨g,l,rfl,hps,hln,hC3⟩;have HPS:=hid hps;have HLN:=hid hln;clear HC2 hps hln) | (go_at_call 45;(with_reducible refine hC3.mono ?_);rintro e w4 ⟨pv,rfl,hP,hB⟩;obtain ⟨cs,FF,hrow,hPR⟩:=hP;obtain ⟨q1,q2,q3,rfl⟩:=row_slice hrow;have HP4:Hid (Parsed w2.heap.size w4 (.slice q1 q2 q3) l):=⟨cs,FF,hrow,hPR⟩;have HB4:=hid hB;clear hB hC3 hrow hPR))
    try go_ret2
    exact HHA.out w2 w4 _ l (HB0.out.trans (Joins.below_le (HB1.out.trans (Joins.below_le HB2.out HB1.out.size)) (by simp))) HPS.out HLN.out HP4.out HB4.out
theorem Ex.notes {tx:List Int} {E:Nat → Way} {W:Way} {p:Nat} {s s':Sg} (h:Ex tx E W p s s'):s'.notes = s.notes:=by
 induction h with
 | through p s => rfl
 | skip h => rfl
 | once h hd ih => exact ih
 | @noted c d p s s' hd ih =>
  show s'.notes.set c (s.notes.getD c 0) = s.notes
  rw [ih]
  show (s.notes.set c (p:Int)).set c (s.notes.getD c 0) = s.notes
  rw [List.set_set]
  by_cases hc:c < s.notes.length
  ·rw [show s.notes.getD c 0 = s.notes[c] by simp [List.getD_eq_getElem?_getD,hc],List.set_getElem_self]
  ·exact List.set_eq_of_length_le (by omega)
 | over h => rfl
 | other h hr => rfl
 | rune h hr hd ih => exact ih
 | fails h => rfl
 | holds h hd ih => exact ih
 | @inOrder l p ss h ih =>
  have key:∀ i,i ≤ l.length → (ss i).notes = (ss 0).notes:=by
   intro i
   induction i with
   | zero => intro _;rfl
   | succ i ihi => intro hi;rw [ih i (by omega),ihi (by omega)]
  exact key _ (Nat.le_refl _)
 | again h ih => exact ih
theorem getD_set_ne {l:List Int} {i j:Nat} {x:Int} (h:i ≠ j):(l.set i x).getD j 0 = l.getD j 0:=by
 simp only [List.getD_eq_getElem?_getD,List.getElem?_set_ne h]
section
variable {E:Nat → Way}
end
end Go.Proofs.YtacaanhnlfpbhaaGreat
