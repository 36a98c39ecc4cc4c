/- HELPERS: texts of ours put together. -/
import Derived.Test.YtacaanhnlfpbhaaGreatK14
import Derived.Test.YtacaanhnlfpbhaaGreatK04
import Derived.LoopN
import Derived.Deep.OwnRows
import Derived.Laws.IdiomCopy
import Derived.Laws.BitsLemmas
import Derived.Test.YtacaanhnlfpbhaaGreatK03
import Derived.WalkKit
import Derived.Test.YtacaanhnlfpbhaaGreatK05
import Derived.Test.YtacaanhnlfpbhaaGreatK02
import Derived.Laws.EntriesVeiled
import Derived.WalkLawsBesides
import Derived.Lib.SliceRun
import Derived.Deep.Cut
import Derived.Deep.CutRange
import Derived.OrdersHeld
import Derived.StillTail
import Derived.Tactics
import Derived.RowKit
import Derived.Below
import Derived.Deep.Onto
import Derived.Deep.RegionHeld3
import Derived.Laws.Rows
import Derived.Lib.MinMax
import Derived.Lib.AppendZerosOnto
import Derived.Deep.RegionHeld2
import Derived.Deep.LoopGhost
import Derived.WalkMore
namespace Go.Proofs.YtacaanhnlfpbhaaGreat
open Go.RowKit
set_option linter.unusedVariables false
set_option linter.unusedSimpArgs false
theorem ags_pair (lz:Bool) (B W:Way) (n:Int):∀ b ∈ (Way.once n (.inOrder (if lz=true then [B,W] else [W,B]))).ags,b ∈ B.ags∨b ∈ W.ags:=by
 intro b hb
 cases lz <;> simp [Way.ags,agsL] at hb <;> rcases hb with h | h <;> simp [h]
theorem ags_dcd (lz:Bool) (n:Int) (b:Nat) (B:Way):∀ x ∈ (Dcd lz n b B).ags,x=b∨x ∈ B.ags:=by
 intro x hx
 cases lz <;> simp [Way.ags,agsL] at hx <;> rcases hx with h | h <;> simp [h]
theorem bg_bnd (g K:Nat) (A:Six) (w0:World) (B0:Nat) (hg:B0≤g) (N M:Nv) (R:List (Int × Int)) (t:Tn) (b o:Nat) (hs1:N.s1=some ⟨b,o,none⟩) (hb:b < B0) (hc:N9 w0 b o 0 M) (hs2:N.s2=1) (hs3:1≤N.s3) (h4:0≤N.a4∧N.a4≤1000) (h5:N.a4≤N.a5∧N.a5≤1000) (hk:N.k=6)
  (ih:BG g K A w0 B0 M t):BG g K A w0 B0 N (.mk N.k R N.a2 [t] N.a4 N.a5 N.a6 N.a7 N.a8):=by
 intro w v n B F1 hB hkp hO hR hgF hgw h0 hn
 obtain ⟨mn,hmn⟩:∃ mn:Nat,N.a4=(mn:Int):=⟨N.a4.toNat,by omega⟩
 obtain ⟨m,hm⟩:∃ m:Nat,N.a5=(mn:Int) + (m:Int):=⟨(N.a5 - N.a4).toNat,by omega⟩
 obtain ⟨one,hone⟩:∃ one,one=t.sz:=⟨_,rfl⟩
 have hsz:(Tn.mk N.k R N.a2 [t] N.a4 N.a5 N.a6 N.a7 N.a8).sz=max 1 (mn * one + m * (1 + one)):=by
  simp only [Tn.sz,szL,hk,if_true,repN,hone]
  rw [if_neg (by omega),hmn,hm]
  have e1:((mn:Int)).toNat=mn:=by omega
  have e2:((mn:Int) + (m:Int) - (mn:Int)).toNat=m:=by omega
  rw [e1,e2,Nat.add_zero]
 obtain ⟨sz,hsz'⟩:∃ sz,sz=(Tn.mk N.k R N.a2 [t] N.a4 N.a5 N.a6 N.a7 N.a8).sz:=⟨_,rfl⟩
 rw [← hsz'] at hn hsz
 have hpos:1≤one:=by rw [hone];exact t.sz_pos
 have hsq:=sq_ge sz
 have key:∀ k:Int,k + one≤n + sz→one≤sz→k + 3 * ((t.sz * t.sz:Nat):Int)≤900000000:=fun k h1 h2=>by
  have:=quad (a:=one) (b:=sz) (n:=n) (n':=k) hpos h2 h1
  rw [← hone]
  omega
 obtain ⟨f,fi,ca,rfl⟩:=hR.form
 have hgl:=(Array.getElem?_eq_some_iff.1 hO).1
 obtain ⟨q1,q2,q3,q4⟩:=three_new w (.cells #[pt g] 71) (N.nd.o 6) (.cells #[.func (.func f) fi ca] 133)
 have hch:Chg w (((w.alloc (.cells #[pt g] 71)).alloc (N.nd.o 6)).alloc (.cells #[.func (.func f) fi ca] 133)) [g] [g]:=(((Chg.refl w [g]).alloc _).alloc _).alloc _
 obtain ⟨W,hW⟩:∃ W,W=(((w.alloc (.cells #[pt g] 71)).alloc (N.nd.o 6)).alloc (.cells #[.func (.func f) fi ca] 133)):=⟨_,rfl⟩
 rw [← hW] at q1 q2 q3 q4 hch
 have hsW:=hch.size
 have kW:∀ x,x < B0→W.heap[x]?=w0.heap[x]?:=fun x hx=>(q4 x (by omega)).trans (hkp x hx)
 have cO:∀ i,i < m→(i * (1 + one) + one:Nat) + 1≤m * (1 + one):=fun i hi=>by
  have:=Nat.mul_le_mul_right (1 + one) (show i + 1≤m by omega)
  rw [Nat.succ_mul] at this
  omega
 have cT:∀ i,i < mn→(i * one + one:Nat)≤mn * one:=fun i hi=>by
  have:=Nat.mul_le_mul_right one (show i + 1≤mn by omega)
  rw [Nat.succ_mul] at this
  omega
 have HC:=repeatBJ69 g K b o N.s3 mn m N.a6 A N.nd M.nd M.k n B
  (fun i=>JB g K w.heap.size B.ags B.ua (fun k=>n≤k∧k≤n + (i * (1 + one):Nat)) (fun k W E=>BegO E t N.a6 B i n k W))
  (fun i=>JB g K w.heap.size B.ags B.ua (fun k=>n≤k∧k≤n + (i * (1 + one) + one:Nat)∧i < m) (fun k W E=>∃ n1 W1,BegO E t N.a6 B i n n1 W1∧Beg E t n1 W1 k W))
  (fun i=>JB g K w.heap.size B.ags B.ua (fun k=>n≤k∧k≤n + (m * (1 + one) + i * one:Nat)) (fun k W E=>∃ n1 W1,BegO E t N.a6 B m n n1 W1∧BegT E t i n1 W1 k W))
  (List.range B0) F1 [] (.func (.func f) fi ca) W ((q4 g hgl).trans hO) (hR.kept fun k hk=>q4 k (hR.low k hk)) (JB.start _ _ _ _ _ _ _ _ _ _ ⟨by omega,by omega⟩ (fun E=>.zero) (fun b hb=>hb) hgw (fun b hb=>hb)) hgF (by simp;omega) (by simp)
  ⟨hs1,hs2,rfl,rfl,hmn,hm⟩ ⟨by omega,by omega⟩ hs3 (by omega) (by omega) (hc.kept (kW b hb))
  (fun i k W FE w hi hj=>by have h1:=hj.1;have:=cO i hi;exact ⟨by have:=h1.1;omega,by have:=h1.2.1;omega⟩)
  (fun i k W FE w hi hj=>by
   obtain ⟨⟨h1,h2,h3⟩,⟨hg1,hu1⟩,LE,hB⟩:=hj
   refine ⟨⟨by omega,by rw [Nat.succ_mul];push_cast at h2 ⊢;omega⟩,⟨(Gw.pair hgw hg1).once (by omega) (by have:=cO i hi;omega),fun b hb=>by simp [Way.ua] at hb⟩,LE,hB.imp (fun E h=>?_) (fun b hb=>ags_pair _ _ _ _ b hb)⟩
   obtain ⟨n1,W1,e1,e2⟩:=h
   exact .succ e1 e2)
  (fun i hi=>ih.step hg (Nat.le_trans hB hsW) kW hsW (fun k hk=>by
   have:=cO i hi
   refine ⟨by have:=hk.1;omega,key k (by have:=hk.2;omega) (by omega),fun n1 h1 h2=>⟨by have:=hk.1;omega,?_,hi⟩⟩
   have h3:=hk.2
   rw [← hone] at h2
   push_cast at h3 ⊢
   omega) (fun E n' W n1 W1 h1 h2=>⟨n',W,h1,h2⟩))
  (fun k W FE w hj=>by
   obtain ⟨⟨h1,h2⟩,hg1,LE,hB⟩:=hj
   exact ⟨⟨h1,by simpa using h2⟩,hg1,LE,hB.imp (fun E h=>⟨k,W,h,.zero⟩) (fun b hb=>.inr hb)⟩)
  (fun i hi=>ih.step hg (Nat.le_trans hB hsW) kW hsW (fun k hk=>by
   have:=cT i hi
   refine ⟨by have:=hk.1;omega,key k (by have h3:=hk.2;push_cast at h3;omega) (by omega),fun n1 h1 h2=>⟨by have:=hk.1;omega,?_⟩⟩
   have h3:=hk.2
   rw [← hone] at h2
   rw [Nat.succ_mul]
   push_cast at h3 ⊢
   omega) (fun E n' W n1 W1 h1 h2=>by
    obtain ⟨n2,W2,e1,e2⟩:=h1
    exact ⟨n2,W2,e1,.succ e2 h2⟩))
 rw [hk]
 rw [hW] at HC
 refine (beginR53 g K A N.nd _ _ f fi ca w HC).mono ?_
 rintro e w' ⟨u,F,FE,n1,W',rfl,hM⟩
 obtain ⟨⟨hb1,hb2⟩,⟨hg1,hu1⟩,LE,hB⟩:=hM.j
 refine ⟨u,F,FE,n1,W',rfl,hM.m.wide fun k hk=>by simpa using hk,⟨LE,hB.imp (fun E h=>?_) (fun b hb=>.inr hb)⟩,fun k hk=>(hM.newE k hk).imp_left fun h=>by simpa using h,by omega,?_,hg1,hu1⟩
 ·obtain ⟨n2,W2,e1,e2⟩:=h
  rw [hmn,hm]
  exact .bnd e1 e2
 ·rw [← hk,← hsz']
  have e:m * (1 + one) + mn * one≤sz:=by omega
  omega
theorem bg_any (g K:Nat) (A:Six) (w0:World) (B0:Nat) (hg:B0≤g) (N M:Nv) (R:List (Int × Int)) (t:Tn) (b o:Nat) (hs1:N.s1=some ⟨b,o,none⟩) (hb:b < B0) (hc:N9 w0 b o 0 M) (hs2:N.s2=1) (hs3:1≤N.s3) (h4:0≤N.a4∧N.a4≤1000) (h5:N.a5=-1) (hk:N.k=6)
  (ih:BG g K A w0 B0 M t):BG g K A w0 B0 N (.mk N.k R N.a2 [t] N.a4 N.a5 N.a6 N.a7 N.a8):=by
 intro w v n B F1 hB hkp hO hR hgF hgw h0 hn
 obtain ⟨mn,hmn⟩:∃ mn:Nat,N.a4=(mn:Int):=⟨N.a4.toNat,by omega⟩
 obtain ⟨one,hone⟩:∃ one,one=t.sz:=⟨_,rfl⟩
 have hsz:(Tn.mk N.k R N.a2 [t] N.a4 N.a5 N.a6 N.a7 N.a8).sz=max mn 1 * one + 1:=by
  simp only [Tn.sz,szL,hk,if_true,repN,hone,h5,hmn]
  have e1:((mn:Int)).toNat=mn:=by omega
  rw [e1]
  simp
 obtain ⟨sz,hsz'⟩:∃ sz,sz=(Tn.mk N.k R N.a2 [t] N.a4 N.a5 N.a6 N.a7 N.a8).sz:=⟨_,rfl⟩
 rw [← hsz'] at hn hsz
 have hpos:1≤one:=by rw [hone];exact t.sz_pos
 have hsq:=sq_ge sz
 have hle:one≤max mn 1 * one:=Nat.le_mul_of_pos_left _ (by omega)
 have key:∀ k:Int,k + one≤n + sz→k + 3 * ((t.sz * t.sz:Nat):Int)≤900000000:=fun k h1=>by
  have:=quad (a:=one) (b:=sz) (n:=n) (n':=k) hpos (by omega) h1
  rw [← hone]
  omega
 obtain ⟨f,fi,ca,rfl⟩:=hR.form
 have hgl:=(Array.getElem?_eq_some_iff.1 hO).1
 obtain ⟨q1,q2,q3,q4⟩:=three_new w (.cells #[pt g] 71) (N.nd.o 6) (.cells #[.func (.func f) fi ca] 133)
 have hch:Chg w (((w.alloc (.cells #[pt g] 71)).alloc (N.nd.o 6)).alloc (.cells #[.func (.func f) fi ca] 133)) [g] [g]:=(((Chg.refl w [g]).alloc _).alloc _).alloc _
 obtain ⟨W0,hW0⟩:∃ W,W=(((w.alloc (.cells #[pt g] 71)).alloc (N.nd.o 6)).alloc (.cells #[.func (.func f) fi ca] 133)):=⟨_,rfl⟩
 rw [← hW0] at q1 q2 q3 q4 hch
 have hsW0:=hch.size
 obtain ⟨W,hW⟩:∃ W,W=W0.alloc (N.nd.o 6):=⟨_,rfl⟩
 have hchW:Chg w W [g] [g]:=by rw [hW];exact hch.alloc _
 have q4:∀ x,x < w.heap.size→W.heap[x]?=w.heap[x]?:=fun x hx=>by rw [hW];exact (heap_alloc_old W0 _ (by omega)).trans (q4 x hx)
 have hsW:=hchW.size
 have kW:∀ x,x < B0→W.heap[x]?=w0.heap[x]?:=fun x hx=>(q4 x (by omega)).trans (hkp x hx)
 have cT:∀ i,i < mn - 1→(i * one + one + one:Nat)≤max mn 1 * one:=fun i hi=>by
  have:=Nat.mul_le_mul_right one (show i + 1 + 1≤max mn 1 by omega)
  rw [Nat.succ_mul,Nat.succ_mul] at this
  omega
 have HC:=atLeastJ96 g K b o N.s3 mn N.a6 A n N.nd M.nd M.k B
  (fun b=>JB g K w.heap.size (Dcd N.a6 n b B).ags [] (fun k=>k=n + 1) (fun k W E=>k=n + 1∧W=Dcd N.a6 n b B))
  (fun b=>JB g K w.heap.size (Dcd N.a6 n b B).ags [] (fun k=>n + 1≤k∧k≤n + 1 + one) (fun k W E=>Beg E t (n + 1) (Dcd N.a6 n b B) k W))
  (fun b=>⟨fun k W FE w'=>(n + 1≤k∧k≤n + 1 + one)∧(Gw W∧W.ua=[])∧∃ LE,b ∈ LE.map Prod.fst∧BgR g K w.heap.size B.ags (fun E=>E b=W∧Beg E t (n + 1) (Dcd N.a6 n b B) k W) W.ags LE FE w',fun ⟨h,hg,LE,h1,h2⟩ hs hk=>⟨h,hg,LE,h1,h2.stab hs hk⟩,fun ⟨h,hg,LE,h1,h2⟩=>h2.low⟩)
  (fun b i=>JB g K w.heap.size B.ags B.ua (fun k=>n≤k∧k≤n + 1 + (one + i * one:Nat)) (fun k W E=>∃ n2,Beg E t (n + 1) (Dcd N.a6 n b B) n2 (E b)∧BegT E t i n2 (E b) k W))
  (JB g K w.heap.size B.ags B.ua (fun k=>n≤k∧k≤n + sz) (fun k W E=>Beg E (.mk 6 R N.a2 [t] N.a4 N.a5 N.a6 N.a7 N.a8) n B k W))
  (List.range B0) F1 [] (.func (.func f) fi ca) W ((q4 g hgl).trans hO) (hR.kept fun k hk=>q4 k (hR.low k hk)) (fun b hb=>JB.start _ _ _ _ _ _ _ _ _ _ rfl (fun E=>⟨rfl,rfl⟩) (fun b hb=>hb) ((Gw.pair hgw (.again b)).once (by omega) (by omega)) (fun x hx=>by simp [Way.ua] at hx)) hgF (by simp;omega) (by simp) (fun k hk=>by simp at hk;omega) ⟨h0,by omega⟩
  ⟨hs1,hs2,rfl,rfl,hmn⟩ (by omega) hs3 (by omega) (by omega) (hc.kept (kW b hb))
  (fun b hb=>ih.step hg (Nat.le_trans hB hsW) kW hsW (fun k hk=>by subst hk;exact ⟨by omega,key _ (by omega),fun n1 h1 h2=>⟨h1,by rw [hone];omega⟩⟩) (fun E n' W n1 W1 h1 h2=>by obtain ⟨rfl,rfl⟩:=h1;exact h2))
  (fun b n2 W1 v3 F3 FE3 w3 X hwb hj hbE hXs hXo hXb hRX hbF=>by
   obtain ⟨hbd,⟨hg1,hu1⟩,LE,hB1⟩:=hj
   have hu0:W1.ua=[]:=List.eq_nil_iff_forall_not_mem.2 fun x hx=>by have:=hu1 x hx;cases this
   have hst:=hB1.stab (w':=X) (by omega) (fun k hk=>hXo k (fun e=>hbE (e ▸ hk)))
   have hbl:b ∉ LE.map Prod.fst:=fun hm=>by
    simp only [List.mem_map] at hm
    obtain ⟨p,hp,rfl⟩:=hm
    exact hbE (hB1.env p hp).1
   refine ⟨hbd,⟨hg1,hu0⟩,(b,W1) :: LE,by simp,⟨fun p hp=>?_,fun k hk=>?_,fun k hk=>?_,fun p hp=>?_,?_,fun E hE=>⟨hE (b,W1) (by simp),hB1.rel E fun p hp=>hE p (by simp [hp])⟩,fun x hx=>?_,fun p hp x hx=>?_,fun p hp=>by simp only [List.mem_cons] at hp;rcases hp with rfl | hp;exact ⟨hg1,hu0⟩;exact hB1.wf p hp⟩⟩
   ·simp only [List.mem_cons] at hp
    rcases hp with rfl | hp
    ·exact ⟨by simp,v3,F3,hXb,hRX,fun k hk=>by simp [hk]⟩
    ·obtain ⟨a1,v,F,a2,a3,a4⟩:=hst.env p hp
     exact ⟨by simp [a1],v,F,a2,a3,fun k hk=>by simp [a4 k hk]⟩
   ·simp only [List.mem_cons,List.mem_append] at hk
    rcases hk with rfl | hk | hk
    ·exact bx_lt hXb
    ·exact hRX.low k hk
    ·exact hst.low k hk
   ·simp only [List.mem_cons,List.mem_append] at hk
    rcases hk with rfl | hk | hk
    ·exact ⟨_,_,_,hXb⟩
    ·exact hRX.isc k hk
    ·exact hst.isc k hk
   ·simp only [List.mem_cons] at hp
    rcases hp with rfl | hp
    ·exact Nat.le_trans hsW hwb
    ·exact hst.fresh p hp
   ·simp only [List.map_cons,List.nodup_cons]
    exact ⟨hbl,hB1.nd⟩
   ·simp only [List.map_cons,List.mem_cons]
    rcases hB1.agw x hx with h | h
    ·rcases ags_dcd _ _ _ _ x h with h | h
     ·exact .inr (.inl h)
     ·exact .inl h
    ·exact .inr (.inr h)
   ·simp only [List.map_cons,List.mem_cons] at hp ⊢
    have:x ∈ (Dcd N.a6 n b B).ags∨x ∈ LE.map Prod.fst:=by
     rcases hp with rfl | hp
     ·exact hB1.agw x hx
     ·exact hB1.agl p hp x hx
    rcases this with h | h
    ·rcases ags_dcd _ _ _ _ x h with h | h
     ·exact .inr (.inl h)
     ·exact .inl h
    ·exact .inr (.inr h))
  (fun hm0 b n2 W1 FE w' hwb hj=>by
   obtain ⟨⟨h1,h2⟩,⟨hg1,hu0⟩,LE,hbl,hB1⟩:=hj
   refine ⟨⟨by omega,by omega⟩,⟨(Gw.pair hgw (.again b)).once (by omega) (by omega),fun x hx=>by simp [Way.ua] at hx⟩,LE,⟨hB1.env,hB1.low,hB1.isc,hB1.fresh,hB1.nd,fun E hE=>?_,fun x hx=>?_,hB1.agl,hB1.wf⟩⟩
   ·obtain ⟨e1,e2⟩:=hB1.rel E hE
    subst hm0
    rw [hmn,h5]
    rw [← e1] at e2
    exact .any0 e2
   ·rcases ags_dcd _ _ _ _ x hx with rfl | h
    ·exact .inr hbl
    ·exact .inl h)
  (fun hm0 b n2 W1 FE w' hwb hj=>by
   obtain ⟨⟨h1,h2⟩,⟨hg1,hu0⟩,LE,hbl,hB1⟩:=hj
   refine ⟨⟨by omega,by simp;omega⟩,⟨hg1,fun x hx=>by rw [hu0] at hx;cases hx⟩,LE,hB1.imp (fun E h=>?_) (fun x hx=>.inr hx)⟩
   obtain ⟨e1,e2⟩:=h
   rw [← e1] at e2 ⊢
   exact ⟨n2,e2,.zero⟩)
  (fun b i hwb hi=>ih.step hg (Nat.le_trans hB hsW) kW hsW (fun k hk=>by
   have:=cT i hi
   have h3:=hk.2
   refine ⟨by have:=hk.1;omega,key k (by omega),fun n1 h1 h2=>⟨by have:=hk.1;omega,?_⟩⟩
   rw [← hone] at h2
   rw [Nat.succ_mul]
   omega) (fun E n' W n1 W1 h1 h2=>by
    obtain ⟨n2,e1,e2⟩:=h1
    exact ⟨n2,e1,.succ e2 h2⟩))
  (fun hm0 b n2 W1 FE w' hwb hj=>by
   obtain ⟨⟨h1,h2⟩,hg1,LE,hB1⟩:=hj
   obtain ⟨c,hc⟩:∃ c,mn=c + 1:=⟨mn - 1,by omega⟩
   have e:one + (mn - 1) * one=max mn 1 * one:=by
    rw [hc,Nat.add_sub_cancel,Nat.max_eq_left (by omega),Nat.succ_mul]
    omega
   refine ⟨⟨h1,by omega⟩,hg1,LE,hB1.imp (fun E h=>?_) (fun x hx=>.inr hx)⟩
   obtain ⟨n3,e1,e2⟩:=h
   rw [hmn,h5,hc]
   rw [hc,Nat.add_sub_cancel] at e2
   push_cast
   exact .any e1 e2)
 rw [hk]
 rw [hW] at HC
 have HC2:=repeatA69 g K A N.nd _ _ f fi ca W0 h5 HC
 rw [hW0] at HC2
 refine (beginR53 g K A N.nd _ _ f fi ca w HC2).mono ?_
 rintro e w' ⟨u,F,FE,n1,W',rfl,hM⟩
 obtain ⟨⟨hb1,hb2⟩,⟨hg1,hu1⟩,LE,hB⟩:=hM.j
 exact ⟨u,F,FE,n1,W',rfl,hM.m.wide fun k hk=>by simpa using hk,⟨LE,hB⟩,fun k hk=>(hM.newE k hk).imp_left fun h=>by simpa using h,by omega,by rw [← hk,← hsz'];omega,hg1,hu1⟩
theorem begin53 {w0:World} {B0:Nat} {N:Nv} {t:Tn} (h:TI w0 B0 N t) (g K:Nat) (A:Six) (hg:B0≤g):t.fine=true→t.nodes≤200000→2 * t.gi + 1 < (K:Int)→BG g K A w0 B0 N t:=by
 induction h with
 | @mk N R ts ND ok hr hR hRk hs hS hk ih =>
 intro hf hno hgi
 simp only [Tn.fine,Bool.and_eq_true] at hf
 simp only [Tn.nodes] at hno
 simp only [Tn.gi] at hgi
 have FN:=fine_nodeZ hf.1
 have hfg:=fineL_get hf.2
 have hgg:=giL_ge ts N.a7
 have hlen:ts.length≤200000:=by have:=nodes_ge ts;omega
 have IH:∀ i (hi:i < ts.length),BG g K A w0 B0 (ND i) ts[i]:=fun i hi=>ih i hi (hfg i hi) (by have:=nodes_get ts i hi;omega) (by have:=hgg.2 i hi;omega)
 have hcap:ts.length≤N.s3:=by have:=ok.s;omega
 by_cases k1:N.k=1
 ·exact bg_empty g K A w0 B0 N R ts k1
 by_cases k2:N.k=2
 ·exact bg_class g K A w0 B0 hg N R ts hr hR (by have:=rightB_len (FN.cls k2);omega) k2
 by_cases k3:N.k=3
 ·exact bg_assert g K A w0 B0 N R ts k3
 by_cases k4:N.k=4
 ·have h2:=FN.two (.inl k4)
  obtain ⟨b,o,hs1,hb,hc⟩:=hS (by omega)
  exact bg_cat g K A w0 B0 hg N R ts ND b o hs1 hb hc hs hcap hlen k4 IH
 by_cases k5:N.k=5
 ·have h2:=FN.two (.inr k5)
  obtain ⟨b,o,hs1,hb,hc⟩:=hS (by omega)
  exact bg_alt g K A w0 B0 hg N R ts ND b o hs1 hb hc hs hcap hlen k5 IH
 by_cases k6:N.k=6
 ·obtain ⟨h1,m0,m1,mx⟩:=FN.rep k6
  obtain ⟨t,rfl⟩:∃ t,ts=[t]:=List.length_eq_one_iff.1 h1
  obtain ⟨b,o,hs1,hb,hc⟩:=hS (by simp)
  rcases mx with mx | mx
  ·exact bg_any g K A w0 B0 hg N (ND 0) R t b o hs1 hb (hc 0 (by simp)) hs hcap ⟨m0,m1⟩ mx k6 (IH 0 (by simp))
  ·exact bg_bnd g K A w0 B0 hg N (ND 0) R t b o hs1 hb (hc 0 (by simp)) hs hcap ⟨m0,m1⟩ mx k6 (IH 0 (by simp))
 ·have k7:N.k=7:=by have:=FN.kind;omega
  obtain ⟨h1,i1,i2⟩:=FN.grp k7
  obtain ⟨t,rfl⟩:∃ t,ts=[t]:=List.length_eq_one_iff.1 h1
  obtain ⟨b,o,hs1,hb,hc⟩:=hS (by simp)
  exact bg_group g K A w0 B0 hg N (ND 0) R t b o hs1 hb (hc 0 (by simp)) hs hcap ⟨i1,i2⟩ (by have:=hgg.1;omega) k7 (IH 0 (by simp))
theorem size3:(Tryz.prog.info? 3).map (·.size)=some 1:=by kernel_rfl
abbrev M1:Value:=.int .i64 (-1)
theorem copy_one (W:World) (b o dl dc sc:Nat) (a:Addr) (hs:W.cell? (a.add 0)=some M1) (hd:(W.cell? ⟨b,o,none⟩).isSome=true) (hf:W.frozen? ⟨b,o,none⟩=false) (hdl:1≤dl) :
  (Builtin.copy_ #[26,26] 3 #[.slice (some ⟨b,o,none⟩) dl dc,.slice (some a) 1 sc]).run Tryz.prog W=.ok (.int .i64 1) (W.setCell ⟨b,o,none⟩ M1):=by
 have h:=run_copy_cells (P:=Tryz.prog) W 26 26 3 3 b o dl dc a 1 sc [M1] Tryz.underlying26 size3 (by simp [Nat.min_def];omega) (by intro j v hj;match j,hj with | 0,hj=>simp at hj;subst hj;exact hs) (by intro j hj;simp at hj;subst hj;exact hd) (by intro j hj;simp at hj;subst hj;exact hf) (by intro v hv;simp at hv;subst hv;rfl)
 exact h
theorem u64_small (n:Int) (h0:0≤n) (h1:n < 2 ^ 40):IntKind.u64.wrap n=n:=by
 simp [IntKind.wrap,IntKind.bits,IntKind.signed]
 omega
theorem and32 (c:Nat) (hc:c≤10000):bits .and .u64 (c:Int) 4294967295=(c:Int):=by
 have h:=bits_mask .u64 40 (by decide) u64_small 32 (by decide) (c:Int) (by omega) (by omega)
 have e:((2:Int) ^ 32 - 1)=4294967295:=by decide
 rw [e] at h
 rw [h]
 omega
set_option maxRecDepth 100000 in
set_option maxHeartbeats 2000000 in
theorem mul88g (c:Nat) (hc:c≤10000) (w:World):Calls Tryz.prog 181 #[.int .u64 1,.int .u64 (c:Int)] w fun e w'=>e=.returned (.tuple #[.int .u64 0,.int .u64 (c:Int)])∧w'=w:=by
 have a1:bits .and .u64 1 4294967295=1:=and32 1 (by omega)
 have a2:=and32 c hc
 have a0:bits .and .u64 0 4294967295=0:=and32 0 (by omega)
 have wc:IntKind.u64.wrap (c:Int)=(c:Int):=u64_small _ (by omega) (by omega)
 have w0:IntKind.u64.wrap 0=0:=u64_small _ (by omega) (by omega)
 have d1:(c:Int) / 4294967296=0:=by omega
 go_enter Tryz.func181,Tryz.ntmps181
 go_wp2
 go_ret2
 refine ⟨?_,rfl⟩
 simp [a1,a2,a0,wc,w0,d1]
set_option maxRecDepth 100000 in
set_option maxHeartbeats 2000000 in
theorem mul63g (c:Nat) (hc:c≤10000) (w:World):Calls Tryz.prog 113 #[.int .u64 1,.int .u64 (c:Int)] w fun e w'=>e=.returned (.tuple #[.int .u64 0,.int .u64 (c:Int)])∧w'=w:=by
 have HC:=mul88g c hc
 have wc:IntKind.u64.wrap (c:Int)=(c:Int):=u64_small _ (by omega) (by omega)
 go_enter Tryz.func113,Tryz.ntmps113
 go_wp2_with (go_at_call 181;(with_reducible refine (HC _).mono ?_);rintro e w' ⟨rfl,rfl⟩)
 go_ret2
 exact ⟨rfl,rfl⟩
theorem makeN (c:Nat) (hc:c≤10000) (w:World):(Instr.makeSlice 26 (.int .i64 (c:Int)) (.int .i64 (c:Int))).run Tryz.prog w=.ok (.slice (some ⟨w.heap.size,0,none⟩) c c) (w.alloc (.cells (madeCells #[.int .i64 0] c) 3)):=
 run_make_row' (P:=Tryz.prog) 26 3 (.int .i64 0) 8 Tryz.underlying26 info3 rfl .i64 .i64 c (by omega) (by omega) w
theorem below_setC {B b:Nat} {a:World} (hb:B≤b):∀ (vs:List Value) (o:Nat) (w:World),Below B a w→Below B a (w.setCells b o vs)
 | [],_,_,h=>h
 | v :: vs,o,w,h=>below_setC hb vs (o + 1) _ (h.setCell (by exact hb) v)
def RI (nb c n:Nat) (W:World):Prop:=∃ arr:Array Value,W.heap[nb]?=some (.cells arr 3 (0,0))∧arr.size=c∧∀ i,i < n→arr[i]?=some M1
theorem RI.next {nb c n:Nat} {W:World} (h:RI nb c n W) (hn:n < c):RI nb c (n + 1) (W.setCell ⟨nb,n,none⟩ M1):=by
 obtain ⟨arr,h1,h2,h3⟩:=h
 refine ⟨arr.setIfInBounds n M1,Joins.block_setCell (i:=n) h1 _,by simp [h2],fun i hi=>?_⟩
 by_cases e:i=n
 ·subst e;simp [h2,hn]
 ·rw [Array.getElem?_setIfInBounds_ne (by omega)];exact h3 i (by omega)
theorem RI.more {nb c:Nat}:∀ (k n:Nat) {W:World},RI nb c n W→n + k≤c→RI nb c (n + k) (W.setCells nb n (List.replicate k M1)):=by
 intro k
 induction k with
 | zero=>intro n W h _;exact h
 | succ k ih =>
  intro n W h hk
  rw [List.replicate_succ,World.setCells]
  have:=ih (n + 1) (h.next (by omega)) (by omega)
  rwa [show n + 1 + k=n + (k + 1) by omega] at this
theorem RI.cell {nb c n:Nat} {W:World} (h:RI nb c n W) {i:Nat} (hi:i < n):W.cell? ⟨nb,i,none⟩=some M1:=by
 obtain ⟨arr,h1,h2,h3⟩:=h
 rw [Joins.cell_of_block h1 i]
 exact h3 i hi
theorem RI.some {nb c n:Nat} {W:World} (h:RI nb c n W) {i:Nat} (hi:i < c):(W.cell? ⟨nb,i,none⟩).isSome=true:=by
 obtain ⟨arr,h1,h2,h3⟩:=h
 rw [Joins.cell_of_block h1 i]
 simp [h2,hi]
theorem RI.free {nb c n:Nat} {W:World} (h:RI nb c n W) (i:Nat):W.frozen? ⟨nb,i,none⟩=false:=by
 obtain ⟨arr,h1,h2,h3⟩:=h
 exact Joins.unfrozen_of_block h1 i
theorem copy_self (nb c n:Nat) (W:World) (h:RI nb c n W) (hn:1≤n) (hnc:n≤c) :
  (Builtin.copy_ #[26,26] 3 #[.slice (some ⟨nb,n,none⟩) (c - n) (c - n),.slice (some ⟨nb,0,none⟩) n c]).run Tryz.prog W=.ok (.int .i64 ((min n (c - n):Nat):Int)) (W.setCells nb n (List.replicate (min n (c - n)) M1)):=by
 have h:=run_copy_cells (P:=Tryz.prog) W 26 26 3 3 nb n (c - n) (c - n) ⟨nb,0,none⟩ n c (List.replicate (min n (c - n)) M1) Tryz.underlying26 size3 (by simp) (by
   intro j v hj
   have hj':j < min n (c - n):=by
    have:=(List.getElem?_eq_some_iff.1 hj).1
    simpa using this
   simp [hj'] at hj
   subst hj
   have:=h.cell (i:=j) (by omega)
   rw [show ((⟨nb,0,none⟩:Addr).add j)=⟨nb,j,none⟩ by by_cases e:j=0 <;> simp [Addr.add,e]]
   exact this) (by intro j hj;simp at hj;exact h.some (by omega)) (by intro j hj;exact h.free _) (by intro v hv;simp at hv;obtain ⟨_,rfl⟩:=hv;rfl)
 simpa [goInt] using h
set_option maxRecDepth 100000 in
set_option maxHeartbeats 2000000 in
theorem repeat51g (xb cap c:Nat) (hc1:1≤c) (hc2:c≤10000) (w:World) (hx:w.cell? ⟨xb,0,none⟩=some (.int .i64 (-1))) (hxl:xb < w.heap.size) :
  Calls Tryz.prog 75 #[.slice (some ⟨xb,0,none⟩) 1 cap,.int .i64 (c:Int)] w fun e w'=>e=.returned (.slice (some ⟨w.heap.size,0,none⟩) c c)∧Below w.heap.size w w'∧RI w.heap.size c c w':=by
 have HC:=mul63g c hc2 w
 have hmk:=makeN c hc2 w
 have wc:IntKind.u64.wrap (c:Int)=(c:Int):=u64_small _ (by omega) (by omega)
 have wi:IntKind.i64.wrap (c:Int)=(c:Int):=by simp [IntKind.wrap,IntKind.bits,IntKind.signed];omega
 obtain ⟨nb,hnb⟩:∃ nb,nb=w.heap.size:=⟨_,rfl⟩
 obtain ⟨V0,hV0⟩:∃ V,V=w.alloc (.cells (madeCells #[.int .i64 0] c) 3):=⟨_,rfl⟩
 obtain ⟨V1,hV1⟩:∃ V,V=V0.setCell ⟨nb,0,none⟩ M1:=⟨_,rfl⟩
 have h0:RI nb c 0 V0:=by rw [hV0,hnb];exact ⟨_,heap_alloc_new w _,by simp [madeCells],fun i hi=>by omega⟩
 have h1:RI nb c 1 V1:=by rw [hV1];exact h0.next (by omega)
 have hB1:Below w.heap.size w V1:=by
  rw [hV1,hV0]
  exact (Joins.below_alloc1 w _).setCell (by show w.heap.size≤nb;omega) _
 have k1:(Builtin.copy_ #[26,26] 3 #[.slice (some ⟨nb,0,none⟩) c c,.slice (some ⟨xb,0,none⟩) 1 cap]).run Tryz.prog V0=.ok (.int .i64 1) V1:=by
  rw [hV1]
  exact copy_one V0 nb 0 c c cap ⟨xb,0,none⟩ (by rw [hV0];exact (World.cell?_alloc_lt _ _ _ hxl).trans hx) (h0.some (by omega)) (h0.free 0) (by omega)
 rw [← hV0,← hnb] at hmk
 rw [← hnb]
 have HB1:=hid hB1
 have H1:=hid h1
 have HNB:=hid hnb
 clear h0 h1 hB1 hV0 hV1 hnb hx
 go_enter Tryz.func75,Tryz.ntmps75
 go_wp2_with (go_at_call 113;(with_reducible refine HC.mono ?_);rintro e w' ⟨rfl,hw'⟩;rw [hw'];clear hw' HC)
 go_loopw [8] (fun x wq=>∃ n:Nat,x=.int .i64 (n:Int)∧1≤n∧n≤c∧Hid (RI nb c n wq∧Below w.heap.size w wq)) (fun x _=>c - (intOf x).toNat)
 case atStart=>exact ⟨1,rfl,by omega,by omega,by exact ⟨H1.out,HB1.out⟩⟩
 case round =>
  obtain ⟨n,rfl,hn1,hnc,HI⟩:=hrel
  by_cases hlt:n < c
  ·have b1:decide ((n:Int) < (c:Int))=true:=by simp;omega
   have b2:(n:Int) < (c:Int):=by omega
   have kc:=copy_self nb c n wr.drew (by exact HI.out.1) hn1 hnc
   have ad:IntKind.i64.wrap ((n:Int) + ((min n (c - n):Nat):Int))=((n + min n (c - n):Nat):Int):=by simp [IntKind.wrap,IntKind.bits,IntKind.signed];omega
   have i1:(n:Int)≤(c:Int):=by omega
   have i0:(0:Int)≤(n:Int):=by omega
   go_wp2_with fail
   go_region
   all_goals
    go_wp2
    refine ⟨⟨n + min n (c - n),by push_cast;rfl,by omega,by omega,by exact ⟨RI.more _ _ (show RI nb c n wr.drew from HI.out.1) (by omega),below_setC (by have:=HNB.out;omega) _ _ _ HI.out.2.drew⟩⟩,by simp [intOf];omega⟩
  ·have b1:decide ((n:Int) < (c:Int))=false:=by simp;omega
   obtain rfl:n=c:=by omega
   go_wp2
   go_ret
   refine ⟨rfl,?_,HI.out.1⟩
   rw [HNB.out]
   exact HI.out.2
end Go.Proofs.YtacaanhnlfpbhaaGreat
namespace Go.Proofs.YtacaanhnlfpbhaaGreat
set_option linter.unusedVariables false
set_option linter.unusedSimpArgs false
inductive Ac where
 | alt (x y:Nat)
 | go (x:Nat)
 | cap (x a:Nat)
 | rune (x:Nat)
 | fit (a:Int)
 | stop
abbrev Fd:=Option (Int × List Int)
def Ac.ok (n:Nat):Ac→Prop
 | .alt x y=>x < n∧y < n
 | .go x=>x < n
 | .cap x _=>x < n
 | .rune x=>x < n
 | .fit _=>True
 | .stop=>True
abbrev Pt:=Nat × Nat
inductive Tk where
 | go (i j:Nat)
 | un (a:Nat) (o:Int)
def nx (A:Nat→Nat→Ac) (i j:Nat) (c:List Int):List Tk × List Int:=
 match A j i with
 | .alt x y=>([.go x j,.go y j],c)
 | .go x=>([.go x j],c)
 | .cap x a=>([.go x j,.un a (c.getD a 0)],c.set a (j:Int))
 | .rune x=>([.go x (j + 1)],c)
 | .fit _=>([],c)
 | .stop=>([],c)
def base:List Tk→List Int→List Int
 | [],c=>c
 | .un a o :: st,c=>base st (c.set a o)
 | .go _ _ :: st,c=>base st c
def Tk.ok (n a len K:Nat):Tk→Prop
 | .go i j=>i < n∧a≤j∧j≤len
 | .un b o=>b < K∧-1≤o∧o≤(len:Int)
end Go.Proofs.YtacaanhnlfpbhaaGreat
namespace Go.Lk
open Go.RowKit
set_option linter.unusedVariables false
set_option linter.unusedSimpArgs false
theorem wrap_i64 (n:Int):IntKind.i64.wrap n=if 9223372036854775808≤n % 18446744073709551616 then n % 18446744073709551616 - 18446744073709551616 else n % 18446744073709551616:=by
 simp [IntKind.wrap,IntKind.bits,IntKind.signed]
def holdsB (x y:Int):Bool:=bits .andNot .i64 x y == 0
end Go.Lk
namespace Go.Proofs.YtacaanhnlfpbhaaGreat
open Go.RowKit Go.Lk
set_option linter.unusedVariables false
set_option linter.unusedSimpArgs false
theorem wrap_ok (x:Int) (h:-9223372036854775808≤x) (h2:x < 9223372036854775808):IntKind.i64.wrap x=x:=by simp [IntKind.wrap,IntKind.bits,IntKind.signed];omega
end Go.Proofs.YtacaanhnlfpbhaaGreat
namespace Go.Proofs.YtacaanhnlfpbhaaGreat
open Go.RowKit
set_option linter.unusedVariables false
set_option linter.unusedSimpArgs false
theorem Chg.drewN {w w':World} {F F':List Nat} (h:Chg w w' F F') (k:Nat):Chg w (w'.drewN k) F F':=⟨h.os,h.tape,h.output,h.size,h.block,h.new⟩
end Go.Proofs.YtacaanhnlfpbhaaGreat
namespace Go.Proofs.YtacaanhnlfpbhaaGreat
open Go.RowKit Go.Lk
set_option linter.unusedVariables false
set_option linter.unusedSimpArgs false
def Tk.cs:Tk→List Value
 | .go i j=>[.int .i32 (i:Int),.int .i32 (j:Int)]
 | .un a o=>[.int .i32 (-1 - (a:Int)),.int .i32 o]
theorem Tk.one (t:Tk):∀ u ∈ t.cs,u.oneCell'=true:=by
 cases t <;> (intro u hu;simp [Tk.cs] at hu;rcases hu with rfl | rfl <;> rfl)
structure Bk where
 ad:Option Addr
 n:Nat
 c:Nat
 S:Nat
 K:Nat
 tad:Option Addr
 tn:Nat
 tc:Nat
 ub:Nat
 a:Nat
structure Bv where
 w1:Option Addr
 w2:Nat
 w3:Nat
 z1:Option Addr
 z2:Nat
 z3:Nat
 most:Nat
 fok:Bool
 f1:Option Addr
 f2:Nat
 f3:Nat
 fw:Int
 fs:Nat
section
variable {w w':World} {B b:Nat} {l:List In} {tx:List Int} {C:Bk} {V V':Bv} {st:List Tk} {m:List Pt} {cp:List Int} {W:List Nat}
end
structure En where
 i:Nat
 b:Nat
 c:List Int
instance:Inhabited En:=⟨⟨0,0,[]⟩⟩
theorem step_call2 {P:Program} {ops:Array Oper} {o:Oper} {a:Act} {w:World} {K:Act→World→Prop} {Q:Exit→Act→World→Prop} {E:Prop} (hg:o.guard=none) (f:FuncId) (x y:Operand) (t u:TypeId)
  (hop:o.op=Op.call { callee:=Callee.value (.func f),args:=#[x,y],argTypes:=#[t,u] }) (hen:∀ args w,(callFunc f args).run P w=.ok (.enter f args) w)
  (hc:Calls P f #[a.eval x,a.eval y] w fun e w'=>∃ v,e=.returned v∧K (a.put o.dst v) w') :
  if Region.wanted o (yielded ops a.tmps)=true then Oper.wp P o a w K Q else E:=by
 have hw:Region.wanted o (yielded ops a.tmps)=true:=by simp [Region.wanted,hg]
 rw [if_pos hw]
 have h2:=hen #[a.eval x,a.eval y] w
 unfold Oper.wp
 have ev:a.eval (.func f)=.func (.func f) #[] #[]:=rfl
 simp [execOp,hop,resolve,invoke,ev,Deferred.ofValue,h2,Result.andThen]
 show Calls P f #[a.eval x,a.eval y] w _
 refine hc.mono fun e w' h=>?_
 obtain ⟨v,rfl,hk⟩:=h
 exact hk
end Go.Proofs.YtacaanhnlfpbhaaGreat
