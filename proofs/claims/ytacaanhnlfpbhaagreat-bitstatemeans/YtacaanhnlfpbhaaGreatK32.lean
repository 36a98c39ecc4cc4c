/- HELPERS: texts of ours put together. -/
import Derived.Test.YtacaanhnlfpbhaaGreatK10
import Derived.Test.YtacaanhnlfpbhaaGreatK31
import Derived.Deep.LoopGhost
import Derived.WalkMore
import Derived.Test.YtacaanhnlfpbhaaGreatK29
namespace Go.Proofs.YtacaanhnlfpbhaaGreat
open Go.RowKit Go.Lk
set_option linter.unusedVariables false
set_option linter.unusedSimpArgs false
theorem pi_inst {w:World} {B n:Nat} {ad:Option Addr} {l:List In} (h:PI w B ad n l) {i:Nat} (hi:i < l.length) :
  ∃ pb po r1 r2 r3,ad = some ⟨pb,po,none⟩ ∧ r2 = l[i].R.length ∧ ∀ W,Below B w W → (W.cell? ⟨pb,po + i * 5,none⟩ = some (.int .i64 l[i].op) ∧ W.cell? ⟨pb,po + i * 5 + 1,none⟩ = some (.int .i64 l[i].x) ∧ W.cell? ⟨pb,po + i * 5 + 2,none⟩ = some (.int .i64 l[i].y) ∧ W.cell? ⟨pb,po + i * 5 + 3,none⟩ = some (.int .i64 l[i].a) ∧ W.cell? ⟨pb,po + i * 5 + 4,none⟩ = some (.slice r1 r2 r3)) ∧ RowAt B W (.slice r1 r2 r3) l[i].R:=by
 obtain ⟨pb,po,ND,e,hpb,hcs⟩:=h.mem (by have:=h.len;omega)
 obtain ⟨h5,hM⟩:=hcs i hi
 refine ⟨pb,po,(ND i).r1,(ND i).r2,(ND i).r3,e,hM.len,fun W hb => ?_⟩
 obtain ⟨m0,m1,m2,m3,m4⟩:=h5.kept (hb.block pb hpb)
 have hM':=hM.kept hb (Nat.le_refl _)
 rw [hM.op] at m0
 rw [hM.x] at m1
 rw [hM.y] at m2
 rw [hM.a] at m3
 exact ⟨⟨m0,m1,m2,m3,m4⟩,hM'.row⟩
theorem step_call2 {P:Program} {ops:Array Oper} {o:Oper} {a:Act} {w:World} {K:Act → World → Prop} {Q:Exit → Act → World → Prop} {E:Prop} (hg:o.guard = none) (f:FuncId) (x y:Operand) (t u:TypeId)
  (hop:o.op = Op.call { callee:=Callee.value (.func f),args:=#[x,y],argTypes:=#[t,u] }) (hen:∀ args w,(callFunc f args).run P w = .ok (.enter f args) w)
  (hc:Calls P f #[a.eval x,a.eval y] w fun e w' => ∃ v,e = .returned v ∧ K (a.put o.dst v) w') :
  if Region.wanted o (yielded ops a.tmps) = true then Oper.wp P o a w K Q else E:=by
 have hw:Region.wanted o (yielded ops a.tmps) = true:=by simp [Region.wanted,hg]
 rw [if_pos hw]
 have h2:=hen #[a.eval x,a.eval y] w
 unfold Oper.wp
 have ev:a.eval (.func f) = .func (.func f) #[] #[]:=rfl
 simp [execOp,hop,resolve,invoke,ev,Deferred.ofValue,h2,Result.andThen]
 show Calls P f #[a.eval x,a.eval y] w _
 refine hc.mono fun e w' h => ?_
 obtain ⟨v,rfl,hk⟩:=h
 exact hk
theorem en47:∀ (args:Array Value) (w:World),(callFunc 158 args).run Tryz.prog w = .ok (.enter 158 args) w:=enter_of Tryz.func158 (by kernel_rfl) rfl
theorem en48:∀ (args:Array Value) (w:World),(callFunc 159 args).run Tryz.prog w = .ok (.enter 159 args) w:=enter_of Tryz.func159 (by kernel_rfl) rfl
theorem en51:∀ (args:Array Value) (w:World),(callFunc 162 args).run Tryz.prog w = .ok (.enter 162 args) w:=enter_of Tryz.func162 (by kernel_rfl) rfl
theorem en56:∀ (args:Array Value) (w:World),(callFunc 167 args).run Tryz.prog w = .ok (.enter 167 args) w:=enter_of Tryz.func167 (by kernel_rfl) rfl
theorem en57:∀ (args:Array Value) (w:World),(callFunc 74 args).run Tryz.prog w = .ok (.enter 74 args) w:=enter_of Tryz.func74 (by kernel_rfl) rfl
theorem ev_step {A:Nat → Nat → Ac} {k i j:Nat} {st:List Tk} {m:List Pt} {c:List Int} {r:Fd} {m':List Pt} (h:Ev A k (.go i j :: st) m c r m') (hm:(i,j) ∉ m) (hno:∀ a,A j i ≠ .fit a):∃ k',k' < k ∧ Ev A k' ((nx A i j c).1 ++ st) (m ++ [(i,j)]) (nx A i j c).2 r m':=by
 cases h with
 | old _ _ _ _ _ _ _ _ h1 _ => exact absurd h1 hm
 | fit _ _ _ _ _ y _ hy => exact absurd hy (hno y)
 | step k _ _ _ _ _ _ _ _ _ h => exact ⟨k,Nat.lt_succ_self _,h⟩
theorem ev_fit {A:Nat → Nat → Ac} {k i j:Nat} {st:List Tk} {m:List Pt} {c:List Int} {r:Fd} {m':List Pt} (h:Ev A k (.go i j :: st) m c r m') (hm:(i,j) ∉ m) {a:Int} (e:A j i = .fit a):r = some (a,c) ∧ m' = m ++ [(i,j)]:=by
 cases h with
 | old _ _ _ _ _ _ _ _ h1 _ => exact absurd h1 hm
 | fit _ _ _ _ _ y _ hy => rw [e] at hy;cases hy;exact ⟨rfl,rfl⟩
 | step k _ _ _ _ _ _ _ _ h1 _ => exact absurd e (h1 a)
def NF (V:Bv):Prop:=V.fok = false ∧ V.f1 = none ∧ V.f2 = 0 ∧ V.f3 = 0 ∧ V.fw = 0
def BF (C:Bk) (V:Bv) (st:List Tk) (cp0 cp:List Int):Fd → Prop
 | none => st = [] ∧ cp = cp0 ∧ NF V
 | some y => V.fok = true ∧ V.f1 = some ⟨C.ub,0,none⟩ ∧ V.f2 = C.K ∧ V.f3 = C.K ∧ V.fw = y.1 ∧ cp = y.2
def BO (w0 w:World) (B b:Nat) (l:List In) (tx:List Int) (C:Bk) (cp0:List Int) (r:Fd) (m':List Pt) (k:Nat):Prop:=
 ∃ V st m cp W,BI w B b l tx C V st m cp W ∧ V.fs = m.length ∧ Ev (act l tx) k st m cp r m' ∧ base st cp = cp0 ∧ NF V ∧ Below B w0 w
def BNZ (w0 w:World) (B b:Nat) (l:List In) (tx:List Int) (C:Bk) (cp0:List Int) (r:Fd) (m':List Pt) (k i j:Nat):Prop:=
 ∃ V st m cp W,BI w B b l tx C V st m cp W ∧ V.fs = m.length ∧ Ev (act l tx) k (.go i j :: st) m cp r m' ∧ base st cp = cp0 ∧ NF V ∧ Below B w0 w ∧ (Tk.go i j).ok C.n C.a C.tn C.K ∧ st.length ≤ m.length
theorem BI.inst {w:World} {B b i:Nat} {l:List In} {tx:List Int} {C:Bk} {V:Bv} {st:List Tk} {m:List Pt} {cp:List Int} {W:List Nat} (h:BI w B b l tx C V st m cp W) (hi:i < l.length) :
  ∃ pb po r1 r2 r3,C.ad = some ⟨pb,po,none⟩ ∧ r2 = l[i].R.length ∧ (w.cell? ⟨pb,po + i * 5,none⟩ = some (.int .i64 l[i].op) ∧ w.cell? ⟨pb,po + i * 5 + 1,none⟩ = some (.int .i64 l[i].x) ∧ w.cell? ⟨pb,po + i * 5 + 2,none⟩ = some (.int .i64 l[i].y) ∧ w.cell? ⟨pb,po + i * 5 + 3,none⟩ = some (.int .i64 l[i].a) ∧ w.cell? ⟨pb,po + i * 5 + 4,none⟩ = some (.slice r1 r2 r3)) ∧ RowAt B w (.slice r1 r2 r3) l[i].R ∧ pb < B:=by
 obtain ⟨pb,po,ND,e,hpb,hcs⟩:=h.pi.mem (by have:=h.pi.len;omega)
 obtain ⟨pb',po',r1,r2,r3,e',h1,h2⟩:=pi_inst h.pi hi
 obtain ⟨h3,h4⟩:=h2 w (Below.refl _ _)
 rw [e] at e'
 simp only [Option.some.injEq,Addr.mk.injEq] at e'
 obtain ⟨rfl,rfl,_⟩:=e'
 exact ⟨pb,po,r1,r2,r3,e,h1,h3,h4,hpb⟩
theorem BI.stepped {w:World} {B b:Nat} {l:List In} {tx:List Int} {C:Bk} {V:Bv} {st:List Tk} {m:List Pt} {cp:List Int} {W:List Nat} (h:BI w B b l tx C V st m cp W) (k:Nat) :
  BI (w.setCell ⟨b,13,none⟩ (.int .i64 (k:Int))) B b l tx C { V with fs:=k } st m cp W ∧ Below B w (w.setCell ⟨b,13,none⟩ (.int .i64 (k:Int))):=
 h.put 13 _ rfl ⟨rfl,rfl,rfl⟩ ⟨rfl,rfl,rfl⟩
set_option maxRecDepth 100000 in
set_option maxHeartbeats 16000000 in
theorem begin30 {w:World} {B b at_:Nat} {l:List In} {tx:List Int} {C:Bk} {V:Bv} {m:List Pt} {cp:List Int} {W:List Nat} {r:Fd} {m':List Pt} {N:Nat} (h:BI w B b l tx C V [] m cp W) (hc:BC l tx C) (hfs:V.fs = m.length) (hnf:NF V) (ha:C.a ≤ at_) (hat:at_ ≤ C.tn) (hev:Ev (act l tx) N [.go C.S at_] m cp r m') :
  Calls Tryz.prog 110 #[.pointer (some ⟨b,0,none⟩),.int .i64 (at_:Int)] w fun e w' => e = .returned (.tuple #[]) ∧ ∃ V' st cp' W',BI w' B b l tx C V' st m' cp' W' ∧ V'.fs = m'.length ∧ BF C V' st cp cp' r ∧ Below B w w':=by
 have hmo:=may_ok hc.may
 have hlen:=hc.len
 have hn20:C.n ≤ 20000:=by omega
 have hSn:C.S < C.n:=by omega
 have hK:C.K ≤ 1002:=by omega
 have htl:=hc.tl
 have HBC:=hid hc
 have H0:=hid h
 have c1:=h.mb.c 1
 simp at c1
 have hbl:=h.mb.lt
 have hBs:=h.size
 have HMS:Hid (∀ V st m cp W (w:World),BI w B b l tx C V st m cp W → m.length ≤ 16777216):=fun V st m cp W w h => by have:=h.okm.small;have:=hc.big;omega
 have HME:Hid (∀ (i j:Nat) W',i < C.n → j ≤ C.tn → Calls Tryz.prog 159 #[.int .i64 (i:Int),.int .i64 (j:Int)] W' fun e w' => e = .returned (goV i j) ∧ Below W'.heap.size W' w'):=fun i j W' hi hj => toMeet48 i j W' (by omega) (by omega)
 have HPU:Hid (∀ (V:Bv) st m cp W (w:World) (i j:Nat) W',BI w B b l tx C V st m cp W → Below w.heap.size w W' → (Tk.go i j).ok C.n C.a C.tn C.K → st.length ≤ m.length → Calls Tryz.prog 158 #[.pointer (some ⟨b,8,none⟩),goV i j] W' fun e w' => e = .returned (.tuple #[]) ∧ ∃ y1 y3 mo,BI w' B b l tx C { V with z1:=y1,z2:=V.z2 + 1,z3:=y3,most:=mo } (.go i j :: st) m cp W ∧ Below B W' w'):=fun V st m cp W w i j W' h hb ht hs => push47 (.go i j) _ _ rfl (h.below hb) ht hs (HMS.out _ _ _ _ _ _ h)
 have HEV:=hid hev
 have HFS:=hid hfs
 have HNF:=hid hnf
 have hpu0:=fun W' hb => HPU.out V [] m cp W w C.S at_ W' h hb ⟨hSn,ha,hat⟩ (Nat.zero_le _)
 have HP0:=hid hpu0
 clear h hc hev hfs hnf hmo hpu0
 obtain ⟨Sn,hSe⟩:∃ Sn,Sn = C.S:=⟨_,rfl⟩
 rw [← hSe] at c1 HP0 HEV hSn
 have HSE:=hid hSe
 clear hSe
 go_enter Tryz.func110,Tryz.ntmps110
 go_wp2_with fail
 go_step3
 go_upto_region 0 with fail
 go_cut [] from 9 to 19 (fun wx => Hid (BO w wx B b l tx C cp r m' N))
 case first =>
  go_region_held2 (fun w' => w'.cell? ⟨b,1,none⟩ = some (.int .i64 (Sn:Int)))
   (first | (exact c1) | (exact HS3.out) | (exact (HB2.out.cell (p:=⟨b,1,none⟩) hbl).trans c1))
   (first | (go_at_call 159;(with_reducible refine (HME.out _ _ _ hSn hat).mono ?_);rintro e wp ⟨rfl,hb2⟩;have HB2:Hid (Below w.heap.size w wp):=Below.trans ((Eqw.drew w).below _) hb2;clear hb2) | (go_at_call 158;(with_reducible refine (HP0.out _ HB2.out).mono ?_);rintro e wt ⟨rfl,y1,y3,mo,hbi,hb3⟩;have HBI:=hid hbi;have HB3:=hid hb3;have HS3:Hid (wt.cell? ⟨b,1,none⟩ = some (.int .i64 (Sn:Int))):=(by have hh:=hbi.mb.c 1;rw [HSE.out];exact hh);clear hbi hb3))
  all_goals go_wp2_with fail
  all_goals go_meet
  all_goals exact ⟨_,_,_,_,_,HBI.out,HFS.out,HEV.out,rfl,HNF.out,(Joins.below_le HB2.out hBs).trans HB3.out⟩
 case rest =>
  clear HP0 c1 HEV HFS HNF
  go_wp2_with fail
  go_step3
  go_wp2_with fail
  go_loopg [] N (fun k wr => Hid (BO w wr B b l tx C cp r m' k))
  case atStart => exact hcut
  case round =>
   obtain ⟨V1,st,m1,cp1,W1,hbi,hfs,hev,hba,hnf,hbw⟩:=hrel.out
   clear hrel hcut
   have HMS1:=HMS.out _ _ _ _ _ _ hbi
   have HFS:=hid hfs
   have HBA:=hid hba
   have HNF:=hid hnf
   have HBW:=hid hbw
   have HBI:=hid hbi
   have hbl1:=hbi.mb.lt
   have hBs1:=hbi.size
   cases st with
   | nil =>
    cases hev with
    | nil =>
    have HPO:=pop49_none hbi
    clear hbi hfs hba hnf hbw
    go_wp2_with (go_at_call 160;(with_reducible refine HPO.mono ?_);rintro e w2 ⟨rfl,hb2⟩;have HB2:=hid hb2;clear hb2 HPO)
    simp only [Exit.noGoto]
    go_end0
    have hb3:=HB2.out.trans (Joins.below_le (Joins.below_alloc1 w2 (.cells #[.int .i32 0,.int .i32 0] 222)) HB2.out.size)
    exact ⟨rfl,V1,[],cp1,W1,HBI.out.below hb3,HFS.out,⟨rfl,HBA.out,HNF.out⟩,HBW.out.trans (Joins.below_le hb3 hBs1)⟩
   | cons t st =>
    cases t with
    | un a o =>
     cases hev with
     | un k _ _ _ _ _ _ _ hev =>
     have hok:=hbi.okt _ List.mem_cons_self
     have HPO:=pop49_some (-1 - (a:Int)) o rfl hbi HMS1
     have HEV:=hid hev
     have HOK:=hid hok
     clear hbi hfs hba hnf hbw hev hok
     go_upto_region 3 with (go_at_call 160;(with_reducible refine HPO.mono ?_);rintro e w2 ⟨rfl,hb2,hbw2⟩;have HB2:=hid hb2;have HBW2:=hid hbw2;clear hb2 hbw2 HPO)
     obtain ⟨U,hU⟩:∃ U,U = w2.alloc (.cells #[.int .i32 (-1 - (a:Int)),.int .i32 o] 222):=⟨_,rfl⟩
     obtain ⟨y,hy⟩:∃ y,y = w2.heap.size:=⟨_,rfl⟩
     rw [← hU,← hy]
     have hX:U.heap[y]? = some (.cells #[.int .i32 (-1 - (a:Int)),.int .i32 o] 222 (0,0)):=by rw [hU,hy];exact heap_alloc_new w2 _
     have hbU:Below w2.heap.size w2 U:=by rw [hU];exact Joins.below_alloc1 w2 _
     have hBU:=HB2.out.below hbU
     have hyU:y < U.heap.size:=(Array.getElem?_eq_some_iff.1 hX).1
     have x0:=Joins.cell_of_block hX 0
     have x1:=Joins.cell_of_block hX 1
     simp at x0 x1
     have HX:=hid hX
     have HBU:=hid hBU
     have HBWU:=hid (HBW.out.trans (HBW2.out.trans (Joins.below_le hbU (by have:=HB2.out.size;omega))))
     have HI:=isUndo50_un a o U
     clear hU hy hX hbU hBU
     go_upto_region 4 with (go_at_call 161;(with_reducible refine HI.mono ?_);rintro e w3 ⟨rfl,hb3⟩;have HB3:=hid hb3;have y0:=(hb3.cell (p:=⟨y,0,none⟩) hyU).trans x0;have y1:=(hb3.cell (p:=⟨y,1,none⟩) hyU).trans x1;have hb4:=HBU.out.below hb3;have HB4:=hid hb4;have d4:=hb4.mb.c 4;simp at d4;clear hb3 HI x0 x1 hb4)
     have HUN:Hid (∀ W',Below w3.heap.size w3 W' → Calls Tryz.prog 162 #[unV a o,.slice (some ⟨C.ub,0,none⟩) C.K C.K] W' fun e w' => e = .returned (.tuple #[]) ∧ BI w' B b l tx C { V1 with z2:=st.length } st m1 (cp1.set a o) W1 ∧ Below B W' w' ∧ ∀ k,k < W'.heap.size → k ≠ C.ub → w'.heap[k]? = W'.heap[k]?):=fun W' hb => undo51 a o (HB4.out.below hb) HOK.out.1 hK HOK.out.2 htl
     have hyu:y ≠ C.ub:=fun e => by
      obtain ⟨arr,harr⟩:=HBU.out.cap_block
      have h2:=HX.out
      rw [e,harr] at h2
      simp at h2
     have hy3:y < w3.heap.size:=by have:=HB3.out.size;omega
     have hub3:b ≠ C.ub:=fun e => HB4.out.ub_ne e.symm
     have HY3:Hid (y < w3.heap.size ∧ b < w3.heap.size):=⟨hy3,HB4.out.mb.lt⟩
     clear hy3
     refine wp_region_ley 5 (fun w' => w'.cell? ⟨y,0,none⟩ = some (.int .i32 (-1 - (a:Int))) ∧ w'.cell? ⟨y,1,none⟩ = some (.int .i32 o) ∧ w'.cell? ⟨b,4,none⟩ = some (.slice (some ⟨C.ub,0,none⟩) C.K C.K)) (by kernel_rfl) (by kernel_rfl) (by decide) (by kernel_rfl) (by kernel_rfl) ⟨y0,y1,d4⟩ ?_
     simp only [List.take_succ_cons,List.take_zero,List.drop_succ_cons,List.drop_zero]
     iterate 5
      refine ley_cons ?_ rfl (fun W hW => ?_) (fun _ _ _ h => h) ?_
      rotate_left
      ·obtain ⟨s0,s1,s2⟩:=hW
       go_simp <;> with_reducible rfl
      simp only [Act.put,List.setIfInBounds_toArray,List.set_cons_zero,List.set_cons_succ]
     refine ley_nil (taiY_cons fun KK hKK => ?_)
     refine step_call2 rfl 162 (.tmp 31) (.tmp 35) 222 26 rfl en51 ?_
     refine (HUN.out _ ((Eqw.drew w3).below _)).mono ?_
     rintro e wt ⟨rfl,hbi,hb5,hk5⟩
     refine ⟨_,rfl,hKK.out _ _ ⟨(cell_eq (hk5 y HY3.out.1 hyu) 0).trans y0,(cell_eq (hk5 y HY3.out.1 hyu) 1).trans y1,(cell_eq (hk5 b HY3.out.2 hub3) 4).trans d4⟩ (taiY_nil ?_)⟩
     have HBO:Hid (BO w wt B b l tx C cp r m' k):=⟨_,_,_,_,_,hbi,HFS.out,HEV.out,HBA.out,HNF.out,HBWU.out.trans ((Joins.below_le HB3.out (by have:=HBU.out.size;omega)).trans (((Eqw.drew w3).below _).trans hb5))⟩
     clear hbi hb5 hk5 y0 y1 d4 HUN HB4 HB3
     go_wp2_with fail
     go_roundg k
     case measure => omega
     case rel => exact HBO
    | go i j =>
     have hok:=hbi.okt _ List.mem_cons_self
     have hsl:=hbi.stl
     simp only [List.length_cons] at hsl
     have HSL:Hid (st.length ≤ m1.length):=by show _ ≤ _;omega
     have HPO:=pop49_some (i:Int) (j:Int) rfl hbi HMS1
     have HEV:=hid hev
     have HOK:=hid hok
     have hi31:i < 2147483648:=by have:=hok.1;omega
     have hj31:j < 2147483648:=by have:=hok.2.2;omega
     clear hbi hfs hba hnf hbw hev hok hsl
     go_upto_region 3 with (go_at_call 160;(with_reducible refine HPO.mono ?_);rintro e w2 ⟨rfl,hb2,hbw2⟩;have HB2:=hid hb2;have HBW2:=hid hbw2;clear hb2 hbw2 HPO)
     obtain ⟨U,hU⟩:∃ U,U = w2.alloc (.cells #[.int .i32 (i:Int),.int .i32 (j:Int)] 222):=⟨_,rfl⟩
     obtain ⟨y,hy⟩:∃ y,y = w2.heap.size:=⟨_,rfl⟩
     rw [← hU,← hy]
     have hX:U.heap[y]? = some (.cells #[.int .i32 (i:Int),.int .i32 (j:Int)] 222 (0,0)):=by rw [hU,hy];exact heap_alloc_new w2 _
     have hbU:Below w2.heap.size w2 U:=by rw [hU];exact Joins.below_alloc1 w2 _
     have hBU:=HB2.out.below hbU
     have hyU:y < U.heap.size:=(Array.getElem?_eq_some_iff.1 hX).1
     have x0:=Joins.cell_of_block hX 0
     have x1:=Joins.cell_of_block hX 1
     simp at x0 x1
     have HBU:=hid hBU
     have HBWU:=hid (HBW.out.trans (HBW2.out.trans (Joins.below_le hbU (by have:=HB2.out.size;omega))))
     have HI:=isUndo50_go i j U
     have HPA:=fun W => pair52 i j W hi31 hj31
     clear hU hy hX hbU hBU
     go_wp2_with (first | (go_at_call 161;(with_reducible refine HI.mono ?_);rintro e w3 ⟨rfl,hb3⟩;have HB3:=hid hb3;have y0:=(hb3.cell (p:=⟨y,0,none⟩) hyU).trans x0;have y1:=(hb3.cell (p:=⟨y,1,none⟩) hyU).trans x1;clear hb3 HI x0 x1) | (go_at_call 163;(with_reducible refine (HPA _).mono ?_);rintro e w4 ⟨rfl,hb4⟩;have HB4:=hid hb4;clear hb4 HPA y0 y1))
     have hb34:Below U.heap.size U w4:=HB3.out.trans (Joins.below_le HB4.out HB3.out.size)
     have HBN:Hid (BNZ w w4 B b l tx C cp r m' gk i j):=⟨_,_,_,_,_,HBU.out.below hb34,HFS.out,HEV.out,HBA.out,HNF.out,HBWU.out.trans (Joins.below_le hb34 (by have:=HBU.out.size;omega)),HOK.out,HSL.out⟩
     clear HB3 HB4 hb34 HBU HBWU HB2 HBW2 HSL HOK HEV HFS HBA HNF HBW HBI HMS1 hyU hi31 hj31
     go_loopg [6,7] gk (fun k s6 s7 wr => ∃ i j:Nat,s6 = .int .i64 (i:Int) ∧ s7 = .int .i64 (j:Int) ∧ k ≤ gk ∧ Hid (BNZ w wr B b l tx C cp r m' k i j))
     case atStart => exact ⟨i,j,rfl,rfl,Nat.le_refl _,HBN⟩
     case round =>
      clear HBN
      obtain ⟨i,j,rfl,rfl,hgk,HBN⟩:=hrel
      obtain ⟨V2,st2,m2,cp2,W2,hbi,hfs,hev,hba,hnf,hbw,hok,hsl⟩:=HBN.out
      clear HBN
      have HFS:=hid hfs
      have HBA:=hid hba
      have HNF:=hid hnf
      have HBW:=hid hbw
      have HOK:=hid hok
      have HSL:=hid hsl
      by_cases hm:(i,j) ∈ m2
      ·have hev':∃ k,k < gk ∧ Ev (act l tx) k st2 m2 cp2 r m':=by
        cases hev with
        | old k _ _ _ _ _ _ _ hm hev => exact ⟨k,by omega,hev⟩
        | fit _ _ _ _ _ y hm' hy => exact absurd hm hm'
        | step k _ _ _ _ _ _ _ hm' hy hev => exact absurd hm hm'
       obtain ⟨k,hkg,hev'⟩:=hev'
       have HAD:=add53_old hbi HBC.out hok.1 hok.2.1 hok.2.2 hm
       have HEV:=hid hev'
       have hBs2:=hbi.size
       clear hbi hfs hba hnf hbw hev hok hsl hev' hm
       go_wp2_with (go_at_call 164;(with_reducible refine HAD.mono ?_);rintro e w5 ⟨rfl,y1,y2,y3,W3,hb5,hbw5⟩;have HB5:=hid hb5;have HBW5:=hid hbw5;clear hb5 hbw5 HAD)
       go_roundg k
       case measure => omega
       case rel => exact ⟨_,_,_,_,_,HB5.out,HFS.out,HEV.out,HBA.out,HNF.out,HBW.out.trans HBW5.out⟩
      ·have HAD:=add53_new hbi HBC.out hok.1 hok.2.1 hok.2.2 hm
       have HEV:=hid hev
       have HM:=hid hm
       have hil:i < l.length:=by have:=hok.1;omega
       have hin:(i:Int) < (C.n:Int):=by have:=hok.1;omega
       have hIok:=(may_ok HBC.out.may).2.2.2.2.2 _ (List.getElem_mem hil)
       have HIOK:=hid hIok
       obtain ⟨M1,hM1⟩:∃ M1,M1 = m2.length + 1:=⟨_,rfl⟩
       have hms:m2.length ≤ 16777216:=HMS.out _ _ _ _ _ _ hbi
       have a13:IntKind.i64.wrap ((m2.length:Int) + 1) = (M1:Int):=by rw [wrap_ok _ (by omega) (by omega)];omega
       have a13':(m2.length:Int) + 1 = (M1:Int):=by omega
       have HM1:=hid hM1
       clear hbi hfs hba hnf hbw hev hok hsl hm hIok hM1
       go_upto_region 8 with (go_at_call 164;(with_reducible refine HAD.mono ?_);rintro e w5 ⟨rfl,y1,y2,y3,W3,hb5,hbw5⟩;have c13:=hb5.mb.c 13;have u13:=hb5.mb.u 13;simp at c13;rw [HFS.out] at c13;have hst:=hb5.stepped M1;have HB6:=hid hst.1;have HBW6:=hid (HBW.out.trans (hbw5.trans hst.2));clear hb5 hbw5 hst HAD HBW)
       obtain ⟨W6,hW6⟩:∃ W6,W6 = w5.setCell ⟨b,13,none⟩ (.int .i64 (M1:Int)):=⟨_,rfl⟩
       rw [← hW6] at HB6 HBW6 ⊢
       clear hW6 c13 u13 a13 a13'
       obtain ⟨pb,po,r1,r2,r3,hpa,hr2,⟨m0,n1,n2,n3,n4⟩,hrow,hpb⟩:=HB6.out.inst hil
       have c0:=HB6.out.mb.c 0
       simp at c0
       rw [hpa] at c0
       have HR2:=hid hr2
       have HROW:=hid hrow
       clear hpa hr2 hrow
       have hops:=ok_op HIOK.out
       obtain ⟨I,hI⟩:∃ I,I = l[i]:=⟨_,rfl⟩
       rw [← hI] at m0 n1 n2 n3 HR2 HROW HIOK hops
       have HI:=hid hI
       clear hI
       obtain ⟨op,hop⟩:∃ op,op = I.op:=⟨_,rfl⟩
       rw [← hop] at m0 hops
       have HOP:=hid hop
       have hact:act l tx j i = actI tx I j:=by unfold act;rw [getD_in' hil,HI.out]
       have HACT:=hid hact
       clear hop hact
       go_upto_region 10 with fail
       have HF6:Hid (M1 = (m2 ++ [(i,j)]).length):=by show M1 = _;rw [HM1.out];simp
       have HSL6:Hid (st2.length ≤ (m2 ++ [(i,j)]).length):=by show _ ≤ _;have:=HSL.out;simp;omega
       have HN6:Hid ((m2 ++ [(i,j)]).length ≤ 16777216):=HMS.out _ _ _ _ _ _ HB6.out
       rcases hops with rfl | rfl | rfl | rfl | rfl | rfl | rfl
       ·have hx:=ok_x HIOK.out (by rw [← HOP.out];rfl)
        obtain ⟨x,hxe⟩:=Int.eq_ofNat_of_zero_le hx.1
        have hxl:x < C.n:=by omega
        rw [hxe] at n1
        obtain ⟨X,hX⟩:∃ X,X = (decide (j < tx.length) && hsB I.R (tx.getD j 0)):=⟨_,rfl⟩
        have HFI:=fits54 (R:=I.R) (r1:=r1) (r3:=r3) HB6.out HOK.out.2.2 HR2.out (RowAt.below HROW.out (Below.refl B _) (Nat.le_refl _) HB6.out.size) (ok_R HIOK.out (by rw [← HOP.out]))
        rw [← hX] at HFI
        have hae:act l tx j i = if X = true then .rune x else .stop:=by rw [HACT.out];unfold actI;rw [← HOP.out,hxe,← hX];simp
        have hjt:X = true → j < C.tn:=fun h => by have:=HBC.out.tn;rw [h] at hX;simp at hX;omega
        have aj:IntKind.i64.wrap ((j:Int) + 1) = ((j + 1:Nat):Int):=by have:=HOK.out.2.2;rw [wrap_ok _ (by omega) (by omega)];omega
        have HAE:=hid hae
        have HJT:=hid hjt
        have hbl6:=HB6.out.mb.lt
        clear hX hae hjt hx hxe m0 n2 n3 c0
        cases X with
        | false =>
         obtain ⟨k,hkg,hev⟩:=ev_step HEV.out HM.out (by rw [HAE.out];intro a;exact fun h => by cases h)
         rw [show nx (act l tx) i j cp2 = ([],cp2) by unfold nx;rw [HAE.out];rfl] at hev
         have HE:=hid hev
         clear hev
         go_wp2_with (go_at_call 165;(with_reducible refine HFI.mono ?_);rintro e w7 ⟨rfl,hb7⟩;have HB7:=hid hb7;clear hb7 HFI)
         go_roundg k
         case measure => omega
         case rel => exact ⟨_,_,_,_,_,HB6.out.below HB7.out,HF6.out,HE.out,HBA.out,HNF.out,HBW6.out.trans (Joins.below_le HB7.out HB6.out.size)⟩
        | true =>
         obtain ⟨k,hkg,hev⟩:=ev_step HEV.out HM.out (by rw [HAE.out];intro a;exact fun h => by cases h)
         rw [show nx (act l tx) i j cp2 = ([.go x (j + 1)],cp2) by unfold nx;rw [HAE.out];rfl] at hev
         have HE:=hid hev
         have hjt:=HJT.out rfl
         clear hev
         go_wp2_with (go_at_call 165;(with_reducible refine HFI.mono ?_);rintro e w7 ⟨rfl,hb7⟩;have HB7:=hid hb7;have k1:=(hb7.cell (p:=⟨pb,po + i * 5 + 1,none⟩) (by show pb < _;have:=HB6.out.size;omega)).trans n1;clear hb7 HFI)
         go_roundg k
         case measure => omega
         case rel => exact ⟨x,j + 1,rfl,rfl,by omega,_,_,_,_,_,HB6.out.below HB7.out,HF6.out,HE.out,HBA.out,HNF.out,HBW6.out.trans (Joins.below_le HB7.out HB6.out.size),⟨hxl,by have:=HOK.out.2.1;omega,by omega⟩,HSL6.out⟩
       ·have hx:=ok_x HIOK.out (by rw [← HOP.out];rfl)
        obtain ⟨x,hxe⟩:=Int.eq_ofNat_of_zero_le hx.1
        have hxl:x < C.n:=by omega
        rw [hxe] at n1
        have hy:=ok_y HIOK.out (by rw [← HOP.out];rfl)
        obtain ⟨yy,hye⟩:=Int.eq_ofNat_of_zero_le hy.1
        have hyl:yy < C.n:=by omega
        rw [hye] at n2
        have hae:act l tx j i = .alt x yy:=by rw [HACT.out];unfold actI;rw [← HOP.out,hxe,hye];simp
        obtain ⟨k,hkg,hev⟩:=ev_step HEV.out HM.out (by rw [hae];intro a;exact fun h => by cases h)
        rw [show nx (act l tx) i j cp2 = ([.go x j,.go yy j],cp2) by unfold nx;rw [hae]] at hev
        have HE:=hid hev
        have HSL7:Hid ((Tk.go yy j :: st2).length ≤ (m2 ++ [(i,j)]).length):=by show _ ≤ _;have:=HSL.out;simp;exact this
        clear hae hev m0 n3 n4 c0 hx hxe hy hye
        go_upto_region 14 with fail
        refine wp_region_ley 8 (fun w' => w'.cell? ⟨pb,po + i * 5 + 2,none⟩ = some (.int .i64 (yy:Int))) (by kernel_rfl) (by kernel_rfl) (by decide) (by kernel_rfl) (by kernel_rfl) n2 ?_
        simp only [List.take_succ_cons,List.take_zero,List.drop_succ_cons,List.drop_zero]
        iterate 8
         refine ley_cons ?_ rfl (fun W hW => ?_) (fun _ _ _ h => h) ?_
         rotate_left
         ·have s0:=hW
          go_simp <;> with_reducible rfl
         simp only [Act.put,List.setIfInBounds_toArray,List.set_cons_zero,List.set_cons_succ]
        refine ley_nil (taiY_cons fun KK hKK => ?_)
        refine step_call2 rfl 159 (.tmp 88) (.tmp 89) 3 3 rfl en48 ?_
        refine (HME.out yy j W6.drew hyl HOK.out.2.2).mono ?_
        rintro e w7 ⟨rfl,hb7⟩
        have hb7':Below W6.heap.size W6 w7:=Below.trans ((Eqw.drew W6).below _) hb7
        have hB7s:B ≤ W6.heap.size:=HB6.out.size
        have q2:=(hb7'.cell (p:=⟨pb,po + i * 5 + 2,none⟩) (by show pb < _;omega)).trans n2
        refine ⟨_,rfl,hKK.out _ _ q2 (taiY_cons fun KK hKK => ?_)⟩
        refine step_call2 rfl 158 (.tmp 84) (.tmp 90) 124 222 rfl en47 ?_
        refine (HPU.out _ _ _ _ _ W6 yy j w7 HB6.out hb7' ⟨hyl,HOK.out.2⟩ HSL6.out).mono ?_
        rintro e w8 ⟨rfl,g1,g3,gm,hb8,hbw8⟩
        have q3:=(hbw8.cell (p:=⟨pb,po + i * 5 + 2,none⟩) hpb).trans q2
        refine ⟨_,rfl,hKK.out _ _ q3 (taiY_nil ?_)⟩
        have hbw78:Below B W6 w8:=(Joins.below_le hb7' hB7s).trans hbw8
        have k1:=(hbw78.cell (p:=⟨pb,po + i * 5 + 1,none⟩) hpb).trans n1
        have HB8:=hid hb8
        have HBW8:=hid hbw78
        clear hb8 hbw8 hbw78 hb7 hb7' q2 q3 n1 n2 hB7s
        go_wp2_with fail
        go_roundg k
        case measure => omega
        case rel => exact ⟨x,j,rfl,rfl,by omega,_,_,_,_,_,HB8.out,HF6.out,HE.out,HBA.out,HNF.out,HBW6.out.trans HBW8.out,⟨hxl,HOK.out.2⟩,HSL7.out⟩
       ·have hx:=ok_x HIOK.out (by rw [← HOP.out];rfl)
        obtain ⟨x,hxe⟩:=Int.eq_ofNat_of_zero_le hx.1
        have hxl:x < C.n:=by omega
        rw [hxe] at n1
        have haa:=ok_a HIOK.out HOP.out.symm
        obtain ⟨oa,hoa⟩:=Int.eq_ofNat_of_zero_le haa.1
        have hal:oa < C.K:=by omega
        rw [hoa] at n3
        have hae:act l tx j i = .cap x oa:=by rw [HACT.out];unfold actI;rw [← HOP.out,hxe,hoa];simp
        obtain ⟨k,hkg,hev⟩:=ev_step HEV.out HM.out (by rw [hae];intro a;exact fun h => by cases h)
        rw [show nx (act l tx) i j cp2 = ([.go x j,.un oa (cp2.getD oa 0)],cp2.set oa (j:Int)) by unfold nx;rw [hae]] at hev
        have HE:=hid hev
        have HNO:=note55 (a:=oa) (j:=j) HB6.out hal hK htl HOK.out.2.2 HSL6.out HN6.out
        have HBA2:Hid (base (.un oa (cp2.getD oa 0) :: st2) (cp2.set oa (j:Int)) = cp):=by show base st2 ((cp2.set oa (j:Int)).set oa (cp2.getD oa 0)) = cp;rw [set_old];exact HBA.out
        have HSL7:Hid ((Tk.un oa (cp2.getD oa 0) :: st2).length ≤ (m2 ++ [(i,j)]).length):=by show _ ≤ _;have:=HSL.out;simp;exact this
        clear hae hev m0 n2 n4 c0 hx hxe haa hoa
        go_wp2_with (go_at_call 166;(with_reducible refine HNO.mono ?_);rintro e w7 ⟨rfl,g1,g3,gm,hb7,hbw7⟩;have HB7:=hid hb7;have HBW7:=hid hbw7;have k1:=(hbw7.cell (p:=⟨pb,po + i * 5 + 1,none⟩) hpb).trans n1;clear hb7 hbw7 HNO)
        go_roundg k
        case measure => omega
        case rel => exact ⟨x,j,rfl,rfl,by omega,_,_,_,_,_,HB7.out,HF6.out,HE.out,HBA2.out,HNF.out,HBW6.out.trans HBW7.out,⟨hxl,HOK.out.2⟩,HSL7.out⟩
       ·have hx:=ok_x HIOK.out (by rw [← HOP.out];rfl)
        obtain ⟨x,hxe⟩:=Int.eq_ofNat_of_zero_le hx.1
        have hxl:x < C.n:=by omega
        rw [hxe] at n1
        obtain ⟨oa,hoa⟩:∃ oa,oa = I.a:=⟨_,rfl⟩
        rw [← hoa] at n3
        obtain ⟨t,ht⟩:∃ t,t = atP tx j:=⟨_,rfl⟩
        obtain ⟨X,hX⟩:∃ X,X = holdsB oa t:=⟨_,rfl⟩
        have HA:=Look.at10 tx C.tad C.tn C.tc j W6.drew (look_text (show TextAt W6.drew.heap.size W6.drew C.tad C.tn tx from HB6.out.tx.mono HB6.out.size))
        rw [look_at tx j (by have:=HBC.out.tn;have:=HOK.out.2.2;omega),← ht] at HA
        have HH:Hid (∀ W,Calls Tryz.prog 167 #[.int .i64 oa,.int .i64 t] W fun e w' => e = .returned (.bool X) ∧ w' = W):=fun W => by rw [hX];exact Look.holds13 oa t W
        have hae:act l tx j i = if X = true then .go x else .stop:=by rw [HACT.out];unfold actI;rw [← HOP.out,hxe,← hoa,← ht,← hX];simp
        have HAE:=hid hae
        have b3:=HB6.out.mb.c 3
        simp at b3
        have hbl6:=HB6.out.mb.lt
        have hBs6:=HB6.out.size
        clear hae hX ht hoa hx hxe m0 n2 n4 c0
        go_upto_region 18 with fail
        refine wp_region_ley 9 (fun w' => w'.cell? ⟨pb,po + i * 5 + 3,none⟩ = some (.int .i64 oa) ∧ w'.cell? ⟨b,3,none⟩ = some (.slice C.tad C.tn C.tc)) (by kernel_rfl) (by kernel_rfl) (by decide) (by kernel_rfl) (by kernel_rfl) ⟨n3,b3⟩ ?_
        simp only [List.take_succ_cons,List.take_zero,List.drop_succ_cons,List.drop_zero]
        iterate 9
         refine ley_cons ?_ rfl (fun W hW => ?_) (fun _ _ _ h => h) ?_
         rotate_left
         ·obtain ⟨s0,s1⟩:=hW
          go_simp <;> with_reducible rfl
         simp only [Act.put,List.setIfInBounds_toArray,List.set_cons_zero,List.set_cons_succ]
        refine ley_nil (taiY_cons fun KK hKK => ?_)
        refine step_call2 rfl 74 (.tmp 110) (.tmp 111) 26 3 rfl en57 ?_
        refine HA.mono ?_
        rintro e w7 ⟨rfl,hb7⟩
        have hb7':Below W6.heap.size W6 w7:=Below.trans ((Eqw.drew W6).below _) hb7
        have q2:=(hb7'.cell (p:=⟨pb,po + i * 5 + 3,none⟩) (by show pb < _;omega)).trans n3
        have q3:=(hb7'.cell (p:=⟨b,3,none⟩) hbl6).trans b3
        refine ⟨_,rfl,hKK.out _ _ ⟨q2,q3⟩ (taiY_cons fun KK hKK => ?_)⟩
        refine step_call2 rfl 167 (.tmp 106) (.tmp 112) 3 3 rfl en56 ?_
        refine (HH.out w7).mono ?_
        rintro e w8 ⟨rfl,rfl⟩
        refine ⟨_,rfl,hKK.out _ _ ⟨q2,q3⟩ (taiY_cons fun KK hKK => ?_)⟩
        simp only [Act.put,List.setIfInBounds_toArray,List.set_cons_zero,List.set_cons_succ]
        go_simp
        refine hKK.out _ _ ⟨q2,q3⟩ (taiY_nil ?_)
        have k1:=(hb7'.cell (p:=⟨pb,po + i * 5 + 1,none⟩) (by show pb < _;omega)).trans n1
        have HB7:=hid hb7'
        clear hb7 hb7' q2 q3 n1 n3 b3 HA HH
        cases X with
        | false =>
         obtain ⟨k,hkg,hev⟩:=ev_step HEV.out HM.out (by rw [HAE.out];intro a;exact fun h => by cases h)
         rw [show nx (act l tx) i j cp2 = ([],cp2) by unfold nx;rw [HAE.out];rfl] at hev
         have HE:=hid hev
         clear hev
         go_wp2_with fail
         go_roundg k
         case measure => omega
         case rel => exact ⟨_,_,_,_,_,HB6.out.below HB7.out,HF6.out,HE.out,HBA.out,HNF.out,HBW6.out.trans (Joins.below_le HB7.out HB6.out.size)⟩
        | true =>
         obtain ⟨k,hkg,hev⟩:=ev_step HEV.out HM.out (by rw [HAE.out];intro a;exact fun h => by cases h)
         rw [show nx (act l tx) i j cp2 = ([.go x j],cp2) by unfold nx;rw [HAE.out];rfl] at hev
         have HE:=hid hev
         clear hev
         go_wp2_with fail
         go_roundg k
         case measure => omega
         case rel => exact ⟨x,j,rfl,rfl,by omega,_,_,_,_,_,HB6.out.below HB7.out,HF6.out,HE.out,HBA.out,HNF.out,HBW6.out.trans (Joins.below_le HB7.out HB6.out.size),⟨hxl,HOK.out.2⟩,HSL6.out⟩
       ·have hae:act l tx j i = .fit I.a:=by rw [HACT.out];unfold actI;rw [← HOP.out];simp
        obtain ⟨hr,hm'⟩:=ev_fit HEV.out HM.out hae
        have HR:=hid hr
        have HM':=hid hm'
        have HMA:=match58 I.a HB6.out
        obtain ⟨oa,hoa⟩:∃ oa,oa = I.a:=⟨_,rfl⟩
        rw [← hoa] at n3 HMA
        have HOA:=hid hoa
        clear hae hr hm' hoa m0 n1 n2 n4 c0
        go_wp2_with (go_at_call 168;(with_reducible refine HMA.mono ?_);rintro e w7 ⟨rfl,hb7,hbw7⟩;have HB7:=hid hb7;have HBW7:=hid hbw7;clear hb7 hbw7 HMA)
        simp only [Exit.noGoto]
        go_end0
        refine ⟨rfl,_,st2,cp2,_,by rw [HM'.out];exact HB7.out,by rw [HM'.out];exact HF6.out,?_,HBW6.out.trans HBW7.out⟩
        rw [HR.out]
        exact ⟨rfl,rfl,rfl,rfl,HOA.out,rfl⟩
       ·have hae:act l tx j i = .stop:=by rw [HACT.out];unfold actI;rw [← HOP.out];simp
        obtain ⟨k,hkg,hev⟩:=ev_step HEV.out HM.out (by rw [hae];intro a;exact fun h => by cases h)
        rw [show nx (act l tx) i j cp2 = ([],cp2) by unfold nx;rw [hae]] at hev
        have HE:=hid hev
        clear hae hev m0 n1 n2 n3 n4 c0
        go_wp2_with fail
        go_roundg k
        case measure => omega
        case rel => exact ⟨_,_,_,_,_,HB6.out,HF6.out,HE.out,HBA.out,HNF.out,HBW6.out⟩
       ·have hx:=ok_x HIOK.out (by rw [← HOP.out];rfl)
        obtain ⟨x,hxe⟩:=Int.eq_ofNat_of_zero_le hx.1
        have hxl:x < C.n:=by omega
        rw [hxe] at n1
        have hae:act l tx j i = .go x:=by rw [HACT.out];unfold actI;rw [← HOP.out,hxe];simp
        obtain ⟨k,hkg,hev⟩:=ev_step HEV.out HM.out (by rw [hae];intro a;exact fun h => by cases h)
        rw [show nx (act l tx) i j cp2 = ([.go x j],cp2) by unfold nx;rw [hae]] at hev
        have HE:=hid hev
        clear hae hev m0 n2 n3 n4 c0 hx hxe
        go_wp2_with fail
        go_roundg k
        case measure => omega
        case rel => exact ⟨x,j,rfl,rfl,by omega,_,_,_,_,_,HB6.out,HF6.out,HE.out,HBA.out,HNF.out,HBW6.out,⟨hxl,HOK.out.2⟩,HSL6.out⟩
end Go.Proofs.YtacaanhnlfpbhaaGreat
