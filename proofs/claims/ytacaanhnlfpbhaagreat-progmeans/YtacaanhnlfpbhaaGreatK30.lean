/- HELPERS: texts of ours put together. -/
import Derived.Test.YtacaanhnlfpbhaaGreatK29
import Derived.Test.YtacaanhnlfpbhaaGreatK12
import Derived.Test.YtacaanhnlfpbhaaGreatK13
import Derived.Test.YtacaanhnlfpbhaaGreatK11
import Derived.Test.YtacaanhnlfpbhaaGreatK10
import Derived.Test.YtacaanhnlfpbhaaGreatK05
import Derived.Test.YtacaanhnlfpbhaaGreatK08
import Derived.Test.YtacaanhnlfpbhaaGreatK07
import Derived.Test.YtacaanhnlfpbhaaGreatK01
import Derived.Deep.SlicePairs
import Derived.RowKit
import Derived.Test.YtacaanhnlfpbhaaGreatK04
import Derived.Test.YtacaanhnlfpbhaaGreatK15
import Derived.Test.YtacaanhnlfpbhaaGreatK03
import Derived.Laws.EntriesVeiled
import Derived.WalkLawsBesides
import Derived.Lib.LazyBuf
import Derived.Deep.Cut
import Derived.Laws.Rows
import Derived.Deep.MidRow
import Derived.Deep.OwnRows
import Derived.WalkKit
import Derived.Laws.BitsLemmas
import Derived.Deep.RegionHeld2
import Derived.Lib.MinMax
import Derived.Test.YtacaanhnlfpbhaaGreatK06
import Derived.BigQuiet
import Derived.Laws.StructEq
import Derived.Deep.DrawnRows
import Derived.Test.YtacaanhnlfpbhaaGreatK20
namespace Go.Proofs.YtacaanhnlfpbhaaGreat
open Go.RowKit
set_option linter.unusedVariables false
set_option linter.unusedSimpArgs false
structure Miu (n n':Int) (G:Mau):Prop where
 le:∀ a a',G.C a a' → a ≤ n ∧ a' ≤ n'
 xle:∀ m n0,G.X m n0 → m ≤ n
 yle:∀ m n0,G.Y m n0 → m ≤ n ∧ n0 ≤ n
 one:∀ a a' m m',G.C a a' → G.C m m' → (a = m ↔ a' = m')
 noC:∀ m n0 a',G.X m n0 → ¬ G.C m a'
 oneX:∀ m n0 n1,G.X m n0 → G.X m n1 → n0 = n1
 yC:∀ m n0 n',G.Y m n0 → ¬ G.C m n'
 yX:∀ m n0 n1,G.Y m n0 → ¬ G.X m n1
 oneY:∀ m n0 n1,G.Y m n0 → G.Y m n1 → n0 = n1
def Mau.free (G:Mau) (m:Int):Prop:=(∀ a',¬ G.C m a') ∧ (∀ n0,¬ G.X m n0) ∧ ∀ n0,¬ G.Y m n0
structure Gru (E E':Nat → Way) (n n':Int) (G:Mau) (n1 n1':Int) (G':Mau):Prop where
 l1:n ≤ n1
 l2:n' ≤ n1'
 c:∀ a a',G.C a a' → G'.C a a'
 x:∀ m n0,G.X m n0 → G'.X m n0
 y:∀ m n0,G.Y m n0 → G'.Y m n0
 bd:∀ m,m ≤ n → G'.Bd m = G.Bd m
 l:∀ b b',G.L b b' → G'.L b b'
 fr:∀ m,m ≤ n → G.free m → G'.free m
 new:∀ b b',G'.L b b' → G.L b b' ∨ Siu G' (E b) (E' b')
section
variable {E E':Nat → Way} {n n' n1 n1' n2 n2':Int} {G G1 G2:Mau}
theorem Gru.refl (n n':Int) (G:Mau):Gru E E' n n' G n n' G:=⟨Int.le_refl _,Int.le_refl _,fun _ _ h => h,fun _ _ h => h,fun _ _ h => h,fun _ _ => rfl,fun _ _ h => h,fun _ _ h => h,fun _ _ h => .inl h⟩
theorem Hdu.up (hc:∀ a a',G.C a a' → G1.C a a') (hx:∀ m n0,G.X m n0 → G1.X m n0) {W:Way} {h0:Int} (h:Hdu G W h0):Hdu G1 W h0:=by
 induction h with
 | once h => exact .once (hc _ _ h)
 | more hX _ ih => exact .more (hx _ _ hX) ih
 | noted _ ih => exact .noted ih
theorem siu_up (hI:Miu n n' G) (hc:∀ a a',G.C a a' → G1.C a a') (hx:∀ m n0,G.X m n0 → G1.X m n0) (hy:∀ m n0,G.Y m n0 → G1.Y m n0) (hb:∀ m,m ≤ n → G1.Bd m = G.Bd m) (hl:∀ b b',G.L b b' → G1.L b b') :
  (∀ {W W':Way},Siu G W W' → Siu G1 W W') ∧ (∀ {M:List Int} {l l':List Way},SiL G M l l' → SiL G1 M l l') ∧ ∀ {M:List Int} {d:Way} {l':List Way},SiF G M d l' → SiF G1 M d l':=by
 have key:∀ W W' (h:Siu G W W'),Siu G1 W W':=fun W W' h => by
  refine Siu.rec (motive_1:=fun W W' _ => Siu G1 W W') (motive_2:=fun M l l' _ => SiL G1 M l l') (motive_3:=fun M d l' _ => SiF G1 M d l') ?_ ?_ ?_ ?_ ?_ ?_ ?_ ?_ ?_ ?_ ?_ ?_ ?_ h
  ·exact .through
  ·intro n n' d d' hC _ ih;exact .once (hc _ _ hC) ih
  ·intro n n' l l' M hC _ hY hM ih;exact .onceA (hc _ _ hC) ih (fun m hm => hy _ _ (hY m hm)) hM
  ·intro m n0 d W' hX hb2 hh _ ih;exact .more (hx _ _ hX) ((hb _ (hI.xle _ _ hX)).trans hb2) (hh.up hc hx) ih
  ·intro c d d' _ ih;exact .noted ih
  ·intro R d d' _ ih;exact .runeOf ih
  ·intro a d d' _ ih;exact .ifHolds ih
  ·intro b b' h;exact .again (hl _ _ h)
  ·exact .nil
  ·intro d d' l l' M _ _ ih it;exact .cons ih it
  ·intro d l k' l' M N _ _ ih it;exact .flat ih it
  ·intro m l l' M _ ih;exact .alt ih
  ·intro e d l' M _ ih;exact .wrap ih
 have key2:∀ M l l' (h:SiL G M l l'),SiL G1 M l l':=fun M l l' h => by
  refine SiL.rec (motive_1:=fun W W' _ => Siu G1 W W') (motive_2:=fun M l l' _ => SiL G1 M l l') (motive_3:=fun M d l' _ => SiF G1 M d l') ?_ ?_ ?_ ?_ ?_ ?_ ?_ ?_ ?_ ?_ ?_ ?_ ?_ h
  ·exact .through
  ·intro n n' d d' hC _ ih;exact .once (hc _ _ hC) ih
  ·intro n n' l l' M hC _ hY hM ih;exact .onceA (hc _ _ hC) ih (fun m hm => hy _ _ (hY m hm)) hM
  ·intro m n0 d W' hX hb2 hh _ ih;exact .more (hx _ _ hX) ((hb _ (hI.xle _ _ hX)).trans hb2) (hh.up hc hx) ih
  ·intro c d d' _ ih;exact .noted ih
  ·intro R d d' _ ih;exact .runeOf ih
  ·intro a d d' _ ih;exact .ifHolds ih
  ·intro b b' h;exact .again (hl _ _ h)
  ·exact .nil
  ·intro d d' l l' M _ _ ih it;exact .cons ih it
  ·intro d l k' l' M N _ _ ih it;exact .flat ih it
  ·intro m l l' M _ ih;exact .alt ih
  ·intro e d l' M _ ih;exact .wrap ih
 refine ⟨fun h => key _ _ h,fun h => key2 _ _ _ h,?_⟩
 intro M d l' h
 cases h with
 | alt h => exact .alt (key2 _ _ _ h)
 | wrap h =>
  have key3:∀ M d l' (h:SiF G M d l'),SiF G1 M d l':=fun M d l' h => by
   refine SiF.rec (motive_1:=fun _ _ _ => True) (motive_2:=fun _ _ _ _ => True) (motive_3:=fun M d l' _ => SiF G1 M d l') ?_ ?_ ?_ ?_ ?_ ?_ ?_ ?_ ?_ ?_ ?_ ?_ ?_ h
   ·trivial
   ·intros;trivial
   ·intros;trivial
   ·intros;trivial
   ·intros;trivial
   ·intros;trivial
   ·intros;trivial
   ·intros;trivial
   ·trivial
   ·intros;trivial
   ·intros;trivial
   ·intro m l l' M h _;exact .alt (key2 _ _ _ h)
   ·intro e d l' M _ ih;exact .wrap ih
  exact .wrap (key3 _ _ _ h)
theorem Gru.sim (h:Gru E E' n n' G n1 n1' G1) (hI:Miu n n' G) {W W':Way} (hS:Siu G W W'):Siu G1 W W':=(siu_up hI h.c h.x h.y h.bd h.l).1 hS
theorem Gru.simL (h:Gru E E' n n' G n1 n1' G1) (hI:Miu n n' G) {M:List Int} {l l':List Way} (hS:SiL G M l l'):SiL G1 M l l':=(siu_up hI h.c h.x h.y h.bd h.l).2.1 hS
theorem Gru.trans (h:Gru E E' n n' G n1 n1' G1) (h':Gru E E' n1 n1' G1 n2 n2' G2) (hI:Miu n1 n1' G1):Gru E E' n n' G n2 n2' G2:=
 ⟨Int.le_trans h.l1 h'.l1,Int.le_trans h.l2 h'.l2,fun a a' x => h'.c _ _ (h.c _ _ x),fun a a' x => h'.x _ _ (h.x _ _ x),fun a a' x => h'.y _ _ (h.y _ _ x),fun m hm => (h'.bd m (Int.le_trans hm h.l1)).trans (h.bd m hm),fun b b' x => h'.l _ _ (h.l _ _ x),fun m hm hf => h'.fr m (Int.le_trans hm h.l1) (h.fr m hm hf),fun b b' x => by
  rcases h'.new b b' x with x | x
  ·rcases h.new b b' x with x | x
   ·exact .inl x
   ·exact .inr (h'.sim hI x)
  ·exact .inr x⟩
def Mau.pair (G:Mau) (n n':Int):Mau:={ G with C:=fun a a' => G.C a a' ∨ (a = n + 1 ∧ a' = n' + 1) }
def Mau.extra (G:Mau) (n h0:Int) (d:Way):Mau:={ G with X:=fun m n0 => G.X m n0 ∨ (m = n + 1 ∧ n0 = h0),Bd:=upd G.Bd (n + 1) d }
def Mau.loops (G:Mau) (b b':Nat):Mau:={ G with L:=fun x x' => G.L x x' ∨ (x = b ∧ x' = b') }
def Mau.stand (G:Mau) (M:List Int) (N:Int):Mau:={ G with Y:=fun m n0 => G.Y m n0 ∨ (m ∈ M ∧ n0 = N) }
theorem Miu.wide (h:Miu n n' G) (h1:n ≤ n1) (h2:n' ≤ n1'):Miu n1 n1' G:=⟨fun a a' x => by have:=h.le a a' x;omega,fun m n0 x => by have:=h.xle m n0 x;omega,fun m n0 x => by have:=h.yle m n0 x;omega,h.one,h.noC,h.oneX,h.yC,h.yX,h.oneY⟩
theorem Gru.wide (n n':Int) (G:Mau) (h1:n ≤ n1) (h2:n' ≤ n1'):Gru E E' n n' G n1 n1' G:=⟨h1,h2,fun _ _ h => h,fun _ _ h => h,fun _ _ h => h,fun _ _ => rfl,fun _ _ h => h,fun _ _ h => h,fun _ _ h => .inl h⟩
theorem Miu.new (h:Miu n n' G) {m:Int} (hm:n < m):G.free m:=⟨fun a' hc => by have:=h.le _ _ hc;omega,fun n0 hx => by have:=h.xle _ _ hx;omega,fun n0 hy => by have:=h.yle _ _ hy;omega⟩
theorem Miu.pair (h:Miu n n' G):Miu (n + 1) (n' + 1) (G.pair n n'):=by
 have hnew:=h.new (m:=n + 1) (by omega)
 refine ⟨fun a a' hc => ?_,fun m n0 hx => by have:=h.xle m n0 hx;omega,fun m n0 hy => by have:=h.yle m n0 hy;omega,fun a a' m m' h1 h2 => ?_,fun m n0 a' hx hc => ?_,h.oneX,fun m n0 a' hy hc => ?_,h.yX,h.oneY⟩
 ·rcases hc with hc | hc
  ·have:=h.le a a' hc;omega
  ·omega
 ·rcases h1 with h1 | h1 <;> rcases h2 with h2 | h2
  ·exact h.one a a' m m' h1 h2
  ·have:=h.le a a' h1;omega
  ·have:=h.le m m' h2;omega
  ·omega
 ·rcases hc with hc | ⟨rfl,_⟩
  ·exact h.noC m n0 a' hx hc
  ·exact hnew.2.1 _ hx
 ·rcases hc with hc | ⟨rfl,_⟩
  ·exact h.yC m n0 a' hy hc
  ·exact hnew.2.2 _ hy
theorem Miu.extra (h:Miu n n' G) (h0:Int) (d:Way):Miu (n + 1) n' (G.extra n h0 d):=by
 have hnew:=h.new (m:=n + 1) (by omega)
 refine ⟨fun a a' hc => by have:=h.le a a' hc;omega,fun m n0 hx => ?_,fun m n0 hy => by have:=h.yle m n0 hy;omega,h.one,fun m n0 a' hx hc => ?_,fun m n0 n1 h1 h2 => ?_,h.yC,fun m n0 n1 hy hx => ?_,h.oneY⟩
 ·rcases hx with hx | hx
  ·have:=h.xle m n0 hx;omega
  ·omega
 ·rcases hx with hx | ⟨rfl,_⟩
  ·exact h.noC m n0 a' hx hc
  ·exact hnew.1 _ hc
 ·rcases h1 with h1 | h1 <;> rcases h2 with h2 | h2
  ·exact h.oneX m n0 n1 h1 h2
  ·have:=h.xle m n0 h1;omega
  ·have:=h.xle m n1 h2;omega
  ·omega
 ·rcases hx with hx | ⟨rfl,_⟩
  ·exact h.yX m n0 n1 hy hx
  ·exact hnew.2.2 _ hy
theorem Miu.loops (h:Miu n n' G) (b b':Nat):Miu n n' (G.loops b b'):=⟨h.le,h.xle,h.yle,h.one,h.noC,h.oneX,h.yC,h.yX,h.oneY⟩
theorem Miu.stand (h:Miu n n' G) {M:List Int} {N:Int} (hM:∀ m ∈ M,m ≤ n ∧ G.free m) (hN:N ≤ n):Miu n n' (G.stand M N):=by
 refine ⟨h.le,h.xle,fun m n0 hy => ?_,h.one,h.noC,h.oneX,fun m n0 a' hy hc => ?_,fun m n0 n1 hy hx => ?_,fun m n0 n1 h1 h2 => ?_⟩
 ·rcases hy with hy | ⟨hm,rfl⟩
  ·exact h.yle m n0 hy
  ·exact ⟨(hM m hm).1,hN⟩
 ·rcases hy with hy | ⟨hm,_⟩
  ·exact h.yC m n0 a' hy hc
  ·exact (hM m hm).2.1 _ hc
 ·rcases hy with hy | ⟨hm,_⟩
  ·exact h.yX m n0 n1 hy hx
  ·exact (hM m hm).2.2.1 _ hx
 ·rcases h1 with h1 | ⟨hm,rfl⟩ <;> rcases h2 with h2 | ⟨hm2,rfl⟩
  ·exact h.oneY m n0 n1 h1 h2
  ·exact absurd h1 ((hM m hm2).2.2.2 _)
  ·exact absurd h2 ((hM m hm).2.2.2 _)
  ·rfl
theorem Gru.pair (h:Miu n n' G):Gru E E' n n' G (n + 1) (n' + 1) (G.pair n n'):=⟨by omega,by omega,fun _ _ h => .inl h,fun _ _ h => h,fun _ _ h => h,fun _ _ => rfl,fun _ _ h => h,fun m hm hf => ⟨fun a' hc => by rcases hc with hc | hc;exact hf.1 _ hc;omega,hf.2⟩,fun _ _ h => .inl h⟩
theorem Gru.extra (n n':Int) (G:Mau) (h0:Int) (d:Way):Gru E E' n n' G (n + 1) n' (G.extra n h0 d):=
 ⟨by omega,by omega,fun _ _ h => h,fun _ _ h => .inl h,fun _ _ h => h,fun m hm => by show upd G.Bd (n + 1) d m = _;simp only [upd];rw [if_neg (by omega)],fun _ _ h => h,fun m hm hf => ⟨hf.1,fun n0 hx => by rcases hx with hx | hx;exact hf.2.1 _ hx;omega,hf.2.2⟩,fun _ _ h => .inl h⟩
def SMu (E E':Nat → Way) (n:Int) (B:Way) (n1:Int) (W:Way) (n':Int) (B':Way) (n1':Int) (W':Way):Prop:=
 ∀ G,Miu n n' G → Siu G B B' → (∃ h,Hdu G B h) → ∃ G',Miu n1 n1' G' ∧ Gru E E' n n' G n1 n1' G' ∧ Siu G' W W' ∧ ∃ h,Hdu G' W h
theorem SMu.self (n n':Int) (B B':Way):SMu E E' n B n B n' B' n' B':=fun G hI hS hH => ⟨G,hI,.refl _ _ _,hS,hH⟩
theorem SMu.seq {B W V B' W' V':Way} (h:SMu E E' n B n1 W n' B' n1' W') (h':SMu E E' n1 W n2 V n1' W' n2' V'):SMu E E' n B n2 V n' B' n2' V':=fun G hI hS hH => by
 obtain ⟨G1,i1,g1,s1,d1⟩:=h G hI hS hH
 obtain ⟨G2,i2,g2,s2,d2⟩:=h' G1 i1 s1 d1
 exact ⟨G2,i2,g1.trans g2 i1,s2,d2⟩
theorem SMu.pair {B W B' W':Way} (h:∀ G,Miu n n' G → Siu G B B' → (∃ h,Hdu G B h) → ∃ G',Miu n1 n1' G' ∧ Gru E E' n n' G n1 n1' G' ∧ Siu G' W W'):SMu E E' n B (n1 + 1) (.once (n1 + 1) W) n' B' (n1' + 1) (.once (n1' + 1) W'):=fun G hI hS hH => by
 obtain ⟨G1,i1,g1,s1⟩:=h G hI hS hH
 have g2:=Gru.pair (E:=E) (E':=E') i1
 exact ⟨_,i1.pair,g1.trans g2 i1,.once (.inr ⟨rfl,rfl⟩) (g2.sim i1 s1),_,.once (.inr ⟨rfl,rfl⟩)⟩
theorem SMu.alts {B B':Way} {Ws Ws':List Way} (h:∀ G,Miu n n' G → Siu G B B' → (∃ h,Hdu G B h) → ∃ G' M,Miu n1 n1' G' ∧ Gru E E' n n' G n1 n1' G' ∧ SiL G' M Ws Ws' ∧ M.Nodup ∧ ∀ m ∈ M,n < m ∧ m ≤ n1 ∧ G'.free m):SMu E E' n B (n1 + 1) (.once (n1 + 1) (.inOrder Ws)) n' B' (n1' + 1) (.once (n1' + 1) (.inOrder Ws')):=fun G hI hS hH => by
 obtain ⟨G1,M,i1,g1,s1,hM,hf⟩:=h G hI hS hH
 have g2:=Gru.pair (E:=E) (E':=E') i1
 have i2:=i1.pair
 have hf2:∀ m ∈ M,m ≤ n1 + 1 ∧ (G1.pair n1 n1').free m:=fun m hm => ⟨by have:=(hf m hm).2.1;omega,g2.fr m (hf m hm).2.1 (hf m hm).2.2⟩
 have i3:=i2.stand hf2 (Int.le_refl (n1 + 1))
 have g3:Gru E E' n n' G (n1 + 1) (n1' + 1) ((G1.pair n1 n1').stand M (n1 + 1)):=by
  have g:=g1.trans g2 i1
  refine ⟨g.l1,g.l2,g.c,g.x,fun m n0 hy => .inl (g.y _ _ hy),g.bd,g.l,fun m hm hfm => ?_,fun b b' hb => ?_⟩
  ·have h4:=g.fr m hm hfm
   refine ⟨h4.1,h4.2.1,fun n0 hy => ?_⟩
   rcases hy with hy | ⟨hm2,_⟩
   ·exact h4.2.2 _ hy
   ·have:=(hf m hm2).1;omega
  ·rcases g.new b b' hb with h | h
   ·exact .inl h
   ·exact .inr ((siu_up (G1:=(G1.pair n1 n1').stand M (n1 + 1)) i2 (fun _ _ h => h) (fun _ _ h => h) (fun _ _ h => .inl h) (fun _ _ => rfl) (fun _ _ h => h)).1 h)
 refine ⟨_,i3,g3,.onceA (M:=M) (.inr ⟨rfl,rfl⟩) ?_ (fun m hm => .inr ⟨hm,rfl⟩) hM,_,.once (.inr ⟨rfl,rfl⟩)⟩
 exact (siu_up (G1:=(G1.pair n1 n1').stand M (n1 + 1)) i2 (fun _ _ h => h) (fun _ _ h => h) (fun _ _ h => .inl h) (fun _ _ => rfl) (fun _ _ h => h)).2.1 (g2.simL i1 s1)
theorem SMu.extra {B W B' W':Way} (h:SMu E E' n B n1 W n' B' n1' W'):SMu E E' n B (n1 + 1) (.once (n1 + 1) W) n' B' n1' W':=fun G hI hS hH => by
 obtain ⟨G1,i1,g1,s1,h0,d1⟩:=h G hI hS hH
 have g2:=Gru.extra (E:=E) (E':=E') n1 n1' G1 h0 W
 have d2:Hdu (G1.extra n1 h0 W) W h0:=d1.up g2.c g2.x
 exact ⟨_,i1.extra h0 W,g1.trans g2 i1,.more (.inr ⟨rfl,rfl⟩) (by show upd G1.Bd (n1 + 1) W (n1 + 1) = W;simp [upd]) d2 (g2.sim i1 s1),h0,.more (.inr ⟨rfl,rfl⟩) d2⟩
theorem SMu.round {b b':Nat} {B B':Way} {lz:Bool} (h:SMu E E' (n + 1) (Dcd lz n b B) n2 (E b) (n' + 1) (Dcd lz n' b' B') n2' (E' b')) (G:Mau) (hI:Miu n n' G) (hS:Siu G B B') :
  ∃ G',Miu n2 n2' G' ∧ Gru E E' n n' G n2 n2' G' ∧ Siu G' (E b) (E' b') ∧ Siu G' (Dcd lz n b B) (Dcd lz n' b' B') ∧ (∃ h,Hdu G' (E b) h) ∧ ∃ h,Hdu G' (Dcd lz n b B) h:=by
 obtain ⟨G0,hG0⟩:∃ G0,G0 = (G.loops b b').pair n n':=⟨_,rfl⟩
 have hI0:Miu (n + 1) (n' + 1) G0:=by rw [hG0];exact (hI.loops b b').pair
 have hC:G0.C (n + 1) (n' + 1):=by rw [hG0];exact .inr ⟨rfl,rfl⟩
 have hL:G0.L b b':=by rw [hG0];exact .inr ⟨rfl,rfl⟩
 have hB:Siu G0 B B':=by rw [hG0];exact (siu_up (G1:=(G.loops b b').pair n n') hI (fun _ _ h => Or.inl h) (fun _ _ h => h) (fun _ _ h => h) (fun _ _ => rfl) (fun _ _ h => Or.inl h)).1 hS
 have hD:Siu G0 (Dcd lz n b B) (Dcd lz n' b' B'):=by
  refine .onceA (M:=[]) hC ?_ (fun m hm => by cases hm) List.nodup_nil
  cases lz
  ·exact .cons (.again hL) (.cons hB .nil)
  ·exact .cons hB (.cons (.again hL) .nil)
 obtain ⟨G1,i1,g1,s1,d1⟩:=h G0 hI0 hD ⟨_,.once hC⟩
 refine ⟨G1,i1,⟨by have:=g1.l1;omega,by have:=g1.l2;omega,fun a a' x => g1.c _ _ (by rw [hG0];exact .inl x),fun m n0 x => g1.x _ _ (by rw [hG0];exact x),fun m n0 x => g1.y _ _ (by rw [hG0];exact x),fun m hm => (g1.bd m (by omega)).trans (by rw [hG0];rfl),fun x x' hx => g1.l _ _ (by rw [hG0];exact .inl hx),fun m hm hf => g1.fr m (by omega) ?_,fun x x' hx => ?_⟩,s1,g1.sim hI0 hD,d1,_,.once (g1.c _ _ hC)⟩
 ·rw [hG0]
  exact ⟨fun a' hc => by rcases hc with hc | hc;exact hf.1 _ hc;omega,hf.2⟩
 ·rcases g1.new x x' hx with hx | hx
  ·rw [hG0] at hx
   rcases hx with hx | ⟨rfl,rfl⟩
   ·exact .inl hx
   ·exact .inr s1
  ·exact .inr hx
theorem SMu.two {B W B' W':Way} {lz:Bool} (h:SMu E E' n B n1 W n' B' n1' W'):SMu E E' n B (n1 + 1) (.once (n1 + 1) (.inOrder (if lz = true then [B,W] else [W,B]))) n' B' (n1' + 1) (.once (n1' + 1) (.inOrder (if lz = true then [B',W'] else [W',B']))):=
 SMu.alts fun G hI hS hH => by
  obtain ⟨G1,i1,g1,s1,_⟩:=h G hI hS hH
  have hB:=g1.sim hI hS
  refine ⟨G1,[],i1,g1,?_,List.nodup_nil,fun m hm => by cases hm⟩
  cases lz
  ·exact .cons s1 (.cons hB .nil)
  ·exact .cons hB (.cons s1 .nil)
end
inductive Nf:Tn → Prop
 | leaf {k:Int} {R:List (Int × Int)} {a mn mx:Int} {lz:Bool} {ix:Int} {nm:ByteArray} (hk:k = 1 ∨ k = 2 ∨ k = 3) (hn:nodeB k R a 0 mn mx lz ix nm = true):Nf (.mk k R a [] mn mx lz ix nm)
 | cat {s:List Tn} (h2:2 ≤ s.length) (h:∀ u ∈ s,u.kind ≠ 1 ∧ u.kind ≠ 4) (hs:∀ u ∈ s,Nf u):Nf (zN 4 s)
 | alt {s:List Tn} (h2:2 ≤ s.length) (h:∀ u ∈ s,u.kind ≠ 5) (hs:∀ u ∈ s,Nf u):Nf (zN 5 s)
 | loop {mn mx:Int} {lz:Bool} {y:Tn} (h:(mn = 0 ∧ mx = 1) ∨ (mn = 0 ∧ mx = -1) ∨ (mn = 1 ∧ mx = -1)) (hy:Nf y):Nf (loopT mn mx lz y)
 | grp {ix:Int} {nm:ByteArray} {y:Tn} (hn:nodeB 7 [] 0 1 0 0 false ix nm = true) (hy:Nf y):Nf (.mk 7 [] 0 [y] 0 0 false ix nm)
theorem empty_nil:(⟨#[]⟩:ByteArray).toList.isEmpty = true:=by decide +kernel
theorem nf_empty:Nf emptyT:=.leaf (.inl rfl) (by simp [nodeB,bareB,empty_nil])
theorem fineL_of {ts:List Tn} (h:∀ t ∈ ts,t.fine = true):fineL ts = true:=by
 induction ts with
 | nil => rfl
 | cons t ts ih => simp only [fineL,Bool.and_eq_true];exact ⟨h t (by simp),ih fun u hu => h u (by simp [hu])⟩
theorem Nf.fine {t:Tn} (h:Nf t):t.fine = true:=by
 induction h with
 | leaf hk hn => simp only [Tn.fine,List.length_nil,hn,fineL,Bool.and_true]
 | cat h2 h hs ih => simp only [Tn.fine,Bool.and_eq_true];exact ⟨by simp [nodeB,bareB,empty_nil,h2],fineL_of ih⟩
 | alt h2 h hs ih => simp only [Tn.fine,Bool.and_eq_true];exact ⟨by simp [nodeB,bareB,empty_nil,h2],fineL_of ih⟩
 | loop h hy ih =>
  simp only [Tn.fine,Bool.and_eq_true]
  refine ⟨?_,by simp [fineL,ih]⟩
  rcases h with ⟨rfl,rfl⟩ | ⟨rfl,rfl⟩ | ⟨rfl,rfl⟩ <;> simp [nodeB,bareB,empty_nil]
 | grp hn hy ih => simp only [Tn.fine,Bool.and_eq_true];exact ⟨hn,by simp [fineL,ih]⟩
theorem timesOf_ones (s:List Tn):timesOf (ones s) = s.length:=by
 induction s with
 | nil => rfl
 | cons u s ih =>
  have:ones (u :: s) = (u,1) :: ones s:=rfl
  rw [this,timesOf,ih,List.length_cons];omega
theorem nf_within {k:Int} (hk:k = 4 ∨ k = 5) {t:Tn} (h:Nf t):1 ≤ (within k t).length ∧ ∀ u ∈ within k t,Nf u ∧ u.kind ≠ k ∧ (k = 4 → t.kind ≠ 1 → u.kind ≠ 1):=by
 unfold within
 split
 ·rename_i hkk
  cases h with
  | leaf h1 hn => simp only [Tn.kind] at hkk;omega
  | cat h2 h' hs =>
   simp only [Tn.kind] at hkk
   subst hkk
   exact ⟨by simp only [Tn.subs];omega,fun u hu => ⟨hs u hu,(h' u hu).2,fun _ _ => (h' u hu).1⟩⟩
  | alt h2 h' hs =>
   simp only [Tn.kind] at hkk
   subst hkk
   exact ⟨by simp only [Tn.subs];omega,fun u hu => ⟨hs u hu,h' u hu,fun e => by omega⟩⟩
  | loop h' hy => simp only [Tn.kind] at hkk;omega
  | grp hn hy => simp only [Tn.kind] at hkk;omega
 ·rename_i hkk
  refine ⟨by simp,fun u hu => ?_⟩
  simp at hu
  subst hu
  exact ⟨h,hkk,fun _ h1 => h1⟩
theorem rowS_mem {k:Int} {l:List (Tn × Nat)} {u:Tn} (h:u ∈ rowS k l):∃ x ∈ l,u ∈ within k x.1:=by
 simp only [rowS,List.mem_flatMap,List.mem_flatten,List.mem_replicate] at h
 obtain ⟨x,hx,y,⟨_,rfl⟩,hy⟩:=h
 exact ⟨x,hx,hy⟩
theorem rowS_len {k:Int} {l:List (Tn × Nat)} (h:∀ x ∈ l,1 ≤ (within k x.1).length):timesOf l ≤ (rowS k l).length:=by
 induction l with
 | nil => simp [timesOf]
 | cons x l ih =>
  rw [rowS_cons,List.length_append,timesOf]
  have h1:=h x (by simp)
  have h2:=ih fun y hy => h y (by simp [hy])
  have h3:x.2 ≤ (List.replicate x.2 (within k x.1)).flatten.length:=by simp;exact Nat.le_mul_of_pos_right _ h1
  omega
theorem nf_join {l:List (Tn × Nat)} (h:∀ x ∈ l,Nf x.1):Nf (joinT l):=by
 unfold joinT joinK
 have hf:∀ x ∈ l.filter keep,Nf x.1 ∧ x.1.kind ≠ 1:=fun x hx => by
  rw [List.mem_filter] at hx
  refine ⟨h x hx.1,?_⟩
  have:=hx.2
  simp only [keep,Bool.and_eq_true,Bool.not_eq_true',beq_eq_false_iff_ne] at this
  exact this.2
 split
 ·exact nf_empty
 ·split
  ·cases hl:l.filter keep with
   | nil => exact nf_empty
   | cons x l' => exact (hf x (by rw [hl];simp)).1
  ·rename_i h0 h1
   have hlen:=rowS_len (k:=4) (l:=l.filter keep) fun x hx => (nf_within (.inl rfl) (hf x hx).1).1
   refine .cat (by omega) (fun u hu => ?_) (fun u hu => ?_)
   ·obtain ⟨x,hx,hux⟩:=rowS_mem hu
    have:=(nf_within (.inl rfl) (hf x hx).1).2 u hux
    exact ⟨this.2.2 rfl (hf x hx).2,this.2.1⟩
   ·obtain ⟨x,hx,hux⟩:=rowS_mem hu
    exact ((nf_within (.inl rfl) (hf x hx).1).2 u hux).1
theorem nf_opt {y:Tn} (lz:Bool) (hy:Nf y):∀ n,Nf (optT y lz n)
 | 0 => nf_empty
 | 1 => .loop (.inl ⟨rfl,rfl⟩) hy
 | n + 2 => by
  rw [optT_step]
  refine .loop (.inl ⟨rfl,rfl⟩) (nf_join fun x hx => ?_)
  simp at hx
  rcases hx with rfl | rfl
  ·exact hy
  ·exact nf_opt lz hy (n + 1)
theorem nf_rep {y:Tn} (mn mx:Int) (lz:Bool) (hy:Nf y):Nf (repT y mn mx lz):=by
 unfold repT
 split
 ·refine nf_join fun x hx => ?_
  simp at hx
  rcases hx with rfl | rfl
  ·exact hy
  ·exact nf_opt lz hy _
 ·split
  ·exact .loop (.inr (.inl ⟨rfl,rfl⟩)) hy
  ·refine nf_join fun x hx => ?_
   simp at hx
   rcases hx with rfl | rfl
   ·exact hy
   ·exact .loop (.inr (.inr ⟨rfl,rfl⟩)) hy
mutual
theorem nf_S:∀ t:Tn,t.fine = true → Nf t.S
 | .mk k R a s mn mx lz ix nm,h => by
  simp only [Tn.fine,Bool.and_eq_true] at h
  have ih:=nf_SL s h.2
  have hfk:=fine_kind h.1
  have hhead:Nf ((SL s).headD emptyT):=by
   cases hs:SL s with
   | nil => exact nf_empty
   | cons u l => exact ih u (by rw [hs];simp)
  simp only [Tn.S]
  split
  ·exact nf_join fun x hx => by obtain ⟨u,hu,rfl⟩:=List.mem_map.1 hx;exact ih u hu
  ·split
   ·rename_i h4 h5
    have hl2:2 ≤ s.length:=by omega
    have hw:∀ x ∈ ones (SL s),Nf x.1:=fun x hx => by obtain ⟨u,hu,rfl⟩:=List.mem_map.1 hx;exact ih u hu
    have hlen:=rowS_len (k:=5) (l:=ones (SL s)) fun x hx => (nf_within (.inr rfl) (hw x hx)).1
    rw [timesOf_ones,SL_len] at hlen
    refine .alt (by omega) (fun u hu => ?_) (fun u hu => ?_)
    ·obtain ⟨x,hx,hux⟩:=rowS_mem hu
     exact ((nf_within (.inr rfl) (hw x hx)).2 u hux).2.1
    ·obtain ⟨x,hx,hux⟩:=rowS_mem hu
     exact ((nf_within (.inr rfl) (hw x hx)).2 u hux).1
   ·split
    ·exact nf_rep mn mx lz hhead
    ·split
     ·rename_i h7
      subst h7
      refine .grp ?_ hhead
      have hn:=h.1
      simp [nodeB,bareB] at hn ⊢
      exact ⟨⟨hn.1.1.1.2,hn.1.1.2⟩,hn.1.2⟩
     ·have hk3:k = 1 ∨ k = 2 ∨ k = 3:=by omega
      have hz:s.length = 0:=by omega
      rw [hz] at h
      exact .leaf hk3 h.1
theorem nf_SL:∀ ts:List Tn,fineL ts = true → ∀ u ∈ SL ts,Nf u
 | [],_ => fun u hu => by simp [SL] at hu
 | t :: ts,h => fun u hu => by
  simp only [fineL,Bool.and_eq_true] at h
  simp only [SL,List.mem_cons] at hu
  rcases hu with rfl | hu
  ·exact nf_S t h.1
  ·exact nf_SL ts h.2 u hu
end
structure S4 where
 k:Int
 n:Nat
 s:Nat
 d:Nat
structure R7 where
 s:Nat
 n:Nat
 d:Nat
 l:S4
abbrev r0:R7:=⟨0,0,0,⟨0,0,0,0⟩⟩
theorem nf_subs {t:Tn} (h:Nf t) (hk:t.kind = 4 ∨ t.kind = 5):2 ≤ t.subs.length:=by
 cases h with
 | leaf h1 hn => simp only [Tn.kind] at hk;omega
 | cat h2 h' hs => exact h2
 | alt h2 h' hs => exact h2
 | loop h' hy => simp only [Tn.kind] at hk;omega
 | grp hn hy => simp only [Tn.kind] at hk;omega
theorem joinT_us {l:List (Tn × Nat)} (hl:∀ x ∈ l,Nf x.1):joinT l = (match rowS 4 (l.filter keep) with | [] => emptyT | [u] => u | us => zN 4 us):=by
 have hf:∀ x ∈ l.filter keep,Nf x.1 ∧ 0 < x.2:=fun x hx => by
  rw [List.mem_filter] at hx
  refine ⟨hl x hx.1,?_⟩
  have:=hx.2
  simp only [keep,Bool.and_eq_true,decide_eq_true_eq] at this
  exact this.1
 have hlen:=rowS_len (k:=4) (l:=l.filter keep) fun x hx => (nf_within (.inl rfl) (hf x hx).1).1
 unfold joinT joinK
 generalize l.filter keep = K at hf hlen ⊢
 by_cases h0:timesOf K = 0
 ·have:K = []:=by
   cases K with
   | nil => rfl
   | cons x K => simp only [timesOf] at h0;have:=(hf x (by simp)).2;omega
  subst this
  rw [if_pos h0]
  rfl
 ·rw [if_neg h0]
  by_cases h1:timesOf K = 1
  ·rw [if_pos h1]
   obtain ⟨x,rfl⟩:∃ x,K = [x]:=by
    cases K with
    | nil => simp [timesOf] at h1
    | cons x K =>
     cases K with
     | nil => exact ⟨x,rfl⟩
     | cons y K => simp only [timesOf] at h1;have:=(hf x (by simp)).2;have:=(hf y (by simp)).2;omega
   have hx1:x.2 = 1:=by simpa [timesOf] using h1
   have e:rowS 4 [x] = within 4 x.1:=by rw [rowS_cons,hx1];simp [rowS]
   rw [e]
   simp only [List.headD_cons]
   have hn:=(hf x (by simp)).1
   generalize x.1 = u at hn ⊢
   by_cases hk:u.kind = 4
   ·have e2:within 4 u = u.subs:=by unfold within;rw [if_pos hk]
    rw [e2]
    cases hn with
    | leaf h1 hn => simp only [Tn.kind] at hk;omega
    | @cat s h2 h' hs =>
     match s,h2 with
     | a :: b :: s,_ => rfl
    | alt h2 h' hs => simp only [Tn.kind] at hk;omega
    | loop h' hy => simp only [Tn.kind] at hk;omega
    | grp hn hy => simp only [Tn.kind] at hk;omega
   ·have e2:within 4 u = [u]:=by unfold within;rw [if_neg hk]
    rw [e2]
  ·rw [if_neg h1]
   have h2:2 ≤ (rowS 4 K).length:=by omega
   show zN 4 (rowS 4 K) = _
   match hr:rowS 4 K,h2 with
   | a :: b :: s,_ => rfl
def jn (t:Tn):List Tn:=if t.kind = 1 then [] else within 4 t
def joinU:List Tn → Tn
 | [] => emptyT
 | [u] => u
 | a :: b :: s => zN 4 (a :: b :: s)
theorem rowS_keep (l:List (Tn × Nat)):rowS 4 (l.filter keep) = l.flatMap fun x => (List.replicate x.2 (jn x.1)).flatten:=by
 induction l with
 | nil => rfl
 | cons x l ih =>
  rw [List.filter_cons,List.flatMap_cons,← ih]
  by_cases h1:x.1.kind = 1
  ·have hk:keep x = false:=by simp [keep,h1]
   simp [hk,jn,h1]
  ·by_cases h0:x.2 = 0
   ·have hk:keep x = false:=by simp [keep,h0]
    simp [hk,h0]
   ·have hk:keep x = true:=by simp [keep,h1];omega
    rw [if_pos hk,rowS_cons]
    simp [jn,h1]
theorem rowS_keep_ones (l:List Tn):rowS 4 ((ones l).filter keep) = l.flatMap jn:=by
 rw [rowS_keep]
 simp [ones,List.flatMap_map]
theorem joinT_U {l:List (Tn × Nat)} (hl:∀ x ∈ l,Nf x.1):joinT l = joinU (rowS 4 (l.filter keep)):=by
 rw [joinT_us hl]
 generalize rowS 4 (l.filter keep) = us
 match us with
 | [] => rfl
 | [u] => rfl
 | a :: b :: s => rfl
theorem joinT_jn {l:List Tn} (h:∀ x ∈ l,Nf x):joinT (ones l) = joinU (l.flatMap jn):=by
 rw [joinT_U (fun x hx => by obtain ⟨u,hu,rfl⟩:=List.mem_map.1 hx;exact h u hu),rowS_keep_ones]
theorem joinT_runs {y o:Tn} (n:Nat) (hy:Nf y) (ho:Nf o):joinT (ones (List.replicate n y ++ [o])) = joinT [(y,n),(o,1)]:=by
 rw [joinT_jn fun x hx => by
  rw [List.mem_append,List.mem_replicate] at hx
  rcases hx with h | h
  ·rw [h.2];exact hy
  ·rw [List.mem_singleton] at h;rw [h];exact ho]
 rw [joinT_U fun x hx => by
  simp at hx
  rcases hx with rfl | rfl
  ·exact hy
  ·exact ho]
 rw [rowS_keep]
 congr 1
 simp [List.flatMap_append,List.flatMap_replicate]
mutual
def Way.nt (K:Nat) (A:Nat → Prop):Way → Prop
 | .through => True
 | .once _ d => d.nt K A
 | .noted c d => c < K ∧ d.nt K A
 | .runeOf _ d => d.nt K A
 | .ifHolds _ d => d.nt K A
 | .inOrder l => ntL K A l
 | .again b => A b
def ntL (K:Nat) (A:Nat → Prop):List Way → Prop
 | [] => True
 | d :: l => d.nt K A ∧ ntL K A l
end
theorem ntL_get {K:Nat} {A:Nat → Prop}:∀ {l:List Way},ntL K A l → ∀ (i:Nat) (hi:i < l.length),(l[i]'hi).nt K A:=by
 intro l
 induction l with
 | nil => intro _ i hi;simp at hi
 | cons e l ih =>
  intro h i hi
  simp only [ntL] at h
  cases i with
  | zero => exact h.1
  | succ i => exact ih h.2 i (by simpa using hi)
def Bare (K:Nat) (ν:List Int):Prop:=∀ k,K ≤ k → ν.getD k (-1) = -1
theorem Bare.set {K : Nat} {ν : List Int} (h : Bare K ν) {c : Nat} (hc : c < K) (x : Int) : Bare K (ν.set c x) := fun k hk => by
  have e := h k hk
  simp only [List.getD_eq_getElem?_getD] at e ⊢
  rw [List.getElem?_set_ne (by omega)]
  exact e
theorem ex_bare {tx:List Int} {E:Nat → Way} {A:Nat → Prop} {K:Nat} (hE:∀ b,A b → (E b).nt K A) (hK:2 ≤ K) {W:Way} {p:Nat} {s s':Sg} (h:Ex tx E W p s s'):W.nt K A → Bare K s.notes → (∀ e ∈ s.parses,Bare K e.2) → ∀ e ∈ s'.parses,Bare K e.2:=by
 induction h with
 | through p s =>
  intro _ hM hP e he
  simp only [List.mem_append,List.mem_singleton] at he
  rcases he with he | rfl
  ·exact hP e he
  ·exact hM.set (by omega) _
 | skip h => intro _ _ hP;exact hP
 | once h hd ih => intro hO hM hP;simp only [Way.nt] at hO;exact ih hO hM hP
 | noted hd ih =>
  intro hO hM hP
  simp only [Way.nt] at hO
  exact ih hO.2 (hM.set hO.1 _) hP
 | over h => intro _ _ hP;exact hP
 | other h hr => intro _ _ hP;exact hP
 | rune h hr hd ih => intro hO hM hP;simp only [Way.nt] at hO;exact ih hO hM hP
 | fails h => intro _ _ hP;exact hP
 | holds h hd ih => intro hO hM hP;simp only [Way.nt] at hO;exact ih hO hM hP
 | @inOrder l p ss h ih =>
  intro hO hM hP
  simp only [Way.nt] at hO
  have key:∀ i,i ≤ l.length → (ss i).notes = (ss 0).notes ∧ ∀ e ∈ (ss i).parses,Bare K e.2:=by
   intro i
   induction i with
   | zero => intro _;exact ⟨rfl,hP⟩
   | succ i ihi =>
    intro hi
    obtain ⟨a,b⟩:=ihi (by omega)
    exact ⟨(h i (by omega)).notes.trans a,ih i (by omega) (ntL_get hO i (by omega)) (by rw [a];exact hM) b⟩
  exact (key _ (Nat.le_refl _)).2
 | again h ih => intro hO hM hP;simp only [Way.nt] at hO;exact ih (hE _ hO) hM hP
mutual
def Tn.eff (K:Nat):Tn → Prop
 | .mk k R a s mn mx lz ix nm => (k = 7 → 2 * ix + 1 < (K:Int)) ∧ (¬ (k = 6 ∧ mx = 0) → effL K s)
def effL (K:Nat):List Tn → Prop
 | [] => True
 | t :: ts => t.eff K ∧ effL K ts
end
section
variable {E:Nat → Way} {K:Nat}
end
theorem giL_le {G:Int}:∀ (ts:List Tn) (m:Int),giL ts m ≤ G ↔ m ≤ G ∧ ∀ t ∈ ts,t.gi ≤ G:=by
 intro ts
 induction ts with
 | nil => intro m;simp [giL]
 | cons t ts ih =>
  intro m
  simp only [giL,ih,List.mem_cons]
  constructor
  ·rintro ⟨h1,h2⟩
   refine ⟨by omega,fun u hu => ?_⟩
   rcases hu with rfl | hu
   ·omega
   ·exact h2 u hu
  ·rintro ⟨h1,h2⟩
   have:=h2 t (.inl rfl)
   exact ⟨by omega,fun u hu => h2 u (.inr hu)⟩
theorem gi_loopN {x:Tn} {mn mx:Int} {lz:Bool} {G:Int}:(loopN x mn mx lz).gi ≤ G ↔ 0 ≤ G ∧ x.gi ≤ G:=by
 simp only [loopN,Tn.gi,giL_le]
 simp
theorem gi_rowN {l:List Tn} {G:Int} (hG:0 ≤ G):(rowN l).gi ≤ G ↔ ∀ x ∈ l,x.gi ≤ G:=by
 match l with
 | [] => simp [rowN,Tn.gi,giL,hG]
 | [x] => simp [rowN]
 | x :: y :: l => simp only [rowN,Tn.gi,giL_le,hG,true_and]
theorem gi_optN {x:Tn} {lz:Bool} {G:Int} (hG:0 ≤ G):∀ k,(optN x lz k).gi ≤ G ↔ x.gi ≤ G:=by
 intro k
 induction k with
 | zero => simp only [optN,gi_loopN,hG,true_and]
 | succ k ih =>
  simp only [optN,gi_loopN,hG,true_and,gi_rowN hG]
  simp [ih]
theorem gi_sprN {x:Tn} {mn mx:Int} {lz:Bool} {G:Int} (hG:0 ≤ G) (h0:0 ≤ mn) (hx:mx = -1 ∨ mn ≤ mx):(x.gi ≤ G → (sprN x mn mx lz).gi ≤ G) ∧ (mx ≠ 0 → (sprN x mn mx lz).gi ≤ G → x.gi ≤ G):=by
 unfold sprN
 by_cases c0:mx < 0
 ·rw [if_pos c0]
  by_cases c1:mn < 2
  ·rw [if_pos c1]
   simp only [gi_loopN,hG,true_and]
   exact ⟨fun h => h,fun _ h => h⟩
  ·rw [if_neg c1]
   simp only [gi_rowN hG,List.mem_append,List.mem_singleton,List.mem_replicate]
   refine ⟨fun h y hy => ?_,fun _ h => ?_⟩
   ·rcases hy with ⟨_,rfl⟩ | rfl
    ·exact h
    ·exact gi_loopN.2 ⟨hG,h⟩
   ·exact (gi_loopN.1 (h _ (.inr rfl))).2
 ·rw [if_neg c0]
  simp only [gi_rowN hG,List.mem_append,List.mem_replicate]
  refine ⟨fun h y hy => ?_,fun hne h => ?_⟩
  ·rcases hy with ⟨_,rfl⟩ | hy
   ·exact h
   ·split at hy
    ·simp only [List.mem_singleton] at hy
     subst hy
     exact (gi_optN hG _).2 h
    ·cases hy
  ·by_cases c2:mn < mx
   ·rw [if_pos c2] at h
    exact (gi_optN hG _).1 (h _ (.inr (List.mem_singleton.2 rfl)))
   ·exact h x (.inl ⟨by omega,rfl⟩)
mutual
theorem spread_gi:∀ (t:Tn),t.fine = true → ∀ (G:Int),0 ≤ G → (t.gi ≤ G → t.spread.gi ≤ G) ∧ (t.spread.gi ≤ G → t.eff (2 * G + 2).toNat)
 | .mk k R a s mn mx lz ix nm,hf,G,hG => by
  simp only [Tn.fine,Bool.and_eq_true] at hf
  have FN:=fine_nodeZ hf.1
  obtain ⟨i1,i2⟩:=spreadL_gi s hf.2 G hG
  by_cases h6:k = 6
  ·subst h6
   obtain ⟨q1,q2,q3,q4⟩:=FN.rep rfl
   match s,q1,i1,i2 with
   | [x],_,i1,i2 =>
   simp only [spreadL,List.mem_singleton,forall_eq] at i1 i2
   have e:(Tn.mk 6 R a [x] mn mx lz ix nm).spread = sprN x.spread mn mx lz:=by simp [Tn.spread,spreadL]
   rw [e]
   obtain ⟨j1,j2⟩:=gi_sprN (x:=x.spread) (lz:=lz) hG q2 (by omega:mx = -1 ∨ mn ≤ mx)
   refine ⟨fun h => ?_,fun h => ?_⟩
   ·simp only [Tn.gi,giL_le] at h
    exact j1 (i1 (h.2 x (by simp)))
   ·simp only [Tn.eff]
    exact ⟨fun h => by omega,fun hn => i2 (j2 (fun h0 => hn (by simp [h0])) h)⟩
  ·have e:(Tn.mk k R a s mn mx lz ix nm).spread = .mk k R a (spreadL s) mn mx lz ix nm:=by simp [Tn.spread,h6]
   rw [e]
   simp only [Tn.gi,giL_le,Tn.eff]
   exact ⟨fun h => ⟨h.1,i1 h.2⟩,fun h => ⟨fun h7 => by have:=(FN.grp h7).2;omega,fun _ => i2 h.2⟩⟩
theorem spreadL_gi:∀ (ts:List Tn),fineL ts = true → ∀ (G:Int),0 ≤ G → ((∀ t ∈ ts,t.gi ≤ G) → ∀ t ∈ spreadL ts,t.gi ≤ G) ∧ ((∀ t ∈ spreadL ts,t.gi ≤ G) → effL (2 * G + 2).toNat ts)
 | [],_,G,_ => by simp [spreadL,effL]
 | t :: ts,hf,G,hG => by
  simp only [fineL,Bool.and_eq_true] at hf
  obtain ⟨a1,a2⟩:=spread_gi t hf.1 G hG
  obtain ⟨b1,b2⟩:=spreadL_gi ts hf.2 G hG
  simp only [spreadL,List.mem_cons,forall_eq_or_imp,effL]
  exact ⟨fun h => ⟨a1 h.1,b1 h.2⟩,fun h => ⟨a2 h.1,b2 h.2⟩⟩
end
end Go.Proofs.YtacaanhnlfpbhaaGreat
