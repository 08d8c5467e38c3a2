/- Texts of one proof. -/
import Derived.Test.YtoclafdidjpndaaGreatDoorMx37
set_option maxRecDepth 100000
set_option maxHeartbeats 8000000
namespace Go.Proofs.YtoclafdidjpndaaGreatDoor
open Go.RowKit
theorem zNP (s:ByteArray) (T:Option Addr) (n k:Nat) (a1 a2 a3 a4 a5 a6 a7 ti a8 gg g1 a9:Int) (tg:ByteArray) (ru ou cnt:Int) (l:List Dp) (ha1:0≤a1) (hgg:gg > 0) (hgw:IntKind.u64.wrap (gg - 1)=g1) (ta:ByteArray) (w:World)
  (h1:∀ W,Below w.heap.size w W→Calls Tryz.prog 67 #[.agg #[.string s,.int .i64 0,.slice T n k]] W fun e w' =>e=.returned (.tuple #[.int .u64 1,.agg #[.string s,.int .i64 a1,.slice T n k]])∧Below W.heap.size W w') (h2:∀ W,Below w.heap.size w W→Calls Tryz.prog 68 #[.agg #[.string s,.int .i64 a1,.slice T n k],.int .i64 3] W fun e w' =>e=.returned (.tuple #[.string tg,.agg #[.string s,.int .i64 a2,.slice T n k]])∧Below W.heap.size W w') (h3:∀ W,Below w.heap.size w W→Calls Tryz.prog 67 #[.agg #[.string s,.int .i64 a2,.slice T n k]] W fun e w' =>e=.returned (.tuple #[.int .u64 ru,.agg #[.string s,.int .i64 a3,.slice T n k]])∧Below W.heap.size W w') (h4:∀ W,Below w.heap.size w W→Calls Tryz.prog 67 #[.agg #[.string s,.int .i64 a3,.slice T n k]] W fun e w' =>e=.returned (.tuple #[.int .u64 cnt,.agg #[.string s,.int .i64 a4,.slice T n k]])∧Below W.heap.size W w') (h5:∀ W,Below w.heap.size w W→Calls Tryz.prog 69 #[.agg #[.string s,.int .i64 a4,.slice T n k],.int .i64 3,.int .u64 cnt] W fun e w' =>(∃ A c',e=.returned (.tuple #[.slice A l.length c',.agg #[.string s,.int .i64 a5,.slice T n k]])∧(A=none→c'=0)∧w'.ownsRow W.heap.size 73 3 (.slice A l.length c') l.length (dps l))∧Below W.heap.size W w') (h6:∀ W,Below w.heap.size w W→Calls Tryz.prog 67 #[.agg #[.string s,.int .i64 a5,.slice T n k]] W fun e w' =>e=.returned (.tuple #[.int .u64 ou,.agg #[.string s,.int .i64 a6,.slice T n k]])∧Below W.heap.size W w') (h7:∀ W,Below w.heap.size w W→Calls Tryz.prog 67 #[.agg #[.string s,.int .i64 a6,.slice T n k]] W fun e w' =>e=.returned (.tuple #[.int .u64 ti,.agg #[.string s,.int .i64 a7,.slice T n k]])∧Below W.heap.size W w') (h8:∀ W,Below w.heap.size w W→Calls Tryz.prog 67 #[.agg #[.string s,.int .i64 a7,.slice T n k]] W fun e w' =>e=.returned (.tuple #[.int .u64 gg,.agg #[.string s,.int .i64 a8,.slice T n k]])∧Below W.heap.size W w') (h9:∀ W,Below w.heap.size w W→Calls Tryz.prog 70 #[.agg #[.string s,.int .i64 a8,.slice T n k],.int .u64 g1] W fun e w' =>e=.returned (.tuple #[.string ta,.agg #[.string s,.int .i64 a9,.slice T n k]])∧Below W.heap.size W w') :
  Calls Tryz.prog 47 #[.int .i64 3,.slice T n k,.string s] w fun e w' =>zBr w 1 tg ru l ou ti ta (a9=(s.size:Int)) e w':=by
 have hs1:(w.alloc (.cells #[.int .i64 0,.string ⟨#[]⟩,.int .u64 0,.slice none 0 0,.int .u64 0,.int .u64 0,.string ⟨#[]⟩] 45)).heap.size=w.heap.size+1:=by simp
 have hs2:((w.alloc (.cells #[.int .i64 0,.string ⟨#[]⟩,.int .u64 0,.slice none 0 0,.int .u64 0,.int .u64 0,.string ⟨#[]⟩] 45)).alloc (.cells #[.string s,.int .i64 0,.slice T n k] 132)).heap.size=w.heap.size+2:=by simp
 have hb1:=(Below.refl w.heap.size w).alloc (Nat.le_refl _) (.cells #[.int .i64 0,.string ⟨#[]⟩,.int .u64 0,.slice none 0 0,.int .u64 0,.int .u64 0,.string ⟨#[]⟩] 45)
 have hb2:=hb1.alloc hb1.size (.cells #[.string s,.int .i64 0,.slice T n k] 132)
 have hb3:=hb2.alloc hb2.size (.cells #[.int .i64 0,.string ⟨#[]⟩,.int .u64 0,.slice none 0 0,.int .u64 0,.int .u64 0,.string ⟨#[]⟩] 45)
 have x6:=(Below.heap_alloc ((w.alloc (.cells #[.int .i64 0,.string ⟨#[]⟩,.int .u64 0,.slice none 0 0,.int .u64 0,.int .u64 0,.string ⟨#[]⟩] 45)).alloc (.cells #[.string s,.int .i64 0,.slice T n k] 132)) (.cells #[.int .i64 0,.string ⟨#[]⟩,.int .u64 0,.slice none 0 0,.int .u64 0,.int .u64 0,.string ⟨#[]⟩] 45) w.heap.size (by omega)).trans ((Below.heap_alloc (w.alloc (.cells #[.int .i64 0,.string ⟨#[]⟩,.int .u64 0,.slice none 0 0,.int .u64 0,.int .u64 0,.string ⟨#[]⟩] 45)) (.cells #[.string s,.int .i64 0,.slice T n k] 132) w.heap.size (by omega)).trans (zAG w (.cells #[.int .i64 0,.string ⟨#[]⟩,.int .u64 0,.slice none 0 0,.int .u64 0,.int .u64 0,.string ⟨#[]⟩] 45)))
 have x8:=zAG (w.alloc (.cells #[.int .i64 0,.string ⟨#[]⟩,.int .u64 0,.slice none 0 0,.int .u64 0,.int .u64 0,.string ⟨#[]⟩] 45)) (.cells #[.string s,.int .i64 0,.slice T n k] 132)
 rw [hs1] at x8
 have x8':=(Below.heap_alloc ((w.alloc (.cells #[.int .i64 0,.string ⟨#[]⟩,.int .u64 0,.slice none 0 0,.int .u64 0,.int .u64 0,.string ⟨#[]⟩] 45)).alloc (.cells #[.string s,.int .i64 0,.slice T n k] 132)) (.cells #[.int .i64 0,.string ⟨#[]⟩,.int .u64 0,.slice none 0 0,.int .u64 0,.int .u64 0,.string ⟨#[]⟩] 45) (w.heap.size+1) (by omega)).trans x8
 have x9:=zAG ((w.alloc (.cells #[.int .i64 0,.string ⟨#[]⟩,.int .u64 0,.slice none 0 0,.int .u64 0,.int .u64 0,.string ⟨#[]⟩] 45)).alloc (.cells #[.string s,.int .i64 0,.slice T n k] 132)) (.cells #[.int .i64 0,.string ⟨#[]⟩,.int .u64 0,.slice none 0 0,.int .u64 0,.int .u64 0,.string ⟨#[]⟩] 45)
 rw [hs2] at x9
 have hD:LaS w (((w.alloc (.cells #[.int .i64 0,.string ⟨#[]⟩,.int .u64 0,.slice none 0 0,.int .u64 0,.int .u64 0,.string ⟨#[]⟩] 45)).alloc (.cells #[.string s,.int .i64 0,.slice T n k] 132)).alloc (.cells #[.int .i64 0,.string ⟨#[]⟩,.int .u64 0,.slice none 0 0,.int .u64 0,.int .u64 0,.string ⟨#[]⟩] 45)) w.heap.size (w.heap.size+1) (w.heap.size+1+1) s 0 T n k 0 ⟨#[]⟩ 0 (.slice none 0 0) [] 0 0 ⟨#[]⟩ :=
  ⟨x8',x9,x6,World.ownsRow_nil _ _ _ _,hb3,by omega,by omega,Nat.le_refl _,by omega,by omega,by omega,by simp [Value.ownBlock],by simp [Value.ownBlock],by simp [Value.ownBlock]⟩
 clear hs1 hs2 hb1 hb2 hb3 x6 x8 x8' x9
 have g0:=zAA (i:=0) hD.x8 rfl;have g1:=zAA (i:=1) hD.x8 rfl;have g2:=zAA (i:=2) hD.x8 rfl;have r0:=zAA (i:=0) hD.x9 rfl;have r1:=zAA (i:=1) hD.x9 rfl;have r2:=zAA (i:=2) hD.x9 rfl;have r3:=zAA (i:=3) hD.x9 rfl;have r4:=zAA (i:=4) hD.x9 rfl;have r5:=zAA (i:=5) hD.x9 rfl;have r6:=zAA (i:=6) hD.x9 rfl
 have H1:=yh h1
 have H2:=yh h2
 have H3:=yh h3
 have H4:=yh h4
 have H5:=yh h5
 have H6:=yh h6
 have H7:=yh h7
 have H8:=yh h8
 have H9:=yh h9
 clear h1 h2 h3 h4 h5 h6 h7 h8 h9
 have na1:¬ a1<0:=by omega
 go_enter Tryz.func47,Tryz.ntmps47
 go_wp2_with (first
   | (go_at_call 67;first | (refine (H1.out _ hD.b).mono ?_;clear H1;rintro e x1 ⟨rfl,hbx⟩;replace hD:=hD.call hbx;clear g0 g1 g2 r0 r1 r2 r3 r4 r5 r6 hbx;have g0:=zAA (i:=0) hD.x8 rfl;have g1:=zAA (i:=1) hD.x8 rfl;have g2:=zAA (i:=2) hD.x8 rfl;have r0:=zAA (i:=0) hD.x9 rfl;have r1:=zAA (i:=1) hD.x9 rfl;have r2:=zAA (i:=2) hD.x9 rfl;have r3:=zAA (i:=3) hD.x9 rfl;have r4:=zAA (i:=4) hD.x9 rfl;have r5:=zAA (i:=5) hD.x9 rfl;have r6:=zAA (i:=6) hD.x9 rfl) | (refine (H3.out _ hD.b).mono ?_;clear H3;rintro e x3 ⟨rfl,hbx⟩;replace hD:=hD.call hbx;clear g0 g1 g2 r0 r1 r2 r3 r4 r5 r6 hbx;have g0:=zAA (i:=0) hD.x8 rfl;have g1:=zAA (i:=1) hD.x8 rfl;have g2:=zAA (i:=2) hD.x8 rfl;have r0:=zAA (i:=0) hD.x9 rfl;have r1:=zAA (i:=1) hD.x9 rfl;have r2:=zAA (i:=2) hD.x9 rfl;have r3:=zAA (i:=3) hD.x9 rfl;have r4:=zAA (i:=4) hD.x9 rfl;have r5:=zAA (i:=5) hD.x9 rfl;have r6:=zAA (i:=6) hD.x9 rfl) | (refine (H4.out _ hD.b).mono ?_;clear H4;rintro e x4 ⟨rfl,hbx⟩;replace hD:=hD.call hbx;clear g0 g1 g2 r0 r1 r2 r3 r4 r5 r6 hbx;have g0:=zAA (i:=0) hD.x8 rfl;have g1:=zAA (i:=1) hD.x8 rfl;have g2:=zAA (i:=2) hD.x8 rfl;have r0:=zAA (i:=0) hD.x9 rfl;have r1:=zAA (i:=1) hD.x9 rfl;have r2:=zAA (i:=2) hD.x9 rfl;have r3:=zAA (i:=3) hD.x9 rfl;have r4:=zAA (i:=4) hD.x9 rfl;have r5:=zAA (i:=5) hD.x9 rfl;have r6:=zAA (i:=6) hD.x9 rfl) | (refine (H6.out _ hD.b).mono ?_;clear H6;rintro e x6 ⟨rfl,hbx⟩;replace hD:=hD.call hbx;clear g0 g1 g2 r0 r1 r2 r3 r4 r5 r6 hbx;have g0:=zAA (i:=0) hD.x8 rfl;have g1:=zAA (i:=1) hD.x8 rfl;have g2:=zAA (i:=2) hD.x8 rfl;have r0:=zAA (i:=0) hD.x9 rfl;have r1:=zAA (i:=1) hD.x9 rfl;have r2:=zAA (i:=2) hD.x9 rfl;have r3:=zAA (i:=3) hD.x9 rfl;have r4:=zAA (i:=4) hD.x9 rfl;have r5:=zAA (i:=5) hD.x9 rfl;have r6:=zAA (i:=6) hD.x9 rfl) | (refine (H7.out _ hD.b).mono ?_;clear H7;rintro e x7 ⟨rfl,hbx⟩;replace hD:=hD.call hbx;clear g0 g1 g2 r0 r1 r2 r3 r4 r5 r6 hbx;have g0:=zAA (i:=0) hD.x8 rfl;have g1:=zAA (i:=1) hD.x8 rfl;have g2:=zAA (i:=2) hD.x8 rfl;have r0:=zAA (i:=0) hD.x9 rfl;have r1:=zAA (i:=1) hD.x9 rfl;have r2:=zAA (i:=2) hD.x9 rfl;have r3:=zAA (i:=3) hD.x9 rfl;have r4:=zAA (i:=4) hD.x9 rfl;have r5:=zAA (i:=5) hD.x9 rfl;have r6:=zAA (i:=6) hD.x9 rfl) | (refine (H8.out _ hD.b).mono ?_;clear H8;rintro e x8 ⟨rfl,hbx⟩;replace hD:=hD.call hbx;clear g0 g1 g2 r0 r1 r2 r3 r4 r5 r6 hbx;have g0:=zAA (i:=0) hD.x8 rfl;have g1:=zAA (i:=1) hD.x8 rfl;have g2:=zAA (i:=2) hD.x8 rfl;have r0:=zAA (i:=0) hD.x9 rfl;have r1:=zAA (i:=1) hD.x9 rfl;have r2:=zAA (i:=2) hD.x9 rfl;have r3:=zAA (i:=3) hD.x9 rfl;have r4:=zAA (i:=4) hD.x9 rfl;have r5:=zAA (i:=5) hD.x9 rfl;have r6:=zAA (i:=6) hD.x9 rfl))
   | (go_at_call 68;refine (H2.out _ hD.b).mono ?_;clear H2;rintro e x2 ⟨rfl,hbx⟩;replace hD:=hD.call hbx;clear g0 g1 g2 r0 r1 r2 r3 r4 r5 r6 hbx;have g0:=zAA (i:=0) hD.x8 rfl;have g1:=zAA (i:=1) hD.x8 rfl;have g2:=zAA (i:=2) hD.x8 rfl;have r0:=zAA (i:=0) hD.x9 rfl;have r1:=zAA (i:=1) hD.x9 rfl;have r2:=zAA (i:=2) hD.x9 rfl;have r3:=zAA (i:=3) hD.x9 rfl;have r4:=zAA (i:=4) hD.x9 rfl;have r5:=zAA (i:=5) hD.x9 rfl;have r6:=zAA (i:=6) hD.x9 rfl)
   | (go_at_call 69;refine (H5.out _ hD.b).mono ?_;clear H5;rintro e x5 ⟨⟨A5,c5,rfl,hA5,ho5⟩,hbx⟩;have HA5:=yh hA5;have HNE5:Hid ((Value.slice A5 l.length c5).ownBlock≠some (w.heap.size+1)∧(Value.slice A5 l.length c5).ownBlock≠some (w.heap.size+1+1)∧(Value.slice A5 l.length c5).ownBlock≠some w.heap.size):=⟨fun e =>(by have h1:=zAI ho5 _ e;have h2:=zAj hD.x8;omega),fun e =>(by have h1:=zAI ho5 _ e;have h2:=zAj hD.x9;omega),fun e =>(by have h1:=zAI ho5 _ e;have h2:=zAj hD.x6;omega)⟩;have ho5w:=zAY ho5 hD.b.size;clear hA5 ho5;replace hD:=hD.call hbx;clear g0 g1 g2 r0 r1 r2 r3 r4 r5 r6 hbx;have g0:=zAA (i:=0) hD.x8 rfl;have g1:=zAA (i:=1) hD.x8 rfl;have g2:=zAA (i:=2) hD.x8 rfl;have r0:=zAA (i:=0) hD.x9 rfl;have r1:=zAA (i:=1) hD.x9 rfl;have r2:=zAA (i:=2) hD.x9 rfl;have r3:=zAA (i:=3) hD.x9 rfl;have r4:=zAA (i:=4) hD.x9 rfl;have r5:=zAA (i:=5) hD.x9 rfl;have r6:=zAA (i:=6) hD.x9 rfl)
   | (go_at_call 70;refine (H9.out _ hD.b).mono ?_;clear H9;rintro e x9 ⟨rfl,hbx⟩;replace hD:=hD.call hbx;clear g0 g1 g2 r0 r1 r2 r3 r4 r5 r6 hbx;have g0:=zAA (i:=0) hD.x8 rfl;have g1:=zAA (i:=1) hD.x8 rfl;have g2:=zAA (i:=2) hD.x8 rfl;have r0:=zAA (i:=0) hD.x9 rfl;have r1:=zAA (i:=1) hD.x9 rfl;have r2:=zAA (i:=2) hD.x9 rfl;have r3:=zAA (i:=3) hD.x9 rfl;have r4:=zAA (i:=4) hD.x9 rfl;have r5:=zAA (i:=5) hD.x9 rfl;have r6:=zAA (i:=6) hD.x9 rfl)
   | (refine zDe hD rfl _ _ rfl rfl _ _ l ho5w rfl HNE5.out ?_;clear ho5w HNE5;clear g0 g1 g2 r0 r1 r2 r3 r4 r5 r6 hD;intro wn hD;have g0:=zAA (i:=0) hD.x8 rfl;have g1:=zAA (i:=1) hD.x8 rfl;have g2:=zAA (i:=2) hD.x8 rfl;have r0:=zAA (i:=0) hD.x9 rfl;have r1:=zAA (i:=1) hD.x9 rfl;have r2:=zAA (i:=2) hD.x9 rfl;have r3:=zAA (i:=3) hD.x9 rfl;have r4:=zAA (i:=4) hD.x9 rfl;have r5:=zAA (i:=5) hD.x9 rfl;have r6:=zAA (i:=6) hD.x9 rfl)
   | (refine zDH hD rfl _ _ rfl rfl _ rfl ?_;clear g0 g1 g2 r0 r1 r2 r3 r4 r5 r6 hD;intro wn hD;have g0:=zAA (i:=0) hD.x8 rfl;have g1:=zAA (i:=1) hD.x8 rfl;have g2:=zAA (i:=2) hD.x8 rfl;have r0:=zAA (i:=0) hD.x9 rfl;have r1:=zAA (i:=1) hD.x9 rfl;have r2:=zAA (i:=2) hD.x9 rfl;have r3:=zAA (i:=3) hD.x9 rfl;have r4:=zAA (i:=4) hD.x9 rfl;have r5:=zAA (i:=5) hD.x9 rfl;have r6:=zAA (i:=6) hD.x9 rfl)
   | (refine zDD hD rfl _ _ rfl rfl _ rfl ?_;clear g0 g1 g2 r0 r1 r2 r3 r4 r5 r6 hD;intro wn hD;have g0:=zAA (i:=0) hD.x8 rfl;have g1:=zAA (i:=1) hD.x8 rfl;have g2:=zAA (i:=2) hD.x8 rfl;have r0:=zAA (i:=0) hD.x9 rfl;have r1:=zAA (i:=1) hD.x9 rfl;have r2:=zAA (i:=2) hD.x9 rfl;have r3:=zAA (i:=3) hD.x9 rfl;have r4:=zAA (i:=4) hD.x9 rfl;have r5:=zAA (i:=5) hD.x9 rfl;have r6:=zAA (i:=6) hD.x9 rfl)
   | (refine zCt hD rfl _ _ rfl rfl _ rfl ?_;clear g0 g1 g2 r0 r1 r2 r3 r4 r5 r6 hD;intro wn hD;have g0:=zAA (i:=0) hD.x8 rfl;have g1:=zAA (i:=1) hD.x8 rfl;have g2:=zAA (i:=2) hD.x8 rfl;have r0:=zAA (i:=0) hD.x9 rfl;have r1:=zAA (i:=1) hD.x9 rfl;have r2:=zAA (i:=2) hD.x9 rfl;have r3:=zAA (i:=3) hD.x9 rfl;have r4:=zAA (i:=4) hD.x9 rfl;have r5:=zAA (i:=5) hD.x9 rfl;have r6:=zAA (i:=6) hD.x9 rfl)
   | (refine zCw hD rfl _ _ rfl rfl _ rfl ?_;clear g0 g1 g2 r0 r1 r2 r3 r4 r5 r6 hD;intro wn hD;have g0:=zAA (i:=0) hD.x8 rfl;have g1:=zAA (i:=1) hD.x8 rfl;have g2:=zAA (i:=2) hD.x8 rfl;have r0:=zAA (i:=0) hD.x9 rfl;have r1:=zAA (i:=1) hD.x9 rfl;have r2:=zAA (i:=2) hD.x9 rfl;have r3:=zAA (i:=3) hD.x9 rfl;have r4:=zAA (i:=4) hD.x9 rfl;have r5:=zAA (i:=5) hD.x9 rfl;have r6:=zAA (i:=6) hD.x9 rfl)
   | (refine zCy hD rfl _ _ rfl rfl _ rfl ?_;clear g0 g1 g2 r0 r1 r2 r3 r4 r5 r6 hD;intro wn hD;have g0:=zAA (i:=0) hD.x8 rfl;have g1:=zAA (i:=1) hD.x8 rfl;have g2:=zAA (i:=2) hD.x8 rfl;have r0:=zAA (i:=0) hD.x9 rfl;have r1:=zAA (i:=1) hD.x9 rfl;have r2:=zAA (i:=2) hD.x9 rfl;have r3:=zAA (i:=3) hD.x9 rfl;have r4:=zAA (i:=4) hD.x9 rfl;have r5:=zAA (i:=5) hD.x9 rfl;have r6:=zAA (i:=6) hD.x9 rfl)
   | (refine zDB hD rfl _ _ rfl rfl _ rfl ?_;clear g0 g1 g2 r0 r1 r2 r3 r4 r5 r6 hD;intro wn hD;have g0:=zAA (i:=0) hD.x8 rfl;have g1:=zAA (i:=1) hD.x8 rfl;have g2:=zAA (i:=2) hD.x8 rfl;have r0:=zAA (i:=0) hD.x9 rfl;have r1:=zAA (i:=1) hD.x9 rfl;have r2:=zAA (i:=2) hD.x9 rfl;have r3:=zAA (i:=3) hD.x9 rfl;have r4:=zAA (i:=4) hD.x9 rfl;have r5:=zAA (i:=5) hD.x9 rfl;have r6:=zAA (i:=6) hD.x9 rfl)
   | (refine zCH hD rfl _ _ rfl rfl _ rfl ?_;clear g0 g1 g2 r0 r1 r2 r3 r4 r5 r6 hD;intro wn hD;have g0:=zAA (i:=0) hD.x8 rfl;have g1:=zAA (i:=1) hD.x8 rfl;have g2:=zAA (i:=2) hD.x8 rfl;have r0:=zAA (i:=0) hD.x9 rfl;have r1:=zAA (i:=1) hD.x9 rfl;have r2:=zAA (i:=2) hD.x9 rfl;have r3:=zAA (i:=3) hD.x9 rfl;have r4:=zAA (i:=4) hD.x9 rfl;have r5:=zAA (i:=5) hD.x9 rfl;have r6:=zAA (i:=6) hD.x9 rfl)
)
 have v0:=zAA (i:=0) hD.x6 rfl;have z0:wn.frozen? ⟨w.heap.size,0,none⟩=false:=zAC hD.x6;have v1:=zAA (i:=1) hD.x6 rfl;have z1:wn.frozen? ⟨w.heap.size,1,none⟩=false:=zAC hD.x6;have v2:=zAA (i:=2) hD.x6 rfl;have z2:wn.frozen? ⟨w.heap.size,2,none⟩=false:=zAC hD.x6;have v3:=zAA (i:=3) hD.x6 rfl;have z3:wn.frozen? ⟨w.heap.size,3,none⟩=false:=zAC hD.x6;have v4:=zAA (i:=4) hD.x6 rfl;have z4:wn.frozen? ⟨w.heap.size,4,none⟩=false:=zAC hD.x6;have v5:=zAA (i:=5) hD.x6 rfl;have z5:wn.frozen? ⟨w.heap.size,5,none⟩=false:=zAC hD.x6;have v6:=zAA (i:=6) hD.x6 rfl;have z6:wn.frozen? ⟨w.heap.size,6,none⟩=false:=zAC hD.x6
 (try go_simp)
 go_region
 all_goals (try go_wp2)
 (try simp only [Exit.inBlock,Exit.then])
 refine bodyPost_ret (zAy Tryz.results47 _ _ w.heap.size _ _ (0,0) _ rfl (zDM (zAD (zAD (zAD (zAD (zAD (zAD (zAD hD.x6 0 (.int .i64 1)) 1 (.string tg)) 2 (.int .u64 ru)) 3 (.slice A5 l.length c5)) 4 (.int .u64 ou)) 5 (.int .u64 ti)) 6 (.string ta))) Tryz.underlying45 rfl (by kernel_rfl)) rfl ?_
 refine ⟨A5,c5,_,rfl,?_,?_,?_,?_⟩
 ·simp
 ·exact HA5.out
 ·exact (zDl (ownsRow_setCell_other (ownsRow_setCell_other (ownsRow_setCell_other (ownsRow_setCell_other (ownsRow_setCell_other (ownsRow_setCell_other (ownsRow_setCell_other hD.own hD.o.2.2 _) hD.o.2.2 _) hD.o.2.2 _) hD.o.2.2 _) hD.o.2.2 _) hD.o.2.2 _) hD.o.2.2 _))
 ·exact (((((((hD.b.setCell (p:=⟨w.heap.size,0,none⟩) (Nat.le_refl _) _).setCell (p:=⟨w.heap.size,1,none⟩) (Nat.le_refl _) _).setCell (p:=⟨w.heap.size,2,none⟩) (Nat.le_refl _) _).setCell (p:=⟨w.heap.size,3,none⟩) (Nat.le_refl _) _).setCell (p:=⟨w.heap.size,4,none⟩) (Nat.le_refl _) _).setCell (p:=⟨w.heap.size,5,none⟩) (Nat.le_refl _) _).setCell (p:=⟨w.heap.size,6,none⟩) (Nat.le_refl _) _).drew
theorem zEO {c:Cu} {m:Nat}:atV c=(m:Int) ↔ (decide (c.e=0∧c.at_=m)=true):=by
 unfold atV
 rw [decide_eq_true_iff]
 by_cases h:c.e=0
 ·rw [if_pos h]
  exact ⟨fun e =>⟨h,by omega⟩,fun e =>by omega⟩
 ·rw [if_neg h]
  exact ⟨fun e =>by omega,fun e =>absurd e.1 h⟩
theorem zHC {c:Cu}:atV c<0 ↔ c.e≠0:=by
 unfold atV
 by_cases h:c.e=0
 ·rw [if_pos h];exact ⟨fun e =>by omega,fun e =>absurd h e⟩
 ·rw [if_neg h];exact ⟨fun _ =>h,fun _ =>by omega⟩
theorem zBr.iff {w w':World} {kd:Int} {tg:ByteArray} {ru:Int} {l:List Dp} {ou ti:Int} {ta:ByteArray} {P Q:Prop} {e:Ending} (h:zBr w kd tg ru l ou ti ta P e w') (hq:P ↔ Q):zBr w kd tg ru l ou ti ta Q e w':=by
 obtain ⟨A,c,q,h1,h2,h3⟩:=h
 exact ⟨A,c,q,h1,h2.trans hq,h3⟩
theorem zMY (ver:Int) (hv:ver=1∨ver=2∨ver=3) (tl:List (List UInt8)) (p:List UInt8) (hp:p.length≤100000) (T:Option Addr) (n k:Nat) (htn:n≤1000000) (w:World) (hr:zAE w w.heap.size 1 T n (tl.map tsv)) :
  Calls Tryz.prog 47 #[.int .i64 ver,.slice T n k,.string (tx p)] w fun e w' =>zBr w (zBa ver tl p).1.kind (tx (zBa ver tl p).1.target) (zBa ver tl p).1.rule (zBa ver tl p).2.1 (zBa ver tl p).1.out (zBa ver tl p).1.time (tx (zBa ver tl p).1.tag) ((zBa ver tl p).2.2=true) e w':=by
 have HNU:∀ d:Cu,d.ok→d.bs=p→∀ W,Below w.heap.size w W→Calls Tryz.prog 67 #[.agg #[.string (tx p),.int .i64 (atV d),.slice T n k]] W fun e w' =>e=.returned (.tuple #[.int .u64 (d.num.1:Int),.agg #[.string (tx p),.int .i64 (atV d.num.2),.slice T n k]])∧Below W.heap.size W w':=fun d hd hb W _ =>by
  have h1:=zGA d hd (by rw [hb];omega) T n k W
  unfold wkV at h1
  rw [zBJ,hb] at h1
  exact h1
 have HNM:∀ d:Cu,d.ok→d.bs=p→∀ W,Below w.heap.size w W→Calls Tryz.prog 68 #[.agg #[.string (tx p),.int .i64 (atV d),.slice T n k],.int .i64 ver] W fun e w' =>e=.returned (.tuple #[.string (tx (dNm ver tl d).1),.agg #[.string (tx p),.int .i64 (atV (dNm ver tl d).2),.slice T n k]])∧Below W.heap.size W w':=fun d hd hb W hW =>by
  have h1:=zJs ver d hd (by rw [hb];omega) T n k tl htn W ((hr.below hW).more hW.size)
  unfold wkV at h1
  rw [zET,hb] at h1
  exact h1
 have HKN:∀ (d:Cu) (j:Nat),d.bs=p→∀ W,Below w.heap.size w W→Calls Tryz.prog 70 #[.agg #[.string (tx p),.int .i64 (atV d),.slice T n k],.int .u64 (j:Int)] W fun e w' =>e=.returned (.tuple #[.string (tx (dKn tl j d).1),.agg #[.string (tx p),.int .i64 (atV (dKn tl j d).2),.slice T n k]])∧Below W.heap.size W w':=fun d j hb W hW =>by
  have h1:=zGt d j T n k tl htn W ((hr.below hW).more hW.size)
  unfold wkV at h1
  rw [zEp,hb] at h1
  exact h1
 have HDP:∀ (d:Cu) (m:Nat),d.ok→d.bs=p→m<18446744073709551616→∀ W,Below w.heap.size w W→Calls Tryz.prog 69 #[.agg #[.string (tx p),.int .i64 (atV d),.slice T n k],.int .i64 ver,.int .u64 (m:Int)] W fun e w' =>(∃ A c',e=.returned (.tuple #[.slice A (dDs ver tl m ([],d)).1.length c',.agg #[.string (tx p),.int .i64 (atV (dDs ver tl m ([],d)).2),.slice T n k]])∧(A=none→c'=0)∧w'.ownsRow W.heap.size 73 3 (.slice A (dDs ver tl m ([],d)).1.length c') (dDs ver tl m ([],d)).1.length (dps (dDs ver tl m ([],d)).1))∧Below W.heap.size W w':=fun d m hd hb hm W hW =>by
  have h1:=zLA ver d hd (by rw [hb];omega) m hm T n k tl htn W ((hr.below hW).more hW.size)
  unfold wkV at h1
  rw [zFd,hb] at h1
  exact h1
 have hbs:(Cu.new p 0).bs=p:=by unfold Cu.new;rw [if_neg (by omega)]
 have hok:(Cu.new p 0).ok:=by unfold Cu.new Cu.ok;rw [if_neg (by omega)];simp
 have h00:Cu.new p 0=⟨p,0,0⟩:=by unfold Cu.new;rw [if_neg (by omega)];rfl
 have ha0:atV (Cu.new p 0)=0:=by rw [h00];unfold atV;rw [if_pos rfl];rfl
 have hsz:(tx p).size=p.length:=zBH p
 obtain ⟨c0,hc0⟩:∃ c0,c0=Cu.new p 0:=⟨_,rfl⟩
 unfold zBa
 rw [← hc0] at hbs hok ha0 ⊢
 have h1:=HNU c0 hok hbs
 rw [ha0] at h1
 have a1:=zBV hok
 have b1:c0.num.2.bs=p:=by rw [zBJ];exact hbs
 simp only
 by_cases hc:c0.num.2.e=0∧(c0.num.1=1∨c0.num.1=2)
 ·rw [if_pos hc]
  have hn1:0≤atV c0.num.2:=by have:¬ atV c0.num.2<0:=fun h =>(zHC.1 h) hc.1;omega
  have h2:=HNM c0.num.2 a1.ok b1
  have a2:=zGI ver tl a1.ok
  have b2:(dNm ver tl c0.num.2).2.bs=p:=by rw [zET];exact b1
  by_cases hk1:c0.num.1=1
  ·rw [if_pos hk1]
   rw [hk1] at h1
   have h3:=HNU _ a2.ok b2
   have a3:=zBV a2.ok
   have b3:(dNm ver tl c0.num.2).2.num.2.bs=p:=by rw [zBJ];exact b2
   have h4:=HNU _ a3.ok b3
   have a4:=zBV a3.ok
   have b4:(dNm ver tl c0.num.2).2.num.2.num.2.bs=p:=by rw [zBJ];exact b3
   have h5:=HDP _ (dNm ver tl c0.num.2).2.num.2.num.1 a4.ok b4 Cu.num_lt
   have a5:=(zGT ver tl a4.ok (dNm ver tl c0.num.2).2.num.2.num.1).1
   have b5:(dDs ver tl (dNm ver tl c0.num.2).2.num.2.num.1 ([],(dNm ver tl c0.num.2).2.num.2.num.2)).2.bs=p:=by rw [zFd];exact b4
   have h6:=HNU _ a5.ok b5
   have a6:=zBV a5.ok
   have b6:(dDs ver tl (dNm ver tl c0.num.2).2.num.2.num.1 ([],(dNm ver tl c0.num.2).2.num.2.num.2)).2.num.2.bs=p:=by rw [zBJ];exact b5
   obtain ⟨c6,hc6⟩:∃ c6,c6=(dDs ver tl (dNm ver tl c0.num.2).2.num.2.num.1 ([],(dNm ver tl c0.num.2).2.num.2.num.2)).2.num.2:=⟨_,rfl⟩
   rw [← hc6] at h6 a6 b6 ⊢
   rcases hv with rfl | rfl | rfl
   ·refine (zOh (tx p) T n k _ _ _ _ _ _ _ _ _ _ _ hn1 w h1 h2 h3 h4 h5 h6).mono fun e w' h =>h.iff ?_
    rw [hsz]
    exact zEO
   ·refine (zOd (tx p) T n k _ _ _ _ _ _ _ _ _ _ _ _ _ hn1 w h1 h2 h3 h4 h5 h6 (HNU c6 a6.ok b6)).mono fun e w' h =>h.iff ?_
    rw [hsz]
    exact zEO
   ·have h7:=HNU c6 a6.ok b6
    have a7:=zBV a6.ok
    have b7:c6.num.2.bs=p:=by rw [zBJ];exact b6
    have h8:=HNU _ a7.ok b7
    have a8:=zBV a7.ok
    have b8:c6.num.2.num.2.bs=p:=by rw [zBJ];exact b7
    have hw:zCl 3 c6=c6.num:=if_pos (by omega)
    rw [hw]
    by_cases hz:c6.num.2.num.1=0
    ·have ht:dTag 3 tl c6.num.2=([],c6.num.2.num.2):=by unfold dTag;rw [if_pos (by omega),if_neg (by omega)]
     rw [ht]
     rw [hz] at h8
     refine (zMx (tx p) T n k _ _ _ _ _ _ _ _ _ _ _ _ _ _ hn1 w h1 h2 h3 h4 h5 h6 h7 h8).mono fun e w' h =>h.iff ?_
     rw [hsz]
     exact zEO
    ·have ht:dTag 3 tl c6.num.2=dKn tl (c6.num.2.num.1 - 1) c6.num.2.num.2:=by unfold dTag;rw [if_pos (by omega),if_pos (by omega)]
     rw [ht]
     have h9:=HKN c6.num.2.num.2 (c6.num.2.num.1 - 1) b8
     have hl:c6.num.2.num.1<18446744073709551616:=Cu.num_lt
     have hgw:IntKind.u64.wrap ((c6.num.2.num.1:Int) - 1)=((c6.num.2.num.1 - 1:Nat):Int):=by rw [show IntKind.u64.wrap ((c6.num.2.num.1:Int) - 1)=((c6.num.2.num.1:Int) - 1) % 18446744073709551616 from rfl];omega
     refine (zNP (tx p) T n k _ _ _ _ _ _ _ _ _ _ _ _ _ _ _ _ _ hn1 (by omega) hgw _ w h1 h2 h3 h4 h5 h6 h7 h8 h9).mono fun e w' h =>h.iff ?_
     rw [hsz]
     exact zEO
  ·rw [if_neg hk1]
   have hk2:c0.num.1=2:=hc.2.resolve_left hk1
   rw [hk2] at h1
   refine (zPd (tx p) T n k ver _ _ _ hn1 w h1 h2).mono fun e w' h =>h.iff ?_
   rw [hsz]
   exact zEO
 ·rw [if_neg hc]
  by_cases he:c0.num.2.e=0
  ·have hn1:0≤atV c0.num.2:=by have:¬ atV c0.num.2<0:=fun h =>(zHC.1 h) he;omega
   have hk:¬ (c0.num.1=1∨c0.num.1=2):=fun h =>hc ⟨he,h⟩
   refine (zOn (tx p) T n k ver _ _ hn1 (by omega) (by omega) w h1).mono fun e w' h =>h.iff (by simp)
  ·refine (zOJ (tx p) T n k ver _ _ (zHC.2 he) w h1).mono fun e w' h =>h.iff (by simp)
theorem zDy (tl:List (List UInt8)) (n m:Nat) (h:∀ s ∈ tl,s.length≤m):(zBB tl n).length≤m:=by
 unfold zBB
 cases e:tl[n]? with
 | none =>simp
 | some s =>exact h s (List.mem_of_getElem? e)
theorem zII (tl:List (List UInt8)) (n m:Nat) (c:Cu) (h:∀ s ∈ tl,s.length≤m):(dKn tl n c).1.length≤m:=by
 unfold dKn
 split
 ·exact zDy tl n m h
 ·simp
theorem zIW (c:Cu):(c.text 64).1.length≤64:=by
 unfold Cu.text Cu.tk
 split
 ·split
  ·unfold Cu.txR bg
   simp only
   split
   ·simp
   ·split
    ·simp
    ·split
     ·simp
     ·simp only [List.length_take]
      omega
  ·simp
 ·simp
theorem zLJ (ver:Int) (tl:List (List UInt8)) (m:Nat) (hm:64≤m) (c:Cu) (h:∀ s ∈ tl,s.length≤m):(dNm ver tl c).1.length≤m:=by
 unfold dNm
 split
 ·exact Nat.le_trans (zIW c) hm
 ·exact zII tl _ m _ h
theorem zFh (c:Cu):(0:Int)≤(c.num.1:Int)∧(c.num.1:Int)<18446744073709551616:=⟨by omega,by have:=@Cu.num_lt c;unfold top at this;omega⟩
theorem zOj (ver:Int) (tl:List (List UInt8)) (m:Nat) (hm:64≤m) (c:Cu) (h:∀ s ∈ tl,s.length≤m):(dDp ver tl c).1.name.length≤m∧0≤(dDp ver tl c).1.hash∧(dDp ver tl c).1.hash<18446744073709551616:=by
 unfold dDp
 split
 ·exact ⟨zLJ ver tl m hm c h,zFh _⟩
 ·exact ⟨zII tl _ m _ h,zFh _⟩
theorem zJe (ver:Int) (tl:List (List UInt8)) (m:Nat) (hm:64≤m) (c:Cu) (h:∀ s ∈ tl,s.length≤m):∀ i,∀ d ∈ (dDs ver tl i ([],c)).1,d.name.length≤m∧0≤d.hash∧d.hash<18446744073709551616
 | 0 =>by simp [dDs]
 | i+1 =>by
  have h1:=zJe ver tl m hm c h i
  intro d hd
  have hd':d ∈ (if (dDs ver tl i ([],c)).2.e=0 then ((dDs ver tl i ([],c)).1++[(dDp ver tl (dDs ver tl i ([],c)).2).1],(dDp ver tl (dDs ver tl i ([],c)).2).2) else dDs ver tl i ([],c)).1:=hd
  split at hd'
  ·rcases List.mem_append.1 hd' with h2 | h2
   ·exact h1 d h2
   ·obtain rfl:=List.mem_singleton.1 h2
    exact zOj ver tl m hm _ h
  ·exact h1 d hd'
theorem zLg (ver:Int) (tl:List (List UInt8)) {c:Cu} (h:c.ok):∀ i,(dDs ver tl i ([],c)).1.length≤c.bs.length+1
 | 0 =>by simp [dDs]
 | i+1 =>by
  have h1:=zLg ver tl h i
  obtain ⟨h2,h3⟩:=zGT ver tl h i
  show (if (dDs ver tl i ([],c)).2.e=0 then ((dDs ver tl i ([],c)).1++[(dDp ver tl (dDs ver tl i ([],c)).2).1],(dDp ver tl (dDs ver tl i ([],c)).2).2) else dDs ver tl i ([],c)).1.length≤_
  split
  ·rename_i e
   obtain ⟨h4,h5⟩:=h3 e
   have h6:=h2.ok
   unfold Cu.ok at h6
   rw [h2.bs] at h6
   simp only [List.length_append,List.length_singleton]
   omega
  ·exact h1
theorem zKp (ver:Int) (tl:List (List UInt8)) (p:List UInt8) (m:Nat) (hm:64≤m) (hmx:m≤maxLen) (h:∀ s ∈ tl,s.length≤m):Fits (zBa ver tl p).1 (zBa ver tl p).2.1∧Nums (zBa ver tl p).1 (zBa ver tl p).2.1∧(zBa ver tl p).2.1.length≤p.length+1:=by
 have hok:(Cu.new p 0).ok:=by unfold Cu.new Cu.ok;rw [if_neg (by omega)];simp
 have hbs:(Cu.new p 0).bs=p:=by unfold Cu.new;rw [if_neg (by omega)]
 obtain ⟨c0,hc0⟩:∃ c0,c0=Cu.new p 0:=⟨_,rfl⟩
 unfold zBa
 rw [← hc0] at hok hbs ⊢
 simp only
 have hz:(0:Int)≤0∧(0:Int)<18446744073709551616:=⟨by omega,by omega⟩
 split
 ·have hnm:=zLJ ver tl m hm c0.num.2 h
  split
  ·have a1:=zBV hok
   have a2:=zGI ver tl a1.ok
   have a3:=zBV a2.ok
   have a4:=zBV a3.ok
   have hds:=zJe ver tl m hm (dNm ver tl c0.num.2).2.num.2.num.2 h (dNm ver tl c0.num.2).2.num.2.num.1
   have hfw:=zLg ver tl a4.ok (dNm ver tl c0.num.2).2.num.2.num.1
   have hb4:(dNm ver tl c0.num.2).2.num.2.num.2.bs=p:=by rw [zBJ,zBJ,zET,zBJ,hbs]
   rw [hb4] at hfw
   have hwh:∀ c,(0:Int)≤((zCl ver c).1:Int)∧((zCl ver c).1:Int)<18446744073709551616:=fun c =>by
    unfold zCl
    split
    ·exact zFh c
    ·exact hz
   have htg:∀ c,(dTag ver tl c).1.length≤m:=fun c =>by
    unfold dTag
    split
    ·split
     ·exact zII tl _ m _ h
     ·simp
    ·simp
   exact ⟨⟨Nat.le_trans hnm hmx,Nat.le_trans (htg _) hmx,fun d hd =>Nat.le_trans (hds d hd).1 hmx⟩,⟨zFh _,zFh _,hwh _,fun d hd =>(hds d hd).2⟩,hfw⟩
  ·exact ⟨⟨Nat.le_trans hnm hmx,by simp,by simp⟩,⟨hz,hz,hz,by simp⟩,by simp⟩
 ·exact ⟨⟨by simp,by simp,by simp⟩,⟨hz,hz,hz,by simp⟩,by simp⟩
end Go.Proofs.YtoclafdidjpndaaGreatDoor
