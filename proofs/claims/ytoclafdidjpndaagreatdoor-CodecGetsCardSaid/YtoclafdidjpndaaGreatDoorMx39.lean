/- Texts of one proof. -/
import Derived.Test.YtoclafdidjpndaaGreatDoorMx35
set_option maxRecDepth 100000
set_option maxHeartbeats 8000000
namespace Go.Proofs.YtoclafdidjpndaaGreatDoor
open Go.RowKit
theorem zAl {P:Program} {fn:Func} {u u2 u3 p:Tmp} {ty:TypeId} (h:fn.results=#[.cell p ty,.tmp u,.tmp u2,.tmp u3]) (tmps:Array Value) (w:World) (g:Nat) (t:TypeId) (cs:Array Value) (fr:Nat×Nat) (d:TypeDesc)
  (hp:tmps.getD p undef=.pointer (some ⟨g,0,none⟩)) (hg:w.heap[g]? = some (.cells cs t fr))
  (hu:P.underlying ty=some d) (hd:(match d with | .struct _ | .array _ _ =>true | _ =>false)=true) (hi:(P.info? ty).map (·.size)=some cs.size) :
  (results fn tmps).run P w=.ok (.tuple #[.agg cs,tmps.getD u undef,tmps.getD u2 undef,tmps.getD u3 undef]) w:=by
 have hp':tmps[p]?.getD undef=.pointer (some ⟨g,0,none⟩):=by simpa using hp
 simp [results,h,hp',asAddr,run_loadVar_row w g t ty cs fr d hg hu hd hi]
theorem zOP (ver:Int) (T A:Option Addr) (tn tk n c:Nat) (at_:Int) (hv:ver<1) (w:World) :
  Calls Tryz.prog 25 #[.int .i64 ver,.slice T tn tk,.slice A n c,.int .i64 at_] w fun e w' =>e=.returned (.tuple #[.agg #[.int .i64 0,.string ⟨#[]⟩,.int .u64 0,.slice none 0 0,.int .u64 0,.int .u64 0,.string ⟨#[]⟩],.int .i64 0,.slice T tn tk,.int .i64 11])∧Below w.heap.size w w':=by
 have hz1:(w.alloc (.cells #[.int .i64 0,.string ⟨#[]⟩,.int .u64 0,.slice none 0 0,.int .u64 0,.int .u64 0,.string ⟨#[]⟩] 45)).heap.size=w.heap.size+1:=by simp
 have hb1:=(Below.refl w.heap.size w).alloc (Nat.le_refl _) (.cells #[.int .i64 0,.string ⟨#[]⟩,.int .u64 0,.slice none 0 0,.int .u64 0,.int .u64 0,.string ⟨#[]⟩] 45)
 have hb2:=hb1.alloc hb1.size (.cells #[.int .i64 0,.string ⟨#[]⟩,.int .u64 0,.slice none 0 0,.int .u64 0,.int .u64 0,.string ⟨#[]⟩] 45)
 have x8:=(Below.heap_alloc (w.alloc (.cells #[.int .i64 0,.string ⟨#[]⟩,.int .u64 0,.slice none 0 0,.int .u64 0,.int .u64 0,.string ⟨#[]⟩] 45)) (.cells #[.int .i64 0,.string ⟨#[]⟩,.int .u64 0,.slice none 0 0,.int .u64 0,.int .u64 0,.string ⟨#[]⟩] 45) w.heap.size (by omega)).trans (zAG w (.cells #[.int .i64 0,.string ⟨#[]⟩,.int .u64 0,.slice none 0 0,.int .u64 0,.int .u64 0,.string ⟨#[]⟩] 45))
 have x12:=zAG (w.alloc (.cells #[.int .i64 0,.string ⟨#[]⟩,.int .u64 0,.slice none 0 0,.int .u64 0,.int .u64 0,.string ⟨#[]⟩] 45)) (.cells #[.int .i64 0,.string ⟨#[]⟩,.int .u64 0,.slice none 0 0,.int .u64 0,.int .u64 0,.string ⟨#[]⟩] 45)
 rw [hz1] at x12
 have HX8:=yh x8
 have HX12:=yh x12
 have HB2:=yh hb2
 have q0:=zAA (i:=0) x8 rfl
 have y0:=zAC (i:=0) x8
 have n0:=zAA (i:=0) x12 rfl
 have q1:=zAA (i:=1) x8 rfl
 have y1:=zAC (i:=1) x8
 have n1:=zAA (i:=1) x12 rfl
 have q2:=zAA (i:=2) x8 rfl
 have y2:=zAC (i:=2) x8
 have n2:=zAA (i:=2) x12 rfl
 have q3:=zAA (i:=3) x8 rfl
 have y3:=zAC (i:=3) x8
 have n3:=zAA (i:=3) x12 rfl
 have q4:=zAA (i:=4) x8 rfl
 have y4:=zAC (i:=4) x8
 have n4:=zAA (i:=4) x12 rfl
 have q5:=zAA (i:=5) x8 rfl
 have y5:=zAC (i:=5) x8
 have n5:=zAA (i:=5) x12 rfl
 have q6:=zAA (i:=6) x8 rfl
 have y6:=zAC (i:=6) x8
 have n6:=zAA (i:=6) x12 rfl
 clear x8 x12 hb1 hb2 hz1
 have d1:decide (ver<1)=true:=decide_eq_true hv
 go_enter Tryz.func25,Tryz.ntmps25
 go_wp2
 refine bodyPost_ret (zAl rfl _ _ w.heap.size _ _ (0,0) _ rfl HX8.out Tryz.underlying45 rfl (by kernel_rfl)) rfl ?_
 exact ⟨rfl,HB2.out⟩
theorem zOY (ver:Int) (T A:Option Addr) (tn tk n c:Nat) (at_:Int) (hv:3<ver) (w:World) :
  Calls Tryz.prog 25 #[.int .i64 ver,.slice T tn tk,.slice A n c,.int .i64 at_] w fun e w' =>e=.returned (.tuple #[.agg #[.int .i64 0,.string ⟨#[]⟩,.int .u64 0,.slice none 0 0,.int .u64 0,.int .u64 0,.string ⟨#[]⟩],.int .i64 0,.slice T tn tk,.int .i64 11])∧Below w.heap.size w w':=by
 have hz1:(w.alloc (.cells #[.int .i64 0,.string ⟨#[]⟩,.int .u64 0,.slice none 0 0,.int .u64 0,.int .u64 0,.string ⟨#[]⟩] 45)).heap.size=w.heap.size+1:=by simp
 have hb1:=(Below.refl w.heap.size w).alloc (Nat.le_refl _) (.cells #[.int .i64 0,.string ⟨#[]⟩,.int .u64 0,.slice none 0 0,.int .u64 0,.int .u64 0,.string ⟨#[]⟩] 45)
 have hb2:=hb1.alloc hb1.size (.cells #[.int .i64 0,.string ⟨#[]⟩,.int .u64 0,.slice none 0 0,.int .u64 0,.int .u64 0,.string ⟨#[]⟩] 45)
 have x8:=(Below.heap_alloc (w.alloc (.cells #[.int .i64 0,.string ⟨#[]⟩,.int .u64 0,.slice none 0 0,.int .u64 0,.int .u64 0,.string ⟨#[]⟩] 45)) (.cells #[.int .i64 0,.string ⟨#[]⟩,.int .u64 0,.slice none 0 0,.int .u64 0,.int .u64 0,.string ⟨#[]⟩] 45) w.heap.size (by omega)).trans (zAG w (.cells #[.int .i64 0,.string ⟨#[]⟩,.int .u64 0,.slice none 0 0,.int .u64 0,.int .u64 0,.string ⟨#[]⟩] 45))
 have x12:=zAG (w.alloc (.cells #[.int .i64 0,.string ⟨#[]⟩,.int .u64 0,.slice none 0 0,.int .u64 0,.int .u64 0,.string ⟨#[]⟩] 45)) (.cells #[.int .i64 0,.string ⟨#[]⟩,.int .u64 0,.slice none 0 0,.int .u64 0,.int .u64 0,.string ⟨#[]⟩] 45)
 rw [hz1] at x12
 have HX8:=yh x8
 have HX12:=yh x12
 have HB2:=yh hb2
 have q0:=zAA (i:=0) x8 rfl
 have y0:=zAC (i:=0) x8
 have n0:=zAA (i:=0) x12 rfl
 have q1:=zAA (i:=1) x8 rfl
 have y1:=zAC (i:=1) x8
 have n1:=zAA (i:=1) x12 rfl
 have q2:=zAA (i:=2) x8 rfl
 have y2:=zAC (i:=2) x8
 have n2:=zAA (i:=2) x12 rfl
 have q3:=zAA (i:=3) x8 rfl
 have y3:=zAC (i:=3) x8
 have n3:=zAA (i:=3) x12 rfl
 have q4:=zAA (i:=4) x8 rfl
 have y4:=zAC (i:=4) x8
 have n4:=zAA (i:=4) x12 rfl
 have q5:=zAA (i:=5) x8 rfl
 have y5:=zAC (i:=5) x8
 have n5:=zAA (i:=5) x12 rfl
 have q6:=zAA (i:=6) x8 rfl
 have y6:=zAC (i:=6) x8
 have n6:=zAA (i:=6) x12 rfl
 clear x8 x12 hb1 hb2 hz1
 have d1:decide (ver<1)=false:=decide_eq_false (by omega)
 have d2:decide (ver > 3)=true:=decide_eq_true hv
 go_enter Tryz.func25,Tryz.ntmps25
 go_wp2
 refine bodyPost_ret (zAl rfl _ _ w.heap.size _ _ (0,0) _ rfl HX8.out Tryz.underlying45 rfl (by kernel_rfl)) rfl ?_
 exact ⟨rfl,HB2.out⟩
theorem zNB (ver:Int) (T A:Option Addr) (tn tk n c:Nat) (at_:Int) (hv:1≤ver∧ver≤3) (ha:at_<0) (w:World) :
  Calls Tryz.prog 25 #[.int .i64 ver,.slice T tn tk,.slice A n c,.int .i64 at_] w fun e w' =>e=.returned (.tuple #[.agg #[.int .i64 0,.string ⟨#[]⟩,.int .u64 0,.slice none 0 0,.int .u64 0,.int .u64 0,.string ⟨#[]⟩],.int .i64 0,.slice T tn tk,.int .i64 1])∧Below w.heap.size w w':=by
 have hz1:(w.alloc (.cells #[.int .i64 0,.string ⟨#[]⟩,.int .u64 0,.slice none 0 0,.int .u64 0,.int .u64 0,.string ⟨#[]⟩] 45)).heap.size=w.heap.size+1:=by simp
 have hb1:=(Below.refl w.heap.size w).alloc (Nat.le_refl _) (.cells #[.int .i64 0,.string ⟨#[]⟩,.int .u64 0,.slice none 0 0,.int .u64 0,.int .u64 0,.string ⟨#[]⟩] 45)
 have hb2:=hb1.alloc hb1.size (.cells #[.int .i64 0,.string ⟨#[]⟩,.int .u64 0,.slice none 0 0,.int .u64 0,.int .u64 0,.string ⟨#[]⟩] 45)
 have x8:=(Below.heap_alloc (w.alloc (.cells #[.int .i64 0,.string ⟨#[]⟩,.int .u64 0,.slice none 0 0,.int .u64 0,.int .u64 0,.string ⟨#[]⟩] 45)) (.cells #[.int .i64 0,.string ⟨#[]⟩,.int .u64 0,.slice none 0 0,.int .u64 0,.int .u64 0,.string ⟨#[]⟩] 45) w.heap.size (by omega)).trans (zAG w (.cells #[.int .i64 0,.string ⟨#[]⟩,.int .u64 0,.slice none 0 0,.int .u64 0,.int .u64 0,.string ⟨#[]⟩] 45))
 have x12:=zAG (w.alloc (.cells #[.int .i64 0,.string ⟨#[]⟩,.int .u64 0,.slice none 0 0,.int .u64 0,.int .u64 0,.string ⟨#[]⟩] 45)) (.cells #[.int .i64 0,.string ⟨#[]⟩,.int .u64 0,.slice none 0 0,.int .u64 0,.int .u64 0,.string ⟨#[]⟩] 45)
 rw [hz1] at x12
 have HX8:=yh x8
 have HX12:=yh x12
 have HB2:=yh hb2
 have q0:=zAA (i:=0) x8 rfl
 have y0:=zAC (i:=0) x8
 have n0:=zAA (i:=0) x12 rfl
 have q1:=zAA (i:=1) x8 rfl
 have y1:=zAC (i:=1) x8
 have n1:=zAA (i:=1) x12 rfl
 have q2:=zAA (i:=2) x8 rfl
 have y2:=zAC (i:=2) x8
 have n2:=zAA (i:=2) x12 rfl
 have q3:=zAA (i:=3) x8 rfl
 have y3:=zAC (i:=3) x8
 have n3:=zAA (i:=3) x12 rfl
 have q4:=zAA (i:=4) x8 rfl
 have y4:=zAC (i:=4) x8
 have n4:=zAA (i:=4) x12 rfl
 have q5:=zAA (i:=5) x8 rfl
 have y5:=zAC (i:=5) x8
 have n5:=zAA (i:=5) x12 rfl
 have q6:=zAA (i:=6) x8 rfl
 have y6:=zAC (i:=6) x8
 have n6:=zAA (i:=6) x12 rfl
 clear x8 x12 hb1 hb2 hz1
 have d1:decide (ver<1)=false:=decide_eq_false (by omega)
 have d2:decide (ver > 3)=false:=decide_eq_false (by omega)
 have d3:decide (at_<0)=true:=decide_eq_true ha
 go_enter Tryz.func25,Tryz.ntmps25
 go_wp2
 refine bodyPost_ret (zAl rfl _ _ w.heap.size _ _ (0,0) _ rfl HX8.out Tryz.underlying45 rfl (by kernel_rfl)) rfl ?_
 exact ⟨rfl,HB2.out⟩
theorem zIy (ver:Int) (T A:Option Addr) (tn tk n c:Nat) (at_:Int) (hv:1≤ver∧ver≤3) (ha:(n:Int)<at_) (w:World) :
  Calls Tryz.prog 25 #[.int .i64 ver,.slice T tn tk,.slice A n c,.int .i64 at_] w fun e w' =>e=.returned (.tuple #[.agg #[.int .i64 0,.string ⟨#[]⟩,.int .u64 0,.slice none 0 0,.int .u64 0,.int .u64 0,.string ⟨#[]⟩],.int .i64 0,.slice T tn tk,.int .i64 1])∧Below w.heap.size w w':=by
 have hz1:(w.alloc (.cells #[.int .i64 0,.string ⟨#[]⟩,.int .u64 0,.slice none 0 0,.int .u64 0,.int .u64 0,.string ⟨#[]⟩] 45)).heap.size=w.heap.size+1:=by simp
 have hb1:=(Below.refl w.heap.size w).alloc (Nat.le_refl _) (.cells #[.int .i64 0,.string ⟨#[]⟩,.int .u64 0,.slice none 0 0,.int .u64 0,.int .u64 0,.string ⟨#[]⟩] 45)
 have hb2:=hb1.alloc hb1.size (.cells #[.int .i64 0,.string ⟨#[]⟩,.int .u64 0,.slice none 0 0,.int .u64 0,.int .u64 0,.string ⟨#[]⟩] 45)
 have x8:=(Below.heap_alloc (w.alloc (.cells #[.int .i64 0,.string ⟨#[]⟩,.int .u64 0,.slice none 0 0,.int .u64 0,.int .u64 0,.string ⟨#[]⟩] 45)) (.cells #[.int .i64 0,.string ⟨#[]⟩,.int .u64 0,.slice none 0 0,.int .u64 0,.int .u64 0,.string ⟨#[]⟩] 45) w.heap.size (by omega)).trans (zAG w (.cells #[.int .i64 0,.string ⟨#[]⟩,.int .u64 0,.slice none 0 0,.int .u64 0,.int .u64 0,.string ⟨#[]⟩] 45))
 have x12:=zAG (w.alloc (.cells #[.int .i64 0,.string ⟨#[]⟩,.int .u64 0,.slice none 0 0,.int .u64 0,.int .u64 0,.string ⟨#[]⟩] 45)) (.cells #[.int .i64 0,.string ⟨#[]⟩,.int .u64 0,.slice none 0 0,.int .u64 0,.int .u64 0,.string ⟨#[]⟩] 45)
 rw [hz1] at x12
 have HX8:=yh x8
 have HX12:=yh x12
 have HB2:=yh hb2
 have q0:=zAA (i:=0) x8 rfl
 have y0:=zAC (i:=0) x8
 have n0:=zAA (i:=0) x12 rfl
 have q1:=zAA (i:=1) x8 rfl
 have y1:=zAC (i:=1) x8
 have n1:=zAA (i:=1) x12 rfl
 have q2:=zAA (i:=2) x8 rfl
 have y2:=zAC (i:=2) x8
 have n2:=zAA (i:=2) x12 rfl
 have q3:=zAA (i:=3) x8 rfl
 have y3:=zAC (i:=3) x8
 have n3:=zAA (i:=3) x12 rfl
 have q4:=zAA (i:=4) x8 rfl
 have y4:=zAC (i:=4) x8
 have n4:=zAA (i:=4) x12 rfl
 have q5:=zAA (i:=5) x8 rfl
 have y5:=zAC (i:=5) x8
 have n5:=zAA (i:=5) x12 rfl
 have q6:=zAA (i:=6) x8 rfl
 have y6:=zAC (i:=6) x8
 have n6:=zAA (i:=6) x12 rfl
 clear x8 x12 hb1 hb2 hz1
 have d1:decide (ver<1)=false:=decide_eq_false (by omega)
 have d2:decide (ver > 3)=false:=decide_eq_false (by omega)
 have d3:decide (at_<0)=false:=decide_eq_false (by omega)
 have d4:decide (at_ > (n:Int))=true:=decide_eq_true ha
 go_enter Tryz.func25,Tryz.ntmps25
 go_wp2
 refine bodyPost_ret (zAl rfl _ _ w.heap.size _ _ (0,0) _ rfl HX8.out Tryz.underlying45 rfl (by kernel_rfl)) rfl ?_
 exact ⟨rfl,HB2.out⟩
def tblA (tl:List (List UInt8)) (qs:List (List UInt8)) (j:Nat):List (List UInt8):=((qs.take j).map List.tail).foldl tput tl
theorem zHg {tl qs:List (List UInt8)} {j:Nat} {p:List UInt8} (h:qs[j]? = some p):tblA tl qs (j+1)=tput (tblA tl qs j) p.tail:=by
 unfold tblA
 rw [List.take_add_one,h]
 simp [List.foldl_append]
theorem zEZ (tl qs:List (List UInt8)) (j:Nat):(tblA tl qs j).length≤tl.length+j:=by
 unfold tblA
 have h1:=zBN ((qs.take j).map List.tail) tl
 rw [List.length_map,List.length_take] at h1
 omega
theorem zED:∀ (qs:List (List UInt8)) (j:Nat),j<zAh qs→∃ t,qs[j]? = some (0 :: t)
 | [],j,h =>by simp [zAh] at h
 | p :: qs,j,h =>by
  unfold zAh at h
  by_cases hp:zBh p=true
  ·rw [if_pos hp] at h
   cases j with
   | zero =>
    match p,hp with
    | [],hp =>simp [zBh] at hp
    | x :: p,hp =>
     have hx:x=0:=by simpa [zBh] using hp
     exact ⟨p,by rw [hx];rfl⟩
   | succ j =>
    obtain ⟨t,ht⟩:=zED qs j (by omega)
    exact ⟨t,by simpa using ht⟩
  ·rw [if_neg hp] at h;omega
theorem zIc (b:UInt8) (p:List UInt8) (W:World):(Instr.index 9 (.string (tx (b :: p))) (.int .i64 0)).run Tryz.prog W=.ok (.int .u8 (b.toNat:Int)) W:=by
 have hs:(tx (b :: p)).size=p.length+1:=zBH _
 go_simp
 rfl
theorem zKt (b:UInt8) (p:List UInt8) (hp:p.length≤100000) (W:World):(Instr.slice 9 (.string (tx (b :: p))) (some (.int .i64 1)) none none).run Tryz.prog W=.ok (.string (tx p)) W:=by
 have hs:(tx (b :: p)).size=p.length+1:=zBH _
 go_simp
 rw [if_pos (by omega),zCK]
 simp
theorem zKe (ver:Int) (hv:1≤ver∧ver≤3) (tl ps:List (List UInt8)) (T A:Option Addr) (tk n c a:Nat) (B0:Nat) (ha:a≤n) (hn:n≤1000) (hps:∀ p ∈ ps,p.length≤3000) (htl:tl.length≤1000) (w:World) (hB0:B0≤w.heap.size) (hT:Own w B0 (.slice T tl.length tk) tl) (hr:zAE w w.heap.size 1 A n (ps.map tsv)) (htx:zAh (ps.drop a)=n - a) :
  Calls Tryz.prog 25 #[.int .i64 ver,.slice T tl.length tk,.slice A n c,.int .i64 (a:Int)] w fun e w' =>e=.returned (.tuple #[.agg #[.int .i64 0,.string ⟨#[]⟩,.int .u64 0,.slice none 0 0,.int .u64 0,.int .u64 0,.string ⟨#[]⟩],.int .i64 0,.slice T tl.length tk,.int .i64 6])∧Below w.heap.size w w':=by
 have hz1:(w.alloc (.cells #[.int .i64 0,.string ⟨#[]⟩,.int .u64 0,.slice none 0 0,.int .u64 0,.int .u64 0,.string ⟨#[]⟩] 45)).heap.size=w.heap.size+1:=by simp
 have hb1:=(Below.refl w.heap.size w).alloc (Nat.le_refl _) (.cells #[.int .i64 0,.string ⟨#[]⟩,.int .u64 0,.slice none 0 0,.int .u64 0,.int .u64 0,.string ⟨#[]⟩] 45)
 have hb2:=hb1.alloc hb1.size (.cells #[.int .i64 0,.string ⟨#[]⟩,.int .u64 0,.slice none 0 0,.int .u64 0,.int .u64 0,.string ⟨#[]⟩] 45)
 have x8:=(Below.heap_alloc (w.alloc (.cells #[.int .i64 0,.string ⟨#[]⟩,.int .u64 0,.slice none 0 0,.int .u64 0,.int .u64 0,.string ⟨#[]⟩] 45)) (.cells #[.int .i64 0,.string ⟨#[]⟩,.int .u64 0,.slice none 0 0,.int .u64 0,.int .u64 0,.string ⟨#[]⟩] 45) w.heap.size (by omega)).trans (zAG w (.cells #[.int .i64 0,.string ⟨#[]⟩,.int .u64 0,.slice none 0 0,.int .u64 0,.int .u64 0,.string ⟨#[]⟩] 45))
 have x12:=zAG (w.alloc (.cells #[.int .i64 0,.string ⟨#[]⟩,.int .u64 0,.slice none 0 0,.int .u64 0,.int .u64 0,.string ⟨#[]⟩] 45)) (.cells #[.int .i64 0,.string ⟨#[]⟩,.int .u64 0,.slice none 0 0,.int .u64 0,.int .u64 0,.string ⟨#[]⟩] 45)
 rw [hz1] at x12
 have HZ2:Hid (((w.alloc (.cells #[.int .i64 0,.string ⟨#[]⟩,.int .u64 0,.slice none 0 0,.int .u64 0,.int .u64 0,.string ⟨#[]⟩] 45)).alloc (.cells #[.int .i64 0,.string ⟨#[]⟩,.int .u64 0,.slice none 0 0,.int .u64 0,.int .u64 0,.string ⟨#[]⟩] 45)).heap.size=w.heap.size+2):=(by show _=_;simp)
 have HX8:=yh x8
 have HX12:=yh x12
 have HB2:=yh hb2
 clear x8 x12 hb1 hb2 hz1
 have hlen:ps.length=n:=by have:=hr.1;simpa using this
 have HLN:=yh hlen
 have HR:=yh hr
 have HT:=yh hT
 have HTX:=yh htx
 have HPS:=yh hps
 have d1:decide (ver<1)=false:=decide_eq_false (by omega)
 have d2:decide (ver > 3)=false:=decide_eq_false (by omega)
 have d3:decide ((a:Int)<0)=false:=decide_eq_false (by omega)
 have d4:decide ((a:Int) > (n:Int))=false:=decide_eq_false (by omega)
 have d5:decide (n<a)=false:=decide_eq_false (by omega)
 have HB2L:Hid (Below w.heap.size w ((w.alloc (.cells #[.int .i64 0,.string ⟨#[]⟩,.int .u64 0,.slice none 0 0,.int .u64 0,.int .u64 0,.string ⟨#[]⟩] 45)).alloc (.cells #[.int .i64 0,.string ⟨#[]⟩,.int .u64 0,.slice none 0 0,.int .u64 0,.int .u64 0,.string ⟨#[]⟩] 45))):=HB2.out
 obtain ⟨qs,hqs⟩:∃ qs,qs=ps.drop a:=⟨_,rfl⟩
 have HQS:=yh hqs
 clear hr hT htx hps hlen hqs
 go_enter Tryz.func25,Tryz.ntmps25
 go_wp2
 go_loopw [13,14] (fun v13 v14 wr =>∃ (m:Nat) (v:Value),a≤m∧m≤n∧v13=.int .i64 (m:Int)∧v=v14∧Own wr B0 v (tblA tl qs (m - a))∧Below ((w.alloc (.cells #[.int .i64 0,.string ⟨#[]⟩,.int .u64 0,.slice none 0 0,.int .u64 0,.int .u64 0,.string ⟨#[]⟩] 45)).alloc (.cells #[.int .i64 0,.string ⟨#[]⟩,.int .u64 0,.slice none 0 0,.int .u64 0,.int .u64 0,.string ⟨#[]⟩] 45)).heap.size ((w.alloc (.cells #[.int .i64 0,.string ⟨#[]⟩,.int .u64 0,.slice none 0 0,.int .u64 0,.int .u64 0,.string ⟨#[]⟩] 45)).alloc (.cells #[.int .i64 0,.string ⟨#[]⟩,.int .u64 0,.slice none 0 0,.int .u64 0,.int .u64 0,.string ⟨#[]⟩] 45)) wr) (fun v13 _ _ =>n - (intOf v13).toNat)
 case atStart =>exact ⟨a,_,Nat.le_refl _,ha,rfl,rfl,by rw [Nat.sub_self];exact zAF HT.out HB2L.out,Below.refl _ _⟩
 case round =>
  obtain ⟨m,v,ham,hmn,rfl,rfl,hown,hb⟩:=hrel
  have HO:=yh hown
  have HB:=yh hb
  by_cases hlt:m<n
  ·obtain ⟨t,ht⟩:=zED qs (m - a) (by rw [HQS.out,HTX.out];omega)
   have hpt:ps[m]? = some (0 :: t):=by rw [HQS.out,List.getElem?_drop,show a+(m - a)=m by omega] at ht;exact ht
   have htl3:t.length≤3000:=by have:=HPS.out _ (List.mem_of_getElem? hpt);simp at this;omega
   obtain ⟨ad,u,rfl,_,hu,hcell⟩:=((HR.out.below HB2L.out).below (hb.mono HB2L.out.size)).at_ (k:=m) hlt
   obtain rfl:u=.string (tx (0 :: t)):=by rw [List.getElem?_map,hpt] at hu;exact (Option.some.inj hu).symm
   have hx1:(tx (0 :: t)).toList.isEmpty=false:=by simp [tx]
   have hx2:((tx (0 :: t)).toList == [])=false:=by simp [tx]
   have hidx:=zIc 0 t
   have hcut:=zKt 0 t (by omega)
   have hm0:(0:Int)≤(m:Int):=by omega
   have hm1:(m:Int)<(n:Int):=by omega
   have HNX:Hid (tblA tl qs (m+1 - a)=tput (tblA tl qs (m - a)) t):=(by show _=_;rw [show m+1 - a=(m - a)+1 by omega];exact zHg ht)
   have HTBL:Hid ((tblA tl qs (m - a)).length≤1000000):=(by have:=zEZ tl qs (m - a);show _≤_;omega)
   have HM:Hid (m<n∧a≤m):=⟨hlt,ham⟩
   have HPUT:=yh (fun (W:World) (hW:Below wr.heap.size wr W) =>zCU B0 v (tblA tl qs (m - a)) t HTBL.out W (Nat.le_trans hB0 (Nat.le_trans HB2L.out.size (Nat.le_trans hb.size hW.size))) (zAF hown hW))
   obtain ⟨sx,hsx⟩:∃ sx,sx=tx (0 :: t):=⟨_,rfl⟩
   rw [← hsx] at hcell hx1 hx2 hidx hcut
   clear ht hpt hu hown hb hlt ham hmn hsx
   go_wp2_with fail
   refine (HPUT.out _ (Below.refl _ _)).mono ?_
   rintro e x1 ⟨v',rfl,ho1,_,hb1⟩
   have HO1:=yh ho1
   have HB1:=yh (HB.out.trans (hb1.mono HB.out.size))
   clear ho1 hb1
   go_wp2
   exact ⟨⟨m+1,v',by have:=HM.out;omega,by have:=HM.out;omega,rfl,rfl,by rw [HNX.out];exact HO1.out,HB1.out⟩,by show n - (m+1)<n - m;have:=HM.out;omega⟩
  ·obtain rfl:m=n:=by omega
   have x8:=(hb.block w.heap.size (by rw [HZ2.out];omega)).trans HX8.out
   have x12:=(hb.block (w.heap.size+1) (by rw [HZ2.out];omega)).trans HX12.out
   have HX8R:=yh x8
   have q0:=zAA (i:=0) x8 rfl
   have y0:=zAC (i:=0) x8
   have n0:=zAA (i:=0) x12 rfl
   have q1:=zAA (i:=1) x8 rfl
   have y1:=zAC (i:=1) x8
   have n1:=zAA (i:=1) x12 rfl
   have q2:=zAA (i:=2) x8 rfl
   have y2:=zAC (i:=2) x8
   have n2:=zAA (i:=2) x12 rfl
   have q3:=zAA (i:=3) x8 rfl
   have y3:=zAC (i:=3) x8
   have n3:=zAA (i:=3) x12 rfl
   have q4:=zAA (i:=4) x8 rfl
   have y4:=zAC (i:=4) x8
   have n4:=zAA (i:=4) x12 rfl
   have q5:=zAA (i:=5) x8 rfl
   have y5:=zAC (i:=5) x8
   have n5:=zAA (i:=5) x12 rfl
   have q6:=zAA (i:=6) x8 rfl
   have y6:=zAC (i:=6) x8
   have n6:=zAA (i:=6) x12 rfl
   clear x8 x12 hown hb
   go_wp2
   refine bodyPost_ret (zAl rfl _ _ w.heap.size _ _ (0,0) _ rfl (zAD (zAD (zAD (zAD (zAD (zAD (zAD HX8R.out 0 (.int .i64 0)) 1 (.string ⟨#[]⟩)) 2 (.int .u64 0)) 3 (.slice none 0 0)) 4 (.int .u64 0)) 5 (.int .u64 0)) 6 (.string ⟨#[]⟩)) Tryz.underlying45 rfl (by kernel_rfl)) rfl ?_
   exact ⟨rfl,((((((((HB2L.out.trans (HB.out.mono HB2L.out.size)).setCell (p:=⟨w.heap.size,0,none⟩) (Nat.le_refl _) _).setCell (p:=⟨w.heap.size,1,none⟩) (Nat.le_refl _) _).setCell (p:=⟨w.heap.size,2,none⟩) (Nat.le_refl _) _).setCell (p:=⟨w.heap.size,3,none⟩) (Nat.le_refl _) _).setCell (p:=⟨w.heap.size,4,none⟩) (Nat.le_refl _) _).setCell (p:=⟨w.heap.size,5,none⟩) (Nat.le_refl _) _).setCell (p:=⟨w.heap.size,6,none⟩) (Nat.le_refl _) _)⟩
end Go.Proofs.YtoclafdidjpndaaGreatDoor
