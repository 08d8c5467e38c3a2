/- Texts of one proof. -/
import Derived.Handy
import Derived.Test.YtekchkfjgofnkaaGreatDoorMy2
set_option maxRecDepth 100000
set_option maxHeartbeats 8000000
namespace Go.Proofs.YtekchkfjgofnkaaGreatDoor
open Go.RowKit
def rby (r:UInt8×Nat×Nat):Value:=.tuple #[.int .u8 (r.1.toNat:Int),.int .i64 (r.2.1:Int),.int .i64 (r.2.2:Int)]
theorem zLY (A:Option Addr) (n cap B:Nat) (c:Cu) (hn:n≤1000000) (hok:c.at_≤n) (w:World) (hr:zAD w B 1 A n (c.bs.map bv)) :
  Calls Tryz.prog 167 #[.slice A n cap,.int .i64 (c.at_:Int)] w fun e w' =>e=.returned (rby c.byR)∧w=w':=by
 have hl:c.bs.length=n:=by have:=hr.1;simpa using this
 by_cases h:c.at_<n
 ·obtain ⟨ad,u,rfl,_,hx,hcell⟩:=hr.at_ h
  obtain ⟨x,rfl,hd⟩:=zKu hx
  have e:c.byR=(x,c.at_+1,0):=by rw [Cu.byR,hd]
  have hv:rby (x,c.at_+1,0)=.tuple #[.int .u8 (x.toNat:Int),.int .i64 ((c.at_:Int)+1),.int .i64 0]:=by rw [rby];simp
  rw [e,hv]
  generalize c.at_=k at *
  generalize (x.toNat:Int)=v at *
  clear hx hd hr e hv hl
  go_enter Tryz.func167,Tryz.ntmps167
  go_wp2
  go_ret3
  exact ⟨rfl,rfl⟩
 ·have e:c.byR=(0,0,2):=by rw [Cu.byR,List.drop_eq_nil_of_le (by omega)]
  have hv:rby (0,0,2)=.tuple #[.int .u8 0,.int .i64 0,.int .i64 2]:=rfl
  rw [e,hv]
  have hk:c.at_=n:=by omega
  rw [hk]
  clear hr e hv hl hok h hk
  go_enter Tryz.func167,Tryz.ntmps167
  go_wp2
  go_ret3
  exact ⟨rfl,rfl⟩
theorem zOI (B b:Nat) (c:Cu) (w:World) (h:zAq w B b c) :
  Calls Tryz.prog 166 #[.pointer (some ⟨b,0,none⟩),.func (.func 167) #[] #[]] w fun e w' =>e=.returned (Value.int .u8 ((c.byte.1).toNat:Int))∧zAq w' B b c.byte.2∧Only b w w':=by
 have hok:=h.ok
 have hrm:=h.room
 have hlt:=h.lt
 obtain ⟨A,n,cap,hnc,hl,hr,f0,f1,f2,z1,_⟩:=h.cells
 by_cases h0:c.e=0
 ·have hg:∀ W,Below w.heap.size w W→Calls Tryz.prog 167 #[.slice A n cap,.int .i64 (c.at_:Int)] W fun e w' =>e=.returned (.tuple #[.int .u8 (c.byR.1.toNat:Int),.int .i64 (c.byR.2.1:Int),.int .i64 (c.byR.2.2:Int)])∧W=w' :=
   fun W hW =>zLY A n cap B c (by omega) (by rw [← hl];exact hok) W (hr.below (hW.mono (by have:=h.le;omega)))
  have HC0:Hid (∀ w',Below w.heap.size w w'→w'.cell? ⟨b,0,none⟩=some (.slice A n cap)):=fun w' hb =>(hb.cell (p:=⟨b,0,none⟩) hlt).trans f0
  have HC1:Hid (∀ w',Below w.heap.size w w'→w'.cell? ⟨b,1,none⟩=some (.int .i64 (c.at_:Int))):=fun w' hb =>(hb.cell (p:=⟨b,1,none⟩) hlt).trans f1
  rw [h0] at f2
  have hS:Below w.heap.size w w.drew:=(Below.refl _ w).drew
  have hd:=h.below hS hlt
  have hin:c.byR.2.2=0→c.byR.2.1≤c.bs.length:=fun he =>(Cu.byR_in hok he).2
  by_cases h1:c.byR.2.2=0
  ·have e1:c.byte.1=c.byR.1:=by simp only [Cu.byte,Cu.tk,h0,h1,if_true]
   have e2:c.byte.2={ c with at_:=c.byR.2.1 }:=by simp only [Cu.byte,Cu.tk,h0,h1,if_true]
   rw [e1,e2]
   rw [h1] at hg
   have hset:=hd.setAt c.byR.2.1 (hin h1)
   clear e1 e2 h h0 h1 hin hok hrm hl hr hnc hd f0 f1
   generalize c.at_=x at *
   generalize c.byR.2.1=y at *
   generalize Value.int .u8 ((c.byR.1).toNat:Int)=v at *
   have z1':w.drew.frozen? ⟨b,1,none⟩=false:=z1
   have c1':=HC1.out _ hS
   have HG:=yh hg
   have HSET:=yh hset
   clear hg hset z1 hlt
   go_enter Tryz.func166,Tryz.ntmps166
   go_wp2
   refine wp_region_held (S:=fun W =>Below w.heap.size w W) (by kernel_rfl) ?_
   refine zAB 0 (.func (.func 167) #[] #[]) rfl (by kernel_rfl) (by kernel_rfl) (by kernel_rfl) (fun _ _ _ h =>h) (by kernel_rfl) hS (fun _ _ =>by kernel_rfl) ?_
   refine zAB 1 (.pointer (some ⟨b,0,none⟩)) rfl (by kernel_rfl) (by kernel_rfl) (by kernel_rfl) (fun _ _ _ h =>h) (by kernel_rfl) hS (fun _ _ =>by kernel_rfl) ?_
   refine zAB 2 (.pointer (some ⟨b,0,none⟩)) rfl (by kernel_rfl) (by kernel_rfl) (by kernel_rfl) (fun _ _ _ h =>h) (by kernel_rfl) hS (by intro w' hb;go_simp) ?_
   refine zAB 3 (.pointer (some ⟨b,0,none⟩)) rfl (by kernel_rfl) (by kernel_rfl) (by kernel_rfl) (fun _ _ _ h =>h) (by kernel_rfl) hS (by intro w' hb;go_simp) ?_
   refine zAB 4 (.slice A n cap) rfl (by kernel_rfl) (by kernel_rfl) (by kernel_rfl) (fun _ _ _ h =>h) (by kernel_rfl) hS (by intro w' hb;have c0:=HC0.out w' hb;go_simp) ?_
   refine zAB 5 (.pointer (some ⟨b,0,none⟩)) rfl (by kernel_rfl) (by kernel_rfl) (by kernel_rfl) (fun _ _ _ h =>h) (by kernel_rfl) hS (fun _ _ =>by kernel_rfl) ?_
   refine zAB 6 (.pointer (some ⟨b,0,none⟩)) rfl (by kernel_rfl) (by kernel_rfl) (by kernel_rfl) (fun _ _ _ h =>h) (by kernel_rfl) hS (by intro w' hb;go_simp) ?_
   refine zAB 7 (.pointer (some ⟨b,1,none⟩)) rfl (by kernel_rfl) (by kernel_rfl) (by kernel_rfl) (fun _ _ _ h =>h) (by kernel_rfl) hS (by intro w' hb;go_simp) ?_
   refine zAB 8 (.int .i64 (x:Int)) rfl (by kernel_rfl) (by kernel_rfl) (by kernel_rfl) (fun _ _ _ h =>h) (by kernel_rfl) hS (by intro w' hb;have c1:=HC1.out w' hb;go_simp) ?_
   refine zAO 9 rfl (by kernel_rfl) (by kernel_rfl) (fun K hK =>?_)
   go_simp
   refine (HG.out _ hS).mono ?_
   rintro e w1 ⟨rfl,rfl⟩
   refine hK _ _ hS ?_
   clear hK K
   refine zAB 10 (.tuple #[v,.int .i64 (y:Int),.int .i64 0]) rfl (by kernel_rfl) (by kernel_rfl) (by kernel_rfl) (fun _ _ _ h =>h) (by kernel_rfl) hS (fun _ _ =>by kernel_rfl) ?_
   refine zAB 11 (v) rfl (by kernel_rfl) (by kernel_rfl) (by kernel_rfl) (fun _ _ _ h =>h) (by kernel_rfl) hS (by intro w' hb;go_simp) ?_
   refine zAB 12 (.int .i64 (y:Int)) rfl (by kernel_rfl) (by kernel_rfl) (by kernel_rfl) (fun _ _ _ h =>h) (by kernel_rfl) hS (by intro w' hb;go_simp) ?_
   refine zAB 13 (.int .i64 0) rfl (by kernel_rfl) (by kernel_rfl) (by kernel_rfl) (fun _ _ _ h =>h) (by kernel_rfl) hS (by intro w' hb;go_simp) ?_
   refine zAB 14 (v) rfl (by kernel_rfl) (by kernel_rfl) (by kernel_rfl) (fun _ _ _ h =>h) (by kernel_rfl) hS (fun _ _ =>by kernel_rfl) ?_
   refine zAB 15 (.int .i64 (y:Int)) rfl (by kernel_rfl) (by kernel_rfl) (by kernel_rfl) (fun _ _ _ h =>h) (by kernel_rfl) hS (fun _ _ =>by kernel_rfl) ?_
   refine zAB 16 (.int .i64 0) rfl (by kernel_rfl) (by kernel_rfl) (by kernel_rfl) (fun _ _ _ h =>h) (by kernel_rfl) hS (fun _ _ =>by kernel_rfl) ?_
   refine wpAnyH_done (by kernel_rfl) ?_ _
   go_simp
   go_wp2
   go_ret
   exact ⟨rfl,HSET.out,(Only.of_below hS).trans (Only.setCell _)⟩
  ·have e1:c.byte.1=0:=by simp only [Cu.byte,Cu.tk,h0,if_true,if_neg h1]
   have e2:c.byte.2=c.fail (c.byR.2.2:Int):=by simp only [Cu.byte,Cu.tk,Cu.fail,h0,if_true,if_neg h1]
   rw [e1,e2]
   have hfail:=zEx B b c (c.byR.2.2:Int) w.drew hd
   clear e1 e2 h h0 hin hok hrm hl hr hnc hd f0 f1
   generalize c.fail (c.byR.2.2:Int)=c9 at *
   generalize c.at_=x at *
   generalize c.byR.2.1=y at *
   generalize c.byR.2.2=e0 at *
   generalize Value.int .u8 ((c.byR.1).toNat:Int)=v at *
   have HG:=yh hg
   have HF:=yh hfail
   have hne:¬ ((e0:Int)=0):=by omega
   clear hg hfail hlt
   go_enter Tryz.func166,Tryz.ntmps166
   go_wp2
   refine wp_region_held (S:=fun W =>Below w.heap.size w W) (by kernel_rfl) ?_
   refine zAB 0 (.func (.func 167) #[] #[]) rfl (by kernel_rfl) (by kernel_rfl) (by kernel_rfl) (fun _ _ _ h =>h) (by kernel_rfl) hS (fun _ _ =>by kernel_rfl) ?_
   refine zAB 1 (.pointer (some ⟨b,0,none⟩)) rfl (by kernel_rfl) (by kernel_rfl) (by kernel_rfl) (fun _ _ _ h =>h) (by kernel_rfl) hS (fun _ _ =>by kernel_rfl) ?_
   refine zAB 2 (.pointer (some ⟨b,0,none⟩)) rfl (by kernel_rfl) (by kernel_rfl) (by kernel_rfl) (fun _ _ _ h =>h) (by kernel_rfl) hS (by intro w' hb;go_simp) ?_
   refine zAB 3 (.pointer (some ⟨b,0,none⟩)) rfl (by kernel_rfl) (by kernel_rfl) (by kernel_rfl) (fun _ _ _ h =>h) (by kernel_rfl) hS (by intro w' hb;go_simp) ?_
   refine zAB 4 (.slice A n cap) rfl (by kernel_rfl) (by kernel_rfl) (by kernel_rfl) (fun _ _ _ h =>h) (by kernel_rfl) hS (by intro w' hb;have c0:=HC0.out w' hb;go_simp) ?_
   refine zAB 5 (.pointer (some ⟨b,0,none⟩)) rfl (by kernel_rfl) (by kernel_rfl) (by kernel_rfl) (fun _ _ _ h =>h) (by kernel_rfl) hS (fun _ _ =>by kernel_rfl) ?_
   refine zAB 6 (.pointer (some ⟨b,0,none⟩)) rfl (by kernel_rfl) (by kernel_rfl) (by kernel_rfl) (fun _ _ _ h =>h) (by kernel_rfl) hS (by intro w' hb;go_simp) ?_
   refine zAB 7 (.pointer (some ⟨b,1,none⟩)) rfl (by kernel_rfl) (by kernel_rfl) (by kernel_rfl) (fun _ _ _ h =>h) (by kernel_rfl) hS (by intro w' hb;go_simp) ?_
   refine zAB 8 (.int .i64 (x:Int)) rfl (by kernel_rfl) (by kernel_rfl) (by kernel_rfl) (fun _ _ _ h =>h) (by kernel_rfl) hS (by intro w' hb;have c1:=HC1.out w' hb;go_simp) ?_
   refine zAO 9 rfl (by kernel_rfl) (by kernel_rfl) (fun K hK =>?_)
   go_simp
   refine (HG.out _ hS).mono ?_
   rintro e w1 ⟨rfl,rfl⟩
   refine hK _ _ hS ?_
   clear hK K
   refine zAB 10 (.tuple #[v,.int .i64 (y:Int),.int .i64 (e0:Int)]) rfl (by kernel_rfl) (by kernel_rfl) (by kernel_rfl) (fun _ _ _ h =>h) (by kernel_rfl) hS (fun _ _ =>by kernel_rfl) ?_
   refine zAB 11 (v) rfl (by kernel_rfl) (by kernel_rfl) (by kernel_rfl) (fun _ _ _ h =>h) (by kernel_rfl) hS (by intro w' hb;go_simp) ?_
   refine zAB 12 (.int .i64 (y:Int)) rfl (by kernel_rfl) (by kernel_rfl) (by kernel_rfl) (fun _ _ _ h =>h) (by kernel_rfl) hS (by intro w' hb;go_simp) ?_
   refine zAB 13 (.int .i64 (e0:Int)) rfl (by kernel_rfl) (by kernel_rfl) (by kernel_rfl) (fun _ _ _ h =>h) (by kernel_rfl) hS (by intro w' hb;go_simp) ?_
   refine zAB 14 (v) rfl (by kernel_rfl) (by kernel_rfl) (by kernel_rfl) (fun _ _ _ h =>h) (by kernel_rfl) hS (fun _ _ =>by kernel_rfl) ?_
   refine zAB 15 (.int .i64 (y:Int)) rfl (by kernel_rfl) (by kernel_rfl) (by kernel_rfl) (fun _ _ _ h =>h) (by kernel_rfl) hS (fun _ _ =>by kernel_rfl) ?_
   refine zAB 16 (.int .i64 (e0:Int)) rfl (by kernel_rfl) (by kernel_rfl) (by kernel_rfl) (fun _ _ _ h =>h) (by kernel_rfl) hS (fun _ _ =>by kernel_rfl) ?_
   refine wpAnyH_done (by kernel_rfl) ?_ _
   go_simp
   go_wp2_with fail
   refine HF.out.mono ?_
   rintro e w2 ⟨rfl,hc2,ho2⟩
   go_wp2
   go_ret
   exact ⟨rfl,hc2,(Only.of_below hS).trans ho2⟩
 ·have e1:c.byte=(0,c):=Cu.tk_e h0
  rw [e1]
  generalize c.e=x at f2 h0
  have H:=yh h
  clear e1 h hok hrm hlt hl hr f0 f1 z1
  go_enter Tryz.func166,Tryz.ntmps166
  go_wp2
  go_ret
  exact ⟨rfl,H.out,Only.refl _ _⟩
theorem zQB (B b:Nat) (c:Cu) (w:World) (h:zAq w B b c) :
  Calls Tryz.prog 181 #[.pointer (some ⟨b,0,none⟩),.func (.func 163) #[] #[]] w fun e w' =>e=.returned (Value.int .u64 ((c.num.1:Nat):Int))∧zAq w' B b c.num.2∧Only b w w':=by
 have hok:=h.ok
 have hrm:=h.room
 have hlt:=h.lt
 obtain ⟨A,n,cap,hnc,hl,hr,f0,f1,f2,z1,_⟩:=h.cells
 by_cases h0:c.e=0
 ·have hg:∀ W,Below w.heap.size w W→Calls Tryz.prog 163 #[.slice A n cap,.int .i64 (c.at_:Int)] W fun e w' =>e=.returned (.tuple #[.int .u64 (c.nuR.1:Int),.int .i64 (c.nuR.2.1:Int),.int .i64 (c.nuR.2.2:Int)])∧W=w' :=
   fun W hW =>zKy A n cap c.at_ B c.bs hnc (by omega) (by rw [← hl];exact hok) W (hr.below (hW.mono (by have:=h.le;omega)))
  have HC0:Hid (∀ w',Below w.heap.size w w'→w'.cell? ⟨b,0,none⟩=some (.slice A n cap)):=fun w' hb =>(hb.cell (p:=⟨b,0,none⟩) hlt).trans f0
  have HC1:Hid (∀ w',Below w.heap.size w w'→w'.cell? ⟨b,1,none⟩=some (.int .i64 (c.at_:Int))):=fun w' hb =>(hb.cell (p:=⟨b,1,none⟩) hlt).trans f1
  rw [h0] at f2
  have hS:Below w.heap.size w w.drew:=(Below.refl _ w).drew
  have hd:=h.below hS hlt
  have hin:c.nuR.2.2=0→c.nuR.2.1≤c.bs.length:=fun he =>(Cu.nuR_in hok he).2
  by_cases h1:c.nuR.2.2=0
  ·have e1:c.num.1=c.nuR.1:=by simp only [Cu.num,Cu.tk,h0,h1,if_true]
   have e2:c.num.2={ c with at_:=c.nuR.2.1 }:=by simp only [Cu.num,Cu.tk,h0,h1,if_true]
   rw [e1,e2]
   rw [h1] at hg
   have hset:=hd.setAt c.nuR.2.1 (hin h1)
   clear e1 e2 h h0 h1 hin hok hrm hl hr hnc hd f0 f1
   generalize c.at_=x at *
   generalize c.nuR.2.1=y at *
   generalize Value.int .u64 ((c.nuR.1:Nat):Int)=v at *
   have z1':w.drew.frozen? ⟨b,1,none⟩=false:=z1
   have c1':=HC1.out _ hS
   have HG:=yh hg
   have HSET:=yh hset
   clear hg hset z1 hlt
   go_enter Tryz.func181,Tryz.ntmps181
   go_wp2
   refine wp_region_held (S:=fun W =>Below w.heap.size w W) (by kernel_rfl) ?_
   refine zAB 0 (.func (.func 163) #[] #[]) rfl (by kernel_rfl) (by kernel_rfl) (by kernel_rfl) (fun _ _ _ h =>h) (by kernel_rfl) hS (fun _ _ =>by kernel_rfl) ?_
   refine zAB 1 (.pointer (some ⟨b,0,none⟩)) rfl (by kernel_rfl) (by kernel_rfl) (by kernel_rfl) (fun _ _ _ h =>h) (by kernel_rfl) hS (fun _ _ =>by kernel_rfl) ?_
   refine zAB 2 (.pointer (some ⟨b,0,none⟩)) rfl (by kernel_rfl) (by kernel_rfl) (by kernel_rfl) (fun _ _ _ h =>h) (by kernel_rfl) hS (by intro w' hb;go_simp) ?_
   refine zAB 3 (.pointer (some ⟨b,0,none⟩)) rfl (by kernel_rfl) (by kernel_rfl) (by kernel_rfl) (fun _ _ _ h =>h) (by kernel_rfl) hS (by intro w' hb;go_simp) ?_
   refine zAB 4 (.slice A n cap) rfl (by kernel_rfl) (by kernel_rfl) (by kernel_rfl) (fun _ _ _ h =>h) (by kernel_rfl) hS (by intro w' hb;have c0:=HC0.out w' hb;go_simp) ?_
   refine zAB 5 (.pointer (some ⟨b,0,none⟩)) rfl (by kernel_rfl) (by kernel_rfl) (by kernel_rfl) (fun _ _ _ h =>h) (by kernel_rfl) hS (fun _ _ =>by kernel_rfl) ?_
   refine zAB 6 (.pointer (some ⟨b,0,none⟩)) rfl (by kernel_rfl) (by kernel_rfl) (by kernel_rfl) (fun _ _ _ h =>h) (by kernel_rfl) hS (by intro w' hb;go_simp) ?_
   refine zAB 7 (.pointer (some ⟨b,1,none⟩)) rfl (by kernel_rfl) (by kernel_rfl) (by kernel_rfl) (fun _ _ _ h =>h) (by kernel_rfl) hS (by intro w' hb;go_simp) ?_
   refine zAB 8 (.int .i64 (x:Int)) rfl (by kernel_rfl) (by kernel_rfl) (by kernel_rfl) (fun _ _ _ h =>h) (by kernel_rfl) hS (by intro w' hb;have c1:=HC1.out w' hb;go_simp) ?_
   refine zAO 9 rfl (by kernel_rfl) (by kernel_rfl) (fun K hK =>?_)
   go_simp
   refine (HG.out _ hS).mono ?_
   rintro e w1 ⟨rfl,rfl⟩
   refine hK _ _ hS ?_
   clear hK K
   refine zAB 10 (.tuple #[v,.int .i64 (y:Int),.int .i64 0]) rfl (by kernel_rfl) (by kernel_rfl) (by kernel_rfl) (fun _ _ _ h =>h) (by kernel_rfl) hS (fun _ _ =>by kernel_rfl) ?_
   refine zAB 11 (v) rfl (by kernel_rfl) (by kernel_rfl) (by kernel_rfl) (fun _ _ _ h =>h) (by kernel_rfl) hS (by intro w' hb;go_simp) ?_
   refine zAB 12 (.int .i64 (y:Int)) rfl (by kernel_rfl) (by kernel_rfl) (by kernel_rfl) (fun _ _ _ h =>h) (by kernel_rfl) hS (by intro w' hb;go_simp) ?_
   refine zAB 13 (.int .i64 0) rfl (by kernel_rfl) (by kernel_rfl) (by kernel_rfl) (fun _ _ _ h =>h) (by kernel_rfl) hS (by intro w' hb;go_simp) ?_
   refine zAB 14 (v) rfl (by kernel_rfl) (by kernel_rfl) (by kernel_rfl) (fun _ _ _ h =>h) (by kernel_rfl) hS (fun _ _ =>by kernel_rfl) ?_
   refine zAB 15 (.int .i64 (y:Int)) rfl (by kernel_rfl) (by kernel_rfl) (by kernel_rfl) (fun _ _ _ h =>h) (by kernel_rfl) hS (fun _ _ =>by kernel_rfl) ?_
   refine zAB 16 (.int .i64 0) rfl (by kernel_rfl) (by kernel_rfl) (by kernel_rfl) (fun _ _ _ h =>h) (by kernel_rfl) hS (fun _ _ =>by kernel_rfl) ?_
   refine wpAnyH_done (by kernel_rfl) ?_ _
   go_simp
   go_wp2
   go_ret
   exact ⟨rfl,HSET.out,(Only.of_below hS).trans (Only.setCell _)⟩
  ·have e1:c.num.1=0:=by simp only [Cu.num,Cu.tk,h0,if_true,if_neg h1]
   have e2:c.num.2=c.fail (c.nuR.2.2:Int):=by simp only [Cu.num,Cu.tk,Cu.fail,h0,if_true,if_neg h1]
   rw [e1,e2]
   have hfail:=zEx B b c (c.nuR.2.2:Int) w.drew hd
   clear e1 e2 h h0 hin hok hrm hl hr hnc hd f0 f1
   generalize c.fail (c.nuR.2.2:Int)=c9 at *
   generalize c.at_=x at *
   generalize c.nuR.2.1=y at *
   generalize c.nuR.2.2=e0 at *
   generalize Value.int .u64 ((c.nuR.1:Nat):Int)=v at *
   have HG:=yh hg
   have HF:=yh hfail
   have hne:¬ ((e0:Int)=0):=by omega
   clear hg hfail hlt
   go_enter Tryz.func181,Tryz.ntmps181
   go_wp2
   refine wp_region_held (S:=fun W =>Below w.heap.size w W) (by kernel_rfl) ?_
   refine zAB 0 (.func (.func 163) #[] #[]) rfl (by kernel_rfl) (by kernel_rfl) (by kernel_rfl) (fun _ _ _ h =>h) (by kernel_rfl) hS (fun _ _ =>by kernel_rfl) ?_
   refine zAB 1 (.pointer (some ⟨b,0,none⟩)) rfl (by kernel_rfl) (by kernel_rfl) (by kernel_rfl) (fun _ _ _ h =>h) (by kernel_rfl) hS (fun _ _ =>by kernel_rfl) ?_
   refine zAB 2 (.pointer (some ⟨b,0,none⟩)) rfl (by kernel_rfl) (by kernel_rfl) (by kernel_rfl) (fun _ _ _ h =>h) (by kernel_rfl) hS (by intro w' hb;go_simp) ?_
   refine zAB 3 (.pointer (some ⟨b,0,none⟩)) rfl (by kernel_rfl) (by kernel_rfl) (by kernel_rfl) (fun _ _ _ h =>h) (by kernel_rfl) hS (by intro w' hb;go_simp) ?_
   refine zAB 4 (.slice A n cap) rfl (by kernel_rfl) (by kernel_rfl) (by kernel_rfl) (fun _ _ _ h =>h) (by kernel_rfl) hS (by intro w' hb;have c0:=HC0.out w' hb;go_simp) ?_
   refine zAB 5 (.pointer (some ⟨b,0,none⟩)) rfl (by kernel_rfl) (by kernel_rfl) (by kernel_rfl) (fun _ _ _ h =>h) (by kernel_rfl) hS (fun _ _ =>by kernel_rfl) ?_
   refine zAB 6 (.pointer (some ⟨b,0,none⟩)) rfl (by kernel_rfl) (by kernel_rfl) (by kernel_rfl) (fun _ _ _ h =>h) (by kernel_rfl) hS (by intro w' hb;go_simp) ?_
   refine zAB 7 (.pointer (some ⟨b,1,none⟩)) rfl (by kernel_rfl) (by kernel_rfl) (by kernel_rfl) (fun _ _ _ h =>h) (by kernel_rfl) hS (by intro w' hb;go_simp) ?_
   refine zAB 8 (.int .i64 (x:Int)) rfl (by kernel_rfl) (by kernel_rfl) (by kernel_rfl) (fun _ _ _ h =>h) (by kernel_rfl) hS (by intro w' hb;have c1:=HC1.out w' hb;go_simp) ?_
   refine zAO 9 rfl (by kernel_rfl) (by kernel_rfl) (fun K hK =>?_)
   go_simp
   refine (HG.out _ hS).mono ?_
   rintro e w1 ⟨rfl,rfl⟩
   refine hK _ _ hS ?_
   clear hK K
   refine zAB 10 (.tuple #[v,.int .i64 (y:Int),.int .i64 (e0:Int)]) rfl (by kernel_rfl) (by kernel_rfl) (by kernel_rfl) (fun _ _ _ h =>h) (by kernel_rfl) hS (fun _ _ =>by kernel_rfl) ?_
   refine zAB 11 (v) rfl (by kernel_rfl) (by kernel_rfl) (by kernel_rfl) (fun _ _ _ h =>h) (by kernel_rfl) hS (by intro w' hb;go_simp) ?_
   refine zAB 12 (.int .i64 (y:Int)) rfl (by kernel_rfl) (by kernel_rfl) (by kernel_rfl) (fun _ _ _ h =>h) (by kernel_rfl) hS (by intro w' hb;go_simp) ?_
   refine zAB 13 (.int .i64 (e0:Int)) rfl (by kernel_rfl) (by kernel_rfl) (by kernel_rfl) (fun _ _ _ h =>h) (by kernel_rfl) hS (by intro w' hb;go_simp) ?_
   refine zAB 14 (v) rfl (by kernel_rfl) (by kernel_rfl) (by kernel_rfl) (fun _ _ _ h =>h) (by kernel_rfl) hS (fun _ _ =>by kernel_rfl) ?_
   refine zAB 15 (.int .i64 (y:Int)) rfl (by kernel_rfl) (by kernel_rfl) (by kernel_rfl) (fun _ _ _ h =>h) (by kernel_rfl) hS (fun _ _ =>by kernel_rfl) ?_
   refine zAB 16 (.int .i64 (e0:Int)) rfl (by kernel_rfl) (by kernel_rfl) (by kernel_rfl) (fun _ _ _ h =>h) (by kernel_rfl) hS (fun _ _ =>by kernel_rfl) ?_
   refine wpAnyH_done (by kernel_rfl) ?_ _
   go_simp
   go_wp2_with fail
   refine HF.out.mono ?_
   rintro e w2 ⟨rfl,hc2,ho2⟩
   go_wp2
   go_ret
   exact ⟨rfl,hc2,(Only.of_below hS).trans ho2⟩
 ·have e1:c.num=(0,c):=Cu.tk_e h0
  rw [e1]
  generalize c.e=x at f2 h0
  have H:=yh h
  clear e1 h hok hrm hlt hl hr f0 f1 z1
  go_enter Tryz.func181,Tryz.ntmps181
  go_wp2
  go_ret
  exact ⟨rfl,H.out,Only.refl _ _⟩
theorem zOL (A:Option Addr) (n cap B d:Nat) (c:Cu) (most:Int) (hm:most<9223372036854775808) (hnc:n≤cap) (hn:n≤1000000) (hok:c.at_≤n) (w:World) (hd:w.cell? ⟨d,0,none⟩=some (.int .i64 most)) (hr:zAD w B 1 A n (c.bs.map bv)) :
  Calls Tryz.prog 186 #[.slice A n cap,.int .i64 (c.at_:Int),.pointer (some ⟨d,0,none⟩)] w fun e w' =>e=.returned (.tuple #[.string (tx (c.txR most).1),.int .i64 ((c.txR most).2.1:Int),.int .i64 ((c.txR most).2.2:Int)])∧w=w':=by
 have hg:=zJC A n cap c.at_ most B c.bs hnc (by omega) hm hok w hr
 rw [show bg most c.at_ c.bs=c.txR most from rfl,bres] at hg
 generalize (c.at_:Int)=x at *
 generalize tx (c.txR most).1=t at *
 generalize ((c.txR most).2.1:Int)=y at *
 generalize ((c.txR most).2.2:Int)=e0 at *
 have HG:=yh hg
 clear hg hr hm
 go_enter Tryz.func186,Tryz.ntmps186
 go_wp2_with fail
 refine HG.out.mono ?_
 rintro e w1 ⟨rfl,rfl⟩
 go_wp2
 go_ret3
 exact ⟨rfl,rfl⟩
theorem zOK (B b:Nat) (c:Cu) (d:Nat) (most:Int) (hm:most<9223372036854775808) (w:World) (h:zAq w B b c) (hdl:d<w.heap.size) (hd0:w.cell? ⟨d,0,none⟩=some (.int .i64 most)) :
  Calls Tryz.prog 185 #[.pointer (some ⟨b,0,none⟩),.func (.func 186) #[] #[.pointer (some ⟨d,0,none⟩)]] w fun e w' =>e=.returned (Value.string (tx ((c.text most).1)))∧zAq w' B b (c.text most).2∧Only b w w':=by
 have hok:=h.ok
 have hrm:=h.room
 have hlt:=h.lt
 obtain ⟨A,n,cap,hnc,hl,hr,f0,f1,f2,z1,_⟩:=h.cells
 by_cases h0:c.e=0
 ·have hg:∀ W,Below w.heap.size w W→Calls Tryz.prog 186 #[.slice A n cap,.int .i64 (c.at_:Int),.pointer (some ⟨d,0,none⟩)] W fun e w' =>e=.returned (.tuple #[.string (tx (c.txR most).1),.int .i64 ((c.txR most).2.1:Int),.int .i64 ((c.txR most).2.2:Int)])∧W=w' :=
   fun W hW =>zOL A n cap B d c most hm hnc (by omega) (by rw [← hl];exact hok) W ((hW.cell (p:=⟨d,0,none⟩) hdl).trans hd0) (hr.below (hW.mono (by have:=h.le;omega)))
  have HC0:Hid (∀ w',Below w.heap.size w w'→w'.cell? ⟨b,0,none⟩=some (.slice A n cap)):=fun w' hb =>(hb.cell (p:=⟨b,0,none⟩) hlt).trans f0
  have HC1:Hid (∀ w',Below w.heap.size w w'→w'.cell? ⟨b,1,none⟩=some (.int .i64 (c.at_:Int))):=fun w' hb =>(hb.cell (p:=⟨b,1,none⟩) hlt).trans f1
  rw [h0] at f2
  have hS:Below w.heap.size w w.drew:=(Below.refl _ w).drew
  have hd:=h.below hS hlt
  have hin:(c.txR most).2.2=0→(c.txR most).2.1≤c.bs.length:=fun he =>(Cu.txR_in most he).2
  by_cases h1:(c.txR most).2.2=0
  ·have e1:(c.text most).1=(c.txR most).1:=by simp only [Cu.text,Cu.tk,h0,h1,if_true]
   have e2:(c.text most).2={ c with at_:=(c.txR most).2.1 }:=by simp only [Cu.text,Cu.tk,h0,h1,if_true]
   rw [e1,e2]
   rw [h1] at hg
   have hset:=hd.setAt (c.txR most).2.1 (hin h1)
   clear e1 e2 hd0 hm h h0 h1 hin hok hrm hl hr hnc hd f0 f1
   generalize c.at_=x at *
   generalize (c.txR most).2.1=y at *
   generalize Value.string (tx ((c.txR most).1))=v at *
   have z1':w.drew.frozen? ⟨b,1,none⟩=false:=z1
   have c1':=HC1.out _ hS
   have HG:=yh hg
   have HSET:=yh hset
   clear hg hset z1 hlt
   go_enter Tryz.func185,Tryz.ntmps185
   go_wp2
   refine wp_region_held (S:=fun W =>Below w.heap.size w W) (by kernel_rfl) ?_
   refine zAB 0 (.func (.func 186) #[] #[.pointer (some ⟨d,0,none⟩)]) rfl (by kernel_rfl) (by kernel_rfl) (by kernel_rfl) (fun _ _ _ h =>h) (by kernel_rfl) hS (fun _ _ =>by kernel_rfl) ?_
   refine zAB 1 (.pointer (some ⟨b,0,none⟩)) rfl (by kernel_rfl) (by kernel_rfl) (by kernel_rfl) (fun _ _ _ h =>h) (by kernel_rfl) hS (fun _ _ =>by kernel_rfl) ?_
   refine zAB 2 (.pointer (some ⟨b,0,none⟩)) rfl (by kernel_rfl) (by kernel_rfl) (by kernel_rfl) (fun _ _ _ h =>h) (by kernel_rfl) hS (by intro w' hb;go_simp) ?_
   refine zAB 3 (.pointer (some ⟨b,0,none⟩)) rfl (by kernel_rfl) (by kernel_rfl) (by kernel_rfl) (fun _ _ _ h =>h) (by kernel_rfl) hS (by intro w' hb;go_simp) ?_
   refine zAB 4 (.slice A n cap) rfl (by kernel_rfl) (by kernel_rfl) (by kernel_rfl) (fun _ _ _ h =>h) (by kernel_rfl) hS (by intro w' hb;have c0:=HC0.out w' hb;go_simp) ?_
   refine zAB 5 (.pointer (some ⟨b,0,none⟩)) rfl (by kernel_rfl) (by kernel_rfl) (by kernel_rfl) (fun _ _ _ h =>h) (by kernel_rfl) hS (fun _ _ =>by kernel_rfl) ?_
   refine zAB 6 (.pointer (some ⟨b,0,none⟩)) rfl (by kernel_rfl) (by kernel_rfl) (by kernel_rfl) (fun _ _ _ h =>h) (by kernel_rfl) hS (by intro w' hb;go_simp) ?_
   refine zAB 7 (.pointer (some ⟨b,1,none⟩)) rfl (by kernel_rfl) (by kernel_rfl) (by kernel_rfl) (fun _ _ _ h =>h) (by kernel_rfl) hS (by intro w' hb;go_simp) ?_
   refine zAB 8 (.int .i64 (x:Int)) rfl (by kernel_rfl) (by kernel_rfl) (by kernel_rfl) (fun _ _ _ h =>h) (by kernel_rfl) hS (by intro w' hb;have c1:=HC1.out w' hb;go_simp) ?_
   refine zAO 9 rfl (by kernel_rfl) (by kernel_rfl) (fun K hK =>?_)
   go_simp
   refine (HG.out _ hS).mono ?_
   rintro e w1 ⟨rfl,rfl⟩
   refine hK _ _ hS ?_
   clear hK K
   refine zAB 10 (.tuple #[v,.int .i64 (y:Int),.int .i64 0]) rfl (by kernel_rfl) (by kernel_rfl) (by kernel_rfl) (fun _ _ _ h =>h) (by kernel_rfl) hS (fun _ _ =>by kernel_rfl) ?_
   refine zAB 11 (v) rfl (by kernel_rfl) (by kernel_rfl) (by kernel_rfl) (fun _ _ _ h =>h) (by kernel_rfl) hS (by intro w' hb;go_simp) ?_
   refine zAB 12 (.int .i64 (y:Int)) rfl (by kernel_rfl) (by kernel_rfl) (by kernel_rfl) (fun _ _ _ h =>h) (by kernel_rfl) hS (by intro w' hb;go_simp) ?_
   refine zAB 13 (.int .i64 0) rfl (by kernel_rfl) (by kernel_rfl) (by kernel_rfl) (fun _ _ _ h =>h) (by kernel_rfl) hS (by intro w' hb;go_simp) ?_
   refine zAB 14 (v) rfl (by kernel_rfl) (by kernel_rfl) (by kernel_rfl) (fun _ _ _ h =>h) (by kernel_rfl) hS (fun _ _ =>by kernel_rfl) ?_
   refine zAB 15 (.int .i64 (y:Int)) rfl (by kernel_rfl) (by kernel_rfl) (by kernel_rfl) (fun _ _ _ h =>h) (by kernel_rfl) hS (fun _ _ =>by kernel_rfl) ?_
   refine zAB 16 (.int .i64 0) rfl (by kernel_rfl) (by kernel_rfl) (by kernel_rfl) (fun _ _ _ h =>h) (by kernel_rfl) hS (fun _ _ =>by kernel_rfl) ?_
   refine wpAnyH_done (by kernel_rfl) ?_ _
   go_simp
   go_wp2
   go_ret
   exact ⟨rfl,HSET.out,(Only.of_below hS).trans (Only.setCell _)⟩
  ·have e1:(c.text most).1=[]:=by simp only [Cu.text,Cu.tk,h0,if_true,if_neg h1]
   have e2:(c.text most).2=c.fail ((c.txR most).2.2:Int):=by simp only [Cu.text,Cu.tk,Cu.fail,h0,if_true,if_neg h1]
   rw [e1,e2]
   have hfail:=zEx B b c ((c.txR most).2.2:Int) w.drew hd
   clear e1 e2 hd0 hm h h0 hin hok hrm hl hr hnc hd f0 f1
   generalize c.fail ((c.txR most).2.2:Int)=c9 at *
   generalize c.at_=x at *
   generalize (c.txR most).2.1=y at *
   generalize (c.txR most).2.2=e0 at *
   generalize Value.string (tx ((c.txR most).1))=v at *
   have HG:=yh hg
   have HF:=yh hfail
   have hne:¬ ((e0:Int)=0):=by omega
   clear hg hfail hlt
   go_enter Tryz.func185,Tryz.ntmps185
   go_wp2
   refine wp_region_held (S:=fun W =>Below w.heap.size w W) (by kernel_rfl) ?_
   refine zAB 0 (.func (.func 186) #[] #[.pointer (some ⟨d,0,none⟩)]) rfl (by kernel_rfl) (by kernel_rfl) (by kernel_rfl) (fun _ _ _ h =>h) (by kernel_rfl) hS (fun _ _ =>by kernel_rfl) ?_
   refine zAB 1 (.pointer (some ⟨b,0,none⟩)) rfl (by kernel_rfl) (by kernel_rfl) (by kernel_rfl) (fun _ _ _ h =>h) (by kernel_rfl) hS (fun _ _ =>by kernel_rfl) ?_
   refine zAB 2 (.pointer (some ⟨b,0,none⟩)) rfl (by kernel_rfl) (by kernel_rfl) (by kernel_rfl) (fun _ _ _ h =>h) (by kernel_rfl) hS (by intro w' hb;go_simp) ?_
   refine zAB 3 (.pointer (some ⟨b,0,none⟩)) rfl (by kernel_rfl) (by kernel_rfl) (by kernel_rfl) (fun _ _ _ h =>h) (by kernel_rfl) hS (by intro w' hb;go_simp) ?_
   refine zAB 4 (.slice A n cap) rfl (by kernel_rfl) (by kernel_rfl) (by kernel_rfl) (fun _ _ _ h =>h) (by kernel_rfl) hS (by intro w' hb;have c0:=HC0.out w' hb;go_simp) ?_
   refine zAB 5 (.pointer (some ⟨b,0,none⟩)) rfl (by kernel_rfl) (by kernel_rfl) (by kernel_rfl) (fun _ _ _ h =>h) (by kernel_rfl) hS (fun _ _ =>by kernel_rfl) ?_
   refine zAB 6 (.pointer (some ⟨b,0,none⟩)) rfl (by kernel_rfl) (by kernel_rfl) (by kernel_rfl) (fun _ _ _ h =>h) (by kernel_rfl) hS (by intro w' hb;go_simp) ?_
   refine zAB 7 (.pointer (some ⟨b,1,none⟩)) rfl (by kernel_rfl) (by kernel_rfl) (by kernel_rfl) (fun _ _ _ h =>h) (by kernel_rfl) hS (by intro w' hb;go_simp) ?_
   refine zAB 8 (.int .i64 (x:Int)) rfl (by kernel_rfl) (by kernel_rfl) (by kernel_rfl) (fun _ _ _ h =>h) (by kernel_rfl) hS (by intro w' hb;have c1:=HC1.out w' hb;go_simp) ?_
   refine zAO 9 rfl (by kernel_rfl) (by kernel_rfl) (fun K hK =>?_)
   go_simp
   refine (HG.out _ hS).mono ?_
   rintro e w1 ⟨rfl,rfl⟩
   refine hK _ _ hS ?_
   clear hK K
   refine zAB 10 (.tuple #[v,.int .i64 (y:Int),.int .i64 (e0:Int)]) rfl (by kernel_rfl) (by kernel_rfl) (by kernel_rfl) (fun _ _ _ h =>h) (by kernel_rfl) hS (fun _ _ =>by kernel_rfl) ?_
   refine zAB 11 (v) rfl (by kernel_rfl) (by kernel_rfl) (by kernel_rfl) (fun _ _ _ h =>h) (by kernel_rfl) hS (by intro w' hb;go_simp) ?_
   refine zAB 12 (.int .i64 (y:Int)) rfl (by kernel_rfl) (by kernel_rfl) (by kernel_rfl) (fun _ _ _ h =>h) (by kernel_rfl) hS (by intro w' hb;go_simp) ?_
   refine zAB 13 (.int .i64 (e0:Int)) rfl (by kernel_rfl) (by kernel_rfl) (by kernel_rfl) (fun _ _ _ h =>h) (by kernel_rfl) hS (by intro w' hb;go_simp) ?_
   refine zAB 14 (v) rfl (by kernel_rfl) (by kernel_rfl) (by kernel_rfl) (fun _ _ _ h =>h) (by kernel_rfl) hS (fun _ _ =>by kernel_rfl) ?_
   refine zAB 15 (.int .i64 (y:Int)) rfl (by kernel_rfl) (by kernel_rfl) (by kernel_rfl) (fun _ _ _ h =>h) (by kernel_rfl) hS (fun _ _ =>by kernel_rfl) ?_
   refine zAB 16 (.int .i64 (e0:Int)) rfl (by kernel_rfl) (by kernel_rfl) (by kernel_rfl) (fun _ _ _ h =>h) (by kernel_rfl) hS (fun _ _ =>by kernel_rfl) ?_
   refine wpAnyH_done (by kernel_rfl) ?_ _
   go_simp
   go_wp2_with fail
   refine HF.out.mono ?_
   rintro e w2 ⟨rfl,hc2,ho2⟩
   go_wp2
   go_ret
   exact ⟨rfl,hc2,(Only.of_below hS).trans ho2⟩
 ·have e1:(c.text most)=([],c):=Cu.tk_e h0
  rw [e1]
  generalize c.e=x at f2 h0
  have H:=yh h
  clear e1 hd0 hm h hok hrm hlt hl hr f0 f1 z1
  go_enter Tryz.func185,Tryz.ntmps185
  go_wp2
  go_ret
  exact ⟨rfl,H.out,Only.refl _ _⟩
namespace Cu
structure MInv {α:Type} (one:Cu→α×Cu) (N:Nat) (c1 d:Cu) (l:List α) (k:Nat):Prop where
 le:k≤N
 list:(many one N c1).1=l++(many one (N - k) d).1
 cur:(many one N c1).2=(many one (N - k) d).2
 len1:l.length≤d.at_+1
 len2:d.e=0→l.length≤d.at_
 ok:d.ok
 bs:d.bs=c1.bs
theorem MInv.start {α:Type} {one:Cu→α×Cu} {N:Nat} {c1:Cu} (h:c1.ok):MInv one N c1 c1 [] 0 :=
 ⟨Nat.zero_le _,rfl,rfl,by simp,by simp,h,rfl⟩
theorem MInv.step {α:Type} {one:Cu→α×Cu} {N:Nat} {c1 d:Cu} {l:List α} {k:Nat} (h:MInv one N c1 d l k) (hk:k<N) (he:d.e=0)
  (hto:To d (one d).2) (hon:(one d).2.e=0→d.at_<(one d).2.at_):MInv one N c1 (one d).2 (l++[(one d).1]) (k+1):=by
 have e:N - k=(N - (k+1))+1:=by omega
 have h2:=h.len2 he
 refine ⟨hk,?_,?_,?_,?_,hto.good,hto.bs.trans h.bs⟩
 ·rw [h.list,e,many_next he];simp
 ·rw [h.cur,e,many_next he]
 ·have:=hto.le;simp;omega
 ·intro h3;have:=hon h3;simp;omega
theorem MInv.stop {α:Type} {one:Cu→α×Cu} {N:Nat} {c1 d:Cu} {l:List α} {k:Nat} (h:MInv one N c1 d l k) (hs:d.e≠0∨N≤k):many one N c1=(l,d):=by
 have e:many one (N - k) d=([],d):=by
  rcases hs with hs | hs
  ·exact many_stop hs
  ·rw [show N - k=0 by omega];rfl
 have h1:=h.list
 have h2:=h.cur
 rw [e] at h1 h2
 rw [List.append_nil] at h1
 exact Prod.ext h1 h2
end Cu
theorem Only.next {b:Nat} {w x y:World} (h:Only b w x) (k:Below w.heap.size x y):Only b w y :=
 ⟨k.os.trans h.os,k.tape.trans h.tape,k.output.trans h.output,Nat.le_trans h.size k.size,fun i hi hn =>(k.block i hi).trans (h.block i hi hn)⟩
theorem zOc (B b:Nat) (c:Cu) (w:World) (h:zAq w B b c) :
  Calls Tryz.prog 139 #[.pointer (some ⟨b,0,none⟩)] w fun e w' =>e=.returned (.int .u8 (c.byte.1.toNat:Int))∧zAq w' B b c.byte.2∧Only b w w':=by
 have ht:=zOI B b c w h
 generalize (c.byte.1.toNat:Int)=v at *
 have HT:=yh ht
 clear ht h
 go_enter Tryz.func139,Tryz.ntmps139
 go_wp2_with fail
 refine HT.out.mono ?_
 rintro e w1 ⟨rfl,hc,ho⟩
 go_wp2
 go_ret
 exact ⟨rfl,hc,ho⟩
theorem zBU (B b:Nat) (c:Cu) (w:World) (h:zAq w B b c) :
  Calls Tryz.prog 169 #[.pointer (some ⟨b,0,none⟩)] w fun e w' =>e=.returned (.int .u64 (c.num.1:Int))∧zAq w' B b c.num.2∧Only b w w':=by
 have ht:=zQB B b c w h
 generalize (c.num.1:Int)=v at *
 have HT:=yh ht
 clear ht h
 go_enter Tryz.func169,Tryz.ntmps169
 go_wp2_with fail
 refine HT.out.mono ?_
 rintro e w1 ⟨rfl,hc,ho⟩
 go_wp2
 go_ret
 exact ⟨rfl,hc,ho⟩
theorem zQC (B b:Nat) (c:Cu) (most:Int) (hm:most<9223372036854775808) (w:World) (h:zAq w B b c) :
  Calls Tryz.prog 180 #[.pointer (some ⟨b,0,none⟩),.int .i64 most] w fun e w' =>e=.returned (.string (tx (c.text most).1))∧zAq w' B b (c.text most).2∧Only b w w':=by
 have hmf:∀ (fn:Fn) (first cap:Array Value) (w:World),(Instr.makeFunc fn first cap).run Tryz.prog w=.ok (.func fn first cap) w:=fun _ _ _ _ =>rfl
 have hlt:=h.lt
 have hb:Below w.heap.size w (w.alloc (.cells #[.int .i64 most] 3)):=(Below.refl _ w).alloc (Nat.le_refl _) _
 have ht:=zOK B b c w.heap.size most hm (w.alloc (.cells #[.int .i64 most] 3)) (h.below hb hlt) (by simp) (by simp only [World.cell?,World.alloc,Array.getElem?_push_size];rfl)
 generalize tx (c.text most).1=v at *
 have HT:=yh ht
 have HB:=yh hb
 clear ht h hb hlt hm
 go_enter Tryz.func180,Tryz.ntmps180
 go_wp2_with fail
 refine HT.out.mono ?_
 rintro e w1 ⟨rfl,hc,ho⟩
 go_wp2
 go_ret
 exact ⟨rfl,hc,(Only.of_below HB.out).trans ho⟩
def Cu.new (bs:List UInt8) (at_:Int):Cu:=if at_<0∨(bs.length:Int)<at_ then ⟨bs,0,1⟩ else ⟨bs,at_.toNat,0⟩
theorem zRI (A:Option Addr) (n cap:Nat) (at_:Int) (bs:List UInt8) (hn:n≤1000000) (w:World) (hr:zAD w w.heap.size 1 A n (bs.map bv)) :
  Calls Tryz.prog 138 #[.slice A n cap,.int .i64 at_] w fun e w' =>∃ b,e=.returned (.pointer (some ⟨b,0,none⟩))∧w.heap.size≤b∧zAq w' b b (Cu.new bs at_)∧Below w.heap.size w w':=by
 have hl:bs.length=n:=by have:=hr.1;simpa using this
 have HC:=yh (zIG A n cap w.heap.size bs (by omega) w (Nat.le_refl _) hr)
 have HN:Hid (Cu.new bs at_=if at_<0∨(n:Int)<at_ then ⟨bs,0,1⟩ else ⟨bs,at_.toNat,0⟩):=by rw [← hl];rfl
 have HRM:Hid (bs.length≤1000000):=by rw [hl];exact hn
 have HLEN:=yh hl
 clear hr hl
 go_enter Tryz.func138,Tryz.ntmps138
 go_wp2_with fail
 refine HC.out.mono ?_
 rintro e w1 ⟨v,rfl,ho,hb⟩
 obtain ⟨A1,c1,rfl,hc1,hr1⟩:=zBF ho
 obtain ⟨w2,hw2⟩:∃ w2,w2=w1.alloc (.cells #[.slice A1 n c1,.int .i64 0,.int .i64 0] 224):=⟨_,rfl⟩
 have hcur:zAq w2 w1.heap.size w1.heap.size ⟨bs,0,0⟩:=by
  rw [hw2]
  exact ⟨Nat.zero_le _,HRM.out,Nat.le_refl _,A1,n,c1,hc1,hr1.alloc (Nat.le_refl _) _,by show (w1.heap.push _)[w1.heap.size]? = _;simp [zHo]⟩
 have hb2:Below w.heap.size w w2:=by rw [hw2];exact hb.alloc hb.size _
 have hf:=zEx w1.heap.size w1.heap.size ⟨bs,0,0⟩ 1 w2 hcur
 have hlt:=hb.size
 have hlt2:=hcur.lt
 have HCUR:=yh hcur
 have HB2:=yh hb2
 have HLT:=yh hlt
 rw [hw2] at hf
 have HF:=yh hf
 have HW:=yh hw2
 have HC1:=yh hc1
 have HR1:=yh hr1
 have HB1:=yh hb
 clear hc1 hcur hb2 hf hw2 ho hb hr1 HC hlt hlt2
 by_cases h1:at_<0
 ·have hn1:Cu.new bs at_=⟨bs,0,1⟩:=by rw [HN.out,if_pos (.inl h1)]
  have HN1:=yh hn1
  clear hn1
  go_wp2_with fail
  refine HF.out.mono ?_
  rintro e w3 ⟨rfl,hc3,ho3⟩
  rw [← HW.out] at ho3
  go_wp2
  go_ret
  exact ⟨_,rfl,HLT.out,by rw [HN1.out];exact hc3,HB2.out.trans (ho3.below HLT.out HB2.out.size)⟩
 ·by_cases h2:(n:Int)<at_
  ·have hn1:Cu.new bs at_=⟨bs,0,1⟩:=by rw [HN.out,if_pos (.inr h2)]
   have HN1:=yh hn1
   clear hn1
   go_wp2_with fail
   refine HF.out.mono ?_
   rintro e w3 ⟨rfl,hc3,ho3⟩
   rw [← HW.out] at ho3
   go_wp2
   go_ret
   exact ⟨_,rfl,HLT.out,by rw [HN1.out];exact hc3,HB2.out.trans (ho3.below HLT.out HB2.out.size)⟩
  ·have hn1:Cu.new bs at_=⟨bs,at_.toNat,0⟩:=by rw [HN.out,if_neg (by omega)]
   obtain ⟨k,hk⟩:∃ k:Nat,at_=(k:Int):=⟨at_.toNat,by omega⟩
   obtain ⟨w3,hw3⟩:∃ w3,w3=w1.alloc (.cells #[.slice A1 n c1,.int .i64 (k:Int),.int .i64 0] 224):=⟨_,rfl⟩
   have hset:zAq w3 w1.heap.size w1.heap.size ⟨bs,k,0⟩:=by
    rw [hw3]
    exact ⟨by show k≤bs.length;rw [HLEN.out];omega,HRM.out,Nat.le_refl _,A1,n,c1,HC1.out,HR1.out.alloc (Nat.le_refl _) _,by show (w1.heap.push _)[w1.heap.size]? = _;simp [zHo]⟩
   have hbs:Below w.heap.size w w3:=by rw [hw3];exact HB1.out.alloc HB1.out.size _
   rw [hw3] at hset hbs
   have HSET:=yh hset
   have HBS:=yh hbs
   have hkk:at_.toNat=k:=by omega
   rw [hkk] at hn1
   have HN1:=yh hn1
   subst hk
   clear hn1 hset hbs hkk hw3
   go_wp2
   go_ret
   exact ⟨_,rfl,HLT.out,by rw [HN1.out];exact HSET.out,HBS.out⟩
end Go.Proofs.YtekchkfjgofnkaaGreatDoor
