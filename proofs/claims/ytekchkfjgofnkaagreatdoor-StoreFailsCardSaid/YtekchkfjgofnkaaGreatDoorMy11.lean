/- Texts of one proof. -/
import Derived.Test.YtekchkfjgofnkaaGreatDoorMy5
set_option maxRecDepth 100000
set_option maxHeartbeats 8000000
namespace Go.Proofs.YtekchkfjgofnkaaGreatDoor
open Go.RowKit
theorem zAd {w w':World} (h:w'.heap=w.heap) (p:Addr):w'.cell? p=w.cell? p:=by unfold World.cell?;rw [h]
theorem zLH {w:World} {b i:Nat} {cs:Array Value} {t:TypeId} {u:Value} (h:w.heap[b]? = some (.cells cs t (0,0))) (hi:cs[i]? = some u):w.cell? ⟨b,i,none⟩=some u:=by
 simp [World.cell?,h,hi]
theorem zRZ (kind rule out time:Int) (target tag:List UInt8) (A B:Option Addr) (n c d:Nat) (l1 l2:List Dp) (hn:n≤1000000) (w:World) (h1:zAD w w.heap.size 3 A n (dps l1)) (h2:zAD w w.heap.size 3 B n (dps l2)) :
  Calls Tryz.prog 42 #[.agg #[.int .i64 kind,.string (tx target),.int .u64 rule,.slice A n c,.int .u64 out,.int .u64 time,.string (tx tag)],.agg #[.int .i64 kind,.string (tx target),.int .u64 rule,.slice B n d,.int .u64 out,.int .u64 time,.string (tx tag)]] w fun e w' =>
   ((l1=l2∧e=.returned (.bool true))∨(l1≠l2∧e=.returned (.bool false)))∧Below w.heap.size w w':=by
 have hb:=(((Below.refl w.heap.size w).alloc (Nat.le_refl _) (.cells #[.int .i64 kind,.string (tx target),.int .u64 rule,.slice A n c,.int .u64 out,.int .u64 time,.string (tx tag)] 41)).alloc (by simp) (.cells #[.int .i64 kind,.string (tx target),.int .u64 rule,.slice B n d,.int .u64 out,.int .u64 time,.string (tx tag)] 41))
 have HL1:Hid (l1.length=n):=by have:=h1.1;rw [zAn] at this;show _=_;omega
 have HL2:Hid (l2.length=n):=by have:=h2.1;rw [zAn] at this;show _=_;omega
 have H1:=yh h1
 have H2:=yh h2
 have HB:=yh hb
 have hx:∀ (a b:Obj),((w.alloc a).alloc b).heap[w.heap.size+1]? = some b:=fun a b =>by
  have h:=@Array.getElem?_push_size _ (w.alloc a).heap b
  rwa [show (w.alloc a).heap.size=w.heap.size+1 from Array.size_push _] at h
 have hy:∀ (a b:Obj),((w.alloc a).alloc b).heap[w.heap.size]? = some a:=fun a b =>
  (Below.heap_alloc _ _ _ (by show w.heap.size<(w.alloc a).heap.size;rw [show (w.alloc a).heap.size=w.heap.size+1 from Array.size_push _];omega)).trans (by show (w.heap.push _)[w.heap.size]? = _;exact Array.getElem?_push_size)
 have HA1:=yh (hx (.cells #[.int .i64 kind,.string (tx target),.int .u64 rule,.slice A n c,.int .u64 out,.int .u64 time,.string (tx tag)] 41) (.cells #[.int .i64 kind,.string (tx target),.int .u64 rule,.slice B n d,.int .u64 out,.int .u64 time,.string (tx tag)] 41))
 have HA0:=yh (hy (.cells #[.int .i64 kind,.string (tx target),.int .u64 rule,.slice A n c,.int .u64 out,.int .u64 time,.string (tx tag)] 41) (.cells #[.int .i64 kind,.string (tx target),.int .u64 rule,.slice B n d,.int .u64 out,.int .u64 time,.string (tx tag)] 41))
 clear hx hy
 have ht1:=zCS target
 have ht2:=zCS tag
 clear h1 h2 hb
 go_enter Tryz.func42,Tryz.ntmps42
 go_wp2
 go_loopw [5] (fun idx wr =>∃ i:Nat,i≤n∧idx=.int .i64 (i:Int)∧l1.take i=l2.take i∧Below w.heap.size w wr∧wr.heap[w.heap.size]? = some (.cells #[.int .i64 kind,.string (tx target),.int .u64 rule,.slice A n c,.int .u64 out,.int .u64 time,.string (tx tag)] 41 (0,0))∧wr.heap[w.heap.size+1]? = some (.cells #[.int .i64 kind,.string (tx target),.int .u64 rule,.slice B n d,.int .u64 out,.int .u64 time,.string (tx tag)] 41 (0,0))) (fun idx wr =>n - (intOf idx).toNat)
 case atStart =>exact ⟨0,by omega,rfl,by simp,HB.out,HA0.out,HA1.out⟩
 case round =>
  obtain ⟨i,hi,rfl,htk,hb,ha0,ha1⟩:=hrel
  have f0:=zLH (i:=3) ha0 rfl
  have f1:=zLH (i:=3) ha1 rfl
  have HB5:=yh hb
  have HA5:=yh ha0
  have HA6:=yh ha1
  clear ha0 ha1
  by_cases hlt:i<n
  ·obtain ⟨x,hx⟩:∃ x,l1[i]? = some x:=⟨_,List.getElem?_eq_getElem (by rw [HL1.out];exact hlt)⟩
   obtain ⟨y,hy⟩:∃ y,l2[i]? = some y:=⟨_,List.getElem?_eq_getElem (by rw [HL2.out];exact hlt)⟩
   obtain ⟨ad,rfl,_,hcx⟩:=(H1.out.below hb).2 (by omega)
   obtain ⟨ad',rfl,_,hcy⟩:=(H2.out.below hb).2 (by omega)
   obtain ⟨x0,x1,x2⟩:=zCl l1 i x hx
   obtain ⟨y0,y1,y2⟩:=zCl l2 i y hy
   have k0:=hcx _ _ x0
   have k1:=hcx _ _ x1
   have k2:=hcx _ _ x2
   have m0:=hcy _ _ y0
   have m1:=hcy _ _ y1
   have m2:=hcy _ _ y2
   rw [zDR] at k1 m1
   rw [zDT] at k2 m2
   have HXY:Hid (x=y→l1.take (i+1)=l2.take (i+1)):=fun e =>by rw [List.take_add_one,List.take_add_one,htk,hx,hy,e]
   have HNE:Hid (x≠y→l1≠l2):=fun e h =>e (by rw [h,hy] at hx;exact (Option.some.inj hx).symm)
   obtain ⟨xn,xh,xo⟩:=x
   obtain ⟨yn,yhx,yo⟩:=y
   unfold rsv at k0 m0
   simp only at k0 k1 k2 m0 m1 m2
   clear hcx hcy x0 x1 x2 y0 y1 y2 hx hy htk hb
   have hi0:(0:Int)≤(i:Int):=by omega
   have hi1:(i:Int)<(n:Int):=by omega
   by_cases e0:xn=yn
   ·have hl:=zCS xn
    by_cases e1:xh=yhx
    ·by_cases e2:xo=yo
     ·subst e0;subst e1;subst e2
      have hob:(xo != xo)=false:=by simp
      have hob2:(xo == xo)=true:=by simp
      go_wp2_with fail
      refine wp_region_held (S:=fun v =>v.heap=wr.heap) (by kernel_rfl) ?_
      have hS:wr.drew.heap=wr.heap:=rfl
      refine zAB 0 (.pointer (some ⟨w.heap.size,3,none⟩)) rfl (by kernel_rfl) (by kernel_rfl) (by kernel_rfl) (fun _ _ _ h =>h) (by kernel_rfl) hS (fun _ _ =>by kernel_rfl) ?_
      refine zAB 1 (.slice (some ad) n c) rfl (by kernel_rfl) (by kernel_rfl) (by kernel_rfl) (fun _ _ _ h =>h) (by kernel_rfl) hS (by intro v hv;have q:=(zAd hv _).trans f0;go_simp) ?_
      refine zAB 2 (.int .i64 (i:Int)) rfl (by kernel_rfl) (by kernel_rfl) (by kernel_rfl) (fun _ _ _ h =>h) (by kernel_rfl) hS (fun _ _ =>by kernel_rfl) ?_
      refine zAB 3 (.pointer (some (ad.add (i * 3)))) rfl (by kernel_rfl) (by kernel_rfl) (by kernel_rfl) (fun _ _ _ h =>h) (by kernel_rfl) hS (by intro v hv;go_simp) ?_
      refine zAB 4 (.pointer (some (ad.add (i * 3)))) rfl (by kernel_rfl) (by kernel_rfl) (by kernel_rfl) (fun _ _ _ h =>h) (by kernel_rfl) hS (by intro v hv;go_simp) ?_
      refine zAB 5 (.string (tx xn)) rfl (by kernel_rfl) (by kernel_rfl) (by kernel_rfl) (fun _ _ _ h =>h) (by kernel_rfl) hS (by intro v hv;have q:=(zAd hv _).trans k0;go_simp) ?_
      refine zAB 6 (.pointer (some ⟨w.heap.size+1,3,none⟩)) rfl (by kernel_rfl) (by kernel_rfl) (by kernel_rfl) (fun _ _ _ h =>h) (by kernel_rfl) hS (fun _ _ =>by kernel_rfl) ?_
      refine zAB 7 (.slice (some ad') n d) rfl (by kernel_rfl) (by kernel_rfl) (by kernel_rfl) (fun _ _ _ h =>h) (by kernel_rfl) hS (by intro v hv;have q:=(zAd hv _).trans f1;go_simp) ?_
      refine zAB 8 (.int .i64 (i:Int)) rfl (by kernel_rfl) (by kernel_rfl) (by kernel_rfl) (fun _ _ _ h =>h) (by kernel_rfl) hS (fun _ _ =>by kernel_rfl) ?_
      refine zAB 9 (.pointer (some (ad'.add (i * 3)))) rfl (by kernel_rfl) (by kernel_rfl) (by kernel_rfl) (fun _ _ _ h =>h) (by kernel_rfl) hS (by intro v hv;go_simp) ?_
      refine zAB 10 (.pointer (some (ad'.add (i * 3)))) rfl (by kernel_rfl) (by kernel_rfl) (by kernel_rfl) (fun _ _ _ h =>h) (by kernel_rfl) hS (by intro v hv;go_simp) ?_
      refine zAB 11 (.string (tx xn)) rfl (by kernel_rfl) (by kernel_rfl) (by kernel_rfl) (fun _ _ _ h =>h) (by kernel_rfl) hS (by intro v hv;have q:=(zAd hv _).trans m0;go_simp) ?_
      refine zAB 12 (.bool false) rfl (by kernel_rfl) (by kernel_rfl) (by kernel_rfl) (fun _ _ _ h =>h) (by kernel_rfl) hS (by intro v hv;go_simp) ?_
      refine zAB 13 (.bool false) rfl (by kernel_rfl) (by kernel_rfl) (by kernel_rfl) (fun _ _ _ h =>h) (by kernel_rfl) hS (fun _ _ =>by kernel_rfl) ?_
      refine zAB 14 (.pointer (some ⟨w.heap.size,3,none⟩)) rfl (by kernel_rfl) (by kernel_rfl) (by kernel_rfl) (fun _ _ _ h =>h) (by kernel_rfl) hS (fun _ _ =>by kernel_rfl) ?_
      refine zAB 15 (.slice (some ad) n c) rfl (by kernel_rfl) (by kernel_rfl) (by kernel_rfl) (fun _ _ _ h =>h) (by kernel_rfl) hS (by intro v hv;have q:=(zAd hv _).trans f0;go_simp) ?_
      refine zAB 16 (.int .i64 (i:Int)) rfl (by kernel_rfl) (by kernel_rfl) (by kernel_rfl) (fun _ _ _ h =>h) (by kernel_rfl) hS (fun _ _ =>by kernel_rfl) ?_
      refine zAB 17 (.pointer (some (ad.add (i * 3)))) rfl (by kernel_rfl) (by kernel_rfl) (by kernel_rfl) (fun _ _ _ h =>h) (by kernel_rfl) hS (by intro v hv;go_simp) ?_
      refine zAB 18 (.pointer (some ⟨(ad.add (i * 3)).block,(ad.add (i * 3)).off+1,none⟩)) rfl (by kernel_rfl) (by kernel_rfl) (by kernel_rfl) (fun _ _ _ h =>h) (by kernel_rfl) hS (by intro v hv;go_simp) ?_
      refine zAB 19 (.int .u64 xh) rfl (by kernel_rfl) (by kernel_rfl) (by kernel_rfl) (fun _ _ _ h =>h) (by kernel_rfl) hS (by intro v hv;have q:=(zAd hv _).trans k1;go_simp) ?_
      refine zAB 20 (.pointer (some ⟨w.heap.size+1,3,none⟩)) rfl (by kernel_rfl) (by kernel_rfl) (by kernel_rfl) (fun _ _ _ h =>h) (by kernel_rfl) hS (fun _ _ =>by kernel_rfl) ?_
      refine zAB 21 (.slice (some ad') n d) rfl (by kernel_rfl) (by kernel_rfl) (by kernel_rfl) (fun _ _ _ h =>h) (by kernel_rfl) hS (by intro v hv;have q:=(zAd hv _).trans f1;go_simp) ?_
      refine zAB 22 (.int .i64 (i:Int)) rfl (by kernel_rfl) (by kernel_rfl) (by kernel_rfl) (fun _ _ _ h =>h) (by kernel_rfl) hS (fun _ _ =>by kernel_rfl) ?_
      refine zAB 23 (.pointer (some (ad'.add (i * 3)))) rfl (by kernel_rfl) (by kernel_rfl) (by kernel_rfl) (fun _ _ _ h =>h) (by kernel_rfl) hS (by intro v hv;go_simp) ?_
      refine zAB 24 (.pointer (some ⟨(ad'.add (i * 3)).block,(ad'.add (i * 3)).off+1,none⟩)) rfl (by kernel_rfl) (by kernel_rfl) (by kernel_rfl) (fun _ _ _ h =>h) (by kernel_rfl) hS (by intro v hv;go_simp) ?_
      refine zAB 25 (.int .u64 xh) rfl (by kernel_rfl) (by kernel_rfl) (by kernel_rfl) (fun _ _ _ h =>h) (by kernel_rfl) hS (by intro v hv;have q:=(zAd hv _).trans m1;go_simp) ?_
      refine zAB 26 (.bool false) rfl (by kernel_rfl) (by kernel_rfl) (by kernel_rfl) (fun _ _ _ h =>h) (by kernel_rfl) hS (by intro v hv;go_simp) ?_
      refine zAB 27 (.bool false) rfl (by kernel_rfl) (by kernel_rfl) (by kernel_rfl) (fun _ _ _ h =>h) (by kernel_rfl) hS (fun _ _ =>by kernel_rfl) ?_
      refine zAB 28 (.bool false) rfl (by kernel_rfl) (by kernel_rfl) (by kernel_rfl) (fun _ _ _ h =>h) (by kernel_rfl) hS (fun _ _ =>by kernel_rfl) ?_
      refine zAB 29 (.pointer (some ⟨w.heap.size,3,none⟩)) rfl (by kernel_rfl) (by kernel_rfl) (by kernel_rfl) (fun _ _ _ h =>h) (by kernel_rfl) hS (fun _ _ =>by kernel_rfl) ?_
      refine zAB 30 (.slice (some ad) n c) rfl (by kernel_rfl) (by kernel_rfl) (by kernel_rfl) (fun _ _ _ h =>h) (by kernel_rfl) hS (by intro v hv;have q:=(zAd hv _).trans f0;go_simp) ?_
      refine zAB 31 (.int .i64 (i:Int)) rfl (by kernel_rfl) (by kernel_rfl) (by kernel_rfl) (fun _ _ _ h =>h) (by kernel_rfl) hS (fun _ _ =>by kernel_rfl) ?_
      refine zAB 32 (.pointer (some (ad.add (i * 3)))) rfl (by kernel_rfl) (by kernel_rfl) (by kernel_rfl) (fun _ _ _ h =>h) (by kernel_rfl) hS (by intro v hv;go_simp) ?_
      refine zAB 33 (.pointer (some ⟨(ad.add (i * 3)).block,(ad.add (i * 3)).off+2,none⟩)) rfl (by kernel_rfl) (by kernel_rfl) (by kernel_rfl) (fun _ _ _ h =>h) (by kernel_rfl) hS (by intro v hv;go_simp) ?_
      refine zAB 34 (.bool xo) rfl (by kernel_rfl) (by kernel_rfl) (by kernel_rfl) (fun _ _ _ h =>h) (by kernel_rfl) hS (by intro v hv;have q:=(zAd hv _).trans k2;go_simp) ?_
      refine zAB 35 (.pointer (some ⟨w.heap.size+1,3,none⟩)) rfl (by kernel_rfl) (by kernel_rfl) (by kernel_rfl) (fun _ _ _ h =>h) (by kernel_rfl) hS (fun _ _ =>by kernel_rfl) ?_
      refine zAB 36 (.slice (some ad') n d) rfl (by kernel_rfl) (by kernel_rfl) (by kernel_rfl) (fun _ _ _ h =>h) (by kernel_rfl) hS (by intro v hv;have q:=(zAd hv _).trans f1;go_simp) ?_
      refine zAB 37 (.int .i64 (i:Int)) rfl (by kernel_rfl) (by kernel_rfl) (by kernel_rfl) (fun _ _ _ h =>h) (by kernel_rfl) hS (fun _ _ =>by kernel_rfl) ?_
      refine zAB 38 (.pointer (some (ad'.add (i * 3)))) rfl (by kernel_rfl) (by kernel_rfl) (by kernel_rfl) (fun _ _ _ h =>h) (by kernel_rfl) hS (by intro v hv;go_simp) ?_
      refine zAB 39 (.pointer (some ⟨(ad'.add (i * 3)).block,(ad'.add (i * 3)).off+2,none⟩)) rfl (by kernel_rfl) (by kernel_rfl) (by kernel_rfl) (fun _ _ _ h =>h) (by kernel_rfl) hS (by intro v hv;go_simp) ?_
      refine zAB 40 (.bool xo) rfl (by kernel_rfl) (by kernel_rfl) (by kernel_rfl) (fun _ _ _ h =>h) (by kernel_rfl) hS (by intro v hv;have q:=(zAd hv _).trans m2;go_simp) ?_
      refine zAB 41 (.bool false) rfl (by kernel_rfl) (by kernel_rfl) (by kernel_rfl) (fun _ _ _ h =>h) (by kernel_rfl) hS (by intro v hv;go_simp) ?_
      refine zAB 42 (.bool false) rfl (by kernel_rfl) (by kernel_rfl) (by kernel_rfl) (fun _ _ _ h =>h) (by kernel_rfl) hS (fun _ _ =>by kernel_rfl) ?_
      refine wpAnyH_done (by kernel_rfl) ?_ _
      go_simp
      all_goals (try go_wp2)
      all_goals exact ⟨⟨i+1,by omega,by go_num,by first | trivial | exact HXY.out rfl | exact HXY.out trivial,HB5.out.drew,HA5.out,HA6.out⟩,by simp [intOf];omega⟩
     ·subst e0;subst e1
      have hne:=HNE.out (fun e =>e2 (by injection e))
      have hob:(xo != yo)=true:=by rw [bne_iff_ne];exact e2
      have hob2:(xo == yo)=false:=by rw [beq_eq_false_iff_ne];exact e2
      have HNE2:=yh hne
      clear e2 hne
      go_wp2_with fail
      refine wp_region_held (S:=fun v =>v.heap=wr.heap) (by kernel_rfl) ?_
      have hS:wr.drew.heap=wr.heap:=rfl
      refine zAB 0 (.pointer (some ⟨w.heap.size,3,none⟩)) rfl (by kernel_rfl) (by kernel_rfl) (by kernel_rfl) (fun _ _ _ h =>h) (by kernel_rfl) hS (fun _ _ =>by kernel_rfl) ?_
      refine zAB 1 (.slice (some ad) n c) rfl (by kernel_rfl) (by kernel_rfl) (by kernel_rfl) (fun _ _ _ h =>h) (by kernel_rfl) hS (by intro v hv;have q:=(zAd hv _).trans f0;go_simp) ?_
      refine zAB 2 (.int .i64 (i:Int)) rfl (by kernel_rfl) (by kernel_rfl) (by kernel_rfl) (fun _ _ _ h =>h) (by kernel_rfl) hS (fun _ _ =>by kernel_rfl) ?_
      refine zAB 3 (.pointer (some (ad.add (i * 3)))) rfl (by kernel_rfl) (by kernel_rfl) (by kernel_rfl) (fun _ _ _ h =>h) (by kernel_rfl) hS (by intro v hv;go_simp) ?_
      refine zAB 4 (.pointer (some (ad.add (i * 3)))) rfl (by kernel_rfl) (by kernel_rfl) (by kernel_rfl) (fun _ _ _ h =>h) (by kernel_rfl) hS (by intro v hv;go_simp) ?_
      refine zAB 5 (.string (tx xn)) rfl (by kernel_rfl) (by kernel_rfl) (by kernel_rfl) (fun _ _ _ h =>h) (by kernel_rfl) hS (by intro v hv;have q:=(zAd hv _).trans k0;go_simp) ?_
      refine zAB 6 (.pointer (some ⟨w.heap.size+1,3,none⟩)) rfl (by kernel_rfl) (by kernel_rfl) (by kernel_rfl) (fun _ _ _ h =>h) (by kernel_rfl) hS (fun _ _ =>by kernel_rfl) ?_
      refine zAB 7 (.slice (some ad') n d) rfl (by kernel_rfl) (by kernel_rfl) (by kernel_rfl) (fun _ _ _ h =>h) (by kernel_rfl) hS (by intro v hv;have q:=(zAd hv _).trans f1;go_simp) ?_
      refine zAB 8 (.int .i64 (i:Int)) rfl (by kernel_rfl) (by kernel_rfl) (by kernel_rfl) (fun _ _ _ h =>h) (by kernel_rfl) hS (fun _ _ =>by kernel_rfl) ?_
      refine zAB 9 (.pointer (some (ad'.add (i * 3)))) rfl (by kernel_rfl) (by kernel_rfl) (by kernel_rfl) (fun _ _ _ h =>h) (by kernel_rfl) hS (by intro v hv;go_simp) ?_
      refine zAB 10 (.pointer (some (ad'.add (i * 3)))) rfl (by kernel_rfl) (by kernel_rfl) (by kernel_rfl) (fun _ _ _ h =>h) (by kernel_rfl) hS (by intro v hv;go_simp) ?_
      refine zAB 11 (.string (tx xn)) rfl (by kernel_rfl) (by kernel_rfl) (by kernel_rfl) (fun _ _ _ h =>h) (by kernel_rfl) hS (by intro v hv;have q:=(zAd hv _).trans m0;go_simp) ?_
      refine zAB 12 (.bool false) rfl (by kernel_rfl) (by kernel_rfl) (by kernel_rfl) (fun _ _ _ h =>h) (by kernel_rfl) hS (by intro v hv;go_simp) ?_
      refine zAB 13 (.bool false) rfl (by kernel_rfl) (by kernel_rfl) (by kernel_rfl) (fun _ _ _ h =>h) (by kernel_rfl) hS (fun _ _ =>by kernel_rfl) ?_
      refine zAB 14 (.pointer (some ⟨w.heap.size,3,none⟩)) rfl (by kernel_rfl) (by kernel_rfl) (by kernel_rfl) (fun _ _ _ h =>h) (by kernel_rfl) hS (fun _ _ =>by kernel_rfl) ?_
      refine zAB 15 (.slice (some ad) n c) rfl (by kernel_rfl) (by kernel_rfl) (by kernel_rfl) (fun _ _ _ h =>h) (by kernel_rfl) hS (by intro v hv;have q:=(zAd hv _).trans f0;go_simp) ?_
      refine zAB 16 (.int .i64 (i:Int)) rfl (by kernel_rfl) (by kernel_rfl) (by kernel_rfl) (fun _ _ _ h =>h) (by kernel_rfl) hS (fun _ _ =>by kernel_rfl) ?_
      refine zAB 17 (.pointer (some (ad.add (i * 3)))) rfl (by kernel_rfl) (by kernel_rfl) (by kernel_rfl) (fun _ _ _ h =>h) (by kernel_rfl) hS (by intro v hv;go_simp) ?_
      refine zAB 18 (.pointer (some ⟨(ad.add (i * 3)).block,(ad.add (i * 3)).off+1,none⟩)) rfl (by kernel_rfl) (by kernel_rfl) (by kernel_rfl) (fun _ _ _ h =>h) (by kernel_rfl) hS (by intro v hv;go_simp) ?_
      refine zAB 19 (.int .u64 xh) rfl (by kernel_rfl) (by kernel_rfl) (by kernel_rfl) (fun _ _ _ h =>h) (by kernel_rfl) hS (by intro v hv;have q:=(zAd hv _).trans k1;go_simp) ?_
      refine zAB 20 (.pointer (some ⟨w.heap.size+1,3,none⟩)) rfl (by kernel_rfl) (by kernel_rfl) (by kernel_rfl) (fun _ _ _ h =>h) (by kernel_rfl) hS (fun _ _ =>by kernel_rfl) ?_
      refine zAB 21 (.slice (some ad') n d) rfl (by kernel_rfl) (by kernel_rfl) (by kernel_rfl) (fun _ _ _ h =>h) (by kernel_rfl) hS (by intro v hv;have q:=(zAd hv _).trans f1;go_simp) ?_
      refine zAB 22 (.int .i64 (i:Int)) rfl (by kernel_rfl) (by kernel_rfl) (by kernel_rfl) (fun _ _ _ h =>h) (by kernel_rfl) hS (fun _ _ =>by kernel_rfl) ?_
      refine zAB 23 (.pointer (some (ad'.add (i * 3)))) rfl (by kernel_rfl) (by kernel_rfl) (by kernel_rfl) (fun _ _ _ h =>h) (by kernel_rfl) hS (by intro v hv;go_simp) ?_
      refine zAB 24 (.pointer (some ⟨(ad'.add (i * 3)).block,(ad'.add (i * 3)).off+1,none⟩)) rfl (by kernel_rfl) (by kernel_rfl) (by kernel_rfl) (fun _ _ _ h =>h) (by kernel_rfl) hS (by intro v hv;go_simp) ?_
      refine zAB 25 (.int .u64 xh) rfl (by kernel_rfl) (by kernel_rfl) (by kernel_rfl) (fun _ _ _ h =>h) (by kernel_rfl) hS (by intro v hv;have q:=(zAd hv _).trans m1;go_simp) ?_
      refine zAB 26 (.bool false) rfl (by kernel_rfl) (by kernel_rfl) (by kernel_rfl) (fun _ _ _ h =>h) (by kernel_rfl) hS (by intro v hv;go_simp) ?_
      refine zAB 27 (.bool false) rfl (by kernel_rfl) (by kernel_rfl) (by kernel_rfl) (fun _ _ _ h =>h) (by kernel_rfl) hS (fun _ _ =>by kernel_rfl) ?_
      refine zAB 28 (.bool false) rfl (by kernel_rfl) (by kernel_rfl) (by kernel_rfl) (fun _ _ _ h =>h) (by kernel_rfl) hS (fun _ _ =>by kernel_rfl) ?_
      refine zAB 29 (.pointer (some ⟨w.heap.size,3,none⟩)) rfl (by kernel_rfl) (by kernel_rfl) (by kernel_rfl) (fun _ _ _ h =>h) (by kernel_rfl) hS (fun _ _ =>by kernel_rfl) ?_
      refine zAB 30 (.slice (some ad) n c) rfl (by kernel_rfl) (by kernel_rfl) (by kernel_rfl) (fun _ _ _ h =>h) (by kernel_rfl) hS (by intro v hv;have q:=(zAd hv _).trans f0;go_simp) ?_
      refine zAB 31 (.int .i64 (i:Int)) rfl (by kernel_rfl) (by kernel_rfl) (by kernel_rfl) (fun _ _ _ h =>h) (by kernel_rfl) hS (fun _ _ =>by kernel_rfl) ?_
      refine zAB 32 (.pointer (some (ad.add (i * 3)))) rfl (by kernel_rfl) (by kernel_rfl) (by kernel_rfl) (fun _ _ _ h =>h) (by kernel_rfl) hS (by intro v hv;go_simp) ?_
      refine zAB 33 (.pointer (some ⟨(ad.add (i * 3)).block,(ad.add (i * 3)).off+2,none⟩)) rfl (by kernel_rfl) (by kernel_rfl) (by kernel_rfl) (fun _ _ _ h =>h) (by kernel_rfl) hS (by intro v hv;go_simp) ?_
      refine zAB 34 (.bool xo) rfl (by kernel_rfl) (by kernel_rfl) (by kernel_rfl) (fun _ _ _ h =>h) (by kernel_rfl) hS (by intro v hv;have q:=(zAd hv _).trans k2;go_simp) ?_
      refine zAB 35 (.pointer (some ⟨w.heap.size+1,3,none⟩)) rfl (by kernel_rfl) (by kernel_rfl) (by kernel_rfl) (fun _ _ _ h =>h) (by kernel_rfl) hS (fun _ _ =>by kernel_rfl) ?_
      refine zAB 36 (.slice (some ad') n d) rfl (by kernel_rfl) (by kernel_rfl) (by kernel_rfl) (fun _ _ _ h =>h) (by kernel_rfl) hS (by intro v hv;have q:=(zAd hv _).trans f1;go_simp) ?_
      refine zAB 37 (.int .i64 (i:Int)) rfl (by kernel_rfl) (by kernel_rfl) (by kernel_rfl) (fun _ _ _ h =>h) (by kernel_rfl) hS (fun _ _ =>by kernel_rfl) ?_
      refine zAB 38 (.pointer (some (ad'.add (i * 3)))) rfl (by kernel_rfl) (by kernel_rfl) (by kernel_rfl) (fun _ _ _ h =>h) (by kernel_rfl) hS (by intro v hv;go_simp) ?_
      refine zAB 39 (.pointer (some ⟨(ad'.add (i * 3)).block,(ad'.add (i * 3)).off+2,none⟩)) rfl (by kernel_rfl) (by kernel_rfl) (by kernel_rfl) (fun _ _ _ h =>h) (by kernel_rfl) hS (by intro v hv;go_simp) ?_
      refine zAB 40 (.bool yo) rfl (by kernel_rfl) (by kernel_rfl) (by kernel_rfl) (fun _ _ _ h =>h) (by kernel_rfl) hS (by intro v hv;have q:=(zAd hv _).trans m2;go_simp) ?_
      refine zAB 41 (.bool true) rfl (by kernel_rfl) (by kernel_rfl) (by kernel_rfl) (fun _ _ _ h =>h) (by kernel_rfl) hS (by intro v hv;go_simp) ?_
      refine zAB 42 (.bool true) rfl (by kernel_rfl) (by kernel_rfl) (by kernel_rfl) (fun _ _ _ h =>h) (by kernel_rfl) hS (fun _ _ =>by kernel_rfl) ?_
      refine wpAnyH_done (by kernel_rfl) ?_ _
      go_simp
      all_goals (try go_wp2)
      all_goals (try go_ret)
      all_goals exact ⟨.inr ⟨HNE2.out,rfl⟩,HB5.out.drew⟩
    ·subst e0
     have hne:=HNE.out (fun e =>e1 (by injection e))
     have hu1:(xh != yhx)=true:=by rw [bne_iff_ne];exact e1
     have hu3:(xh == yhx)=false:=by rw [beq_eq_false_iff_ne];exact e1
     have hu2:decide (xh=yhx)=false:=decide_eq_false e1
     have HNE2:=yh hne
     clear e1 hne
     go_wp2_with fail
     refine wp_region_held (S:=fun v =>v.heap=wr.heap) (by kernel_rfl) ?_
     have hS:wr.drew.heap=wr.heap:=rfl
     refine zAB 0 (.pointer (some ⟨w.heap.size,3,none⟩)) rfl (by kernel_rfl) (by kernel_rfl) (by kernel_rfl) (fun _ _ _ h =>h) (by kernel_rfl) hS (fun _ _ =>by kernel_rfl) ?_
     refine zAB 1 (.slice (some ad) n c) rfl (by kernel_rfl) (by kernel_rfl) (by kernel_rfl) (fun _ _ _ h =>h) (by kernel_rfl) hS (by intro v hv;have q:=(zAd hv _).trans f0;go_simp) ?_
     refine zAB 2 (.int .i64 (i:Int)) rfl (by kernel_rfl) (by kernel_rfl) (by kernel_rfl) (fun _ _ _ h =>h) (by kernel_rfl) hS (fun _ _ =>by kernel_rfl) ?_
     refine zAB 3 (.pointer (some (ad.add (i * 3)))) rfl (by kernel_rfl) (by kernel_rfl) (by kernel_rfl) (fun _ _ _ h =>h) (by kernel_rfl) hS (by intro v hv;go_simp) ?_
     refine zAB 4 (.pointer (some (ad.add (i * 3)))) rfl (by kernel_rfl) (by kernel_rfl) (by kernel_rfl) (fun _ _ _ h =>h) (by kernel_rfl) hS (by intro v hv;go_simp) ?_
     refine zAB 5 (.string (tx xn)) rfl (by kernel_rfl) (by kernel_rfl) (by kernel_rfl) (fun _ _ _ h =>h) (by kernel_rfl) hS (by intro v hv;have q:=(zAd hv _).trans k0;go_simp) ?_
     refine zAB 6 (.pointer (some ⟨w.heap.size+1,3,none⟩)) rfl (by kernel_rfl) (by kernel_rfl) (by kernel_rfl) (fun _ _ _ h =>h) (by kernel_rfl) hS (fun _ _ =>by kernel_rfl) ?_
     refine zAB 7 (.slice (some ad') n d) rfl (by kernel_rfl) (by kernel_rfl) (by kernel_rfl) (fun _ _ _ h =>h) (by kernel_rfl) hS (by intro v hv;have q:=(zAd hv _).trans f1;go_simp) ?_
     refine zAB 8 (.int .i64 (i:Int)) rfl (by kernel_rfl) (by kernel_rfl) (by kernel_rfl) (fun _ _ _ h =>h) (by kernel_rfl) hS (fun _ _ =>by kernel_rfl) ?_
     refine zAB 9 (.pointer (some (ad'.add (i * 3)))) rfl (by kernel_rfl) (by kernel_rfl) (by kernel_rfl) (fun _ _ _ h =>h) (by kernel_rfl) hS (by intro v hv;go_simp) ?_
     refine zAB 10 (.pointer (some (ad'.add (i * 3)))) rfl (by kernel_rfl) (by kernel_rfl) (by kernel_rfl) (fun _ _ _ h =>h) (by kernel_rfl) hS (by intro v hv;go_simp) ?_
     refine zAB 11 (.string (tx xn)) rfl (by kernel_rfl) (by kernel_rfl) (by kernel_rfl) (fun _ _ _ h =>h) (by kernel_rfl) hS (by intro v hv;have q:=(zAd hv _).trans m0;go_simp) ?_
     refine zAB 12 (.bool false) rfl (by kernel_rfl) (by kernel_rfl) (by kernel_rfl) (fun _ _ _ h =>h) (by kernel_rfl) hS (by intro v hv;go_simp) ?_
     refine zAB 13 (.bool false) rfl (by kernel_rfl) (by kernel_rfl) (by kernel_rfl) (fun _ _ _ h =>h) (by kernel_rfl) hS (fun _ _ =>by kernel_rfl) ?_
     refine zAB 14 (.pointer (some ⟨w.heap.size,3,none⟩)) rfl (by kernel_rfl) (by kernel_rfl) (by kernel_rfl) (fun _ _ _ h =>h) (by kernel_rfl) hS (fun _ _ =>by kernel_rfl) ?_
     refine zAB 15 (.slice (some ad) n c) rfl (by kernel_rfl) (by kernel_rfl) (by kernel_rfl) (fun _ _ _ h =>h) (by kernel_rfl) hS (by intro v hv;have q:=(zAd hv _).trans f0;go_simp) ?_
     refine zAB 16 (.int .i64 (i:Int)) rfl (by kernel_rfl) (by kernel_rfl) (by kernel_rfl) (fun _ _ _ h =>h) (by kernel_rfl) hS (fun _ _ =>by kernel_rfl) ?_
     refine zAB 17 (.pointer (some (ad.add (i * 3)))) rfl (by kernel_rfl) (by kernel_rfl) (by kernel_rfl) (fun _ _ _ h =>h) (by kernel_rfl) hS (by intro v hv;go_simp) ?_
     refine zAB 18 (.pointer (some ⟨(ad.add (i * 3)).block,(ad.add (i * 3)).off+1,none⟩)) rfl (by kernel_rfl) (by kernel_rfl) (by kernel_rfl) (fun _ _ _ h =>h) (by kernel_rfl) hS (by intro v hv;go_simp) ?_
     refine zAB 19 (.int .u64 xh) rfl (by kernel_rfl) (by kernel_rfl) (by kernel_rfl) (fun _ _ _ h =>h) (by kernel_rfl) hS (by intro v hv;have q:=(zAd hv _).trans k1;go_simp) ?_
     refine zAB 20 (.pointer (some ⟨w.heap.size+1,3,none⟩)) rfl (by kernel_rfl) (by kernel_rfl) (by kernel_rfl) (fun _ _ _ h =>h) (by kernel_rfl) hS (fun _ _ =>by kernel_rfl) ?_
     refine zAB 21 (.slice (some ad') n d) rfl (by kernel_rfl) (by kernel_rfl) (by kernel_rfl) (fun _ _ _ h =>h) (by kernel_rfl) hS (by intro v hv;have q:=(zAd hv _).trans f1;go_simp) ?_
     refine zAB 22 (.int .i64 (i:Int)) rfl (by kernel_rfl) (by kernel_rfl) (by kernel_rfl) (fun _ _ _ h =>h) (by kernel_rfl) hS (fun _ _ =>by kernel_rfl) ?_
     refine zAB 23 (.pointer (some (ad'.add (i * 3)))) rfl (by kernel_rfl) (by kernel_rfl) (by kernel_rfl) (fun _ _ _ h =>h) (by kernel_rfl) hS (by intro v hv;go_simp) ?_
     refine zAB 24 (.pointer (some ⟨(ad'.add (i * 3)).block,(ad'.add (i * 3)).off+1,none⟩)) rfl (by kernel_rfl) (by kernel_rfl) (by kernel_rfl) (fun _ _ _ h =>h) (by kernel_rfl) hS (by intro v hv;go_simp) ?_
     refine zAB 25 (.int .u64 yhx) rfl (by kernel_rfl) (by kernel_rfl) (by kernel_rfl) (fun _ _ _ h =>h) (by kernel_rfl) hS (by intro v hv;have q:=(zAd hv _).trans m1;go_simp) ?_
     refine zAB 26 (.bool true) rfl (by kernel_rfl) (by kernel_rfl) (by kernel_rfl) (fun _ _ _ h =>h) (by kernel_rfl) hS (by intro v hv;go_simp) ?_
     refine zAB 27 (.bool true) rfl (by kernel_rfl) (by kernel_rfl) (by kernel_rfl) (fun _ _ _ h =>h) (by kernel_rfl) hS (fun _ _ =>by kernel_rfl) ?_
     refine zAB 28 (.bool true) rfl (by kernel_rfl) (by kernel_rfl) (by kernel_rfl) (fun _ _ _ h =>h) (by kernel_rfl) hS (fun _ _ =>by kernel_rfl) ?_
     refine zAX 29 rfl (by kernel_rfl) (by kernel_rfl) (by kernel_rfl) (fun _ _ _ h =>h) (by kernel_rfl) hS ?_
     refine zAX 30 rfl (by kernel_rfl) (by kernel_rfl) (by kernel_rfl) (fun _ _ _ h =>h) (by kernel_rfl) hS ?_
     refine zAX 31 rfl (by kernel_rfl) (by kernel_rfl) (by kernel_rfl) (fun _ _ _ h =>h) (by kernel_rfl) hS ?_
     refine zAX 32 rfl (by kernel_rfl) (by kernel_rfl) (by kernel_rfl) (fun _ _ _ h =>h) (by kernel_rfl) hS ?_
     refine zAX 33 rfl (by kernel_rfl) (by kernel_rfl) (by kernel_rfl) (fun _ _ _ h =>h) (by kernel_rfl) hS ?_
     refine zAX 34 rfl (by kernel_rfl) (by kernel_rfl) (by kernel_rfl) (fun _ _ _ h =>h) (by kernel_rfl) hS ?_
     refine zAX 35 rfl (by kernel_rfl) (by kernel_rfl) (by kernel_rfl) (fun _ _ _ h =>h) (by kernel_rfl) hS ?_
     refine zAX 36 rfl (by kernel_rfl) (by kernel_rfl) (by kernel_rfl) (fun _ _ _ h =>h) (by kernel_rfl) hS ?_
     refine zAX 37 rfl (by kernel_rfl) (by kernel_rfl) (by kernel_rfl) (fun _ _ _ h =>h) (by kernel_rfl) hS ?_
     refine zAX 38 rfl (by kernel_rfl) (by kernel_rfl) (by kernel_rfl) (fun _ _ _ h =>h) (by kernel_rfl) hS ?_
     refine zAX 39 rfl (by kernel_rfl) (by kernel_rfl) (by kernel_rfl) (fun _ _ _ h =>h) (by kernel_rfl) hS ?_
     refine zAX 40 rfl (by kernel_rfl) (by kernel_rfl) (by kernel_rfl) (fun _ _ _ h =>h) (by kernel_rfl) hS ?_
     refine zAX 41 rfl (by kernel_rfl) (by kernel_rfl) (by kernel_rfl) (fun _ _ _ h =>h) (by kernel_rfl) hS ?_
     refine zAB 42 (.bool true) rfl (by kernel_rfl) (by kernel_rfl) (by kernel_rfl) (fun _ _ _ h =>h) (by kernel_rfl) hS (fun _ _ =>by kernel_rfl) ?_
     refine wpAnyH_done (by kernel_rfl) ?_ _
     go_simp
     all_goals (try go_wp2)
     all_goals (try go_ret)
     all_goals exact ⟨.inr ⟨HNE2.out,rfl⟩,HB5.out.drew⟩
   ·have hne:=HNE.out (fun e =>e0 (by injection e))
    have hu:=zCd e0
    have HNE2:=yh hne
    clear e0 hne
    go_wp2_with fail
    refine wp_region_held (S:=fun v =>v.heap=wr.heap) (by kernel_rfl) ?_
    have hS:wr.drew.heap=wr.heap:=rfl
    refine zAB 0 (.pointer (some ⟨w.heap.size,3,none⟩)) rfl (by kernel_rfl) (by kernel_rfl) (by kernel_rfl) (fun _ _ _ h =>h) (by kernel_rfl) hS (fun _ _ =>by kernel_rfl) ?_
    refine zAB 1 (.slice (some ad) n c) rfl (by kernel_rfl) (by kernel_rfl) (by kernel_rfl) (fun _ _ _ h =>h) (by kernel_rfl) hS (by intro v hv;have q:=(zAd hv _).trans f0;go_simp) ?_
    refine zAB 2 (.int .i64 (i:Int)) rfl (by kernel_rfl) (by kernel_rfl) (by kernel_rfl) (fun _ _ _ h =>h) (by kernel_rfl) hS (fun _ _ =>by kernel_rfl) ?_
    refine zAB 3 (.pointer (some (ad.add (i * 3)))) rfl (by kernel_rfl) (by kernel_rfl) (by kernel_rfl) (fun _ _ _ h =>h) (by kernel_rfl) hS (by intro v hv;go_simp) ?_
    refine zAB 4 (.pointer (some (ad.add (i * 3)))) rfl (by kernel_rfl) (by kernel_rfl) (by kernel_rfl) (fun _ _ _ h =>h) (by kernel_rfl) hS (by intro v hv;go_simp) ?_
    refine zAB 5 (.string (tx xn)) rfl (by kernel_rfl) (by kernel_rfl) (by kernel_rfl) (fun _ _ _ h =>h) (by kernel_rfl) hS (by intro v hv;have q:=(zAd hv _).trans k0;go_simp) ?_
    refine zAB 6 (.pointer (some ⟨w.heap.size+1,3,none⟩)) rfl (by kernel_rfl) (by kernel_rfl) (by kernel_rfl) (fun _ _ _ h =>h) (by kernel_rfl) hS (fun _ _ =>by kernel_rfl) ?_
    refine zAB 7 (.slice (some ad') n d) rfl (by kernel_rfl) (by kernel_rfl) (by kernel_rfl) (fun _ _ _ h =>h) (by kernel_rfl) hS (by intro v hv;have q:=(zAd hv _).trans f1;go_simp) ?_
    refine zAB 8 (.int .i64 (i:Int)) rfl (by kernel_rfl) (by kernel_rfl) (by kernel_rfl) (fun _ _ _ h =>h) (by kernel_rfl) hS (fun _ _ =>by kernel_rfl) ?_
    refine zAB 9 (.pointer (some (ad'.add (i * 3)))) rfl (by kernel_rfl) (by kernel_rfl) (by kernel_rfl) (fun _ _ _ h =>h) (by kernel_rfl) hS (by intro v hv;go_simp) ?_
    refine zAB 10 (.pointer (some (ad'.add (i * 3)))) rfl (by kernel_rfl) (by kernel_rfl) (by kernel_rfl) (fun _ _ _ h =>h) (by kernel_rfl) hS (by intro v hv;go_simp) ?_
    refine zAB 11 (.string (tx yn)) rfl (by kernel_rfl) (by kernel_rfl) (by kernel_rfl) (fun _ _ _ h =>h) (by kernel_rfl) hS (by intro v hv;have q:=(zAd hv _).trans m0;go_simp) ?_
    refine zAB 12 (.bool true) rfl (by kernel_rfl) (by kernel_rfl) (by kernel_rfl) (fun _ _ _ h =>h) (by kernel_rfl) hS (by intro v hv;go_simp) ?_
    refine zAB 13 (.bool true) rfl (by kernel_rfl) (by kernel_rfl) (by kernel_rfl) (fun _ _ _ h =>h) (by kernel_rfl) hS (fun _ _ =>by kernel_rfl) ?_
    refine zAX 14 rfl (by kernel_rfl) (by kernel_rfl) (by kernel_rfl) (fun _ _ _ h =>h) (by kernel_rfl) hS ?_
    refine zAX 15 rfl (by kernel_rfl) (by kernel_rfl) (by kernel_rfl) (fun _ _ _ h =>h) (by kernel_rfl) hS ?_
    refine zAX 16 rfl (by kernel_rfl) (by kernel_rfl) (by kernel_rfl) (fun _ _ _ h =>h) (by kernel_rfl) hS ?_
    refine zAX 17 rfl (by kernel_rfl) (by kernel_rfl) (by kernel_rfl) (fun _ _ _ h =>h) (by kernel_rfl) hS ?_
    refine zAX 18 rfl (by kernel_rfl) (by kernel_rfl) (by kernel_rfl) (fun _ _ _ h =>h) (by kernel_rfl) hS ?_
    refine zAX 19 rfl (by kernel_rfl) (by kernel_rfl) (by kernel_rfl) (fun _ _ _ h =>h) (by kernel_rfl) hS ?_
    refine zAX 20 rfl (by kernel_rfl) (by kernel_rfl) (by kernel_rfl) (fun _ _ _ h =>h) (by kernel_rfl) hS ?_
    refine zAX 21 rfl (by kernel_rfl) (by kernel_rfl) (by kernel_rfl) (fun _ _ _ h =>h) (by kernel_rfl) hS ?_
    refine zAX 22 rfl (by kernel_rfl) (by kernel_rfl) (by kernel_rfl) (fun _ _ _ h =>h) (by kernel_rfl) hS ?_
    refine zAX 23 rfl (by kernel_rfl) (by kernel_rfl) (by kernel_rfl) (fun _ _ _ h =>h) (by kernel_rfl) hS ?_
    refine zAX 24 rfl (by kernel_rfl) (by kernel_rfl) (by kernel_rfl) (fun _ _ _ h =>h) (by kernel_rfl) hS ?_
    refine zAX 25 rfl (by kernel_rfl) (by kernel_rfl) (by kernel_rfl) (fun _ _ _ h =>h) (by kernel_rfl) hS ?_
    refine zAX 26 rfl (by kernel_rfl) (by kernel_rfl) (by kernel_rfl) (fun _ _ _ h =>h) (by kernel_rfl) hS ?_
    refine zAB 27 (.bool true) rfl (by kernel_rfl) (by kernel_rfl) (by kernel_rfl) (fun _ _ _ h =>h) (by kernel_rfl) hS (fun _ _ =>by kernel_rfl) ?_
    refine zAB 28 (.bool true) rfl (by kernel_rfl) (by kernel_rfl) (by kernel_rfl) (fun _ _ _ h =>h) (by kernel_rfl) hS (fun _ _ =>by kernel_rfl) ?_
    refine zAX 29 rfl (by kernel_rfl) (by kernel_rfl) (by kernel_rfl) (fun _ _ _ h =>h) (by kernel_rfl) hS ?_
    refine zAX 30 rfl (by kernel_rfl) (by kernel_rfl) (by kernel_rfl) (fun _ _ _ h =>h) (by kernel_rfl) hS ?_
    refine zAX 31 rfl (by kernel_rfl) (by kernel_rfl) (by kernel_rfl) (fun _ _ _ h =>h) (by kernel_rfl) hS ?_
    refine zAX 32 rfl (by kernel_rfl) (by kernel_rfl) (by kernel_rfl) (fun _ _ _ h =>h) (by kernel_rfl) hS ?_
    refine zAX 33 rfl (by kernel_rfl) (by kernel_rfl) (by kernel_rfl) (fun _ _ _ h =>h) (by kernel_rfl) hS ?_
    refine zAX 34 rfl (by kernel_rfl) (by kernel_rfl) (by kernel_rfl) (fun _ _ _ h =>h) (by kernel_rfl) hS ?_
    refine zAX 35 rfl (by kernel_rfl) (by kernel_rfl) (by kernel_rfl) (fun _ _ _ h =>h) (by kernel_rfl) hS ?_
    refine zAX 36 rfl (by kernel_rfl) (by kernel_rfl) (by kernel_rfl) (fun _ _ _ h =>h) (by kernel_rfl) hS ?_
    refine zAX 37 rfl (by kernel_rfl) (by kernel_rfl) (by kernel_rfl) (fun _ _ _ h =>h) (by kernel_rfl) hS ?_
    refine zAX 38 rfl (by kernel_rfl) (by kernel_rfl) (by kernel_rfl) (fun _ _ _ h =>h) (by kernel_rfl) hS ?_
    refine zAX 39 rfl (by kernel_rfl) (by kernel_rfl) (by kernel_rfl) (fun _ _ _ h =>h) (by kernel_rfl) hS ?_
    refine zAX 40 rfl (by kernel_rfl) (by kernel_rfl) (by kernel_rfl) (fun _ _ _ h =>h) (by kernel_rfl) hS ?_
    refine zAX 41 rfl (by kernel_rfl) (by kernel_rfl) (by kernel_rfl) (fun _ _ _ h =>h) (by kernel_rfl) hS ?_
    refine zAB 42 (.bool true) rfl (by kernel_rfl) (by kernel_rfl) (by kernel_rfl) (fun _ _ _ h =>h) (by kernel_rfl) hS (fun _ _ =>by kernel_rfl) ?_
    refine wpAnyH_done (by kernel_rfl) ?_ _
    go_simp
    all_goals (try go_wp2)
    all_goals (try go_ret)
    all_goals exact ⟨.inr ⟨HNE2.out,rfl⟩,HB5.out.drew⟩
  ·obtain rfl:i=n:=by omega
   rw [List.take_of_length_le (by rw [HL1.out];omega),List.take_of_length_le (by rw [HL2.out];omega)] at htk
   have HTK:=yh htk
   clear htk hb
   go_wp2
   go_ret
   exact ⟨.inl ⟨HTK.out,rfl⟩,HB5.out⟩
end Go.Proofs.YtekchkfjgofnkaaGreatDoor
