/- Texts of one proof. -/
import Derived.Test.YtekchkfjgofnkaaGreatDoorMy42
set_option maxRecDepth 100000
set_option maxHeartbeats 8000000
namespace Go.Proofs.YtekchkfjgofnkaaGreatDoor
open Go.RowKit
theorem zCC.ahead {w W W':World} {base p b ps m:Nat} {T T1:Nat→Prop} {σ:FsSt} {X:Sx} {v n:Nat} {xs:List Rw} {ov:Int→Bool} {z:Int} {w':World} (h:zCC w base p b ps m T1 σ X v n xs ov W' z w') (h1:∀ k,T k→T1 k) (h2:∀ k,T1 k→T k∨W.heap.size≤k) (hb:Below W.heap.size W W') (hT:∀ k,T k→k<W.heap.size) (hp:T ps) (hi:InT T (.slice X.A X.n X.c) (.slice X.E X.n X.d) X.zs):zCC w base p b ps m T σ X v n xs ov W z w':=by
 obtain ⟨g1,τ,g2,g3⟩:=h
 refine ⟨fun k hk =>(g1 k ⟨h1 k hk.1,hk.2⟩).trans (hb.block k (hT k hk.1)),τ,g2,?_⟩
 rcases g3 with ⟨hz,T',A',E',c',d',zs',a1,a2,a3,a4⟩ | ⟨hz,a⟩
 ·exact .inl ⟨hz,T',A',E',c',d',zs',fun k hk =>a1 k (h1 k hk),fun k hk =>by
   rcases a2 k hk with h | h
   ·exact h2 k h
   ·exact .inr (Nat.le_trans hb.size h),a3,a4⟩
 ·exact .inr ⟨hz,a.less h1 hp hi⟩
theorem zCC.done {w W w1:World} {base p b ps m:Nat} {T:Nat→Prop} {σ:FsSt} {X:Sx} {v n:Nat} {xs:List Rw} {ov:Int→Bool} {z:Int} (h:zCC w base p b ps m T σ X v n xs ov W z w1) (hT:∀ k,T k→k<W.heap.size):zCC w base p b ps m T σ X v n xs (fun z =>z == 7) W z (w1.setCell ⟨ps,0,none⟩ (.bool (z == 7))):=by
 obtain ⟨g1,τ,g2,g3⟩:=h
 have hlt:∀ k,T k→k≠ps→k<w1.heap.size:=fun k hk hn =>Past.lt g1 ⟨hk,hn⟩ (hT k hk)
 rcases g3 with ⟨hz,T',A',E',c',d',zs',a1,a2,a3,a4⟩ | ⟨hz,a⟩
 ·have hs:=a4.setov (z == 7)
  exact ⟨fun k hk =>(hs.2.2.2.2.2 k (hlt k hk.1 hk.2) hk.2).trans (g1 k hk),τ,g2,.inl ⟨hz,T',A',E',c',d',zs',a1,a2,a3,hs.1⟩⟩
 ·have hs:=a.setov (z == 7)
  exact ⟨fun k hk =>(hs.2.2.2.2.2 k (hlt k hk.1 hk.2) hk.2).trans (g1 k hk),τ,g2,.inr ⟨hz,hs.1⟩⟩
theorem zCC.box {w W w1:World} {base p b ps m:Nat} {T:Nat→Prop} {σ:FsSt} {X:Sx} {v n:Nat} {xs:List Rw} {ov:Int→Bool} {z:Int} (h:zCC w base p b ps m T σ X v n xs ov W z w1):∃ Y:Sx,w1.heap[ps]? = some (.cells (Y.cells p) 50 (0,0)):=by
 obtain ⟨g1,τ,g2,g3⟩:=h
 rcases g3 with ⟨hz,T',A',E',c',d',zs',a1,a2,a3,a4⟩ | ⟨hz,a⟩
 ·exact ⟨_,a4.box⟩
 ·exact ⟨_,a.box⟩
def rewE (ver:Int) (xs:List Rw) (en:Int):Prop:=(¬ (1≤ver∧ver≤3)∧en=11)∨((1≤ver∧ver≤3)∧¬ zAe ver xs∧en=1)
def zCk (w:World) (base p b ps m:Nat) (T:Nat→Prop) (σ:FsSt) (X:Sx) (ver:Int) (n:Nat) (xs:List Rw) (W:World) (z:Int) (w':World):Prop :=
 (X.ov=true∧z=7∧StAt w base p b ps T σ m X w'∧Past T W w') ∨
 (X.ov=false∧rewE ver xs z∧StAt w base p b ps T σ m X w'∧Past (fun k =>T k∧k≠ps) W w') ∨
 (X.ov=false∧∃ v:Nat,ver=(v:Int)∧1≤v∧v≤3∧zAe (v:Int) xs∧zCC w base p b ps m T σ X v n xs (fun z =>z == 7) W z w')
theorem zPu {w W:World} {base p b ps m:Nat} {T:Nat→Prop} {σ:FsSt} {X:Sx} (h:StAt w base p b ps T σ m X W) (hi:StI X σ) (hdn:X.ov=false→σ.down=false) (hm:m≤40000) (hl:∀ W',Below base w W'→Laid W') (ver:Int) (A:Option Addr) (n c:Nat) (xs:List Rw) (hok:∀ x ∈ xs,Fits x.r x.l∧Nums x.r x.l∧x.n≤1000) (hxn:xs.length=n) (hn:n≤900)
  (hrc:∀ W',Past T W W'→Below base w W'→Recs W' W'.heap.size A n xs) :
  Calls Tryz.prog 31 #[.pointer (some ⟨ps,0,none⟩),.int .i64 ver,.slice A n c] W fun e w' =>∃ z:Int,e=.returned (.int .i64 z)∧zCk w base p b ps m T σ X ver n xs W z w':=by
 have z1:(W.alloc (.cells #[.pointer (some ⟨ps,0,none⟩)] 29)).heap.size=W.heap.size+1:=by simp
 have z2:((W.alloc (.cells #[.pointer (some ⟨ps,0,none⟩)] 29)).alloc (.cells #[.int .i64 ver] 3)).heap.size=W.heap.size+1+1:=by simp
 have z3:(((W.alloc (.cells #[.pointer (some ⟨ps,0,none⟩)] 29)).alloc (.cells #[.int .i64 ver] 3)).alloc (.cells #[.slice A n c] 33)).heap.size=W.heap.size+3:=by simp
 have hb1:=(Below.refl W.heap.size W).alloc (Nat.le_refl _) (.cells #[.pointer (some ⟨ps,0,none⟩)] 29)
 have hb2:=(hb1.alloc hb1.size (.cells #[.int .i64 ver] 3))
 have hb3:=hb2.alloc hb2.size (.cells #[.slice A n c] 33)
 have h1:=zAE W (.cells #[.pointer (some ⟨ps,0,none⟩)] 29)
 have h2:=zAE (W.alloc (.cells #[.pointer (some ⟨ps,0,none⟩)] 29)) (.cells #[.int .i64 ver] 3)
 have e3:=zAE ((W.alloc (.cells #[.pointer (some ⟨ps,0,none⟩)] 29)).alloc (.cells #[.int .i64 ver] 3)) (.cells #[.slice A n c] 33)
 rw [z1] at h2
 rw [z2] at e3
 have e2:=(Below.heap_alloc ((W.alloc (.cells #[.pointer (some ⟨ps,0,none⟩)] 29)).alloc (.cells #[.int .i64 ver] 3)) (.cells #[.slice A n c] 33) (W.heap.size+1) (by rw [z2];omega)).trans h2
 have e1:=(Below.heap_alloc ((W.alloc (.cells #[.pointer (some ⟨ps,0,none⟩)] 29)).alloc (.cells #[.int .i64 ver] 3)) (.cells #[.slice A n c] 33) W.heap.size (by rw [z2];omega)).trans ((Below.heap_alloc (W.alloc (.cells #[.pointer (some ⟨ps,0,none⟩)] 29)) (.cells #[.int .i64 ver] 3) W.heap.size (by rw [z1];omega)).trans h1)
 obtain ⟨W2,hW2⟩:∃ x,x=((W.alloc (.cells #[.pointer (some ⟨ps,0,none⟩)] 29)).alloc (.cells #[.int .i64 ver] 3)).alloc (.cells #[.slice A n c] 33):=⟨_,rfl⟩
 rw [← hW2] at hb3 e1 e2 e3 z3
 have hw:=h.wide hb3
 have hbx:=h.below hb3
 have k0:=zAA (i:=0) e1 rfl
 have HW2:=yh hW2
 have HB2:=yh hb3
 have HH:=yh h
 have HH2:=yh hbx
 have HZ3:=yh z3
 cases hov:X.ov with
 | true =>
  have HUN:=yh (zDi ps p X W2 hbx.box hov 53 #[.pointer (some ⟨W.heap.size,0,none⟩),.pointer (some ⟨W.heap.size+1,0,none⟩),.pointer (some ⟨W.heap.size+1+1,0,none⟩)])
  have HOV:=yh hov
  clear hb1 hb2 hb3 z1 z2 z3 h1 h2 e1 e2 e3 hw hbx h hi hl hW2 hov hok hrc hdn hxn
  rw [HW2.out] at k0
  go_enter Tryz.func31,Tryz.ntmps31
  go_wp2_with fail
  rw [← HW2.out]
  refine HUN.out.mono ?_
  rintro e w3 ⟨rfl,hw⟩
  obtain rfl:=hw
  clear k0
  go_wp2
  go_ret
  exact ⟨7,rfl,.inl ⟨HOV.out,rfl,HH2.out,Past.of_below HB2.out HH.out.jt.lt⟩⟩
 | false =>
  have hps:=h.lt
  have HQ:Hid (Calls Tryz.prog 53 #[.pointer (some ⟨W.heap.size,0,none⟩),.pointer (some ⟨W.heap.size+1,0,none⟩),.pointer (some ⟨W.heap.size+1+1,0,none⟩)] W2 fun e w' =>∃ z:Int,e=.returned (.int .i64 z)∧((rewE ver xs z∧StAt w base p b ps T σ m X w'∧Below W2.heap.size W2 w') ∨ ∃ v:Nat,ver=(v:Int)∧1≤v∧v≤3∧zAe (v:Int) xs∧zCC w base p b ps m (fun k =>T k∨(W.heap.size≤k∧k<W2.heap.size)) σ X v n xs (fun _ =>X.ov) W2 z w')):=by
   by_cases hv:1≤ver∧ver≤3
   ·obtain ⟨v,rfl⟩:∃ v:Nat,ver=(v:Int):=⟨ver.toNat,by omega⟩
    have hpt:∀ W',Past T W2 W'→Past T W W':=fun W' hp k hk =>(hp k hk).trans (hb3.block k (h.jt.lt k hk))
    by_cases hmay:zAe (v:Int) xs
    ·refine (zOD hw hi (hdn hov) hm hl (v:Int) v rfl (by omega) A n c xs hmay hok hxn hn (fun W' hp hb =>hrc W' (hpt W' (fun k hk =>hp k (.inl hk))) hb) W.heap.size (W.heap.size+1) (W.heap.size+1+1) ⟨.inr ⟨Nat.le_refl _,by omega⟩,by omega⟩ (.inr ⟨by omega,by omega⟩) (.inr ⟨by omega,by omega⟩) ⟨by omega,by omega⟩ e1 e2 e3).mono ?_
     rintro e w' ⟨z,rfl,hq⟩
     exact ⟨z,rfl,.inr ⟨v,rfl,by omega,by omega,hmay,hq⟩⟩
    ·refine (zKA hbx (v:Int) A n c 1 (by omega) W.heap.size (W.heap.size+1) (W.heap.size+1+1) e1 e2 e3 (fun W1 hb =>?_)).mono ?_
     ·have hbw:=hbx.jt.under.1.trans (hb.mono hbx.jt.under.2)
      refine (zHn v (by omega) xs A n c (by omega) hok W1 (hl W1 hbw) (hrc W1 (hpt W1 (Past.of_below hb hbx.jt.lt)) hbw)).mono ?_
      rintro e w' ⟨hh,hb1⟩
      rcases hh with ⟨hy,_⟩ | ⟨_,rfl⟩
      ·exact absurd hy hmay
      ·exact ⟨rfl,hb1⟩
     ·rintro e w' ⟨rfl,hst,hb⟩
      exact ⟨1,rfl,.inl ⟨.inr ⟨hv,hmay,rfl⟩,hst,hb⟩⟩
   ·refine (zKA hbx ver A n c 11 (by omega) W.heap.size (W.heap.size+1) (W.heap.size+1+1) e1 e2 e3 (fun W1 hb =>zOe ver hv A n c W1)).mono ?_
    rintro e w' ⟨rfl,hst,hb⟩
    exact ⟨11,rfl,.inl ⟨.inl ⟨hv,rfl⟩,hst,hb⟩⟩
  have HUN:=yh (zDh ps p X W2 hbx.box hov 53 #[.pointer (some ⟨W.heap.size,0,none⟩),.pointer (some ⟨W.heap.size+1,0,none⟩),.pointer (some ⟨W.heap.size+1+1,0,none⟩)] (enters_of Tryz.func53 (by kernel_rfl) rfl) _ (fun z w1 hq =>by
   rcases hq with ⟨_,hst,_⟩ | ⟨_,_,_,_,_,hq⟩
   ·exact ⟨X,hst.box⟩
   ·exact hq.box) HQ.out)
  have HOV:=yh hov
  clear hb1 hb2 hb3 z1 z2 z3 h1 h2 e1 e2 e3 hw hbx h hi hl hW2 hov hok hrc hdn hxn hps HQ
  rw [HW2.out] at k0
  go_enter Tryz.func31,Tryz.ntmps31
  go_wp2_with fail
  rw [← HW2.out]
  refine HUN.out.mono ?_
  rintro e w3 ⟨z,w1,rfl,hq,rfl⟩
  have HQ:=yh hq
  clear k0 hq
  go_wp2
  go_ret
  refine ⟨z,rfl,.inr ?_⟩
  rcases HQ.out with ⟨he,hst,hb⟩ | ⟨v,hvv,g1,g2,hmay,hq⟩
  ·have hz7:(z == 7)=false:=by
    rcases he with ⟨_,rfl⟩ | ⟨_,_,rfl⟩ <;> rfl
   have hs:=hst.setov (z == 7)
   refine .inl ⟨HOV.out,he,?_,fun k hk =>((hs.2.2.2.2.2 k (Nat.lt_of_lt_of_le (HH2.out.jt.lt k hk.1) hb.size) hk.2).trans (hb.block k (HH2.out.jt.lt k hk.1))).trans (HB2.out.block k (HH.out.jt.lt k hk.1))⟩
   have:=hs.1
   rw [hz7] at this ⊢
   rw [show ({ X with ov:=false }:Sx)=X from by rw [← HOV.out]] at this
   exact this
  ·exact .inr ⟨HOV.out,v,hvv,g1,g2,hmay,(hq.done (fun k hk =>by
    rcases hk with hk | hk
    ·exact HH2.out.jt.lt k hk
    ·exact hk.2)).ahead (fun k hk =>.inl hk) (fun k hk =>hk.imp id (fun h =>h.1)) HB2.out HH.out.jt.lt HH.out.tp HH.out.inT⟩
open Go.RowKit Go.Sort
def zCT (w:World) (base:Nat) (va:Value) (n:Nat) (zs:List Rw):Prop:=w.ownsRow base 41 7 va n (rws zs)∧∀ z ∈ zs,Deps w base z.A z.n z.c z.l
theorem zCT.below {w w':World} {base n:Nat} {va:Value} {zs:List Rw} (h:zCT w base va n zs) (hb:Below w.heap.size w w'):zCT w' base va n zs:=⟨zAK h.1 hb,fun z hz =>zEv (h.2 z hz) hb⟩
theorem zCT.less {w:World} {base base' n:Nat} {va:Value} {zs:List Rw} (h:zCT w base va n zs) (hb:base'≤base):zCT w base' va n zs:=⟨zAT h.1 hb,fun z hz =>zEX (h.2 z hz) hb⟩
theorem zCT.recs {w:World} {base n c:Nat} {A:Option Addr} {zs:List Rw} (h:zCT w base (.slice A n c) n zs):Recs w w.heap.size A n zs:=⟨zAD.of_own h.1,fun z hz =>⟨zAD.of_own (h.2 z hz).1,(h.2 z hz).2⟩⟩
theorem zNK:(Tryz.prog.info? 41).map (fun i =>(i.zero,i.size,i.bytes))=some (some (.agg #[.int .i64 0,.string ⟨#[]⟩,.int .u64 0,.slice none 0 0,.int .u64 0,.int .u64 0,.string ⟨#[]⟩]),7,88):=by kernel_rfl
theorem zJt:∀ xs:List Rw,∀ u ∈ rws xs,u.oneCell'=true
 | [],u,hu =>by cases hu
 | x :: xs,u,hu =>by
  rw [zBe] at hu
  rcases List.mem_append.1 hu with hu | hu
  ·simp only [Rw.cells,List.mem_cons,List.not_mem_nil,or_false] at hu
   rcases hu with rfl | rfl | rfl | rfl | rfl | rfl | rfl <;> rfl
  ·exact zJt xs u hu
theorem zKZ (w:World):(w.alloc (.cells #[] 41)).ownsRow w.heap.size 41 7 (.slice (some ⟨w.heap.size,0,none⟩) 0 0) 0 [] :=
 ⟨by simp,.inr ⟨w.heap.size,0,#[],rfl,Nat.le_refl _,(by show (w.heap.push _)[w.heap.size]? = _;exact Array.getElem?_push_size),Nat.le_refl _,by unfold maxLen;omega,rfl,rfl⟩⟩
theorem zJn (A:Option Addr) (n c:Nat) (xs:List Rw) (hn:n≤100000) (hA:A=none→c=0) (w:World) (hr:zAD w w.heap.size 7 A n (rws xs)) :
  Calls Tryz.prog 38 #[.slice A n c] w fun e w' =>∃ v,e=.returned v∧w'.ownsRow w.heap.size 41 7 v n (rws xs)∧Below w.heap.size w w':=by
 obtain ⟨i0,hi,hz0,hz1,hz2⟩:=info_parts zNK
 have hone:=zJt xs
 obtain ⟨us,hus⟩:∃ us,us=rws xs:=⟨_,rfl⟩
 rw [← hus] at hr hone ⊢
 clear hus
 have hlen:=hr.1
 cases A with
 | none =>
  obtain rfl:=hA rfl
  have hn0:n=0:=by
   rcases Nat.eq_zero_or_pos n with h0 | h0
   ·exact h0
   ·obtain ⟨_,e,_⟩:=hr.2 h0
    cases e
  subst hn0
  obtain rfl:us=[]:=List.eq_nil_of_length_eq_zero (by simpa using hlen)
  have he:∀ w:World,(binOp .eql 33 (.slice none 0 0) (.slice none 0 0)).run Tryz.prog w=.ok (.bool true) w:=fun _ =>rfl
  clear hr hlen hone hA
  go_enter Tryz.func38,Tryz.ntmps38
  go_wp2
  go_ret
  exact ⟨_,rfl,World.ownsRow_nil _ _ _ _,Below.refl _ _⟩
 | some ad =>
  have he:∀ w:World,(binOp .eql 33 (.slice (some ad) n c) (.slice none 0 0)).run Tryz.prog w=.ok (.bool false) w:=fun _ =>rfl
  have hal:=hr.alloc (Nat.le_refl _) (.cells #[] 41)
  clear hlen hr
  go_enter Tryz.func38,Tryz.ntmps38
  go_wp2_with (at_builtin;refine zAw _ rfl (.tmp 5) (.tmp 6) 33 rfl w.heap.size 41 i0 _ 7 88 Tryz.underlying33 hi hz0 hz1 hz2 rfl (by decide) (.slice (some ⟨w.heap.size,0,none⟩) 0 0) 0 [] rfl (zKZ _) (some ad) n c w.heap.size us rfl (fun e =>by cases e) hal hone (by unfold maxLen;omega) (by omega) (by simp) ?_;intro v3 w3 ho3 hg3)
  go_ret
  exact ⟨_,rfl,by simpa using ho3,((Below.refl _ w).alloc (Nat.le_refl _) _).grown hg3 (by simp) (fun k hk =>by simp [Value.ownBlock] at hk;omega)⟩
def setR (xs:List Value):Nat→List Value→List Value
 | _,[] =>xs
 | o,v :: r =>setR (xs.set o v) (o+1) r
theorem zJw (p:List Value):∀ (vs r:List Value) (o:Nat),setR (p++r) (p.length+o) vs=p++setR r o vs
 | [],r,o =>rfl
 | v :: vs,r,o =>by
  show setR ((p++r).set (p.length+o) v) (p.length+o+1) vs=p++setR (r.set o v) (o+1) vs
  rw [List.set_append_right _ _ (by omega),Nat.add_sub_cancel_left,Nat.add_assoc,zJw p vs (r.set o v) (o+1)]
theorem zJx (y:Rw):∀ (xs:List Rw) (i:Nat),i<xs.length→setR (rws xs) (i * 7) y.cells=rws (xs.set i y)
 | [],i,h =>by simp at h
 | a :: xs,0,_ =>by
  rw [List.set_cons_zero,zBe,zBe]
  rfl
 | a :: xs,i+1,h =>by
  rw [List.set_cons_succ,zBe,zBe,show (i+1) * 7=a.cells.length+i * 7 by rw [zBD];omega,zJw,zJx y xs i (by simpa using h)]
theorem zFX {base g n cap size:Nat} {e:TypeId}:∀ (vs:List Value) (o:Nat) (w:World) (xs:List Value),w.ownsRow base e size (.slice (some ⟨g,0,none⟩) n cap) n xs →
  (w.setCells g o vs).ownsRow base e size (.slice (some ⟨g,0,none⟩) n cap) n (setR xs o vs)∧w.grownBy (w.setCells g o vs) (some g)
 | [],o,w,xs,h =>⟨h,World.grownBy.refl w _⟩
 | v :: r,o,w,xs,h =>by
  obtain ⟨h1,h2⟩:=h.stored o v
  obtain ⟨h3,h4⟩:=zFX r (o+1) _ _ h1
  exact ⟨h3,h2.trans h4⟩
theorem zNz:(Tryz.prog.info? 41).map (·.size)=some 7:=by kernel_rfl
def Rw.vl (x:Rw):Value:=.agg #[.int .i64 x.r.kind,.string (tx x.r.target),.int .u64 x.r.rule,.slice x.A x.n x.c,.int .u64 x.r.out,.int .u64 x.r.time,.string (tx x.r.tag)]
theorem zGw {w:World} {ops:Array Oper} {rest:List Oper} {o:Oper} {a:Act} {Q:Exit→Act→World→Prop} (hgd:o.guard=none) (x y:Operand) (ho:o.op=.store 41 x y)
  (g i:Nat) (z:Rw) (pa:Addr) (hpa:pa=⟨g,i * 7,none⟩) (hx:a.eval x=.pointer (some pa)) (hy:a.eval y=z.vl)
  (base n cap:Nat) (ys:List Rw) (hown:w.ownsRow base 41 7 (.slice (some ⟨g,0,none⟩) n cap) n (rws ys)) (hi:i<ys.length)
  (h:∀ w',w'.ownsRow base 41 7 (.slice (some ⟨g,0,none⟩) n cap) n (rws (ys.set i z))→w.grownBy w' (some g)→wpList Tryz.prog ops Q rest (a.put o.dst undef) w'):wpList Tryz.prog ops Q (o :: rest) a w:=by
 subst hpa
 obtain ⟨h1,h2⟩:=zFX z.cells (i * 7) w _ hown
 rw [zJx z ys i hi] at h1
 have hrow:(storeVar 41 ⟨g,i * 7,none⟩ z.vl).run Tryz.prog w=.ok () (w.setCells g (i * 7) z.cells):=by
  have hlen:(rws ys).length=ys.length * 7:=zCh ys
  have hs:=run_storeCells_cells (P:=Tryz.prog) g (i * 7) z.cells 0 w (fun j hj =>by
    rw [zBD] at hj
    have hlt:i * 7+0+j<(rws ys).length:=by omega
    rw [hown.cellAt _ (by have:=hown.1;omega),List.getElem?_eq_getElem hlt]
    rfl) (fun j _ =>hown.frozenAt _) (fun v hv =>by
    simp only [Rw.cells,List.mem_cons,List.not_mem_nil,or_false] at hv
    rcases hv with rfl | rfl | rfl | rfl | rfl | rfl | rfl <;> rfl)
  have hsz:=zNz
  cases hq:Tryz.prog.info? 41 with
  | none =>simp [hq] at hsz
  | some q =>
   have hs4:q.size=7:=by simpa [hq] using hsz
   have hc:z.vl.cells.toList=z.cells:=rfl
   have hcs:z.vl.cells.size=7:=rfl
   simp [storeVar,sizeOf,typeInfo,hq,hcs,hs4,hc]
   simpa using hs
 refine wpList_plain hgd fun K hK =>?_
 unfold Oper.wp execOp
 simp only [ho,hx,hy,Instr.storeAt,Instr.sureAddr,Sem.run_bind,Sem.run_pure,Result.andThen_ok,hrow]
 exact hK _ _ (h _ h1 h2)
theorem zFt {w W:World} {base p b ps m:Nat} {T:Nat→Prop} {σ:FsSt} {X:Sx} (h:StAt w base p b ps T σ m X W) (hn:X.n≤1000) (hxn:∀ x ∈ X.zs,x.n≤1000000) :
  Calls Tryz.prog 17 #[.pointer (some ⟨ps,0,none⟩)] W fun e w' =>∃ (A':Option Addr) (c':Nat) (zs:List Rw),e=.returned (.slice A' X.n c')∧zs.map Rw.say=X.zs.map Rw.say∧zCT w' W.heap.size (.slice A' X.n c') X.n zs∧Below W.heap.size W w':=by
 have c3:W.cell? ⟨ps,3,none⟩=some (.slice X.A X.n X.c):=zAA (i:=3) h.box rfl
 have HLEN:=yh h.len
 obtain ⟨lo,_,hro⟩:=h.rows
 have hA:X.A=none→X.c=0:=by
  obtain ⟨A1,c1,e1,h1⟩:=zAL hro.recs
  simp only [Value.slice.injEq] at e1
  intro e
  rw [e1.2.2]
  exact h1 (e1.1▸e)
 have HCL:=yh (zJn X.A X.n X.c X.zs (by omega) hA W (zAD.of_own hro.recs))
 have HDP:Hid (∀ x ∈ X.zs,x.n≤1000000∧(x.A=none→x.c=0)∧zAD W W.heap.size 3 x.A x.n (dps x.l)):=fun x hx =>⟨hxn x hx,by
  obtain ⟨A1,c1,e1,h1⟩:=zAL (hro.deps x hx)
  simp only [Value.slice.injEq] at e1
  intro e
  rw [e1.2.2]
  exact h1 (e1.1▸e),zAD.of_own (hro.deps x hx)⟩
 obtain ⟨n,hnn⟩:∃ n,n=X.n:=⟨_,rfl⟩
 rw [← hnn] at HCL HLEN hn c3 ⊢
 have HN:=yh hn
 obtain ⟨xs,hxs⟩:∃ xs,xs=X.zs:=⟨_,rfl⟩
 rw [← hxs] at HCL HDP HLEN ⊢
 clear h hro hA hxn hnn hxs
 go_enter Tryz.func17,Tryz.ntmps17
 go_wp2_with fail
 refine HCL.out.mono ?_
 rintro e w1 ⟨v,rfl,ho,hb⟩
 obtain ⟨A',c',rfl,_⟩:=zAL ho
 have HO:=yh ho
 have HB:=yh hb
 clear ho hb c3
 go_wp2
 go_loopw [14] (fun v14 wr =>∃ (i:Nat) (zs:List Rw),i≤n∧v14=.int .i64 (i:Int)∧zs.length=i∧zs.map Rw.say=(xs.take i).map Rw.say∧wr.ownsRow W.heap.size 41 7 (.slice A' n c') n (rws (zs++xs.drop i))∧(∀ z ∈ zs,Deps wr W.heap.size z.A z.n z.c z.l)∧Below W.heap.size W wr) (fun v14 _ =>n - (intOf v14).toNat)
 case atStart =>exact ⟨0,[],Nat.zero_le _,rfl,rfl,rfl,HO.out,by simp,HB.out⟩
 case round =>
  obtain ⟨i,zs,hi,rfl,hzl,hzs,hown,hz,hbw⟩:=hrel
  have HZL:=yh hzl
  have HZS:=yh hzs
  have HOWN:=yh hown
  have HZ:=yh hz
  have HBW:=yh hbw
  clear hzl hzs hown hz hbw
  by_cases hlt:i<n
  ·obtain ⟨x,hx⟩:∃ x,xs[i]? = some x:=⟨_,List.getElem?_eq_getElem (by have:=HLEN.out;omega)⟩
   have hyx:(zs++xs.drop i)[i]? = some x:=by
    rw [List.getElem?_append_right (by have:=HZL.out;omega),HZL.out,Nat.sub_self,List.getElem?_drop,Nat.add_zero]
    exact hx
   obtain ⟨ad,rfl,_,k0,k1,k2,k3,k4,k5,k6⟩:=zBX (zAD.of_own HOWN.out) i x hyx
   obtain ⟨g,hg⟩:∃ g,ad=⟨g,0,none⟩:=by
    rcases HOWN.out.2 with ⟨h,_⟩ | ⟨g,cap,cur,h,_⟩
    ·injection h with h1;cases h1
    ·injection h with h1;exact ⟨g,Option.some.inj h1⟩
   have HG:=yh hg
   obtain ⟨hx1,hx2,hx3⟩:=HDP.out x (List.mem_of_getElem? hx)
   have HXM:Hid (zs++x :: xs.drop (i+1)=zs++xs.drop i):=by
    show _=_
    rw [List.drop_eq_getElem_cons (by have:=HLEN.out;omega:i<xs.length)]
    have:=(List.getElem?_eq_some_iff.1 hx).2
    rw [this]
   have HTK:Hid ((xs.take (i+1)).map Rw.say=(xs.take i).map Rw.say++[x.say]):=by
    show _=_
    rw [List.take_add_one,hx,List.map_append];rfl
   obtain ⟨r,A4,n4,c4,l4⟩:=x
   simp only at k0 k1 k2 k3 k4 k5 k6 hx1 hx2 hx3
   have hal:Below wr.heap.size wr (wr.alloc (.cells #[.int .i64 r.kind,.string (tx r.target),.int .u64 r.rule,.slice A4 n4 c4,.int .u64 r.out,.int .u64 r.time,.string (tx r.tag)] 41)):=(Below.refl _ wr).alloc (Nat.le_refl _) _
   have hnew:=zAE wr (.cells #[.int .i64 r.kind,.string (tx r.target),.int .u64 r.rule,.slice A4 n4 c4,.int .u64 r.out,.int .u64 r.time,.string (tx r.tag)] 41)
   have q0:=zAA (i:=0) hnew rfl
   have q1:=zAA (i:=1) hnew rfl
   have q2:=zAA (i:=2) hnew rfl
   have q3:=zAA (i:=3) hnew rfl
   have q4:=zAA (i:=4) hnew rfl
   have q5:=zAA (i:=5) hnew rfl
   have q6:=zAA (i:=6) hnew rfl
   have HCN:=yh (zCN r A4 n4 c4 l4 hx2 hx1 (wr.alloc (.cells #[.int .i64 r.kind,.string (tx r.target),.int .u64 r.rule,.slice A4 n4 c4,.int .u64 r.out,.int .u64 r.time,.string (tx r.tag)] 41)) ((hx3.below (HBW.out.trans (hal.mono HBW.out.size))).more (HBW.out.trans (hal.mono HBW.out.size)).size))
   unfold rcv rsv at HCN
   have HAL:=yh hal
   have hi0:(0:Int)≤(i:Int):=by omega
   have hi1:(i:Int)<(n:Int):=by omega
   clear hx hyx hx1 hx2 hx3 hal hnew hg
   go_wp2_with fail
   refine HCN.out.mono ?_
   rintro e w4 ⟨A6,c6,rfl,hd6,hb4⟩
   have hb5:=HAL.out.trans (hb4.mono HAL.out.size)
   have HB5:=yh hb5
   have HO4:=yh (zAK HOWN.out hb5)
   rw [HG.out] at HO4
   have HD6:Hid (Deps w4 W.heap.size A6 n4 c6 l4):=zEX hd6 (Nat.le_trans HBW.out.size HAL.out.size)
   have HPA:Hid (ad.add (i * 7)=⟨g,i * 7,none⟩):=by show _=_;rw [HG.out];simp [Addr.add];exact fun h =>h.symm
   clear hb4 hb5 hd6 q0 q1 q2 q3 q4 q5 q6 k0 k1 k2 k3 k4 k5 k6
   go_wp2_with (refine zGw rfl (.tmp 23) (.tmp 22) rfl g i ⟨r,A6,n4,c6,l4⟩ (ad.add (i * 7)) HPA.out rfl rfl W.heap.size n c' (zs++xs.drop i) HO4.out (by rw [← HXM.out,List.length_append,HZL.out,List.length_cons];omega) ?_;intro w5 ho5 hg5;have HO5:=yh ho5;have HG5:=yh hg5;clear ho5 hg5)
   refine ⟨⟨i+1,zs++[⟨r,A6,n4,c6,l4⟩],by omega,by go_num,by rw [List.length_append,HZL.out];rfl,?_,?_,?_,?_⟩,by simp [intOf];omega⟩
   ·rw [List.map_append,HZS.out,HTK.out];rfl
   ·have h5:=HO5.out
    rw [← HXM.out,List.set_append_right _ _ (by have:=HZL.out;omega),HZL.out,Nat.sub_self,List.set_cons_zero] at h5
    rw [HG.out,List.append_assoc]
    exact h5
   ·intro z hz
    have hkp:∀ {A:Option Addr} {n c:Nat} {l:List Dp},Deps w4 W.heap.size A n c l→Deps w5 W.heap.size A n c l:=fun hd =>zBt hd HO4.out HG5.out
    rcases List.mem_append.1 hz with hz | hz
    ·exact hkp (zEv (HZ.out z hz) HB5.out)
    ·obtain rfl:=List.mem_singleton.1 hz
     exact hkp HD6.out
   ·exact (HBW.out.trans (HB5.out.mono HBW.out.size)).grown HG5.out (HBW.out.trans (HB5.out.mono HBW.out.size)).size (fun k e =>by have:=zAG HO4.out k (by rw [← e];rfl);omega)
  ·obtain rfl:i=n:=by omega
   have hfin:zs++xs.drop i=zs:=by rw [List.drop_of_length_le (by have:=HLEN.out;omega),List.append_nil]
   have htk:(xs.take i).map Rw.say=xs.map Rw.say:=by rw [List.take_of_length_le (by have:=HLEN.out;omega)]
   have hown:=HOWN.out
   rw [hfin] at hown
   have HOW:=yh hown
   have HZS2:Hid (zs.map Rw.say=xs.map Rw.say):=by rw [← htk];exact HZS.out
   clear hfin htk hown
   go_wp2
   go_ret
   exact ⟨A',c',zs,rfl,HZS2.out,⟨HOW.out,HZ.out⟩,HBW.out⟩
def zBz (v:Value):Option (DataW Value×List MemPlace):=some (.held v,[])
def Rw.val (x:Rw):Value:=rcv x.r x.A x.n x.c
def Rw.t (x:Rw):List UInt8:=x.r.target
def Rw.k (x:Rw):Int:=x.r.kind
theorem zPr {v:Value} {z:DataW Value×List MemPlace} (h:zBz v=some z):z.1=.held v:=by
 unfold zBz at h
 obtain rfl:=Option.some.inj h
 rfl
def zCA (D:DataW Value) (S:List Rw):Prop:=Up Rw.t S∧∀ u z,D.atKey (.string u) z=match look Rw.t S u with | some x =>.held x.val | none =>z
theorem zCA.start:zCA (.map []) []:=⟨List.Pairwise.nil,fun _ _ =>rfl⟩
theorem zCA.has {D:DataW Value} {S:List Rw} (h:zCA D S) (u:List UInt8):Maps.has D (.string u)=(look Rw.t S u).isSome:=by
 have h1:=h.2 u
 cases e:look Rw.t S u with
 | none =>simp only [e] at h1;exact Maps.has_false_of_atKey h1
 | some x =>simp only [e] at h1;exact Maps.has_true_of_atKey h1
theorem zCA.put {D:DataW Value} {S:List Rw} (h:zCA D S) (hD:Maps.IsMap D) (x:Rw):zCA (D.put (.string x.t) (.held x.val)) (rput Rw.t x false S):=by
 refine ⟨zDY h.1 (fun _ =>trivial),fun u z =>?_⟩
 rw [zPR h.1]
 by_cases e:u=x.t
 ·subst e
  rw [if_pos rfl]
  exact Maps.atKey_put_same hD (show WideAt.IsKeyLit (.string x.t) from trivial) _ _
 ·rw [if_neg e,Maps.atKey_put_other (fun e2 =>e (by injection e2))]
  exact h.2 u z
theorem zCA.del {D:DataW Value} {S:List Rw} (h:zCA D S) (x:Rw):zCA (D.del (.string x.t)) (rput Rw.t x true S):=by
 refine ⟨zDY h.1 (fun _ =>trivial),fun u z =>?_⟩
 rw [zPQ h.1]
 by_cases e:u=x.t
 ·subst e
  rw [if_pos rfl]
  exact Maps.atKey_del_same _
 ·rw [if_neg e,Maps.atKey_del_other (fun e2 =>e (by injection e2))]
  exact h.2 u z
theorem zCA.at {D:DataW Value} {S:List Rw} (h:zCA D S) {i:Nat} {x:Rw} (hx:S[i]? = some x) (z:DataW Value):D.atKey (.string x.t) z=.held x.val:=by
 rw [h.2,zSz h.1 hx]
theorem zCA.sorted {D:DataW Value} {S:List Rw} (h:zCA D S) {left:Lit→Bool} {ss:List (List UInt8)} (hc:Collected D left ss) (hl:∀ kl,left kl=false):ss.mergeSort (fun x y =>decide (x≤y))=S.map Rw.t :=
 zRf h.1 hc.1 fun u =>by rw [hc.2 u,hl,← h.has];simp
theorem zCE {B:Nat} {w w':World} (h:Below B w w') (q:Nat):Below B w (w'.drewN q):=⟨h.os,h.tape,h.output,h.size,h.block⟩
open Go.RowKit Go.Maps Go.ChangeMaps Go.WideMaps
theorem gkey:Keyed Tryz.prog 9:=string_keyed Tryz.underlying9
theorem zNE {s:List UInt8} (h:s.length≤maxLen):keyOf Tryz.prog 9 (.string (tx s))=some (.string s):=by
 rw [keyOf_string_mk Tryz.underlying9 (by simpa [tx,ByteArray.size] using h)]
 simp [tx]
def RMap (w:World) (b N:Nat) (S:List Rw):Prop:=∃ D:DataW Value,w.ownsMap Tryz.prog 9 zBz b N D∧zCA D S
theorem RMap.kept {w w':World} {b N:Nat} {S:List Rw} {row:Option Nat} (h:RMap w b N S) (hg:w.grownBy w' row) (hne:some b≠row):RMap w' b N S:=by
 obtain ⟨D,h1,h2⟩:=h
 exact ⟨D,h1.kept hg hne,h2⟩
theorem RMap.below {w w':World} {b N:Nat} {S:List Rw} (h:RMap w b N S) (hb:Below w.heap.size w w'):RMap w' b N S:=by
 obtain ⟨D,h1,h2⟩:=h
 have hl:=h1.lt
 obtain ⟨es,clock,hq,r⟩:=h1
 exact ⟨D,⟨es,clock,(hb.block b hl).trans hq,r⟩,h2⟩
theorem RMap.lt {w:World} {b N:Nat} {S:List Rw} (h:RMap w b N S):b<w.heap.size:=by
 obtain ⟨D,h1,_⟩:=h
 exact h1.lt
theorem zMH (w:World):RMap (w.alloc (.map #[] 0)) w.heap.size 0 []:=⟨.map [],World.ownsMap_made w _ _ _,zCA.start⟩
theorem zMr (x:Rw) (b N:Nat) (S:List Rw) (hN:N<1073741824) (ht:x.t.length≤maxLen) (w:World) (h:RMap w b N S) :
  Calls Tryz.prog 91 #[.map (some b),x.val] w fun e w' =>e=.returned (.tuple #[])∧RMap w' b (N+1) (put1 Rw.k Rw.t S x)∧w.grownBy w' (some b):=by
 obtain ⟨D,hm,hs⟩:=h
 have hkey:=zNE ht
 have HPUT:=yh (hs.put hm.isMap x)
 have HDEL:=yh (hs.del x)
 have HS:=yh hs
 have HM:=yh hm
 have hn:N<maxLen:=by unfold maxLen;omega
 have HN:=yh hn
 unfold put1
 obtain ⟨⟨k,t,u,o,m,g⟩,A,n,c,l⟩:=x
 unfold Rw.val rcv rsv at *
 unfold Rw.t Rw.k at *
 simp only at hkey ht ⊢
 have hbx:=zAE w (.cells #[.int .i64 k,.string (tx t),.int .u64 u,.slice A n c,.int .u64 o,.int .u64 m,.string (tx g)] 41)
 have q0:=zAA (i:=0) hbx rfl
 have q1:=zAA (i:=1) hbx rfl
 have q2:=zAA (i:=2) hbx rfl
 have q3:=zAA (i:=3) hbx rfl
 have q4:=zAA (i:=4) hbx rfl
 have q5:=zAA (i:=5) hbx rfl
 have q6:=zAA (i:=6) hbx rfl
 have HG:=yh (World.grownBy_alloc w (.cells #[.int .i64 k,.string (tx t),.int .u64 u,.slice A n c,.int .u64 o,.int .u64 m,.string (tx g)] 41) (some b))
 have HM1:=yh (hm.alloc (.cells #[.int .i64 k,.string (tx t),.int .u64 u,.slice A n c,.int .u64 o,.int .u64 m,.string (tx g)] 41))
 clear hbx hm hs hn ht
 by_cases h1:k=1
 ·subst h1
  have END:Hid (∀ w',World.ownsMap w' Tryz.prog 9 zBz b (N+1) (D.put (.string t) (.held (.agg #[.int .i64 1,.string (tx t),.int .u64 u,.slice A n c,.int .u64 o,.int .u64 m,.string (tx g)])))→RMap w' b (N+1) (if (1:Int)=1 then rput (fun x =>x.r.target) ⟨⟨1,t,u,o,m,g⟩,A,n,c,l⟩ false S else if (1:Int)=2 then rput (fun x =>x.r.target) ⟨⟨1,t,u,o,m,g⟩,A,n,c,l⟩ true S else S)):=fun w' h =>⟨_,h,HPUT.out⟩
  clear HPUT HDEL
  go_enter Tryz.func91,Tryz.ntmps91
  go_wp2_with (at_mapUpdate;refine wpList_mapUpdate_own _ rfl _ _ _ 110 rfl 9 41 gkey Tryz.underlying110 zBz b N D rfl HM1.out HN.out _ _ (.string t) rfl rfl hkey _ _ rfl ?_;intro w2 hm2 hg2)
  go_end0
  exact ⟨rfl,END.out _ hm2,HG.out.andThen hg2 (fun j hj =>.inr hj)⟩
 ·by_cases h2:k=2
  ·subst h2
   have END:Hid (∀ w',World.ownsMap w' Tryz.prog 9 zBz b N (D.del (.string t))→RMap w' b (N+1) (if (2:Int)=1 then rput (fun x =>x.r.target) ⟨⟨2,t,u,o,m,g⟩,A,n,c,l⟩ false S else if (2:Int)=2 then rput (fun x =>x.r.target) ⟨⟨2,t,u,o,m,g⟩,A,n,c,l⟩ true S else S)):=fun w' h =>⟨_,h.mono (Nat.le_succ _),HDEL.out⟩
   clear HPUT HDEL
   go_enter Tryz.func91,Tryz.ntmps91
   go_wp2_with (at_delete;refine wpList_delete_own _ rfl _ _ 110 9 rfl 41 gkey Tryz.underlying110 zBz b N D rfl HM1.out _ (.string t) rfl hkey ?_;intro w2 hm2 hg2)
   go_end0
   exact ⟨rfl,END.out _ hm2,HG.out.andThen hg2.grown (fun j hj =>.inr hj)⟩
  ·have END2:Hid (RMap (w.alloc (.cells #[.int .i64 k,.string (tx t),.int .u64 u,.slice A n c,.int .u64 o,.int .u64 m,.string (tx g)] 41)) b (N+1) S):=⟨_,HM1.out.mono (Nat.le_succ _),HS.out⟩
   have d1:decide (k=1)=false:=decide_eq_false h1
   have d2:decide (k=2)=false:=decide_eq_false h2
   clear HPUT HDEL
   go_enter Tryz.func91,Tryz.ntmps91
   go_wp2
   go_end0
   exact ⟨rfl,END2.out,HG.out⟩
theorem zQs {xs:List Rw} {i:Nat} {x:Rw} (hx:xs[i]? = some x):fo Rw.k Rw.t (xs.take (i+1))=put1 Rw.k Rw.t (fo Rw.k Rw.t (xs.take i)) x:=by
 unfold fo
 rw [List.take_add_one,hx,List.foldl_append]
 rfl
theorem zSJ:(Tryz.prog.info? 9).map (fun i =>(i.zero,i.size,i.bytes))=some (some (.string ⟨#[]⟩),1,16):=by kernel_rfl
theorem zSI:(Tryz.prog.info? 41).map (fun i =>(i.zero,i.size,i.bytes))=some (some (.agg #[.int .i64 0,.string ⟨#[]⟩,.int .u64 0,.slice none 0 0,.int .u64 0,.int .u64 0,.string ⟨#[]⟩]),7,88):=by kernel_rfl
theorem zLm (A:Option Addr) (n c:Nat) (xs:List Rw) (hn:n≤1000000) (hf:∀ x ∈ xs,x.t.length≤maxLen) (w:World) (h:Recs w w.heap.size A n xs) :
  Calls Tryz.prog 63 #[.slice A n c] w fun e w' =>e=.returned (.map (some w.heap.size))∧RMap w' w.heap.size n (fo Rw.k Rw.t xs)∧Below w.heap.size w w':=by
 have HL:Hid (xs.length=n):=h.len
 have H1:=yh h
 have HF:=yh hf
 have HM0:=yh (zMH w)
 have HB0:Hid (Below w.heap.size w (w.alloc (.map #[] 0))):=(Below.refl _ w).alloc (Nat.le_refl _) _
 have hmm:=@run_makeMap Tryz.prog
 clear h hf
 go_enter Tryz.func63,Tryz.ntmps63
 go_wp2
 go_loopw [9] (fun idx wr =>∃ i:Nat,i≤n∧idx=.int .i64 (i:Int)∧RMap wr w.heap.size i (fo Rw.k Rw.t (xs.take i))∧Below w.heap.size w wr) (fun idx _ =>n - (intOf idx).toNat)
 case atStart =>exact ⟨0,by omega,rfl,HM0.out,HB0.out⟩
 case round =>
  obtain ⟨i,hi,rfl,hm,hb⟩:=hrel
  have HM:=yh hm
  have HBR:=yh hb
  clear hm
  by_cases hlt:i<n
  ·obtain ⟨x,hx⟩:∃ x,xs[i]? = some x:=⟨_,List.getElem?_eq_getElem (by rw [HL.out];exact hlt)⟩
   have hmx:=List.mem_of_getElem? hx
   have hfx:=HF.out x hmx
   obtain ⟨ad,rfl,_,k0,k1,k2,k3,k4,k5,k6⟩:=zBX (H1.out.below hb).1 i x hx
   have HSN:=yh (zQs hx)
   have HQ:=yh (fun W h =>zMr x w.heap.size i (fo Rw.k Rw.t (xs.take i)) (by omega) hfx W h)
   obtain ⟨⟨k,t,u,o,m,g⟩,A4,n4,c4,l4⟩:=x
   simp only at k0 k1 k2 k3 k4 k5 k6
   have HM2:=yh (HM.out.kept (World.grownBy_alloc wr (.cells #[.int .i64 k,.string (tx t),.int .u64 u,.slice A4 n4 c4,.int .u64 o,.int .u64 m,.string (tx g)] 41) none) (by simp))
   have HB2:=yh (hb.alloc hb.size (.cells #[.int .i64 k,.string (tx t),.int .u64 u,.slice A4 n4 c4,.int .u64 o,.int .u64 m,.string (tx g)] 41))
   unfold Rw.val rcv rsv at HQ
   simp only at HQ
   have hi0:(0:Int)≤(i:Int):=by omega
   have hi1:(i:Int)<(n:Int):=by omega
   clear hx hmx hfx hb
   go_wp2_with (go_at_call 91;refine (HQ.out _ HM2.out).mono ?_;rintro e w3 ⟨rfl,hm3,hg3⟩;have HM3:=yh hm3;have HB3:=yh (HB2.out.grown hg3 HB2.out.size (fun j hj =>by cases hj;exact Nat.le_refl _));clear hm3 hg3)
   exact ⟨⟨i+1,by omega,by go_num,by rw [HSN.out];exact HM3.out,HB3.out⟩,by simp [intOf];omega⟩
  ·obtain rfl:i=n:=by omega
   rw [List.take_of_length_le (by rw [HL.out];omega)] at HM
   clear hb
   go_wp2
   go_ret
   exact ⟨rfl,HM.out,HBR.out⟩
end Go.Proofs.YtekchkfjgofnkaaGreatDoor
