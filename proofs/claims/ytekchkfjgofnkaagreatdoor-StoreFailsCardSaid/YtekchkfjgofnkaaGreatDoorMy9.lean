/- Texts of one proof. -/
import Derived.Laws.StructEq
import Derived.Test.YtekchkfjgofnkaaGreatDoorMy8
set_option maxRecDepth 100000
set_option maxHeartbeats 8000000
namespace Go.Proofs.YtekchkfjgofnkaaGreatDoor
open Go.RowKit
theorem zGY:∀ (ts l:List (List UInt8)),l.Nodup→((ts.foldl tput l).length=l.length+ts.length ↔ ts.Nodup∧∀ s ∈ ts,s ∉ l)
 | [],l,_ =>by simp
 | s :: ts,l,hl =>by
  rw [List.foldl_cons,List.nodup_cons]
  by_cases hs:s ∈ l
  ·rw [zDa hs]
   have:=zBc ts l
   refine ⟨fun h =>?_,fun h =>absurd hs (h.2 s (by simp))⟩
   simp at h;omega
  ·have ih:=zGY ts (tput l s) (zHd hl)
   rw [zCc hs] at ih ⊢
   simp only [List.length_append,List.length_cons,List.length_nil,List.mem_append,List.mem_cons,List.not_mem_nil,or_false] at ih ⊢
   rw [show l.length+(ts.length+1)=l.length+(0+1)+ts.length by omega,ih]
   constructor
   ·rintro ⟨h1,h2⟩
    refine ⟨⟨fun h =>h2 s h (.inr rfl),h1⟩,?_⟩
    rintro t (rfl | ht)
    ·exact hs
    ·exact fun h =>h2 t ht (.inl h)
   ·rintro ⟨⟨h1,h2⟩,h3⟩
    refine ⟨h2,fun t ht h =>?_⟩
    rcases h with h | h
    ·exact h3 t (.inr ht) h
    ·subst h;exact h1 ht
theorem zHc (ts:List (List UInt8)):(tnew ts).length=ts.length ↔ ts.Nodup:=by
 have:=zGY ts [] List.nodup_nil
 simpa [tnew] using this
def DepP (v:Int) (d:Dp):Prop:=zBI d.name=true∧(d.order=true→3≤v)
def zET (v:Int) (r:Rc) (l:List Dp):Prop:=l.length≤16∧(∀ d ∈ l,DepP v d)∧(r.target :: names l).Nodup
def zSj (v:Int) (w:World) (o:Obj) (l:List Dp) (idx:Value) (wr:World):Prop :=
 ∃ i:Nat,i≤l.length∧idx=.int .i64 (i:Int)∧(∀ d ∈ l.take i,DepP v d)∧Below w.heap.size w wr∧wr.heap[w.heap.size]? = some o∧w.heap.size<wr.heap.size
theorem zOj (v:Int) (r:Rc) (A:Option Addr) (n c:Nat) (l:List Dp) (hn:n≤5000) (ht:r.target.length≤maxLen) (hl:∀ d ∈ l,d.name.length≤maxLen) (w:World) (h:zAD w w.heap.size 3 A n (dps l)) :
  Calls Tryz.prog 59 #[.int .i64 v,rcv r A n c] w fun e w' =>zAz (zET v r l) e∧Below w.heap.size w w':=by
 have HL:Hid (l.length=n):=by have:=h.1;rw [zAn] at this;show _=_;omega
 have HF:=yh hl
 have HT:=yh ht
 have H1:=yh h
 have h0:=zAE w (.cells (zAh r A n c) 41)
 have hb0:=(Below.refl w.heap.size w).alloc (Nat.le_refl _) (.cells (zAh r A n c) 41)
 have q3:=zAA (i:=3) h0 rfl
 have HB0:=yh hb0
 have H0:=yh h0
 have HS0:Hid (w.heap.size<(w.alloc (.cells (zAh r A n c) 41)).heap.size):=by show w.heap.size<_;simp
 clear hl h ht h0 hb0
 by_cases h16:n≤16
 ·have d16:decide ((n:Int) > 16)=false:=decide_eq_false (by omega)
  unfold zAh at *
  unfold rcv rsv
  go_enter Tryz.func59,Tryz.ntmps59
  go_wp2
  go_loopw [14] (fun idx wr =>zSj v w (.cells (zAh r A n c) 41) l idx wr) (fun idx wr =>n - (intOf idx).toNat)
  case atStart =>exact ⟨0,by omega,rfl,by simp,HB0.out,H0.out,HS0.out⟩
  case round =>
   obtain ⟨i,hi,rfl,hok,hb,hbx,hz⟩:=hrel
   have HOK:=yh hok
   have HBR:=yh hb
   have HBX:=yh hbx
   have HZ:=yh hz
   rw [HL.out] at hi
   by_cases hlt:i<n
   ·obtain ⟨x,hx⟩:∃ x,l[i]? = some x:=⟨_,List.getElem?_eq_getElem (by rw [HL.out];exact hlt)⟩
    obtain ⟨ad,rfl,_,hcx⟩:=(H1.out.below hb).2 (by omega)
    obtain ⟨x0,x1,x2⟩:=zCl l i x hx
    have k0:=hcx _ _ x0
    have k1:=hcx _ _ x1
    have k2:=hcx _ _ x2
    rw [zDR] at k1
    rw [zDT] at k2
    have hnb:=zAE wr (.cells #[.string (tx x.name),.int .u64 x.hash,.bool x.order] 95)
    have p0:=zAA (i:=0) hnb rfl
    have p1:=zAA (i:=1) hnb rfl
    have p2:=zAA (i:=2) hnb rfl
    have hbn:=yh (hb.alloc (by omega) (.cells #[.string (tx x.name),.int .u64 x.hash,.bool x.order] 95))
    have hbxn:=yh ((Below.heap_alloc wr (.cells #[.string (tx x.name),.int .u64 x.hash,.bool x.order] 95) w.heap.size hz).trans hbx)
    have hzn:Hid (w.heap.size<(wr.alloc (.cells #[.string (tx x.name),.int .u64 x.hash,.bool x.order] 95)).heap.size):=by show w.heap.size<_;simp;omega
    have hname:=yh (zGh x.name)
    have hi0:(0:Int)≤(i:Int):=by omega
    have hi1:(i:Int)<(n:Int):=by omega
    have HIN:Hid (DepP v x→∀ d ∈ l.take (i+1),DepP v d):=fun hp d hd =>by
     rw [List.take_add_one,hx,List.mem_append] at hd
     rcases hd with hd | hd
     ·exact HOK.out d hd
     ·simp at hd;subst hd;exact hp
    have HOUT:Hid (¬ DepP v x→¬ zET v r l):=fun hp hd =>hp (hd.2.1 x (List.mem_of_getElem? hx))
    obtain ⟨xn,xh,xo⟩:=x
    unfold rsv at k0 hname
    simp only at k0 k1 k2 p0 p1 p2 hbn hbxn hzn hname
    clear hcx x0 x1 x2 hx hok hb hbx hz hnb
    cases hq:zBI xn
    ·have HNO:=yh (HOUT.out (fun hp =>by have:=hp.1;simp only at this;rw [hq] at this;cases this))
     rw [hq] at hname
     go_wp2_with (go_at_call 50;refine (hname.out _).mono ?_;rintro e w2 ⟨rfl,rfl⟩)
     go_ret
     exact ⟨zAl HNO.out,hbn.out⟩
    ·rw [hq] at hname
     cases xo
     ·have HGO:=yh (HIN.out ⟨hq,fun h =>by cases h⟩)
      go_wp2_with (go_at_call 50;refine (hname.out _).mono ?_;rintro e w2 ⟨rfl,rfl⟩)
      exact ⟨⟨i+1,by rw [HL.out];omega,by go_num,HGO.out,hbn.out,hbxn.out,hzn.out⟩,by simp [intOf];omega⟩
     ·by_cases hv:v<3
      ·have HNO:=yh (HOUT.out (fun hp =>by have:=hp.2 rfl;omega))
       have dv:decide (v<3)=true:=decide_eq_true hv
       go_wp2_with (go_at_call 50;refine (hname.out _).mono ?_;rintro e w2 ⟨rfl,rfl⟩)
       go_ret
       exact ⟨zAl HNO.out,hbn.out⟩
      ·have HGO:=yh (HIN.out ⟨hq,fun _ =>by omega⟩)
       have dv:decide (v<3)=false:=decide_eq_false hv
       go_wp2_with (go_at_call 50;refine (hname.out _).mono ?_;rintro e w2 ⟨rfl,rfl⟩)
       exact ⟨⟨i+1,by rw [HL.out];omega,by go_num,HGO.out,hbn.out,hbxn.out,hzn.out⟩,by simp [intOf];omega⟩
   ·obtain rfl:i=n:=by omega
    rw [List.take_of_length_le (by rw [HL.out];omega)] at HOK
    have hnl:(names l).length=i:=by unfold names;rw [List.length_map];exact HL.out
    have hnm:=zIc r A i c l hn HT.out HF.out wr.drew ((H1.out.below (hb.drew)).more (by show w.heap.size≤wr.heap.size;omega))
    have HNM:=yh hnm
    have HNL:=yh hnl
    have hq3:=zAA (i:=3) hbx rfl
    clear hnm hnl hok hb hbx
    by_cases hd:(tnew (r.target :: names l)).length=1+i
    ·have HP:Hid (zET v r l):=⟨by rw [HL.out];exact h16,HOK.out,(zHc _).1 (by rw [hd,List.length_cons,HNL.out];omega)⟩
     go_wp2_with fail
     have hde:decide ((((tnew (r.target :: names l)).length:Nat):Int)=1+(i:Int))=true:=decide_eq_true (by omega)
     have hdf:((((tnew (r.target :: names l)).length:Nat):Int) == 1+(i:Int))=true:=by rw [beq_iff_eq];omega
     refine wp_region_held (S:=fun v1 =>Below wr.heap.size wr v1) (by kernel_rfl) ?_
     have hS:Below wr.heap.size wr wr.drew:=(Below.refl _ wr).drew
     refine zAB 0 (rcv r A i c) rfl (by kernel_rfl) (by kernel_rfl) (by kernel_rfl) (fun _ _ _ h =>h) (by kernel_rfl) hS (by intro v1 hv;have q0:=(hv.cell (p:=⟨w.heap.size,0,none⟩) HZ.out).trans (zAA (i:=0) HBX.out rfl);have q1:=(hv.cell (p:=⟨w.heap.size,1,none⟩) HZ.out).trans (zAA (i:=1) HBX.out rfl);have q2:=(hv.cell (p:=⟨w.heap.size,2,none⟩) HZ.out).trans (zAA (i:=2) HBX.out rfl);have q3:=(hv.cell (p:=⟨w.heap.size,3,none⟩) HZ.out).trans (zAA (i:=3) HBX.out rfl);have q4:=(hv.cell (p:=⟨w.heap.size,4,none⟩) HZ.out).trans (zAA (i:=4) HBX.out rfl);have q5:=(hv.cell (p:=⟨w.heap.size,5,none⟩) HZ.out).trans (zAA (i:=5) HBX.out rfl);have q6:=(hv.cell (p:=⟨w.heap.size,6,none⟩) HZ.out).trans (zAA (i:=6) HBX.out rfl);go_simp;rfl) ?_
     refine zAB 3 (.pointer (some ⟨w.heap.size,3,none⟩)) rfl (by kernel_rfl) (by kernel_rfl) (by kernel_rfl) (fun _ _ _ h =>h) (by kernel_rfl) hS (fun _ _ =>by kernel_rfl) ?_
     refine zAB 4 (.slice A i c) rfl (by kernel_rfl) (by kernel_rfl) (by kernel_rfl) (fun _ _ _ h =>h) (by kernel_rfl) hS (by intro v1 hv;have q3:=(hv.cell (p:=⟨w.heap.size,3,none⟩) HZ.out).trans (zAA (i:=3) HBX.out rfl);go_simp;try rfl) ?_
     refine zAB 5 (.int .i64 (i:Int)) rfl (by kernel_rfl) (by kernel_rfl) (by kernel_rfl) (fun _ _ _ h =>h) (by kernel_rfl) hS (by intro v1 hv;go_simp) ?_
     refine zAB 6 (.int .i64 (1+(i:Int))) rfl (by kernel_rfl) (by kernel_rfl) (by kernel_rfl) (fun _ _ _ h =>h) (by kernel_rfl) hS (by intro v1 hv;go_simp;exact zEA (by omega) (by omega)) ?_
     refine zAO 1 rfl (by kernel_rfl) (by kernel_rfl) (fun K hK =>?_)
     go_simp
     refine HNM.out.mono ?_
     rintro e w2 ⟨tb,rfl,htb0,htb1,htab,hb2⟩
     have hb3:Below wr.heap.size wr.drew w2:=hb2
     have hS2:Below wr.heap.size wr w2:=(Below.refl _ wr).drew.trans hb2
     refine hK _ _ hS2 ?_
     clear hK K
     refine zAO 2 rfl (by kernel_rfl) (by kernel_rfl) (fun K hK =>?_)
     go_simp
     refine (zDP _ tb _ _ w2 htab).mono ?_
     rintro e w3 ⟨rfl,rfl⟩
     refine hK _ _ hS2 ?_
     clear hK K
     refine zAB 7 (.bool true) rfl (by kernel_rfl) (by kernel_rfl) (by kernel_rfl) (fun _ _ _ h =>h) (by kernel_rfl) hS2 (by intro v1 hv;go_simp) ?_
     refine zAB 8 (.bool true) rfl (by kernel_rfl) (by kernel_rfl) (by kernel_rfl) (fun _ _ _ h =>h) (by kernel_rfl) hS2 (fun _ _ =>by kernel_rfl) ?_
     refine wpAnyH_done (by kernel_rfl) ?_ _
     go_simp
     go_wp2
     go_ret
     exact ⟨zBY HP.out,HBR.out.drew.trans (hb3.mono (by show w.heap.size≤wr.heap.size;exact Nat.le_of_lt HZ.out))⟩
    ·have HP:Hid (¬ zET v r l):=fun h =>hd (by have:=(zHc _).2 h.2.2;rw [this,List.length_cons,HNL.out];omega)
     go_wp2_with fail
     have hde:decide ((((tnew (r.target :: names l)).length:Nat):Int)=1+(i:Int))=false:=decide_eq_false (by omega)
     have hdf:((((tnew (r.target :: names l)).length:Nat):Int) == 1+(i:Int))=false:=by rw [beq_eq_false_iff_ne];omega
     refine wp_region_held (S:=fun v1 =>Below wr.heap.size wr v1) (by kernel_rfl) ?_
     have hS:Below wr.heap.size wr wr.drew:=(Below.refl _ wr).drew
     refine zAB 0 (rcv r A i c) rfl (by kernel_rfl) (by kernel_rfl) (by kernel_rfl) (fun _ _ _ h =>h) (by kernel_rfl) hS (by intro v1 hv;have q0:=(hv.cell (p:=⟨w.heap.size,0,none⟩) HZ.out).trans (zAA (i:=0) HBX.out rfl);have q1:=(hv.cell (p:=⟨w.heap.size,1,none⟩) HZ.out).trans (zAA (i:=1) HBX.out rfl);have q2:=(hv.cell (p:=⟨w.heap.size,2,none⟩) HZ.out).trans (zAA (i:=2) HBX.out rfl);have q3:=(hv.cell (p:=⟨w.heap.size,3,none⟩) HZ.out).trans (zAA (i:=3) HBX.out rfl);have q4:=(hv.cell (p:=⟨w.heap.size,4,none⟩) HZ.out).trans (zAA (i:=4) HBX.out rfl);have q5:=(hv.cell (p:=⟨w.heap.size,5,none⟩) HZ.out).trans (zAA (i:=5) HBX.out rfl);have q6:=(hv.cell (p:=⟨w.heap.size,6,none⟩) HZ.out).trans (zAA (i:=6) HBX.out rfl);go_simp;rfl) ?_
     refine zAB 3 (.pointer (some ⟨w.heap.size,3,none⟩)) rfl (by kernel_rfl) (by kernel_rfl) (by kernel_rfl) (fun _ _ _ h =>h) (by kernel_rfl) hS (fun _ _ =>by kernel_rfl) ?_
     refine zAB 4 (.slice A i c) rfl (by kernel_rfl) (by kernel_rfl) (by kernel_rfl) (fun _ _ _ h =>h) (by kernel_rfl) hS (by intro v1 hv;have q3:=(hv.cell (p:=⟨w.heap.size,3,none⟩) HZ.out).trans (zAA (i:=3) HBX.out rfl);go_simp;try rfl) ?_
     refine zAB 5 (.int .i64 (i:Int)) rfl (by kernel_rfl) (by kernel_rfl) (by kernel_rfl) (fun _ _ _ h =>h) (by kernel_rfl) hS (by intro v1 hv;go_simp) ?_
     refine zAB 6 (.int .i64 (1+(i:Int))) rfl (by kernel_rfl) (by kernel_rfl) (by kernel_rfl) (fun _ _ _ h =>h) (by kernel_rfl) hS (by intro v1 hv;go_simp;exact zEA (by omega) (by omega)) ?_
     refine zAO 1 rfl (by kernel_rfl) (by kernel_rfl) (fun K hK =>?_)
     go_simp
     refine HNM.out.mono ?_
     rintro e w2 ⟨tb,rfl,htb0,htb1,htab,hb2⟩
     have hb3:Below wr.heap.size wr.drew w2:=hb2
     have hS2:Below wr.heap.size wr w2:=(Below.refl _ wr).drew.trans hb2
     refine hK _ _ hS2 ?_
     clear hK K
     refine zAO 2 rfl (by kernel_rfl) (by kernel_rfl) (fun K hK =>?_)
     go_simp
     refine (zDP _ tb _ _ w2 htab).mono ?_
     rintro e w3 ⟨rfl,rfl⟩
     refine hK _ _ hS2 ?_
     clear hK K
     refine zAB 7 (.bool false) rfl (by kernel_rfl) (by kernel_rfl) (by kernel_rfl) (fun _ _ _ h =>h) (by kernel_rfl) hS2 (by intro v1 hv;go_simp) ?_
     refine zAB 8 (.bool false) rfl (by kernel_rfl) (by kernel_rfl) (by kernel_rfl) (fun _ _ _ h =>h) (by kernel_rfl) hS2 (fun _ _ =>by kernel_rfl) ?_
     refine wpAnyH_done (by kernel_rfl) ?_ _
     go_simp
     go_wp2
     go_ret
     exact ⟨zAl HP.out,HBR.out.drew.trans (hb3.mono (by show w.heap.size≤wr.heap.size;exact Nat.le_of_lt HZ.out))⟩
 ·have d16:decide ((n:Int) > 16)=true:=decide_eq_true (by omega)
  have HP:Hid (¬ zET v r l):=fun h =>h16 (by have:=h.1;rw [HL.out] at this;exact this)
  unfold zAh at *
  unfold rcv rsv
  go_enter Tryz.func59,Tryz.ntmps59
  go_wp2
  go_ret
  exact ⟨zAl HP.out,HB0.out⟩
theorem zKN:Tryz.prog.underlying 133=some (.struct (Tryz.prog.fieldsOf 133)):=by kernel_rfl
theorem zNJ:Tryz.prog.stoodInHeld 133=false:=by kernel_rfl
theorem zLk:Tryz.prog.underlying 95=some (.struct (Tryz.prog.fieldsOf 95)):=by kernel_rfl
theorem zPG:Tryz.prog.stoodInHeld 95=false:=by kernel_rfl
theorem zGn (r1 r2:Rc) (w:World):∃ q:Bool,(q=true ↔ r1≠r2)∧(binOp .neq 133 (zCV r1) (zCV r2)).run Tryz.prog w=.ok (.bool q) w:=by
 obtain ⟨k1,t1,u1,o1,m1,g1⟩:=r1
 obtain ⟨k2,t2,u2,o2,m2,g2⟩:=r2
 unfold zCV rsv
 rw [run_neq_struct,show (10000:Nat)=9999+1 from rfl,run_equalIn_agg _ _ _ _ _ zKN zNJ]
 simp only [Program.fieldsOf,Tryz.underlying133]
 by_cases e1:k1=k2
 ·by_cases e2:t1=t2
  ·by_cases e3:g1=g2
   ·by_cases e4:u1=u2
    ·by_cases e5:o1=o2
     ·by_cases e6:m1=m2
      ·subst e1 e2 e3 e4 e5 e6
       exact ⟨false,by simp,by go_simp⟩
      ·subst e1 e2 e3 e4 e5
       have h:(m1 == m2)=false:=by rw [beq_eq_false_iff_ne];exact e6
       exact ⟨true,by simp [e6],by go_simp⟩
     ·subst e1 e2 e3 e4
      have h:(o1 == o2)=false:=by rw [beq_eq_false_iff_ne];exact e5
      exact ⟨true,by simp [e5],by go_simp⟩
    ·subst e1 e2 e3
     have h:(u1 == u2)=false:=by rw [beq_eq_false_iff_ne];exact e4
     exact ⟨true,by simp [e4],by go_simp⟩
   ·subst e1 e2
    have h:=zCd e3
    exact ⟨true,by simp [e3],by go_simp⟩
  ·subst e1
   have h:=zCd e2
   exact ⟨true,by simp [e2],by go_simp⟩
 ·have h:(k1 == k2)=false:=by rw [beq_eq_false_iff_ne];exact e1
  exact ⟨true,by simp [e1],by go_simp⟩
def Dp.val (d:Dp):Value:=.agg #[rsv d.name,.int .u64 d.hash,.bool d.order]
theorem zKv (r1 r2:Dp) (w:World):∃ q:Bool,(q=true ↔ r1≠r2)∧(binOp .neq 95 r1.val r2.val).run Tryz.prog w=.ok (.bool q) w:=by
 obtain ⟨t1,u1,o1⟩:=r1
 obtain ⟨t2,u2,o2⟩:=r2
 unfold Dp.val rsv
 rw [run_neq_struct,show (10000:Nat)=9999+1 from rfl,run_equalIn_agg _ _ _ _ _ zLk zPG]
 simp only [Program.fieldsOf,Tryz.underlying95]
 by_cases e2:t1=t2
 ·by_cases e4:u1=u2
  ·by_cases e5:o1=o2
   ·subst e2 e4 e5
    exact ⟨false,by simp,by go_simp⟩
   ·subst e2 e4
    have h:(o1 == o2)=false:=by rw [beq_eq_false_iff_ne];exact e5
    exact ⟨true,by simp [e5],by go_simp⟩
  ·subst e2
   have h:(u1 == u2)=false:=by rw [beq_eq_false_iff_ne];exact e4
   exact ⟨true,by simp [e4],by go_simp⟩
 ·have h:=zCd e2
  exact ⟨true,by simp [e2],by go_simp⟩
theorem zDX (r:Rc) (A:Option Addr) (n c:Nat) (w:World) :
  Calls Tryz.prog 87 #[rcv r A n c] w fun e w' =>e=.returned (zCV r)∧Below w.heap.size w w':=by
 unfold rcv zCV rsv
 have HB:=yh (((Below.refl w.heap.size w).alloc (Nat.le_refl _) (.cells #[.int .i64 r.kind,.string (tx r.target),.int .u64 r.rule,.slice A n c,.int .u64 r.out,.int .u64 r.time,.string (tx r.tag)] 41)).alloc (by simp) (.cells #[.int .i64 r.kind,.string (tx r.target),.string (tx r.tag),.int .u64 r.rule,.int .u64 r.out,.int .u64 r.time] 133))
 go_enter Tryz.func87,Tryz.ntmps87
 go_wp2
 have hx:∀ (a b:Obj),((w.alloc a).alloc b).heap[w.heap.size+1]? = some b:=fun a b =>by
  have h:=@Array.getElem?_push_size _ (w.alloc a).heap b
  rwa [show (w.alloc a).heap.size=w.heap.size+1 from Array.size_push _] at h
 refine bodyPost_ret (results_cell_row rfl _ _ _ _ _ _ _ rfl (hx _ _) Tryz.underlying133 rfl (by kernel_rfl)) rfl ?_
 exact ⟨rfl,HB.out⟩
theorem zFF (r1 r2:Rc) (x y:Operand) (w:World):(eqGuard .neq 133 x y (zCV r1) (zCV r2)).run Tryz.prog w=.ok () w:=by
 unfold zCV
 exact run_eqGuard_agg w .neq _ x y _ _ (by kernel_rfl)
theorem zIX (r1 r2:Dp) (x y:Operand) (w:World):(eqGuard .neq 95 x y r1.val r2.val).run Tryz.prog w=.ok () w:=by
 unfold Dp.val
 exact run_eqGuard_agg w .neq _ x y _ _ (by kernel_rfl)
theorem zMJ (r1 r2:Rc) (A B:Option Addr) (n1 n2 c d:Nat) (h:r1≠r2) (w:World) :
  Calls Tryz.prog 60 #[rcv r1 A n1 c,rcv r2 B n2 d] w fun e w' =>e=.returned (.bool false)∧Below w.heap.size w w':=by
 unfold rcv rsv
 obtain ⟨ha0,ha1,hsz⟩:=zGQ w (.cells #[.int .i64 r1.kind,.string (tx r1.target),.int .u64 r1.rule,.slice A n1 c,.int .u64 r1.out,.int .u64 r1.time,.string (tx r1.tag)] 41) (.cells #[.int .i64 r2.kind,.string (tx r2.target),.int .u64 r2.rule,.slice B n2 d,.int .u64 r2.out,.int .u64 r2.time,.string (tx r2.tag)] 41)
 have HB:=yh (((Below.refl w.heap.size w).alloc (Nat.le_refl _) (.cells #[.int .i64 r1.kind,.string (tx r1.target),.int .u64 r1.rule,.slice A n1 c,.int .u64 r1.out,.int .u64 r1.time,.string (tx r1.tag)] 41)).alloc (by simp) (.cells #[.int .i64 r2.kind,.string (tx r2.target),.int .u64 r2.rule,.slice B n2 d,.int .u64 r2.out,.int .u64 r2.time,.string (tx r2.tag)] 41))
 have HA0:=yh ha0
 have HA1:=yh ha1
 have HSZ:=yh hsz
 clear ha0 ha1 hsz
 have hneq:∀ v:World,(binOp .neq 133 (zCV r1) (zCV r2)).run Tryz.prog v=.ok (.bool true) v:=fun v =>by
  obtain ⟨q,h1,h2⟩:=zGn r1 r2 v
  rw [h2,show q=true from by rw [h1];exact h]
 go_enter Tryz.func60,Tryz.ntmps60
 go_wp2_with fail
 generalize hW:(World.alloc (World.alloc w _) _)=W0 at *
 have ha0:=HA0.out
 have ha1:=HA1.out
 have hsz:=HSZ.out
 refine wp_region_held (S:=fun v =>Below (w.heap.size+2) W0 v) (by kernel_rfl) ?_
 have hS:Below (w.heap.size+2) W0 W0.drew:=(Below.refl _ W0).drew
 refine zAB 0 (rcv r1 A n1 c) rfl (by kernel_rfl) (by kernel_rfl) (by kernel_rfl) (fun _ _ _ h =>h) (by kernel_rfl) hS (by intro v hv;have q0:=(hv.cell (p:=⟨w.heap.size,0,none⟩) (show w.heap.size<w.heap.size+2 by omega)).trans (zAA (i:=0) ha0 rfl);have q1:=(hv.cell (p:=⟨w.heap.size,1,none⟩) (show w.heap.size<w.heap.size+2 by omega)).trans (zAA (i:=1) ha0 rfl);have q2:=(hv.cell (p:=⟨w.heap.size,2,none⟩) (show w.heap.size<w.heap.size+2 by omega)).trans (zAA (i:=2) ha0 rfl);have q3:=(hv.cell (p:=⟨w.heap.size,3,none⟩) (show w.heap.size<w.heap.size+2 by omega)).trans (zAA (i:=3) ha0 rfl);have q4:=(hv.cell (p:=⟨w.heap.size,4,none⟩) (show w.heap.size<w.heap.size+2 by omega)).trans (zAA (i:=4) ha0 rfl);have q5:=(hv.cell (p:=⟨w.heap.size,5,none⟩) (show w.heap.size<w.heap.size+2 by omega)).trans (zAA (i:=5) ha0 rfl);have q6:=(hv.cell (p:=⟨w.heap.size,6,none⟩) (show w.heap.size<w.heap.size+2 by omega)).trans (zAA (i:=6) ha0 rfl);go_simp;rfl) ?_
 refine zAB 2 (rcv r2 B n2 d) rfl (by kernel_rfl) (by kernel_rfl) (by kernel_rfl) (fun _ _ _ h =>h) (by kernel_rfl) hS (by intro v hv;have q0:=(hv.cell (p:=⟨w.heap.size+1,0,none⟩) (show w.heap.size+1<w.heap.size+2 by omega)).trans (zAA (i:=0) ha1 rfl);have q1:=(hv.cell (p:=⟨w.heap.size+1,1,none⟩) (show w.heap.size+1<w.heap.size+2 by omega)).trans (zAA (i:=1) ha1 rfl);have q2:=(hv.cell (p:=⟨w.heap.size+1,2,none⟩) (show w.heap.size+1<w.heap.size+2 by omega)).trans (zAA (i:=2) ha1 rfl);have q3:=(hv.cell (p:=⟨w.heap.size+1,3,none⟩) (show w.heap.size+1<w.heap.size+2 by omega)).trans (zAA (i:=3) ha1 rfl);have q4:=(hv.cell (p:=⟨w.heap.size+1,4,none⟩) (show w.heap.size+1<w.heap.size+2 by omega)).trans (zAA (i:=4) ha1 rfl);have q5:=(hv.cell (p:=⟨w.heap.size+1,5,none⟩) (show w.heap.size+1<w.heap.size+2 by omega)).trans (zAA (i:=5) ha1 rfl);have q6:=(hv.cell (p:=⟨w.heap.size+1,6,none⟩) (show w.heap.size+1<w.heap.size+2 by omega)).trans (zAA (i:=6) ha1 rfl);go_simp;rfl) ?_
 refine zAO 1 rfl (by kernel_rfl) (by kernel_rfl) (fun K hK =>?_)
 go_simp
 refine (zDX r1 A n1 c _).mono ?_
 rintro e w2 ⟨rfl,hb2⟩
 have hS2:Below (w.heap.size+2) W0 w2:=hS.trans (hb2.mono (by have:=hS.size;omega))
 refine hK _ _ hS2 ?_
 clear hK K
 refine zAO 3 rfl (by kernel_rfl) (by kernel_rfl) (fun K hK =>?_)
 go_simp
 refine (zDX r2 B n2 d _).mono ?_
 rintro e w3 ⟨rfl,hb3⟩
 have hS3:Below (w.heap.size+2) W0 w3:=hS2.trans (hb3.mono (by have:=hS2.size;omega))
 refine hK _ _ hS3 ?_
 clear hK K
 refine zAB 4 (.bool true) rfl (by kernel_rfl) (by kernel_rfl) (by kernel_rfl) (fun _ _ _ h =>h) (by kernel_rfl) hS3 (by intro v hv;have q:=hneq v;have g:=zFF r1 r2 (.tmp 8) (.tmp 10) v;go_simp) ?_
 refine zAB 5 (.bool true) rfl (by kernel_rfl) (by kernel_rfl) (by kernel_rfl) (fun _ _ _ h =>h) (by kernel_rfl) hS3 (fun _ _ =>by kernel_rfl) ?_
 refine zAX 6 rfl (by kernel_rfl) (by kernel_rfl) (by kernel_rfl) (fun _ _ _ h =>h) (by kernel_rfl) hS3 ?_
 refine zAX 7 rfl (by kernel_rfl) (by kernel_rfl) (by kernel_rfl) (fun _ _ _ h =>h) (by kernel_rfl) hS3 ?_
 refine zAX 8 rfl (by kernel_rfl) (by kernel_rfl) (by kernel_rfl) (fun _ _ _ h =>h) (by kernel_rfl) hS3 ?_
 refine zAX 9 rfl (by kernel_rfl) (by kernel_rfl) (by kernel_rfl) (fun _ _ _ h =>h) (by kernel_rfl) hS3 ?_
 refine zAX 10 rfl (by kernel_rfl) (by kernel_rfl) (by kernel_rfl) (fun _ _ _ h =>h) (by kernel_rfl) hS3 ?_
 refine zAX 11 rfl (by kernel_rfl) (by kernel_rfl) (by kernel_rfl) (fun _ _ _ h =>h) (by kernel_rfl) hS3 ?_
 refine zAX 12 rfl (by kernel_rfl) (by kernel_rfl) (by kernel_rfl) (fun _ _ _ h =>h) (by kernel_rfl) hS3 ?_
 refine zAB 13 (.bool true) rfl (by kernel_rfl) (by kernel_rfl) (by kernel_rfl) (fun _ _ _ h =>h) (by kernel_rfl) hS3 (fun _ _ =>by kernel_rfl) ?_
 refine wpAnyH_done (by kernel_rfl) ?_ _
 go_simp
 go_wp2
 go_ret
 exact ⟨rfl,HB.out.trans (hS3.mono (by omega))⟩
theorem zNw (r:Rc) (A B:Option Addr) (n1 n2 c d:Nat) (hn:n1≠n2) (w:World) :
  Calls Tryz.prog 60 #[rcv r A n1 c,rcv r B n2 d] w fun e w' =>e=.returned (.bool false)∧Below w.heap.size w w':=by
 unfold rcv rsv
 obtain ⟨ha0,ha1,hsz⟩:=zGQ w (.cells #[.int .i64 r.kind,.string (tx r.target),.int .u64 r.rule,.slice A n1 c,.int .u64 r.out,.int .u64 r.time,.string (tx r.tag)] 41) (.cells #[.int .i64 r.kind,.string (tx r.target),.int .u64 r.rule,.slice B n2 d,.int .u64 r.out,.int .u64 r.time,.string (tx r.tag)] 41)
 have HB:=yh (((Below.refl w.heap.size w).alloc (Nat.le_refl _) (.cells #[.int .i64 r.kind,.string (tx r.target),.int .u64 r.rule,.slice A n1 c,.int .u64 r.out,.int .u64 r.time,.string (tx r.tag)] 41)).alloc (by simp) (.cells #[.int .i64 r.kind,.string (tx r.target),.int .u64 r.rule,.slice B n2 d,.int .u64 r.out,.int .u64 r.time,.string (tx r.tag)] 41))
 have HA0:=yh ha0
 have HA1:=yh ha1
 have HSZ:=yh hsz
 clear ha0 ha1 hsz
 have hneq:∀ v:World,(binOp .neq 133 (zCV r) (zCV r)).run Tryz.prog v=.ok (.bool false) v:=fun v =>by
  obtain ⟨q,h1,h2⟩:=zGn r r v
  rw [h2,show q=false from by rw [← Bool.not_eq_true,h1];simp]
 have hn2:decide ((n1:Int)=(n2:Int))=false:=by rw [decide_eq_false_iff_not];omega
 have hn3:((n1:Int) == (n2:Int))=false:=by rw [beq_eq_false_iff_ne];omega
 have hn4:((n1:Int) != (n2:Int))=true:=by rw [bne_iff_ne];omega
 go_enter Tryz.func60,Tryz.ntmps60
 go_wp2_with fail
 generalize hW:(World.alloc (World.alloc w _) _)=W0 at *
 have ha0:=HA0.out
 have ha1:=HA1.out
 have hsz:=HSZ.out
 refine wp_region_held (S:=fun v =>Below (w.heap.size+2) W0 v) (by kernel_rfl) ?_
 have hS:Below (w.heap.size+2) W0 W0.drew:=(Below.refl _ W0).drew
 refine zAB 0 (rcv r A n1 c) rfl (by kernel_rfl) (by kernel_rfl) (by kernel_rfl) (fun _ _ _ h =>h) (by kernel_rfl) hS (by intro v hv;have q0:=(hv.cell (p:=⟨w.heap.size,0,none⟩) (show w.heap.size<w.heap.size+2 by omega)).trans (zAA (i:=0) ha0 rfl);have q1:=(hv.cell (p:=⟨w.heap.size,1,none⟩) (show w.heap.size<w.heap.size+2 by omega)).trans (zAA (i:=1) ha0 rfl);have q2:=(hv.cell (p:=⟨w.heap.size,2,none⟩) (show w.heap.size<w.heap.size+2 by omega)).trans (zAA (i:=2) ha0 rfl);have q3:=(hv.cell (p:=⟨w.heap.size,3,none⟩) (show w.heap.size<w.heap.size+2 by omega)).trans (zAA (i:=3) ha0 rfl);have q4:=(hv.cell (p:=⟨w.heap.size,4,none⟩) (show w.heap.size<w.heap.size+2 by omega)).trans (zAA (i:=4) ha0 rfl);have q5:=(hv.cell (p:=⟨w.heap.size,5,none⟩) (show w.heap.size<w.heap.size+2 by omega)).trans (zAA (i:=5) ha0 rfl);have q6:=(hv.cell (p:=⟨w.heap.size,6,none⟩) (show w.heap.size<w.heap.size+2 by omega)).trans (zAA (i:=6) ha0 rfl);go_simp;rfl) ?_
 refine zAB 2 (rcv r B n2 d) rfl (by kernel_rfl) (by kernel_rfl) (by kernel_rfl) (fun _ _ _ h =>h) (by kernel_rfl) hS (by intro v hv;have q0:=(hv.cell (p:=⟨w.heap.size+1,0,none⟩) (show w.heap.size+1<w.heap.size+2 by omega)).trans (zAA (i:=0) ha1 rfl);have q1:=(hv.cell (p:=⟨w.heap.size+1,1,none⟩) (show w.heap.size+1<w.heap.size+2 by omega)).trans (zAA (i:=1) ha1 rfl);have q2:=(hv.cell (p:=⟨w.heap.size+1,2,none⟩) (show w.heap.size+1<w.heap.size+2 by omega)).trans (zAA (i:=2) ha1 rfl);have q3:=(hv.cell (p:=⟨w.heap.size+1,3,none⟩) (show w.heap.size+1<w.heap.size+2 by omega)).trans (zAA (i:=3) ha1 rfl);have q4:=(hv.cell (p:=⟨w.heap.size+1,4,none⟩) (show w.heap.size+1<w.heap.size+2 by omega)).trans (zAA (i:=4) ha1 rfl);have q5:=(hv.cell (p:=⟨w.heap.size+1,5,none⟩) (show w.heap.size+1<w.heap.size+2 by omega)).trans (zAA (i:=5) ha1 rfl);have q6:=(hv.cell (p:=⟨w.heap.size+1,6,none⟩) (show w.heap.size+1<w.heap.size+2 by omega)).trans (zAA (i:=6) ha1 rfl);go_simp;rfl) ?_
 refine zAO 1 rfl (by kernel_rfl) (by kernel_rfl) (fun K hK =>?_)
 go_simp
 refine (zDX r A n1 c _).mono ?_
 rintro e w2 ⟨rfl,hb2⟩
 have hS2:Below (w.heap.size+2) W0 w2:=hS.trans (hb2.mono (by have:=hS.size;omega))
 refine hK _ _ hS2 ?_
 clear hK K
 refine zAO 3 rfl (by kernel_rfl) (by kernel_rfl) (fun K hK =>?_)
 go_simp
 refine (zDX r B n2 d _).mono ?_
 rintro e w3 ⟨rfl,hb3⟩
 have hS3:Below (w.heap.size+2) W0 w3:=hS2.trans (hb3.mono (by have:=hS2.size;omega))
 refine hK _ _ hS3 ?_
 clear hK K
 refine zAB 4 (.bool false) rfl (by kernel_rfl) (by kernel_rfl) (by kernel_rfl) (fun _ _ _ h =>h) (by kernel_rfl) hS3 (by intro v hv;have q:=hneq v;have g:=zFF r r (.tmp 8) (.tmp 10) v;go_simp) ?_
 refine zAB 5 (.bool false) rfl (by kernel_rfl) (by kernel_rfl) (by kernel_rfl) (fun _ _ _ h =>h) (by kernel_rfl) hS3 (fun _ _ =>by kernel_rfl) ?_
 refine zAB 6 (.pointer (some ⟨w.heap.size,3,none⟩)) rfl (by kernel_rfl) (by kernel_rfl) (by kernel_rfl) (fun _ _ _ h =>h) (by kernel_rfl) hS3 (fun _ _ =>by kernel_rfl) ?_
 refine zAB 7 (.slice A n1 c) rfl (by kernel_rfl) (by kernel_rfl) (by kernel_rfl) (fun _ _ _ h =>h) (by kernel_rfl) hS3 (by intro v hv;have q3:=(hv.cell (p:=⟨w.heap.size,3,none⟩) (show w.heap.size<w.heap.size+2 by omega)).trans (zAA (i:=3) ha0 rfl);go_simp) ?_
 refine zAB 8 (.int .i64 (n1:Int)) rfl (by kernel_rfl) (by kernel_rfl) (by kernel_rfl) (fun _ _ _ h =>h) (by kernel_rfl) hS3 (by intro v hv;go_simp) ?_
 refine zAB 9 (.pointer (some ⟨w.heap.size+1,3,none⟩)) rfl (by kernel_rfl) (by kernel_rfl) (by kernel_rfl) (fun _ _ _ h =>h) (by kernel_rfl) hS3 (fun _ _ =>by kernel_rfl) ?_
 refine zAB 10 (.slice B n2 d) rfl (by kernel_rfl) (by kernel_rfl) (by kernel_rfl) (fun _ _ _ h =>h) (by kernel_rfl) hS3 (by intro v hv;have q3:=(hv.cell (p:=⟨w.heap.size+1,3,none⟩) (show w.heap.size+1<w.heap.size+2 by omega)).trans (zAA (i:=3) ha1 rfl);go_simp) ?_
 refine zAB 11 (.int .i64 (n2:Int)) rfl (by kernel_rfl) (by kernel_rfl) (by kernel_rfl) (fun _ _ _ h =>h) (by kernel_rfl) hS3 (by intro v hv;go_simp) ?_
 refine zAB 12 (.bool true) rfl (by kernel_rfl) (by kernel_rfl) (by kernel_rfl) (fun _ _ _ h =>h) (by kernel_rfl) hS3 (by intro v hv;go_simp) ?_
 refine zAB 13 (.bool true) rfl (by kernel_rfl) (by kernel_rfl) (by kernel_rfl) (fun _ _ _ h =>h) (by kernel_rfl) hS3 (fun _ _ =>by kernel_rfl) ?_
 refine wpAnyH_done (by kernel_rfl) ?_ _
 go_simp
 go_wp2
 go_ret
 exact ⟨rfl,HB.out.trans (hS3.mono (by omega))⟩
end Go.Proofs.YtekchkfjgofnkaaGreatDoor
