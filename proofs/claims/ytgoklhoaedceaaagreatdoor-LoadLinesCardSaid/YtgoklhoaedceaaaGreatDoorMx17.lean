/- Texts of one proof. -/
import Derived.ChangeAgain
import Derived.Test.YtgoklhoaedceaaaGreatDoorMx16
set_option maxRecDepth 100000
set_option maxHeartbeats 8000000
namespace Go.Proofs.YtgoklhoaedceaaaGreatDoor
open Go.RowKit
theorem zAW {P:Program} {w w':World} (h:w.ShapedOpen P) (hb:Below w.heap.size w w'):w'.ShapedOpen P:=h.keptBut (hb.frame (fun _ =>False)) (fun _ hp =>hp.elim)
theorem zHm (l:List UInt8) (hl:l.length≤1000000) (w:World) (hsh:w.ShapedOpen Tryz.prog) :
  Calls Tryz.prog 56 #[.string (tx l)] w fun e w' =>∃ v,e=.returned v∧w'.ownsRow w.heap.size 9 1 v (words l).length ((words l).map tsv)∧Below w.heap.size w w':=by
 have hsz:(tx l).size=l.length:=zAK l
 obtain ⟨hs1,hs2⟩:=zHD { data:=#[32] } rfl l.length l (Nat.le_refl _)
 have hwl:=zCz l.length l (Nat.le_refl _)
 have hc:=Tryz.strings_Split_shaped (tx l) { data:=#[32] } w hsh (by omega) (by decide)
 rw [hs1,hs2] at hc
 have hown:(w.alloc (.cells ((words l).map tsv).toArray 9)).ownsRow w.heap.size 9 1 (.slice (some ⟨w.heap.size,0,none⟩) (words l).length (words l).length) (words l).length ((words l).map tsv) :=
  zEY (Nat.le_refl _) (zAI w _) (Nat.le_refl _) (by unfold maxLen;omega) (by simp) (List.take_of_length_le (by simp))
 have HOWN:=yh hown
 have HC:=yh hc
 clear hc hown hs1 hs2 hwl
 generalize tx l=s at *
 go_enter Tryz.func56,Tryz.ntmps56
 go_wp2_with fail
 refine HC.out.mono ?_
 rintro e w3 ⟨rfl,rfl⟩
 go_wp2
 go_ret
 exact ⟨_,rfl,HOWN.out,(Below.refl _ _).alloc (Nat.le_refl _) _⟩
theorem zDI {l:List UInt8} {f i:Nat} {b:UInt8} (h:l[i]? = some b) (hf:f≤i):(l.drop f).take (i+1 - f)=(l.drop f).take (i - f)++[b]:=by
 rw [show i+1 - f=(i - f)+1 by omega,List.take_add_one,List.getElem?_drop,show f+(i - f)=i by omega,h]
 rfl
theorem zEk {l:List UInt8} {f i:Nat} {b:UInt8} (h:l[i]? = some b) (hf:f≤i):l.drop f=(l.drop f).take (i - f)++b :: l.drop (i+1):=by
 conv =>lhs;rw [← List.take_append_drop (i - f) (l.drop f)]
 congr 1
 rw [List.drop_drop,show f+(i - f)=i by omega]
 obtain ⟨h1,h2⟩:=List.getElem?_eq_some_iff.1 h
 rw [List.drop_eq_getElem_cons h1,h2]
def LRel (l:List UInt8) (w:World) (v3 v4 v5:Value) (wr:World):Prop :=
 ∃ (i f:Nat) (D:List (List UInt8)) (a3:Value),a3=v3∧v4=.int .i64 (f:Int)∧v5=.int .i64 (i:Int)∧f≤i∧i≤l.length∧wr.ownsRow w.heap.size 9 1 a3 D.length (D.map tsv)∧words l=D++words (l.drop f)∧(∀ b ∈ (l.drop f).take (i - f),b≠32)∧D.length≤i∧Below w.heap.size w wr
theorem zKa:(Tryz.prog.info? 9).map (fun i =>(i.zero,i.size,i.bytes))=some (some (.string ⟨#[]⟩),1,16):=by kernel_rfl
theorem zIC (l:List UInt8) (hl:l.length≤1000000) (w:World) :
  Calls Tryz.prog 35 #[.string (tx l)] w fun e w' =>∃ v,e=.returned v∧w'.ownsRow w.heap.size 9 1 v (words l).length ((words l).map tsv)∧Below w.heap.size w w':=by
 obtain ⟨i0,ii0,iz0,iz1,iz2⟩:=info_parts zKa
 obtain ⟨n,hn⟩:∃ n,n=l.length:=⟨_,rfl⟩
 have hsz:(tx l).size=n:=by rw [zAK,hn]
 have HN:=yh hn
 have HAT:=yh (fun i x h hp =>zDf l i x h hp)
 have HEX:=yh (fun a b =>zAv l a b)
 have H0:Hid (LRel l w (.slice (some ⟨w.heap.size,0,none⟩) 0 0) (.int .i64 0) (.int .i64 0) (w.alloc (.cells #[] 9))):=⟨0,0,[],_,rfl,rfl,rfl,Nat.le_refl _,Nat.zero_le _,zFh w _,rfl,by simp,Nat.le_refl _,(Below.refl _ _).alloc (Nat.le_refl _) _⟩
 rw [← hn] at hl
 generalize tx l=s at *
 clear hn
 go_enter Tryz.func35,Tryz.ntmps35
 go_wp2
 go_loopw [3,4,5] (fun v3 v4 v5 wr =>LRel l w v3 v4 v5 wr) (fun _ _ v5 _ =>n - (intOf v5).toNat)
 case atStart =>exact H0.out
 case round =>
  obtain ⟨i,f,D,a3,rfl,rfl,rfl,hfi,hi,hown,hwd,hno,hdl,hb⟩:=hrel
  clear H0
  rw [← HN.out] at hi
  have HOWN:=yh hown
  have HWD:=yh hwd
  have HNO:=yh hno
  have HB:=yh hb
  obtain ⟨A3,c3,rfl,_⟩:=zAL hown
  clear hwd hno hb hown
  by_cases hlt:i<n
  ·obtain ⟨b,hbi⟩:∃ b,l[i]? = some b:=⟨_,List.getElem?_eq_getElem (by rw [← HN.out];exact hlt)⟩
   have hk:i<s.size:=by omega
   have hat:=HAT.out i b hbi hk
   have hi0:(0:Int)≤(i:Int):=by omega
   have hi1:(i:Int)<(n:Int):=by omega
   have hf0:(0:Int)≤(f:Int):=by omega
   have hf1:(f:Int)≤(i:Int):=by omega
   have HBI:=yh hbi
   have HX:(s[i].toNat:Int)=(b.toNat:Int):=congrArg Int.ofNat hat
   by_cases hb32:b=32
   ·subst hb32
    have d32:((s[i].toNat:Int) == 32)=true:=by rw [HX];rfl
    have hsl:∀ W,(Instr.slice 9 (.string s) (some (.int .i64 (f:Int))) (some (.int .i64 (i:Int))) none).run Tryz.prog W=.ok (.string (tx ((l.drop f).take (i - f)))) W:=fun W =>by
     have h1:=run_slice_string (P:=Tryz.prog) W 9 s .i64 .i64 (f:Int) (i:Int) Tryz.underlying9 (by omega) (by omega) (by omega)
     rw [Int.toNat_natCast,Int.toNat_natCast,HEX.out,List.drop_take] at h1
     exact h1
    obtain ⟨p,hp⟩:∃ p,p=(l.drop f).take (i - f):=⟨_,rfl⟩
    rw [← hp] at hsl HNO
    have HWN:Hid (words l=(D++[p])++words (l.drop (i+1))):=by
     show _=_
     rw [HWD.out,zEk HBI.out hfi,← hp,zCF p _ HNO.out];simp
    have HO2:=yh (World.ownsRow.alloc HOWN.out (.cells #[.string (tx p)] 9))
    have HR2:=yh (zBx wr 9 (.string (tx p)))
    have HB2:=yh (HB.out.alloc HB.out.size (.cells #[.string (tx p)] 9))
    obtain ⟨nd,hnd⟩:∃ nd,nd=D.length:=⟨_,rfl⟩
    have HND:=yh hnd
    rw [← hnd] at HO2 hdl ⊢
    clear hbi hat HX hp hnd
    go_wp2_with (at_builtin;refine zBI _ rfl (.tmp 17) (.tmp 22) 51 rfl w.heap.size 9 i0 _ 1 16 Tryz.underlying51 ii0 iz0 iz1 iz2 rfl (by decide) _ nd _ rfl HO2.out (some ⟨wr.heap.size,0,none⟩) 1 1 (wr.heap.size+1) [.string (tx p)] rfl (by simp) HR2.out (fun u hu =>by obtain rfl:=List.mem_singleton.1 hu;rfl) (by unfold maxLen;omega) (by omega) HB2.out.size ?_;intro v6 w6 ho6 hg6 hv6;have HO6:=yh ho6;have HB6:=yh (HB2.out.grown hg6 HB2.out.size (zAS HO2.out));clear ho6 hg6 hv6)
    exact ⟨⟨i+1,i+1,D++[p],_,rfl,by go_num,by go_num,Nat.le_refl _,by rw [← HN.out];omega,by rw [List.length_append,List.map_append,← HND.out];exact HO6.out,HWN.out,by simp,by rw [List.length_append,← HND.out];simp;omega,HB6.out⟩,by simp [intOf];omega⟩
   ·have d32:((s[i].toNat:Int) == 32)=false:=by
     rw [HX,beq_eq_false_iff_ne]
     intro h
     apply hb32
     apply UInt8.toNat_inj.1
     show b.toNat=32
     omega
    have HN2:Hid (∀ x ∈ (l.drop f).take (i+1 - f),x≠32):=fun x hx =>by
     rw [zDI HBI.out hfi,List.mem_append] at hx
     rcases hx with hx | hx
     ·exact HNO.out x hx
     ·obtain rfl:=List.mem_singleton.1 hx
      exact hb32
    clear hbi hat HX
    go_wp2
    exact ⟨⟨i+1,f,D,_,rfl,rfl,by go_num,by omega,by rw [← HN.out];omega,HOWN.out,HWD.out,HN2.out,by omega,HB.out⟩,by simp [intOf];omega⟩
  ·obtain rfl:i=n:=by omega
   have hi0:(0:Int)≤(i:Int):=by omega
   have hf0:(0:Int)≤(f:Int):=by omega
   have hf1:(f:Int)≤(i:Int):=by omega
   have hex:s.extract f i=tx (l.drop f):=by rw [HEX.out,List.take_of_length_le (by rw [HN.out];exact Nat.le_refl _)]
   obtain ⟨p,hp⟩:∃ p,p=l.drop f:=⟨_,rfl⟩
   rw [← hp] at hex
   have HWN:Hid (words l=D++[p]):=by
    show _=_
    have h1:(l.drop f).take (i - f)=l.drop f:=List.take_of_length_le (by rw [List.length_drop,← HN.out];exact Nat.le_refl _)
    rw [HWD.out,← hp,zBo p (by have h2:=HNO.out;rw [h1,← hp] at h2;exact h2)]
   have HO2:=yh (World.ownsRow.alloc HOWN.out (.cells #[.string (tx p)] 9))
   have HR2:=yh (zBx wr 9 (.string (tx p)))
   have HB2:=yh (HB.out.alloc HB.out.size (.cells #[.string (tx p)] 9))
   obtain ⟨nd,hnd⟩:∃ nd,nd=D.length:=⟨_,rfl⟩
   have HND:=yh hnd
   rw [← hnd] at HO2 hdl ⊢
   clear hp hnd
   go_wp2_with (at_builtin;refine zBI _ rfl (.tmp 26) (.tmp 30) 51 rfl w.heap.size 9 i0 _ 1 16 Tryz.underlying51 ii0 iz0 iz1 iz2 rfl (by decide) _ nd _ rfl HO2.out (some ⟨wr.heap.size,0,none⟩) 1 1 (wr.heap.size+1) [.string (tx p)] rfl (by simp) HR2.out (fun u hu =>by obtain rfl:=List.mem_singleton.1 hu;rfl) (by unfold maxLen;omega) (by omega) HB2.out.size ?_;intro v6 w6 ho6 hg6 hv6;have HO6:=yh ho6;have HB6:=yh (HB2.out.grown hg6 HB2.out.size (zAS HO2.out));clear ho6 hg6 hv6)
   go_ret
   exact ⟨_,rfl,by rw [HWN.out,List.length_append,List.map_append,← HND.out];exact HO6.out,HB6.out⟩
theorem zGN:∀ (ws:List (List UInt8)) (x:List UInt8),x ∈ ws→x.length≤(zAU ws).length
 | [],x,h =>by cases h
 | [a],x,h =>by
  obtain rfl:=List.mem_singleton.1 h
  rw [zBL];exact Nat.le_refl _
 | a :: b :: ws,x,h =>by
  rw [zAm a (b :: ws) (by simp),List.length_append,List.length_cons]
  rcases List.mem_cons.1 h with rfl | h
  ·omega
  ·have:=zGN (b :: ws) x h
   omega
theorem zGq {l:List UInt8} {x:List UInt8} (h:x ∈ words l):x.length≤l.length:=by
 have h1:=zGN (words l) x h
 rw [zEJ l.length l (Nat.le_refl _)] at h1
 exact h1
theorem zCb (l:List UInt8):(eget l).1.length≤l.length:=by
 have h1:=zFQ l
 unfold eget
 split
 ·exact h1
 ·simp
theorem zFi:∀ (l:List UInt8) (M acc u:Nat),acc≤M→Lib.parseUintM M acc l=.ok u→u≤M
 | [],M,acc,u,h,e =>by
  rw [Lib.parseUintM] at e
  injection e with e
  omega
 | c :: r,M,acc,u,h,e =>by
  rw [Lib.parseUintM] at e
  split at e
  ·split at e
   ·cases e
   ·split at e
    ·cases e
    ·exact zFi r M _ u (by omega) e
  ·cases e
theorem zLR {w:List UInt8} {u:Nat} (h:nmO w=some u):u<18446744073709551616:=by
 unfold nmO at h
 split at h
 ·rename_i v hv
  injection h with h
  subst h
  unfold Lib.parseUintB at hv
  split at hv
  ·cases hv
  ·have:=zFi _ _ _ _ (by omega) hv
   omega
 ·cases h
theorem zDD {w:List UInt8} (h:(rans w).2=true):(rans w).1<18446744073709551616:=(zIx (s:=w) (n:=(rans w).1) (by rw [← h])).2
theorem zGC {a b:List UInt8} {d:Dp} (h:dpO a b=some d):d.name.length≤a.length∧0≤d.hash∧d.hash<18446744073709551616:=by
 unfold dpO at h
 split at h
 ·rename_i hc
  injection h with h
  subst h
  have:=zDD hc.2
  exact ⟨zCb a,by show (0:Int)≤((rans (cutO b).1).1:Int);omega,by show ((rans (cutO b).1).1:Int)<_;omega⟩
 ·cases h
def DpAt (rest tl:List (List UInt8)) (acc:List Dp):Prop:=dpsO rest=(dpsO tl).map (fun l =>acc++l)
theorem DpAt.start (rest:List (List UInt8)):DpAt rest rest []:=by unfold DpAt;cases dpsO rest <;> rfl
theorem DpAt.next {rest tl:List (List UInt8)} {acc:List Dp} {a b:List UInt8} {d:Dp} (h:DpAt rest (a :: b :: tl) acc) (hd:dpO a b=some d):DpAt rest tl (acc++[d]):=by
 unfold DpAt at h ⊢
 rw [h,dpsO,hd]
 cases dpsO tl <;> simp
theorem DpAt.none_ {rest tl:List (List UInt8)} {acc:List Dp} {a b:List UInt8} (h:DpAt rest (a :: b :: tl) acc) (hd:dpO a b=none):dpsO rest=none:=by
 unfold DpAt at h
 rw [h,dpsO,hd]
 rfl
theorem DpAt.one {rest:List (List UInt8)} {acc:List Dp} {a:List UInt8} (h:DpAt rest [a] acc):dpsO rest=none:=by
 unfold DpAt at h
 rw [h]
 rfl
theorem DpAt.done {rest:List (List UInt8)} {acc:List Dp} (h:DpAt rest [] acc):dpsO rest=some acc:=by
 unfold DpAt at h
 rw [h]
 simp [dpsO]
def zJS (line:List UInt8) (w:World) (e:Ending) (w':World):Prop :=
 ((∃ r l A n c,zAy line r l∧e=.returned (.agg #[.int .i64 r.kind,.string (tx r.target),.int .u64 r.rule,.slice A n c,.int .u64 r.out,.int .u64 r.time,.string (tx r.tag)])∧w'.ownsRow w.heap.size 73 3 (.slice A n c) n (dps l))∨((∀ r l,¬ zAy line r l)∧e=zCQ))∧Below w.heap.size w w'
theorem zGQ {ws:List (List UInt8)} {p:Rc×List Dp} (h:lnO ws=some p):5≤ws.length:=by
 match ws,h with
 | t :: u :: o :: m :: g :: r,_ =>simp
 | [],h =>simp [lnO] at h
 | [_],h =>simp [lnO] at h
 | [_,_],h =>simp [lnO] at h
 | [_,_,_],h =>simp [lnO] at h
 | [_,_,_,_],h =>simp [lnO] at h
theorem zAa {line:List UInt8} (h:lnO (words line)=none):∀ r l,¬ zAy line r l:=fun r l hl =>by rw [hl.read] at h;cases h
theorem zLG {P:Program} {c:Code} {Q:Exit→Act→World→Prop} {K:Act→World→Prop} {a:Act} {w:World} (M:Act→World→Prop) (hm:∀ a w,M a w→K a w) (h:c.wp P (Exit.then M Q) a w):c.wp P (Exit.then K Q) a w :=
 Code.wp_mono (fun e a w q =>by cases e <;> first | exact hm _ _ q | exact q) h
theorem zBf {W v:World} {b i:Nat} (hk:∀ j:Nat,j<W.heap.size→v.heap[j]? = W.heap[j]?) (hb:b<W.heap.size):v.cell? ⟨b,i,none⟩=W.cell? ⟨b,i,none⟩:=by
 unfold World.cell?
 rw [hk _ hb]
theorem zBy {o:Oper} {a:Act} {w:World} {K:Act→World→Prop} {Q:Exit→Act→World→Prop} (x y:Operand) (ho:o.op=.store 35 x y) (g:Nat) (c0 c1 c2 c3 c4 c5 c6:Value) (A:Option Addr) (n c:Nat)
  (hx:a.eval x=.pointer (some ⟨g,3,none⟩)) (hy:a.eval y=.slice A n c) (hg:w.heap[g]? = some (.cells #[c0,c1,c2,c3,c4,c5,c6] 37 (0,0)))
  (h:∀ w',w'.heap[g]? = some (.cells #[c0,c1,c2,.slice A n c,c4,c5,c6] 37 (0,0))→w.grownBy w' (some g)→K (a.put o.dst undef) w'):o.wp Tryz.prog a w K Q:=by
 have hown:w.ownsRow 0 37 7 (.slice (some ⟨g,0,none⟩) 1 1) 1 [c0,c1,c2,c3,c4,c5,c6]:=⟨rfl,.inr ⟨g,1,#[c0,c1,c2,c3,c4,c5,c6],rfl,Nat.zero_le _,hg,Nat.le_refl _,by unfold maxLen;omega,rfl,rfl⟩⟩
 have hcell:w.cell? ⟨g,3,none⟩=some c3:=zAA (i:=3) hg rfl
 have hfr:w.frozen? ⟨g,3,none⟩=false:=hown.frozenAt 3
 unfold Oper.wp execOp
 simp only [ho,hx,hy]
 go_simp
 exact h _ (zAD hg 3 _) (hown.stored 3 _).2
section
variable {P:Program} {md:Region.Mode} {ops:Array Oper} {Q:Exit→Act→World→Prop} {S:World→Prop}
theorem zBz (i j:Nat) {oi oj:Oper} {fuel:Nat} {listed:Array Bool} {a:Act} {w:World} (hi:ops[i]? = some oi) (hj:ops[j]? = some oj)
  (hr:Region.ready md ops listed=[i,j]) (hwi:Region.wanted oi (yielded ops a.tmps)=true) (hwj:Region.wanted oj (yielded ops a.tmps)=true)
  (h1:∀ K:Act→World→Prop,(∀ a' w',S w'→wpAnyH P md ops Q S fuel (listed.setIfInBounds i true) a' w'→K a' w')→oi.wp P a w K Q)
  (h2:∀ K:Act→World→Prop,(∀ a' w',S w'→wpAnyH P md ops Q S fuel (listed.setIfInBounds j true) a' w'→K a' w')→oj.wp P a w K Q):wpAnyH P md ops Q S (fuel+1) listed a w:=by
 refine wpAnyH_all hr (by simp) (fun k hk =>?_)
 rcases (by simpa using hk:k=i∨k=j) with rfl | rfl
 ·unfold wpOp
  simp only [hi,hwi,if_true]
  exact .inl (h1 _ fun _ _ h1 h2 =>⟨h1,h2⟩)
 ·unfold wpOp
  simp only [hj,hwj,if_true]
  exact .inl (h2 _ fun _ _ h1 h2 =>⟨h1,h2⟩)
end
end Go.Proofs.YtgoklhoaedceaaaGreatDoor
