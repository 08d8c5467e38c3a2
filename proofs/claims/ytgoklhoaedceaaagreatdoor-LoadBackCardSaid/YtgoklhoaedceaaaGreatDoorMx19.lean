/- Texts of one proof. -/
import Derived.Test.YtgoklhoaedceaaaGreatDoorMx18
set_option maxRecDepth 100000
set_option maxHeartbeats 8000000
namespace Go.Proofs.YtgoklhoaedceaaaGreatDoor
open Go.RowKit
theorem zDE {fn:Func} {p q:Tmp} {tp tq:TypeId} (h:fn.results=#[.cell p tp,.cell q tq]) (tmps:Array Value) (P:Program) (w:World) (a b:Addr) (v u:Value)
  (hp:tmps.getD p undef=.pointer (some a)) (hq:tmps.getD q undef=.pointer (some b)) (hv:(loadVar tp a).run P w=.ok v w) (hu:(loadVar tq b).run P w=.ok u w) :
  (results fn tmps).run P w=.ok (.tuple #[v,u]) w:=by
 have hp':tmps[p]?.getD undef=.pointer (some a):=by simpa using hp
 have hq':tmps[q]?.getD undef=.pointer (some b):=by simpa using hq
 simp [results,h,hp',hq',asAddr,hv,hu,Sem.run_bind,Result.andThen]
def zDL (line:List UInt8) (w:World) (e:Ending) (w':World):Prop :=
 ((∃ r l A n c,zAy line r l∧e=.returned (.tuple #[.agg #[.int .i64 r.kind,.string (tx r.target),.int .u64 r.rule,.slice A n c,.int .u64 r.out,.int .u64 r.time,.string (tx r.tag)],.int .i64 0])∧w'.ownsRow w.heap.size 73 3 (.slice A n c) n (dps l))∨((∀ r l,¬ zAy line r l)∧e=.returned (.tuple #[.agg #[.int .i64 0,.string ⟨#[]⟩,.int .u64 0,.slice none 0 0,.int .u64 0,.int .u64 0,.string ⟨#[]⟩],.int .i64 3])))∧Below w.heap.size w w'
theorem zGy (p q:Addr) (w:World) :
  CallsD Tryz.prog 33 #[.pointer (some p),.pointer (some q)] .returning w fun e u' w' =>e=.returned (.tuple #[])∧u'=.returning∧w'=w:=by
 refine callsD_of_wpS Tryz.func33 rfl fun c₀ cs hu =>?_
 apply wpS_seq
 apply wpS_region
 simp [wpOpsS,go_sem,recoverD,hu,Tryz.ntmps33,Exit.thenS]
 refine wpS_of_wp ?_
 go_wp2
 cases c₀
 simp_all [bodyPostS,results,Tryz.results33]
theorem zFv (gp gq:Nat) (older:List PanicEntry) (B:Nat) (hB:B≤gp∧B≤gq) (hne:gp≠gq) (w:World) (hp:w.heap[gp]? = some (.cells #[.int .i64 0,.string ⟨#[]⟩,.int .u64 0,.slice none 0 0,.int .u64 0,.int .u64 0,.string ⟨#[]⟩] 37 (0,0))) (hq:w.heap[gq]? = some (.cells #[.int .i64 0] 24 (0,0))) :
  CallsD Tryz.prog 33 #[.pointer (some ⟨gp,0,none⟩),.pointer (some ⟨gq,0,none⟩)] (.panicking ({ v:=.iface 75 (.agg #[.int .i64 3]),recovered:=false } :: older)) w fun e u' w' =>e=.returned (.tuple #[])∧u'=.panicking ({ v:=.iface 75 (.agg #[.int .i64 3]),recovered:=true } :: older) ∧
   w'.heap[gp]? = some (.cells #[.int .i64 0,.string ⟨#[]⟩,.int .u64 0,.slice none 0 0,.int .u64 0,.int .u64 0,.string ⟨#[]⟩] 37 (0,0))∧w'.heap[gq]? = some (.cells #[.int .i64 3] 24 (0,0))∧Below B w w':=by
 have r0:=zAA (i:=0) hp rfl;have r1:=zAA (i:=1) hp rfl;have r2:=zAA (i:=2) hp rfl;have r3:=zAA (i:=3) hp rfl;have r4:=zAA (i:=4) hp rfl;have r5:=zAA (i:=5) hp rfl;have r6:=zAA (i:=6) hp rfl
 have y0:=zAC (i:=0) hp;have y1:=zAC (i:=1) hp;have y2:=zAC (i:=2) hp;have y3:=zAC (i:=3) hp;have y4:=zAC (i:=4) hp;have y5:=zAC (i:=5) hp;have y6:=zAC (i:=6) hp
 have s0:=zAA (i:=0) hq rfl
 have z0:=zAC (i:=0) hq
 have HP:=yh hp
 have HQ:=yh hq
 have HBB:=yh hB
 have HNE:Hid (gp≠gq):=hne
 have HNE2:Hid (gq≠gp):=Ne.symm hne
 clear hp hq hB
 refine callsD_of_wpS Tryz.func33 rfl fun c₀ cs hu =>?_
 apply wpS_seq
 apply wpS_region
 simp [wpOpsS,go_sem,recoverD,hu,Tryz.ntmps33,Exit.thenS]
 refine wpS_of_wp ?_
 go_wp2
 change Code.wp _ _ _ ({ tmps:=#[.pointer (some ⟨gp,0,none⟩),.pointer (some ⟨gq,0,none⟩),.iface 75 (.agg #[.int .i64 3]),.iface 75 (.agg #[.int .i64 3]),.iface 75 (.agg #[.int .i64 3]),.bool true,undef,undef,undef,undef],defers:=[] }:Act) w
 refine wp_region_held (S:=fun _ =>True) (by kernel_rfl) (show wpAnyH _ _ _ _ _ _ _ _ (w.drew) from ?_)
 have HPd:Hid (w.drew.heap[gp]? = some (.cells #[.int .i64 0,.string ⟨#[]⟩,.int .u64 0,.slice none 0 0,.int .u64 0,.int .u64 0,.string ⟨#[]⟩] 37 (0,0))):=HP.out
 have HQd:Hid (w.drew.heap[gq]? = some (.cells #[.int .i64 0] 24 (0,0))):=HQ.out
 have HBd:Hid (Below B w w.drew):=(Below.refl _ _).drew
 obtain ⟨wd,hwd⟩:∃ x,x=w.drew:=⟨_,rfl⟩
 rw [← hwd] at HPd HQd HBd ⊢
 clear hwd
 refine zAB 0 (.agg #[.int .i64 0,.string ⟨#[]⟩,.int .u64 0,.slice none 0 0,.int .u64 0,.int .u64 0,.string ⟨#[]⟩]) rfl (by kernel_rfl) (by kernel_rfl) (by kernel_rfl) (fun _ _ _ h =>h) (by kernel_rfl) trivial (fun _ _ =>by kernel_rfl) ?_
 refine zAB 1 (.iface 75 (.agg #[.int .i64 3])) rfl (by kernel_rfl) (by kernel_rfl) (by kernel_rfl) (fun _ _ _ h =>h) (by kernel_rfl) trivial (fun _ _ =>by kernel_rfl) ?_
 refine zAB 2 (.agg #[.int .i64 3]) rfl (by kernel_rfl) (by kernel_rfl) (by kernel_rfl) (fun _ _ _ h =>h) (by kernel_rfl) trivial (fun _ _ =>by kernel_rfl) ?_
 refine zAB 3 (.int .i64 3) rfl (by kernel_rfl) (by kernel_rfl) (by kernel_rfl) (fun _ _ _ h =>h) (by kernel_rfl) trivial (fun _ _ =>by kernel_rfl) ?_
 refine zAJ 4 rfl (by kernel_rfl) (by kernel_rfl) (fun K hK =>?_)
 refine wp_store_row 37 (.tmp 0) (.tmp 6) rfl gp #[.int .i64 0,.string ⟨#[]⟩,.int .u64 0,.slice none 0 0,.int .u64 0,.int .u64 0,.string ⟨#[]⟩] rfl rfl 37 _ HPd.out (by kernel_rfl) rfl (by simp [Value.oneCell']) ?_
 have h1:=setRow_heap wd gp _ #[.int .i64 0,.string ⟨#[]⟩,.int .u64 0,.slice none 0 0,.int .u64 0,.int .u64 0,.string ⟨#[]⟩] _ _ HPd.out
 have h2:=(setRow_other wd gp gq #[.int .i64 0,.string ⟨#[]⟩,.int .u64 0,.slice none 0 0,.int .u64 0,.int .u64 0,.string ⟨#[]⟩] HNE2.out).trans HQd.out
 have h3:=HBd.out.grown (zBG wd gp #[.int .i64 0,.string ⟨#[]⟩,.int .u64 0,.slice none 0 0,.int .u64 0,.int .u64 0,.string ⟨#[]⟩]) (Nat.le_trans HBB.out.1 (Nat.le_of_lt (zAG HPd.out))) (fun k hk =>by injection hk with hk;subst hk;exact HBB.out.1)
 generalize wd.setRow gp #[.int .i64 0,.string ⟨#[]⟩,.int .u64 0,.slice none 0 0,.int .u64 0,.int .u64 0,.string ⟨#[]⟩]=we at *
 refine hK _ _ trivial ?_
 clear hK K
 have s1:=zAA (i:=0) h2 rfl
 have z1:=zAC (i:=0) h2
 refine zAJ 5 rfl (by kernel_rfl) (by kernel_rfl) (fun K hK =>?_)
 go_simp
 refine hK _ _ trivial ?_
 clear hK K
 refine wpAnyH_done (by kernel_rfl) ?_ _
 have h4:=zAD h2 0 (.int .i64 3)
 have h5:(we.setCell ⟨gq,0,none⟩ (.int .i64 3)).heap[gp]? = some (.cells #[.int .i64 0,.string ⟨#[]⟩,.int .u64 0,.slice none 0 0,.int .u64 0,.int .u64 0,.string ⟨#[]⟩] 37 (0,0)):=(Below.heap_setCell _ _ _ gp (fun e =>HNE.out e)).trans h1
 have h6:=h3.setCell (p:=⟨gq,0,none⟩) HBB.out.2 (.int .i64 3)
 go_simp
 obtain ⟨wf,hwf⟩:∃ x,x=we.setCell ⟨gq,0,none⟩ (.int .i64 3):=⟨_,rfl⟩
 rw [← hwf] at h4 h5 h6 ⊢
 clear hwf h1 h2 h3 s1 z1 r0 r1 r2 r3 r4 r5 r6 y0 y1 y2 y3 y4 y5 y6 s0 z0 HP HQ HBB HNE HNE2 HPd HQd HBd
 have h4':wf.heap[gq]? = some (.cells #[.int .i64 3] 24 (0,0)):=h4
 clear h4
 change bodyPostS Tryz.prog _ c₀ cs _ Exit.normal _ _ wf
 exact ⟨rfl,_,rfl,.tuple #[],by simp [results,Tryz.results33],rfl,rfl,h5,h4',h6⟩
theorem zFe (line:List UInt8) (hl:line.length≤5000) (w:World) (hp:zAl w) (he:zAx w) (hsh:w.ShapedOpen Tryz.prog) :
  Calls Tryz.prog 14 #[.string (tx line)] w (zDL line w):=by
 have hmf:∀ (fn:Fn) (first cap:Array Value) (w:World),(Instr.makeFunc fn first cap).run Tryz.prog w=.ok (.func fn first cap) w:=fun _ _ _ _ =>rfl
 have z1:(w.alloc (.cells #[.int .i64 0,.string ⟨#[]⟩,.int .u64 0,.slice none 0 0,.int .u64 0,.int .u64 0,.string ⟨#[]⟩] 37)).heap.size=w.heap.size+1:=by simp
 have b1:Below w.heap.size w (w.alloc (.cells #[.int .i64 0,.string ⟨#[]⟩,.int .u64 0,.slice none 0 0,.int .u64 0,.int .u64 0,.string ⟨#[]⟩] 37)):=(Below.refl _ _).alloc (Nat.le_refl _) _
 have b2:Below w.heap.size w ((w.alloc (.cells #[.int .i64 0,.string ⟨#[]⟩,.int .u64 0,.slice none 0 0,.int .u64 0,.int .u64 0,.string ⟨#[]⟩] 37)).alloc (.cells #[.int .i64 0] 24)):=b1.alloc b1.size _
 have e2:=zAI (w.alloc (.cells #[.int .i64 0,.string ⟨#[]⟩,.int .u64 0,.slice none 0 0,.int .u64 0,.int .u64 0,.string ⟨#[]⟩] 37)) (.cells #[.int .i64 0] 24)
 rw [z1] at e2
 have e1:=(Below.heap_alloc (w.alloc (.cells #[.int .i64 0,.string ⟨#[]⟩,.int .u64 0,.slice none 0 0,.int .u64 0,.int .u64 0,.string ⟨#[]⟩] 37)) (.cells #[.int .i64 0] 24) w.heap.size (by rw [z1];omega)).trans (zAI w (.cells #[.int .i64 0,.string ⟨#[]⟩,.int .u64 0,.slice none 0 0,.int .u64 0,.int .u64 0,.string ⟨#[]⟩] 37))
 obtain ⟨w2,hw2⟩:∃ x,x=(w.alloc (.cells #[.int .i64 0,.string ⟨#[]⟩,.int .u64 0,.slice none 0 0,.int .u64 0,.int .u64 0,.string ⟨#[]⟩] 37)).alloc (.cells #[.int .i64 0] 24):=⟨_,rfl⟩
 rw [← hw2] at b2 e1 e2
 have HTR:=yh (zHu line hl w2 (hp.below b2) (he.below b2) (zAW hsh b2))
 have HB2:=yh b2
 have HE1:=yh e1
 have HE2:=yh e2
 have HW2:=yh hw2
 have HS2:Hid (w.heap.size+1<w2.heap.size):=zAG e2
 clear z1 b1 b2 e1 e2 hw2 hp he hsh
 go_enter_defers Tryz.func14,Tryz.ntmps14
 go_wp2_with fail
 rw [← HW2.out]
 refine HTR.out.mono ?_
 rintro e w3 ⟨⟨r,l,A,n,c,hlo,rfl,ho⟩ | ⟨hno,rfl⟩,hb3⟩
 ·have HLO:=yh hlo
  have HO:=yh ho
  have HB3:=yh (HB2.out.trans (hb3.mono HB2.out.size))
  have hx1:=(hb3.block w.heap.size (zAG HE1.out)).trans HE1.out
  have hx2:=(hb3.block (w.heap.size+1) (zAG HE2.out)).trans HE2.out
  have r0:=zAA (i:=0) hx1 rfl;have r1:=zAA (i:=1) hx1 rfl;have r2:=zAA (i:=2) hx1 rfl;have r3:=zAA (i:=3) hx1 rfl;have r4:=zAA (i:=4) hx1 rfl;have r5:=zAA (i:=5) hx1 rfl;have r6:=zAA (i:=6) hx1 rfl
  have y0:=zAC (i:=0) hx1;have y1:=zAC (i:=1) hx1;have y2:=zAC (i:=2) hx1;have y3:=zAC (i:=3) hx1;have y4:=zAC (i:=4) hx1;have y5:=zAC (i:=5) hx1;have y6:=zAC (i:=6) hx1
  have s0:=zAA (i:=0) hx2 rfl
  have s1:=zAC (i:=0) hx2
  have HX1:=yh hx1
  have HX2:=yh hx2
  clear hlo ho hb3 hx1 hx2 HTR
  go_wp2
  have hx5:=(zAD (zAD (zAD (zAD (zAD (zAD (zAD HX1.out 0 (.int .i64 r.kind)) 1 (.string (tx r.target))) 2 (.int .u64 r.rule)) 3 (.slice A n c)) 4 (.int .u64 r.out)) 5 (.int .u64 r.time)) 6 (.string (tx r.tag)))
  have hx6:=(Below.heap_setCell _ ⟨w.heap.size+1,0,none⟩ (.int .i64 0) w.heap.size (by simp)).trans hx5
  have hz5:∀ (W:World) (j:Nat) (u:Value),(W.setCell ⟨w.heap.size,j,none⟩ u).heap[w.heap.size+1]? = W.heap[w.heap.size+1]?:=fun W j u =>Below.heap_setCell _ _ _ _ (by simp)
  have hz6:(((((((w3.setCell ⟨w.heap.size,0,none⟩ (.int .i64 r.kind)).setCell ⟨w.heap.size,1,none⟩ (.string (tx r.target))).setCell ⟨w.heap.size,2,none⟩ (.int .u64 r.rule)).setCell ⟨w.heap.size,3,none⟩ (.slice A n c)).setCell ⟨w.heap.size,4,none⟩ (.int .u64 r.out)).setCell ⟨w.heap.size,5,none⟩ (.int .u64 r.time)).setCell ⟨w.heap.size,6,none⟩ (.string (tx r.tag))).heap[w.heap.size+1]? = some (.cells #[.int .i64 0] 24 (0,0)):=by
   rw [hz5,hz5,hz5,hz5,hz5,hz5,hz5];exact HX2.out
  have hz7:=zAD hz6 0 (.int .i64 0)
  have HX6:=yh hx6
  have HX7:=yh hz7
  clear hx5 hx6 hz5 hz6 hz7
  refine leaves_cons (f:=33) (args:=#[.pointer (some ⟨w.heap.size,0,none⟩),.pointer (some ⟨w.heap.size+1,0,none⟩)]) (by simp) (by simp [go_sem]) ?_
  refine (zGy _ _ _).mono ?_
  rintro e u' w4 ⟨rfl,rfl,rfl⟩
  change Leaves _ _ _ _ [] .returning _
  have q0:=zAA (i:=0) HX7.out rfl
  refine ⟨_,zDE rfl _ _ _ ⟨w.heap.size,0,none⟩ ⟨w.heap.size+1,0,none⟩ _ (.int .i64 0) rfl rfl (run_loadVar_row _ w.heap.size 37 _ _ (0,0) _ HX6.out Tryz.underlying37 rfl (by kernel_rfl)) (by simp [loadVar,go_sem,q0]),.inl ⟨r,l,A,n,c,HLO.out,rfl,?_⟩,?_⟩
  ·refine zCA (zAs HO.out (fun k hk =>?_)) (Nat.le_of_lt (Nat.lt_of_succ_lt HS2.out))
   have h1:=zAS HO.out k hk
   have h2:=HS2.out
   have hn1:w.heap.size≠k:=by omega
   have hn2:w.heap.size+1≠k:=by omega
   simp [World.setCell,Array.getElem?_modify,hn1,hn2]
  ·exact (((((((HB3.out.setCell (Nat.le_refl _) _).setCell (Nat.le_refl _) _).setCell (Nat.le_refl _) _).setCell (Nat.le_refl _) _).setCell (Nat.le_refl _) _).setCell (Nat.le_refl _) _).setCell (Nat.le_refl _) _).setCell (by simp) _
 ·have HNO:Hid (∀ r l,¬ zAy line r l):=hno
  have HB3:=yh (HB2.out.trans (hb3.mono HB2.out.size))
  have hx1:=(hb3.block w.heap.size (zAG HE1.out)).trans HE1.out
  have hx2:=(hb3.block (w.heap.size+1) (zAG HE2.out)).trans HE2.out
  have HX1:=yh hx1
  have HX2:=yh hx2
  clear hno hb3 hx1 hx2 HTR
  unfold zCQ
  refine leaves_cons (f:=33) (args:=#[.pointer (some ⟨w.heap.size,0,none⟩),.pointer (some ⟨w.heap.size+1,0,none⟩)]) (by simp) (by simp [go_sem]) ?_
  refine (zFv w.heap.size (w.heap.size+1) [] w.heap.size ⟨Nat.le_refl _,by omega⟩ (by omega) w3 HX1.out HX2.out).mono ?_
  rintro e u' w4 ⟨rfl,rfl,h1,h2,h3⟩
  have s0:=zAA (i:=0) h2 rfl
  change Leaves _ _ _ _ [] .returning w4
  exact ⟨_,zDE rfl _ _ _ ⟨w.heap.size,0,none⟩ ⟨w.heap.size+1,0,none⟩ (.agg #[.int .i64 0,.string ⟨#[]⟩,.int .u64 0,.slice none 0 0,.int .u64 0,.int .u64 0,.string ⟨#[]⟩]) (.int .i64 3) rfl rfl (run_loadVar_row w4 w.heap.size 37 _ _ (0,0) _ h1 Tryz.underlying37 rfl (by kernel_rfl)) (by simp [loadVar,go_sem,s0]),.inr ⟨HNO.out,rfl⟩,HB3.out.trans h3⟩
theorem zHi (b:Nat) (w:World) (h0:w.cell? ⟨b,0,none⟩=some (.pointer (some ⟨b,0,none⟩))) :
  Calls Tryz.prog 53 #[.pointer (some ⟨b,0,none⟩)] w fun e w' =>e=.returned (.tuple #[])∧w'=w:=by
 obtain ⟨j,hj,_⟩:=Option.map_eq_some_iff.1 zDm
 go_enter Tryz.func53,Tryz.ntmps53
 go_wp2
 rw [Lib.run_neq_ptr_same w _ Tryz.underlying58 hj]
 go_wp2
 go_end0
 exact ⟨rfl,rfl⟩
theorem zIG (B b:Nat) (s:ByteArray) (bs:List Value) (w:World) (h:Lib.BuilderAt 61 5 B b (.pointer (some ⟨b,0,none⟩)) bs w) (hlen:s.size≤1000000) (hbs:bs.length≤100000000) (hBw:B≤w.heap.size) :
  Calls Tryz.prog 27 #[.pointer (some ⟨b,0,none⟩),.string s] w fun e w' =>e=.returned (.tuple #[.int .i64 s.size,.nilIface])∧(Lib.BuilderAt 61 5 B b (.pointer (some ⟨b,0,none⟩)) (bs++Lib.strCells s) w'∧Below B w w'):=by
 obtain ⟨i0,hi,hz0,hz1,hz2⟩:=info_parts zFJ
 have HC:=yh (zHi b w h.cell0)
 have HU:=yh h
 clear h
 go_enter Tryz.func27,Tryz.ntmps27
 go_wp2_with fail
 refine HC.out.mono ?_
 rintro e w1 ⟨rfl,hw1⟩
 subst hw1
 clear HC
 obtain ⟨hB,v,hbk,hown,hne⟩:=HU.out
 have hb1:Below B w1 w1:=Below.refl _ _
 have c0:w1.cell? ⟨b,0,none⟩=some (.pointer (some ⟨b,0,none⟩)):=by rw [Lib.cell_of_heap hbk];rfl
 have c1:w1.cell? ⟨b,1,none⟩=some v:=by rw [Lib.cell_of_heap hbk];rfl
 go_wp2_with (at_builtin;refine Lib.wpList_append_own_string _ rfl _ _ 59 9 rfl B 5 i0 Tryz.underlying59 Tryz.underlying9 hi hz0 hz1 hz2 _ _ _ rfl hown s rfl ?c3 ?c4 ?c5 ?_)
 case c3 =>unfold maxLen;omega
 case c4 =>omega
 case c5 =>exact hBw
 intro v' w2 hown' hgrow _
 have hlt:b<w1.heap.size:=by
  rcases Nat.lt_or_ge b w1.heap.size with h' | h'
  ·exact h'
  ·simp [Array.getElem?_eq_none h'] at hbk
 have hb2:w2.heap[b]? = some (.cells #[.pointer (some ⟨b,0,none⟩),v] 61 (0,0)):=by
  rw [hgrow.block b hlt (fun e =>hne e.symm)]
  exact hbk
 have d0:w2.cell? ⟨b,0,none⟩=some (.pointer (some ⟨b,0,none⟩)):=by rw [Lib.cell_of_heap hb2];rfl
 have d1:w2.cell? ⟨b,1,none⟩=some v:=by rw [Lib.cell_of_heap hb2];rfl
 have f1:w2.frozen? ⟨b,1,none⟩=false:=Lib.frozen_of_heap hb2 1
 obtain ⟨ao,n',cap,rfl⟩:∃ ao n' cap,v'=.slice ao n' cap:=by
  rcases hown'.2 with ⟨hv,_⟩ | ⟨g,cap,cur,hv,_⟩
  ·exact ⟨_,_,_,hv⟩
  ·exact ⟨_,_,_,hv⟩
 go_wp2
 go_ret2
 refine ⟨rfl,?_,?_⟩
 ·exact Lib.BuilderAt.put (T:=61) (e:=5) hB hb2 (bs':=bs++Lib.strCells s) (by simpa [Lib.strCells_length] using hown') (by decide)
 ·exact (hb1.grown hgrow (by have:=hb1.size;omega) (fun k hk =>(hown.lt k hk).1)).setCell (p:=⟨b,1,none⟩) hB _
theorem zIA (A:Option Addr) (n c:Nat) (xs:List Rw) (hn:n≤1000000) (hf:∀ x ∈ xs,x.t.length≤maxLen) (w:World) (h:Recs w w.heap.size A n xs) :
  Calls Tryz.prog 51 #[.slice A n c] w fun e w' =>zAX (zAz xs) e∧Below w.heap.size w w':=by
 have HL:Hid (xs.length=n):=h.len
 have H1:=yh h
 have HF:=yh hf
 clear h hf
 go_enter Tryz.func51,Tryz.ntmps51
 go_wp2
 go_loopw [3] (fun idx wr =>zKP n xs w idx wr) (fun idx _ =>n - (intOf idx).toNat)
 case atStart =>exact ⟨0,by omega,rfl,⟨by simp [Up],by simp⟩,Below.refl _ _⟩
 case round =>
  obtain ⟨i,hi,rfl,hrt,hb⟩:=hrel
  have HRT:=yh hrt
  have HBR:=yh hb
  clear hrt
  by_cases hlt:i<n
  ·obtain ⟨x,hx⟩:∃ x,xs[i]? = some x:=⟨_,List.getElem?_eq_getElem (by rw [HL.out];exact hlt)⟩
   have hm:=List.mem_of_getElem? hx
   have hrec:=(H1.out.below hb).1
   obtain ⟨ad,rfl,_,k0,k1,k2,k3,k4,k5,k6⟩:=zAn hrec i x hx
   have hi0:(0:Int)≤(i:Int):=by omega
   have hi1:(i:Int)<(n:Int):=by omega
   have hfx:=HF.out x hm
   by_cases hk:x.r.kind=1
   ·by_cases h0:i=0
    ·have HOK:Hid (zAz (xs.take (i+1))):=zCx hx HRT.out hk ((zEH hx).2 ⟨by subst h0;simp [Up],by subst h0;simp⟩)
     have d1:decide ((i:Int) > 0)=false:=decide_eq_false (by omega)
     have d2:decide (0<i)=false:=decide_eq_false (by omega)
     obtain ⟨⟨k,t,u,o,m,g⟩,A4,n4,c4,l4⟩:=x
     simp only at hk
     subst hk
     simp only at k0 k1 k2 k3 k4 k5 k6
     clear hx hm hb hrec h0 hfx
     go_wp2
     go_quiet (fail)
     go_wp2
     exact ⟨⟨i+1,by omega,by go_num,HOK.out,zBB HBR.out _⟩,by simp [intOf];omega⟩
    ·obtain ⟨j,rfl⟩:∃ j,i=j+1:=⟨i - 1,by omega⟩
     obtain ⟨y,hy⟩:∃ y,xs[j]? = some y:=⟨_,List.getElem?_eq_getElem (by rw [HL.out];omega)⟩
     obtain ⟨ad2,e2,hadb,_,j1,_⟩:=zAn hrec j y hy
     obtain rfl:ad=ad2:=by injection e2
     have hw:IntKind.i64.wrap (((j+1:Nat):Int) - 1)=(j:Int):=by rw [zBq (by omega) (by omega)];omega
     have hw2:IntKind.i64.wrap ((j:Int)+1 - 1)=(j:Int):=by rw [zBq (by omega) (by omega)];omega
     have hj1:(j:Int)<(n:Int):=by omega
     have HLS:=yh (fun W =>zET y.t x.t (HF.out y (List.mem_of_getElem? hy)) hfx W)
     have HUL:=yh (zHf hx hy HRT.out.1)
     unfold rsv at HLS
     by_cases hlt2:y.t<x.t
     ·have HOK:Hid (zAz (xs.take (j+1+1))):=zCx hx HRT.out hk (HUL.out.2 hlt2)
      rw [decide_eq_true hlt2] at HLS
      obtain ⟨⟨k,t,u,o,m,g⟩,A4,n4,c4,l4⟩:=x
      unfold Rw.t at HLS
      simp only at hk
      subst hk
      simp only at k0 k1 k2 k3 k4 k5 k6 HLS
      generalize y.r.target=v at *
      clear hx hm hb hrec hy hlt2 HUL hfx
      go_wp2
      go_quiet ((go_at_call 74;exact Calls.quiet_of (HLS.out _)))
      go_wp2
      exact ⟨⟨j+1+1,by omega,by go_num,HOK.out,zBB HBR.out _⟩,by simp [intOf];omega⟩
     ·have HNO:Hid (¬ zAz xs):=fun h =>hlt2 (HUL.out.1 (zHg h.1 _))
      rw [decide_eq_false hlt2] at HLS
      obtain ⟨⟨k,t,u,o,m,g⟩,A4,n4,c4,l4⟩:=x
      unfold Rw.t at HLS
      simp only at hk
      subst hk
      simp only at k0 k1 k2 k3 k4 k5 k6 HLS
      generalize y.r.target=v at *
      clear hx hm hb hrec hy hlt2 HUL hfx
      go_wp2
      go_quiet ((go_at_call 74;exact Calls.quiet_of (HLS.out _)))
      go_wp2
      go_ret
      exact ⟨zAF HNO.out,zBB HBR.out _⟩
   ·have HNO:Hid (¬ zAz xs):=fun h =>hk (h.2 x hm)
    have d0:(x.r.kind != 1)=true:=by rw [bne_iff_ne];exact hk
    obtain ⟨⟨k,t,u,o,m,g⟩,A4,n4,c4,l4⟩:=x
    simp only at k0 k1 k2 k3 k4 k5 k6 d0
    clear hx hm hb hrec hk hfx
    go_wp2
    go_quiet (fail)
    go_wp2
    go_ret
    exact ⟨zAF HNO.out,zBB HBR.out _⟩
  ·obtain rfl:i=n:=by omega
   rw [List.take_of_length_le (by rw [HL.out];omega)] at HRT
   clear hb
   go_wp2
   go_ret
   exact ⟨zAq HRT.out,HBR.out⟩
theorem zCN (A:Option Addr) (n c:Nat) (xs:List Rw) (hn:n≤130) (hg:∀ x ∈ xs,zBA x) (w:World) (hl:Laid w) (hp:zAl w) (h:Recs w w.heap.size A n xs) :
  Calls Tryz.prog 11 #[.slice A n c] w fun e w' =>AnsT xs e∧Below w.heap.size w w':=by
 have HL:Hid (xs.length=n):=h.len
 have HRC:=yh h
 have HG:=yh hg
 have HLAID:=yh hl
 have HPOW:=yh hp
 have HR:=yh (zIz A n c xs (by omega) w h)
 by_cases hr:zAz xs
 ·have HRP:=yh hr
  have HIT:Hid (∀ W,Below w.heap.size w W→Calls Tryz.prog 29 #[.int .i64 (n:Int)] W fun e w' =>e=.returned (.string ⟨(Lib.decDigits n).toArray⟩)∧Below W.heap.size W w'):=fun W hb =>by
   refine (Tryz.strconv_Itoa (n:Int) (by omega) (by omega) W (HPOW.out.below hb)).mono ?_
   rintro e w' ⟨rfl,k,os,rfl⟩
   refine ⟨?_,zEg W k os⟩
   unfold Lib.itoa
   rw [if_neg (by omega),Int.toNat_natCast]
  have HJN:=yh (fun (W:World) =>zFP [116,101,112,104,114,97] (Lib.decDigits n) (by simp) (by have:=zCU (show n<1000 by omega);omega) W)
  have hadd:=yh (fun W =>zAc (P:=Tryz.prog) W ([116,101,112,104,114,97]++32 :: Lib.decDigits n) [10] (by have:=zCU (show n<1000 by omega);simp;omega))
  have HHD:Hid (([116,101,112,104,114,97]++32 :: Lib.decDigits n)++[10]=hdT n):=rfl
  rw [HHD.out] at hadd
  have HHL:Hid ((hdT n).length≤11):=zGI (by omega)
  have HLN:Hid (∀ i,i≤n→(lnsT (xs.take i)).length≤130 * 260001):=fun i hi =>Nat.le_trans (zFE (fun x hx =>Nat.succ_le_succ (zEp (hg x hx))) i) (Nat.mul_le_mul_right _ (by omega))
  have HCM:=yh zHh
  have HC0:Hid (Lib.strCells (tx (hdT n))=Lib.byteCells (hdT n)):=rfl
  have hc0:(⟨(Lib.decDigits n).toArray⟩:ByteArray)=tx (Lib.decDigits n):=rfl
  rw [hc0] at HIT
  obtain ⟨q1,hq1⟩:∃ q,q=tx ([116,101,112,104,114,97]++32 :: Lib.decDigits n):=⟨_,rfl⟩
  obtain ⟨q0,hq0⟩:∃ q,q=tx (Lib.decDigits n):=⟨_,rfl⟩
  obtain ⟨q2,hq2⟩:∃ q,q=tx (hdT n):=⟨_,rfl⟩
  have ht6:tx [116,101,112,104,114,97]={ data:=#[116,101,112,104,114,97] }:=rfl
  have ht10:tx [10]={ data:=#[10] }:=rfl
  rw [← hq1,← hq2,ht10] at hadd
  rw [← hq0] at HIT
  rw [← hq1,← hq0,ht6] at HJN
  have HQ2:Hid (q2.size≤1000000):=by show _≤_;rw [hq2,zAK];have:=HHL.out;omega
  rw [← hq2] at HC0
  have hadd2:=hadd.out
  clear h hg hl hp hr hq1 hq0 hq2 ht6 ht10 hc0 hadd
  go_enter Tryz.func11,Tryz.ntmps11
  go_wp2_with fail
  refine HR.out.mono ?_
  rintro e w1 ⟨he,hb1⟩
  obtain rfl:=he.yes HRP.out
  have HB1:=yh hb1
  clear hb1 he
  go_wp2_with fail
  have hb0:=HB1.out.alloc HB1.out.size (.cells #[.pointer none,.slice none 0 0] 61)
  refine (HIT.out _ hb0).mono ?_
  rintro e w2 ⟨rfl,hw2⟩
  have HB2:=yh (hb0.trans (hw2.mono hb0.size))
  have HF:=yh (zBw (zFu w1) hw2)
  have HSB:Hid (w.heap.size≤w1.heap.size):=HB1.out.size
  obtain ⟨b,hb⟩:∃ b,b=w1.heap.size:=⟨_,rfl⟩
  rw [← hb] at HF HSB ⊢
  clear hb hb0 hw2
  go_wp2_with fail
  refine (HJN.out w2).mono ?_
  rintro e w3 ⟨rfl,hb3⟩
  have HF3:=yh (zBw HF.out hb3)
  have HB3:=yh (HB2.out.trans (hb3.mono HB2.out.size))
  have HSB3:Hid (b≤w3.heap.size):=Nat.le_of_lt (HF3.out.lt)
  clear hb3
  go_wp2_with fail
  refine (zHH b b q2 w3 HF3.out HQ2.out HSB3.out).mono ?_
  rintro e w4 ⟨rfl,hb4,hw4⟩
  rw [HC0.out] at hb4
  have HF4:=yh hb4
  have HB4:=yh (HB3.out.trans (hw4.mono HSB.out))
  clear hb4 hw4
  go_wp2
  go_loopw [21] (fun v wr =>∃ i:Nat,i≤n∧v=.int .i64 (i:Int)∧Lib.BuilderAt 61 5 b b (.pointer (some ⟨b,0,none⟩)) (Lib.byteCells (hdT n++lnsT (xs.take i))) wr∧(∀ y ∈ xs.take i,lnOk y)∧Below w.heap.size w wr) (fun v _ =>n - (intOf v).toNat)
  case atStart =>exact ⟨0,by omega,rfl,by simpa [lnsT] using HF4.out,by simp,HB4.out⟩
  case round =>
   obtain ⟨i,hi,rfl,hbu,hok,hb⟩:=hrel
   have HBU:=yh hbu
   have HOK:=yh hok
   have HB:=yh hb
   by_cases hlt:i<n
   ·obtain ⟨x,hx⟩:∃ x,xs[i]? = some x:=⟨_,List.getElem?_eq_getElem (by rw [HL.out];exact hlt)⟩
    have hmx:=List.mem_of_getElem? hx
    obtain ⟨ad,rfl,hab,k0,k1,k2,k3,k4,k5,k6⟩:=zAn (HRC.out.below hb).1 i x hx
    have HRX:=yh (show zAE w w.heap.size 3 x.A x.n (dps x.l) from (HRC.out.2 x hmx).1)
    have HLX:=yh (fun (W:World) (hb:Below w.heap.size w W) =>zGR x (HG.out x hmx) W (HPOW.out.below hb) ((HRX.out.below hb).more hb.size))
    have HTL:Hid ((lnT x).length≤260000):=zEp (HG.out x hmx)
    have HST:=yh (zHX hx hok)
    have HNO:Hid (¬ lnOk x→¬ OkT xs):=fun h h2 =>h (h2.2 x hmx)
    have HSN:=yh (zEW hx)
    have hadd:=fun W =>zAc (P:=Tryz.prog) W (lnT x) [10] (by have:=HTL.out;simp;omega)
    obtain ⟨⟨k,t,u,o,m,g⟩,xA,xn,xc,xl⟩:=x
    simp only at k0 k1 k2 k3 k4 k5 k6 HLX
    obtain ⟨T,hT⟩:∃ T,T=lnT (⟨⟨k,t,u,o,m,g⟩,xA,xn,xc,xl⟩:Rw):=⟨_,rfl⟩
    rw [← hT] at HLX HTL HSN hadd
    have ht10:tx [10]={ data:=#[10] }:=rfl
    rw [ht10] at hadd
    have HNEW:=yh (zAI wr (.cells #[.int .i64 k,.string (tx t),.int .u64 u,.slice xA xn xc,.int .u64 o,.int .u64 m,.string (tx g)] 37))
    have HAL:Hid (Below wr.heap.size wr (wr.alloc (.cells #[.int .i64 k,.string (tx t),.int .u64 u,.slice xA xn xc,.int .u64 o,.int .u64 m,.string (tx g)] 37))):=(Below.refl _ _).alloc (Nat.le_refl _) _
    have HB5:=yh (HB.out.trans (HAL.out.mono HB.out.size))
    have HBU5:=yh (zBw HBU.out HAL.out)
    have hi0:(0:Int)≤(i:Int):=by omega
    have hi1:(i:Int)<(n:Int):=by omega
    have HI:Hid (i<n):=hlt
    have p0:=zAA (i:=0) HNEW.out rfl
    have p1:=zAA (i:=1) HNEW.out rfl
    have p2:=zAA (i:=2) HNEW.out rfl
    have p3:=zAA (i:=3) HNEW.out rfl
    have p4:=zAA (i:=4) HNEW.out rfl
    have p5:=zAA (i:=5) HNEW.out rfl
    have p6:=zAA (i:=6) HNEW.out rfl
    have hs2:(tx T).size=T.length:=zAK T
    obtain ⟨sT,hsT⟩:∃ sT,sT=tx T:=⟨_,rfl⟩
    obtain ⟨sU,hsU⟩:∃ sU,sU=tx (T++[10]):=⟨_,rfl⟩
    rw [← hsU] at hadd
    rw [← hsT] at HLX hadd
    have HSU:=yh hsU
    clear hmx hx hbu hok hb hlt hT ht10 hs2 hsT hsU
    generalize tx t=st at *
    generalize tx g=sg at *
    go_wp2_with fail
    refine (HLX.out _ HB5.out).mono ?_
    rintro e w6 ⟨hor,hb6⟩
    have HB6:=yh (HB5.out.trans (hb6.mono HB5.out.size))
    have HBU6:=yh (zBw HBU5.out hb6)
    clear hb6
    rcases hor with ⟨hyes,rfl⟩ | ⟨hno,rfl⟩
    ·have HYES:=yh hyes
     have hln:=yh (HLN.out i hi)
     have hsz:sU.size≤1000000:=by rw [HSU.out,zAK,List.length_append];have:=HTL.out;simp;omega
     have hbl:(Lib.byteCells (hdT n++lnsT (xs.take i))).length≤100000000:=by rw [Lib.byteCells_length,List.length_append];have:=HHL.out;have:=hln.out;omega
     have HW:=yh (zIG b b sU _ w6 HBU6.out hsz hbl (Nat.le_of_lt HBU6.out.lt))
     clear hyes hsz hbl
     go_wp2_with fail
     refine HW.out.mono ?_
     rintro e w7 ⟨rfl,hbu7,hb7⟩
     rw [HSU.out,HCM.out,List.append_assoc,← HSN.out] at hbu7
     have HBU7:=yh hbu7
     have HB7:=yh (HB6.out.trans (hb7.mono HSB.out))
     clear hbu7 hb7
     go_wp2
     exact ⟨⟨i+1,HI.out,by go_num,HBU7.out,HST.out HYES.out,HB7.out⟩,by have:=HI.out;simp [intOf];omega⟩
    ·have HANS:=yh (HNO.out hno)
     clear hno
     go_wp2
     go_ret2
     exact ⟨.inr ⟨HANS.out,rfl⟩,HB6.out⟩
   ·obtain rfl:i=n:=by omega
    have hall:=hok
    rw [List.take_of_length_le (by rw [HL.out];exact Nat.le_refl _)] at hall HBU
    have HANS:Hid (OkT xs):=⟨HRP.out,hall⟩
    have HTX:Hid (hdT i++lnsT xs=txt xs):=by show _=_;unfold txt;rw [HL.out]
    have hlen:(txt xs).length≤100000000:=by
     rw [← HTX.out,List.length_append]
     have h1:=HLN.out i (Nat.le_refl _)
     rw [List.take_of_length_le (by rw [HL.out];exact Nat.le_refl _)] at h1
     have:=HHL.out
     omega
    rw [HTX.out] at HBU
    have HST:=yh (Tryz.Builder_String_any b b (txt xs) wr (.inr HBU.out) (Nat.le_of_lt HBU.out.lt))
    have HSE:=yh (fun W (hW:Laid W) =>zDd (txt xs) hlen W hW)
    obtain ⟨sT,hsT⟩:∃ sT,sT=tx (txt xs):=⟨_,rfl⟩
    obtain ⟨sU,hsU⟩:∃ sU,sU=tx (zAP (txt xs)):=⟨_,rfl⟩
    have hsT2:(⟨(txt xs).toArray⟩:ByteArray)=sT:=hsT.symm
    have HSU:=yh hsU
    clear hbu hok hb hlt hall hlen HBU
    go_wp2_with fail
    refine HST.out.mono ?_
    rintro e w5 ⟨rfl,hb5⟩
    have HB5:=yh (HB.out.trans (hb5.mono HSB.out))
    clear hb5
    go_wp2_with fail
    refine (HSE.out _ (HLAID.out.below HB5.out)).mono ?_
    rintro e w6 ⟨rfl,hb6⟩
    have HB6:=yh (HB5.out.trans (hb6.mono HB5.out.size))
    clear hb6
    rw [← HSU.out]
    go_wp2
    go_ret2
    exact ⟨.inl ⟨HANS.out,by rw [← HSU.out];rfl⟩,HB6.out⟩
 ·have HRP:=yh hr
  clear h hg hl hp hr
  go_enter Tryz.func11,Tryz.ntmps11
  go_wp2_with fail
  refine HR.out.mono ?_
  rintro e w1 ⟨he,hb1⟩
  obtain rfl:=he.no HRP.out
  have HB1:=yh hb1
  clear hb1 he
  go_wp2
  go_ret2
  exact ⟨.inr ⟨fun h =>HRP.out h.1,rfl⟩,HB1.out⟩
theorem zJB (A:Option Addr) (n c:Nat) (xs:List Rw) (hn:n≤130) (hg:∀ x ∈ xs,zBA x) (w:World) (h:Recs w w.heap.size A n xs) :
  Calls Tryz.prog 25 #[.slice A n c] w fun e w' =>AnsT xs e∧Below w.heap.size w w':=by
 have HL:Hid (xs.length=n):=h.len
 have HRC:=yh h
 have HG:=yh hg
 have HR:=yh (zIA A n c xs (by omega) (fun x hx =>(hg x hx).1.1) w h)
 by_cases hr:zAz xs
 ·have HRP:=yh hr
  have HDG:=yh (fun W =>zEj n (by omega) W)
  have hd2:=zCU (show n<1000 by omega)
  have hadd1:=fun W =>zAc (P:=Tryz.prog) W [116,101,112,104,114,97,32] (Lib.decDigits n) (by simp;omega)
  have hadd2:=fun W =>zAc (P:=Tryz.prog) W ([116,101,112,104,114,97,32]++Lib.decDigits n) [10] (by simp;omega)
  have HHD:Hid (([116,101,112,104,114,97,32]++Lib.decDigits n)++[10]=hdT n):=rfl
  rw [HHD.out] at hadd2
  have HHL:Hid ((hdT n).length≤11):=zGI (by omega)
  have HLN:Hid (∀ i,i≤n→(lnsT (xs.take i)).length≤130 * 260001):=fun i hi =>Nat.le_trans (zFE (fun x hx =>Nat.succ_le_succ (zEp (hg x hx))) i) (Nat.mul_le_mul_right _ (by omega))
  have ht7:tx [116,101,112,104,114,97,32]={ data:=#[116,101,112,104,114,97,32] }:=rfl
  have ht10:tx [10]={ data:=#[10] }:=rfl
  rw [ht7] at hadd1
  rw [ht10] at hadd2
  have hw:IntKind.u64.wrap (n:Int)=(n:Int):=zBv n (by omega)
  generalize tx ([116,101,112,104,114,97,32]++Lib.decDigits n)=q1 at *
  generalize tx (Lib.decDigits n)=q0 at *
  clear h hg hr ht7 ht10
  go_enter Tryz.func25,Tryz.ntmps25
  go_wp2_with fail
  refine HR.out.mono ?_
  rintro e w1 ⟨he,hb1⟩
  obtain rfl:=he.yes HRP.out
  have HB1:=yh hb1
  clear hb1 he
  go_wp2_with fail
  refine (HDG.out _).mono ?_
  rintro e w2 ⟨rfl,rfl⟩
  go_wp2
  clear hadd1 hadd2
  go_loopw [4,5] (fun v4 v5 wr =>∃ i:Nat,i≤n∧v5=.int .i64 (i:Int)∧v4=.string (tx (hdT n++lnsT (xs.take i)))∧(∀ y ∈ xs.take i,lnOk y)∧Below w.heap.size w wr) (fun _ v5 _ =>n - (intOf v5).toNat)
  case atStart =>exact ⟨0,by omega,rfl,by simp [lnsT],by simp,HB1.out⟩
  case round =>
   obtain ⟨i,hi,rfl,rfl,hok,hb⟩:=hrel
   have HOK:=yh hok
   have HB:=yh hb
   by_cases hlt:i<n
   ·obtain ⟨x,hx⟩:∃ x,xs[i]? = some x:=⟨_,List.getElem?_eq_getElem (by rw [HL.out];exact hlt)⟩
    have hmx:=List.mem_of_getElem? hx
    obtain ⟨ad,rfl,hab,k0,k1,k2,k3,k4,k5,k6⟩:=zAn (HRC.out.below hb).1 i x hx
    have HRX:=yh (show zAE w w.heap.size 3 x.A x.n (dps x.l) from (HRC.out.2 x hmx).1)
    have HLX:=yh (zHa x (HG.out x hmx) wr ((HRX.out.below hb).more hb.size))
    have HTL:Hid ((lnT x).length≤260000):=zEp (HG.out x hmx)
    have HST:=yh (zHX hx hok)
    have HNO:Hid (¬ lnOk x→¬ OkT xs):=fun h h2 =>h (h2.2 x hmx)
    have HSN:=yh (zEW hx)
    have hlen:=HLN.out i hi
    have hadd1:=fun W =>zAc (P:=Tryz.prog) W (hdT n++lnsT (xs.take i)) (lnT x) (by rw [List.length_append];have:=HTL.out;have:=HHL.out;omega)
    have hadd2:=fun W =>zAc (P:=Tryz.prog) W ((hdT n++lnsT (xs.take i))++lnT x) [10] (by rw [List.length_append,List.length_append];have:=HTL.out;have:=HHL.out;simp;omega)
    have e2:((hdT n++lnsT (xs.take i))++lnT x)++[10]=hdT n++lnsT (xs.take (i+1)):=by rw [HSN.out];simp
    rw [e2] at hadd2
    obtain ⟨⟨k,t,u,o,m,g⟩,xA,xn,xc,xl⟩:=x
    simp only at k0 k1 k2 k3 k4 k5 k6 HLX
    have ht10:tx [10]={ data:=#[10] }:=rfl
    rw [ht10] at hadd2
    have hi0:(0:Int)≤(i:Int):=by omega
    have hi1:(i:Int)<(n:Int):=by omega
    have HI:Hid (i<n):=hlt
    obtain ⟨s0,hs0⟩:∃ s,s=tx (hdT n++lnsT (xs.take i)):=⟨_,rfl⟩
    obtain ⟨s1,hs1⟩:∃ s,s=tx (hdT n++lnsT (xs.take (i+1))):=⟨_,rfl⟩
    have HS1:=yh hs1
    rw [← hs0] at hadd1 ⊢
    rw [← hs1] at hadd2
    generalize tx (hdT n++lnsT (xs.take i)++lnT (⟨⟨k,t,u,o,m,g⟩,xA,xn,xc,xl⟩:Rw))=s2 at *
    generalize tx (lnT (⟨⟨k,t,u,o,m,g⟩,xA,xn,xc,xl⟩:Rw))=s3 at *
    clear hmx hx hok hb hlt ht10 hs0 hs1 e2 hlen
    generalize tx t=st at *
    generalize tx g=sg at *
    go_wp2_with fail
    refine HLX.out.mono ?_
    rintro e w6 ⟨hor,hb6⟩
    have HB6:=yh (HB.out.trans (hb6.mono HB.out.size))
    clear hb6
    rcases hor with ⟨hyes,rfl⟩ | ⟨hno,rfl⟩
    ·have HYES:=yh hyes
     clear hyes
     go_wp2
     exact ⟨⟨i+1,HI.out,by go_num,by rw [HS1.out],HST.out HYES.out,HB6.out⟩,by have:=HI.out;simp [intOf];omega⟩
    ·have HANS:=yh (HNO.out hno)
     clear hno
     go_wp2
     go_ret2
     exact ⟨.inr ⟨HANS.out,rfl⟩,HB6.out⟩
   ·obtain rfl:i=n:=by omega
    have hall:=hok
    rw [List.take_of_length_le (by rw [HL.out];exact Nat.le_refl _)] at hall ⊢
    have HANS:Hid (OkT xs):=⟨HRP.out,hall⟩
    have HTX:Hid (hdT i++lnsT xs=txt xs):=by show _=_;unfold txt;rw [HL.out]
    have hlen:(txt xs).length≤100000000:=by
     rw [← HTX.out,List.length_append]
     have h1:=HLN.out i (Nat.le_refl _)
     rw [List.take_of_length_le (by rw [HL.out];exact Nat.le_refl _)] at h1
     have:=HHL.out
     omega
    rw [HTX.out]
    have HSE:=yh (fun W =>zEO (txt xs) hlen W)
    obtain ⟨sT,hsT⟩:∃ sT,sT=tx (txt xs):=⟨_,rfl⟩
    obtain ⟨sU,hsU⟩:∃ sU,sU=tx (zAP (txt xs)):=⟨_,rfl⟩
    have HSU:=yh hsU
    rw [← hsT] at HSE ⊢
    rw [← hsU] at HSE
    clear hok hb hlt hall hlen hsT hsU
    go_wp2_with fail
    refine (HSE.out _).mono ?_
    rintro e w6 ⟨rfl,rfl⟩
    go_wp2
    go_ret2
    exact ⟨.inl ⟨HANS.out,by rw [← HSU.out];rfl⟩,HB.out⟩
 ·have HRP:=yh hr
  clear h hg hr
  go_enter Tryz.func25,Tryz.ntmps25
  go_wp2_with fail
  refine HR.out.mono ?_
  rintro e w1 ⟨he,hb1⟩
  obtain rfl:=he.no HRP.out
  have HB1:=yh hb1
  clear hb1 he
  go_wp2
  go_ret2
  exact ⟨.inr ⟨fun h =>HRP.out h.1,rfl⟩,HB1.out⟩
theorem zKj {xs:List Rw} {i:Nat} {x:Rw} (hx:xs[i]? = some x):fo Rw.k Rw.t (xs.take (i+1))=put1 Rw.k Rw.t (fo Rw.k Rw.t (xs.take i)) x:=by
 unfold fo
 rw [List.take_add_one,hx,List.foldl_append]
 rfl
theorem zGG:(Tryz.prog.info? 37).map (fun i =>(i.zero,i.size,i.bytes))=some (some (.agg #[.int .i64 0,.string ⟨#[]⟩,.int .u64 0,.slice none 0 0,.int .u64 0,.int .u64 0,.string ⟨#[]⟩]),7,88):=by kernel_rfl
end Go.Proofs.YtgoklhoaedceaaaGreatDoor
