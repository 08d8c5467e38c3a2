/- Texts of one proof. -/
import Derived.Test.YtgoklhoaedceaaaGreatDoorMx17
set_option maxRecDepth 100000
set_option maxHeartbeats 8000000
namespace Go.Proofs.YtgoklhoaedceaaaGreatDoor
open Go.RowKit
theorem zCZ {fn:Func} {p q:Tmp} {tp tq:TypeId} (h:fn.results=#[.cell p tp,.cell q tq]) (tmps:Array Value) (P:Program) (w:World) (a b:Addr) (v u:Value)
  (hp:tmps.getD p undef=.pointer (some a)) (hq:tmps.getD q undef=.pointer (some b)) (hv:(loadVar tp a).run P w=.ok v w) (hu:(loadVar tq b).run P w=.ok u w) :
  (results fn tmps).run P w=.ok (.tuple #[v,u]) w:=by
 have hp':tmps[p]?.getD undef=.pointer (some a):=by simpa using hp
 have hq':tmps[q]?.getD undef=.pointer (some b):=by simpa using hq
 simp [results,h,hp',hq',asAddr,hv,hu,Sem.run_bind,Result.andThen]
def zCb (line:List UInt8) (w:World) (e:Ending) (w':World):Prop :=
 ((∃ r l A n c,zAv line r l∧e=.returned (.tuple #[.agg #[.int .i64 r.kind,.string (tx r.target),.int .u64 r.rule,.slice A n c,.int .u64 r.out,.int .u64 r.time,.string (tx r.tag)],.int .i64 0])∧w'.ownsRow w.heap.size 73 3 (.slice A n c) n (dps l))∨((∀ r l,¬ zAv line r l)∧e=.returned (.tuple #[.agg #[.int .i64 0,.string ⟨#[]⟩,.int .u64 0,.slice none 0 0,.int .u64 0,.int .u64 0,.string ⟨#[]⟩],.int .i64 3])))∧Below w.heap.size w w'
theorem zFR (p q:Addr) (w:World) :
  CallsD Tryz.prog 33 #[.pointer (some p),.pointer (some q)] .returning w fun e u' w' =>e=.returned (.tuple #[])∧u'=.returning∧w'=w:=by
 refine callsD_of_wpS Tryz.func33 rfl fun c₀ cs hu =>?_
 apply wpS_seq
 apply wpS_region
 simp [wpOpsS,go_sem,recoverD,hu,Tryz.ntmps33,Exit.thenS]
 refine wpS_of_wp ?_
 go_wp2
 cases c₀
 simp_all [bodyPostS,results,Tryz.results33]
theorem zEW (gp gq:Nat) (older:List PanicEntry) (B:Nat) (hB:B≤gp∧B≤gq) (hne:gp≠gq) (w:World) (hp:w.heap[gp]? = some (.cells #[.int .i64 0,.string ⟨#[]⟩,.int .u64 0,.slice none 0 0,.int .u64 0,.int .u64 0,.string ⟨#[]⟩] 37 (0,0))) (hq:w.heap[gq]? = some (.cells #[.int .i64 0] 24 (0,0))) :
  CallsD Tryz.prog 33 #[.pointer (some ⟨gp,0,none⟩),.pointer (some ⟨gq,0,none⟩)] (.panicking ({ v:=.iface 75 (.agg #[.int .i64 3]),recovered:=false } :: older)) w fun e u' w' =>e=.returned (.tuple #[])∧u'=.panicking ({ v:=.iface 75 (.agg #[.int .i64 3]),recovered:=true } :: older) ∧
   w'.heap[gp]? = some (.cells #[.int .i64 0,.string ⟨#[]⟩,.int .u64 0,.slice none 0 0,.int .u64 0,.int .u64 0,.string ⟨#[]⟩] 37 (0,0))∧w'.heap[gq]? = some (.cells #[.int .i64 3] 24 (0,0))∧Below B w w':=by
 have r0:=zAA (i:=0) hp rfl;have r1:=zAA (i:=1) hp rfl;have r2:=zAA (i:=2) hp rfl;have r3:=zAA (i:=3) hp rfl;have r4:=zAA (i:=4) hp rfl;have r5:=zAA (i:=5) hp rfl;have r6:=zAA (i:=6) hp rfl
 have y0:=zAC (i:=0) hp;have y1:=zAC (i:=1) hp;have y2:=zAC (i:=2) hp;have y3:=zAC (i:=3) hp;have y4:=zAC (i:=4) hp;have y5:=zAC (i:=5) hp;have y6:=zAC (i:=6) hp
 have s0:=zAA (i:=0) hq rfl
 have z0:=zAC (i:=0) hq
 have HP:=yh hp
 have HQ:=yh hq
 have HBB:=yh hB
 have HNE:Hid (gp≠gq):=hne
 have HNE2:Hid (gq≠gp):=Ne.symm hne
 clear hp hq hB
 refine callsD_of_wpS Tryz.func33 rfl fun c₀ cs hu =>?_
 apply wpS_seq
 apply wpS_region
 simp [wpOpsS,go_sem,recoverD,hu,Tryz.ntmps33,Exit.thenS]
 refine wpS_of_wp ?_
 go_wp2
 change Code.wp _ _ _ ({ tmps:=#[.pointer (some ⟨gp,0,none⟩),.pointer (some ⟨gq,0,none⟩),.iface 75 (.agg #[.int .i64 3]),.iface 75 (.agg #[.int .i64 3]),.iface 75 (.agg #[.int .i64 3]),.bool true,undef,undef,undef,undef],defers:=[] }:Act) w
 refine wp_region_held (S:=fun _ =>True) (by kernel_rfl) (show wpAnyH _ _ _ _ _ _ _ _ (w.drew) from ?_)
 have HPd:Hid (w.drew.heap[gp]? = some (.cells #[.int .i64 0,.string ⟨#[]⟩,.int .u64 0,.slice none 0 0,.int .u64 0,.int .u64 0,.string ⟨#[]⟩] 37 (0,0))):=HP.out
 have HQd:Hid (w.drew.heap[gq]? = some (.cells #[.int .i64 0] 24 (0,0))):=HQ.out
 have HBd:Hid (Below B w w.drew):=(Below.refl _ _).drew
 obtain ⟨wd,hwd⟩:∃ x,x=w.drew:=⟨_,rfl⟩
 rw [← hwd] at HPd HQd HBd ⊢
 clear hwd
 refine zAB 0 (.agg #[.int .i64 0,.string ⟨#[]⟩,.int .u64 0,.slice none 0 0,.int .u64 0,.int .u64 0,.string ⟨#[]⟩]) rfl (by kernel_rfl) (by kernel_rfl) (by kernel_rfl) (fun _ _ _ h =>h) (by kernel_rfl) trivial (fun _ _ =>by kernel_rfl) ?_
 refine zAB 1 (.iface 75 (.agg #[.int .i64 3])) rfl (by kernel_rfl) (by kernel_rfl) (by kernel_rfl) (fun _ _ _ h =>h) (by kernel_rfl) trivial (fun _ _ =>by kernel_rfl) ?_
 refine zAB 2 (.agg #[.int .i64 3]) rfl (by kernel_rfl) (by kernel_rfl) (by kernel_rfl) (fun _ _ _ h =>h) (by kernel_rfl) trivial (fun _ _ =>by kernel_rfl) ?_
 refine zAB 3 (.int .i64 3) rfl (by kernel_rfl) (by kernel_rfl) (by kernel_rfl) (fun _ _ _ h =>h) (by kernel_rfl) trivial (fun _ _ =>by kernel_rfl) ?_
 refine zAH 4 rfl (by kernel_rfl) (by kernel_rfl) (fun K hK =>?_)
 refine wp_store_row 37 (.tmp 0) (.tmp 6) rfl gp #[.int .i64 0,.string ⟨#[]⟩,.int .u64 0,.slice none 0 0,.int .u64 0,.int .u64 0,.string ⟨#[]⟩] rfl rfl 37 _ HPd.out (by kernel_rfl) rfl (by simp [Value.oneCell']) ?_
 have h1:=setRow_heap wd gp _ #[.int .i64 0,.string ⟨#[]⟩,.int .u64 0,.slice none 0 0,.int .u64 0,.int .u64 0,.string ⟨#[]⟩] _ _ HPd.out
 have h2:=(setRow_other wd gp gq #[.int .i64 0,.string ⟨#[]⟩,.int .u64 0,.slice none 0 0,.int .u64 0,.int .u64 0,.string ⟨#[]⟩] HNE2.out).trans HQd.out
 have h3:=HBd.out.grown (zAo wd gp #[.int .i64 0,.string ⟨#[]⟩,.int .u64 0,.slice none 0 0,.int .u64 0,.int .u64 0,.string ⟨#[]⟩]) (Nat.le_trans HBB.out.1 (Nat.le_of_lt (zAG HPd.out))) (fun k hk =>by injection hk with hk;subst hk;exact HBB.out.1)
 generalize wd.setRow gp #[.int .i64 0,.string ⟨#[]⟩,.int .u64 0,.slice none 0 0,.int .u64 0,.int .u64 0,.string ⟨#[]⟩]=we at *
 refine hK _ _ trivial ?_
 clear hK K
 have s1:=zAA (i:=0) h2 rfl
 have z1:=zAC (i:=0) h2
 refine zAH 5 rfl (by kernel_rfl) (by kernel_rfl) (fun K hK =>?_)
 go_simp
 refine hK _ _ trivial ?_
 clear hK K
 refine wpAnyH_done (by kernel_rfl) ?_ _
 have h4:=zAD h2 0 (.int .i64 3)
 have h5:(we.setCell ⟨gq,0,none⟩ (.int .i64 3)).heap[gp]? = some (.cells #[.int .i64 0,.string ⟨#[]⟩,.int .u64 0,.slice none 0 0,.int .u64 0,.int .u64 0,.string ⟨#[]⟩] 37 (0,0)):=(Below.heap_setCell _ _ _ gp (fun e =>HNE.out e)).trans h1
 have h6:=h3.setCell (p:=⟨gq,0,none⟩) HBB.out.2 (.int .i64 3)
 go_simp
 obtain ⟨wf,hwf⟩:∃ x,x=we.setCell ⟨gq,0,none⟩ (.int .i64 3):=⟨_,rfl⟩
 rw [← hwf] at h4 h5 h6 ⊢
 clear hwf h1 h2 h3 s1 z1 r0 r1 r2 r3 r4 r5 r6 y0 y1 y2 y3 y4 y5 y6 s0 z0 HP HQ HBB HNE HNE2 HPd HQd HBd
 have h4':wf.heap[gq]? = some (.cells #[.int .i64 3] 24 (0,0)):=h4
 clear h4
 change bodyPostS Tryz.prog _ c₀ cs _ Exit.normal _ _ wf
 exact ⟨rfl,_,rfl,.tuple #[],by simp [results,Tryz.results33],rfl,rfl,h5,h4',h6⟩
theorem zGl (line:List UInt8) (hl:line.length≤5000) (w:World) (hp:zAs w) (he:zBW w) (hsh:w.ShapedOpen Tryz.prog) :
  Calls Tryz.prog 14 #[.string (tx line)] w (zCb line w):=by
 have hmf:∀ (fn:Fn) (first cap:Array Value) (w:World),(Instr.makeFunc fn first cap).run Tryz.prog w=.ok (.func fn first cap) w:=fun _ _ _ _ =>rfl
 have z1:(w.alloc (.cells #[.int .i64 0,.string ⟨#[]⟩,.int .u64 0,.slice none 0 0,.int .u64 0,.int .u64 0,.string ⟨#[]⟩] 37)).heap.size=w.heap.size+1:=by simp
 have b1:Below w.heap.size w (w.alloc (.cells #[.int .i64 0,.string ⟨#[]⟩,.int .u64 0,.slice none 0 0,.int .u64 0,.int .u64 0,.string ⟨#[]⟩] 37)):=(Below.refl _ _).alloc (Nat.le_refl _) _
 have b2:Below w.heap.size w ((w.alloc (.cells #[.int .i64 0,.string ⟨#[]⟩,.int .u64 0,.slice none 0 0,.int .u64 0,.int .u64 0,.string ⟨#[]⟩] 37)).alloc (.cells #[.int .i64 0] 24)):=b1.alloc b1.size _
 have e2:=zAI (w.alloc (.cells #[.int .i64 0,.string ⟨#[]⟩,.int .u64 0,.slice none 0 0,.int .u64 0,.int .u64 0,.string ⟨#[]⟩] 37)) (.cells #[.int .i64 0] 24)
 rw [z1] at e2
 have e1:=(Below.heap_alloc (w.alloc (.cells #[.int .i64 0,.string ⟨#[]⟩,.int .u64 0,.slice none 0 0,.int .u64 0,.int .u64 0,.string ⟨#[]⟩] 37)) (.cells #[.int .i64 0] 24) w.heap.size (by rw [z1];omega)).trans (zAI w (.cells #[.int .i64 0,.string ⟨#[]⟩,.int .u64 0,.slice none 0 0,.int .u64 0,.int .u64 0,.string ⟨#[]⟩] 37))
 obtain ⟨w2,hw2⟩:∃ x,x=(w.alloc (.cells #[.int .i64 0,.string ⟨#[]⟩,.int .u64 0,.slice none 0 0,.int .u64 0,.int .u64 0,.string ⟨#[]⟩] 37)).alloc (.cells #[.int .i64 0] 24):=⟨_,rfl⟩
 rw [← hw2] at b2 e1 e2
 have HTR:=yh (zGA line hl w2 (hp.below b2) (he.below b2) (zBG hsh b2))
 have HB2:=yh b2
 have HE1:=yh e1
 have HE2:=yh e2
 have HW2:=yh hw2
 have HS2:Hid (w.heap.size+1<w2.heap.size):=zAG e2
 clear z1 b1 b2 e1 e2 hw2 hp he hsh
 go_enter_defers Tryz.func14,Tryz.ntmps14
 go_wp2_with fail
 rw [← HW2.out]
 refine HTR.out.mono ?_
 rintro e w3 ⟨⟨r,l,A,n,c,hlo,rfl,ho⟩ | ⟨hno,rfl⟩,hb3⟩
 ·have HLO:=yh hlo
  have HO:=yh ho
  have HB3:=yh (HB2.out.trans (hb3.mono HB2.out.size))
  have hx1:=(hb3.block w.heap.size (zAG HE1.out)).trans HE1.out
  have hx2:=(hb3.block (w.heap.size+1) (zAG HE2.out)).trans HE2.out
  have r0:=zAA (i:=0) hx1 rfl;have r1:=zAA (i:=1) hx1 rfl;have r2:=zAA (i:=2) hx1 rfl;have r3:=zAA (i:=3) hx1 rfl;have r4:=zAA (i:=4) hx1 rfl;have r5:=zAA (i:=5) hx1 rfl;have r6:=zAA (i:=6) hx1 rfl
  have y0:=zAC (i:=0) hx1;have y1:=zAC (i:=1) hx1;have y2:=zAC (i:=2) hx1;have y3:=zAC (i:=3) hx1;have y4:=zAC (i:=4) hx1;have y5:=zAC (i:=5) hx1;have y6:=zAC (i:=6) hx1
  have s0:=zAA (i:=0) hx2 rfl
  have s1:=zAC (i:=0) hx2
  have HX1:=yh hx1
  have HX2:=yh hx2
  clear hlo ho hb3 hx1 hx2 HTR
  go_wp2
  have hx5:=(zAD (zAD (zAD (zAD (zAD (zAD (zAD HX1.out 0 (.int .i64 r.kind)) 1 (.string (tx r.target))) 2 (.int .u64 r.rule)) 3 (.slice A n c)) 4 (.int .u64 r.out)) 5 (.int .u64 r.time)) 6 (.string (tx r.tag)))
  have hx6:=(Below.heap_setCell _ ⟨w.heap.size+1,0,none⟩ (.int .i64 0) w.heap.size (by simp)).trans hx5
  have hz5:∀ (W:World) (j:Nat) (u:Value),(W.setCell ⟨w.heap.size,j,none⟩ u).heap[w.heap.size+1]? = W.heap[w.heap.size+1]?:=fun W j u =>Below.heap_setCell _ _ _ _ (by simp)
  have hz6:(((((((w3.setCell ⟨w.heap.size,0,none⟩ (.int .i64 r.kind)).setCell ⟨w.heap.size,1,none⟩ (.string (tx r.target))).setCell ⟨w.heap.size,2,none⟩ (.int .u64 r.rule)).setCell ⟨w.heap.size,3,none⟩ (.slice A n c)).setCell ⟨w.heap.size,4,none⟩ (.int .u64 r.out)).setCell ⟨w.heap.size,5,none⟩ (.int .u64 r.time)).setCell ⟨w.heap.size,6,none⟩ (.string (tx r.tag))).heap[w.heap.size+1]? = some (.cells #[.int .i64 0] 24 (0,0)):=by
   rw [hz5,hz5,hz5,hz5,hz5,hz5,hz5];exact HX2.out
  have hz7:=zAD hz6 0 (.int .i64 0)
  have HX6:=yh hx6
  have HX7:=yh hz7
  clear hx5 hx6 hz5 hz6 hz7
  refine leaves_cons (f:=33) (args:=#[.pointer (some ⟨w.heap.size,0,none⟩),.pointer (some ⟨w.heap.size+1,0,none⟩)]) (by simp) (by simp [go_sem]) ?_
  refine (zFR _ _ _).mono ?_
  rintro e u' w4 ⟨rfl,rfl,rfl⟩
  change Leaves _ _ _ _ [] .returning _
  have q0:=zAA (i:=0) HX7.out rfl
  refine ⟨_,zCZ rfl _ _ _ ⟨w.heap.size,0,none⟩ ⟨w.heap.size+1,0,none⟩ _ (.int .i64 0) rfl rfl (run_loadVar_row _ w.heap.size 37 _ _ (0,0) _ HX6.out Tryz.underlying37 rfl (by kernel_rfl)) (by simp [loadVar,go_sem,q0]),.inl ⟨r,l,A,n,c,HLO.out,rfl,?_⟩,?_⟩
  ·refine zDQ (zAf HO.out (fun k hk =>?_)) (Nat.le_of_lt (Nat.lt_of_succ_lt HS2.out))
   have h1:=zAP HO.out k hk
   have h2:=HS2.out
   have hn1:w.heap.size≠k:=by omega
   have hn2:w.heap.size+1≠k:=by omega
   simp [World.setCell,Array.getElem?_modify,hn1,hn2]
  ·exact (((((((HB3.out.setCell (Nat.le_refl _) _).setCell (Nat.le_refl _) _).setCell (Nat.le_refl _) _).setCell (Nat.le_refl _) _).setCell (Nat.le_refl _) _).setCell (Nat.le_refl _) _).setCell (Nat.le_refl _) _).setCell (by simp) _
 ·have HNO:Hid (∀ r l,¬ zAv line r l):=hno
  have HB3:=yh (HB2.out.trans (hb3.mono HB2.out.size))
  have hx1:=(hb3.block w.heap.size (zAG HE1.out)).trans HE1.out
  have hx2:=(hb3.block (w.heap.size+1) (zAG HE2.out)).trans HE2.out
  have HX1:=yh hx1
  have HX2:=yh hx2
  clear hno hb3 hx1 hx2 HTR
  unfold zBu
  refine leaves_cons (f:=33) (args:=#[.pointer (some ⟨w.heap.size,0,none⟩),.pointer (some ⟨w.heap.size+1,0,none⟩)]) (by simp) (by simp [go_sem]) ?_
  refine (zEW w.heap.size (w.heap.size+1) [] w.heap.size ⟨Nat.le_refl _,by omega⟩ (by omega) w3 HX1.out HX2.out).mono ?_
  rintro e u' w4 ⟨rfl,rfl,h1,h2,h3⟩
  have s0:=zAA (i:=0) h2 rfl
  change Leaves _ _ _ _ [] .returning w4
  exact ⟨_,zCZ rfl _ _ _ ⟨w.heap.size,0,none⟩ ⟨w.heap.size+1,0,none⟩ (.agg #[.int .i64 0,.string ⟨#[]⟩,.int .u64 0,.slice none 0 0,.int .u64 0,.int .u64 0,.string ⟨#[]⟩]) (.int .i64 3) rfl rfl (run_loadVar_row w4 w.heap.size 37 _ _ (0,0) _ h1 Tryz.underlying37 rfl (by kernel_rfl)) (by simp [loadVar,go_sem,s0]),.inr ⟨HNO.out,rfl⟩,HB3.out.trans h3⟩
theorem zFo (b:Nat) (w:World) (h0:w.cell? ⟨b,0,none⟩=some (.pointer (some ⟨b,0,none⟩))) :
  Calls Tryz.prog 53 #[.pointer (some ⟨b,0,none⟩)] w fun e w' =>e=.returned (.tuple #[])∧w'=w:=by
 obtain ⟨j,hj,_⟩:=Option.map_eq_some_iff.1 zCt
 go_enter Tryz.func53,Tryz.ntmps53
 go_wp2
 rw [Lib.run_neq_ptr_same w _ Tryz.underlying58 hj]
 go_wp2
 go_end0
 exact ⟨rfl,rfl⟩
theorem zGK (B b:Nat) (s:ByteArray) (bs:List Value) (w:World) (h:Lib.BuilderAt 61 5 B b (.pointer (some ⟨b,0,none⟩)) bs w) (hlen:s.size≤1000000) (hbs:bs.length≤100000000) (hBw:B≤w.heap.size) :
  Calls Tryz.prog 27 #[.pointer (some ⟨b,0,none⟩),.string s] w fun e w' =>e=.returned (.tuple #[.int .i64 s.size,.nilIface])∧(Lib.BuilderAt 61 5 B b (.pointer (some ⟨b,0,none⟩)) (bs++Lib.strCells s) w'∧Below B w w'):=by
 obtain ⟨i0,hi,hz0,hz1,hz2⟩:=info_parts zDw
 have HC:=yh (zFo b w h.cell0)
 have HU:=yh h
 clear h
 go_enter Tryz.func27,Tryz.ntmps27
 go_wp2_with fail
 refine HC.out.mono ?_
 rintro e w1 ⟨rfl,hw1⟩
 subst hw1
 clear HC
 obtain ⟨hB,v,hbk,hown,hne⟩:=HU.out
 have hb1:Below B w1 w1:=Below.refl _ _
 have c0:w1.cell? ⟨b,0,none⟩=some (.pointer (some ⟨b,0,none⟩)):=by rw [Lib.cell_of_heap hbk];rfl
 have c1:w1.cell? ⟨b,1,none⟩=some v:=by rw [Lib.cell_of_heap hbk];rfl
 go_wp2_with (at_builtin;refine Lib.wpList_append_own_string _ rfl _ _ 59 9 rfl B 5 i0 Tryz.underlying59 Tryz.underlying9 hi hz0 hz1 hz2 _ _ _ rfl hown s rfl ?c3 ?c4 ?c5 ?_)
 case c3 =>unfold maxLen;omega
 case c4 =>omega
 case c5 =>exact hBw
 intro v' w2 hown' hgrow _
 have hlt:b<w1.heap.size:=by
  rcases Nat.lt_or_ge b w1.heap.size with h' | h'
  ·exact h'
  ·simp [Array.getElem?_eq_none h'] at hbk
 have hb2:w2.heap[b]? = some (.cells #[.pointer (some ⟨b,0,none⟩),v] 61 (0,0)):=by
  rw [hgrow.block b hlt (fun e =>hne e.symm)]
  exact hbk
 have d0:w2.cell? ⟨b,0,none⟩=some (.pointer (some ⟨b,0,none⟩)):=by rw [Lib.cell_of_heap hb2];rfl
 have d1:w2.cell? ⟨b,1,none⟩=some v:=by rw [Lib.cell_of_heap hb2];rfl
 have f1:w2.frozen? ⟨b,1,none⟩=false:=Lib.frozen_of_heap hb2 1
 obtain ⟨ao,n',cap,rfl⟩:∃ ao n' cap,v'=.slice ao n' cap:=by
  rcases hown'.2 with ⟨hv,_⟩ | ⟨g,cap,cur,hv,_⟩
  ·exact ⟨_,_,_,hv⟩
  ·exact ⟨_,_,_,hv⟩
 go_wp2
 go_ret2
 refine ⟨rfl,?_,?_⟩
 ·exact Lib.BuilderAt.put (T:=61) (e:=5) hB hb2 (bs':=bs++Lib.strCells s) (by simpa [Lib.strCells_length] using hown') (by decide)
 ·exact (hb1.grown hgrow (by have:=hb1.size;omega) (fun k hk =>(hown.lt k hk).1)).setCell (p:=⟨b,1,none⟩) hB _
theorem zEA (A:Option Addr) (n c:Nat) (xs:List Rw) (hn:n≤30) (hg:∀ x ∈ xs,zCK x) (w:World) (hl:Laid w) (hp:zAs w) (h:Recs w w.heap.size A n xs) :
  Calls Tryz.prog 11 #[.slice A n c] w fun e w' =>AnsT xs e∧Below w.heap.size w w':=by
 have HL:Hid (xs.length=n):=h.len
 have HRC:=yh h
 have HG:=yh hg
 have HLAID:=yh hl
 have HPOW:=yh hp
 have HR:=yh (zHC A n c xs (by omega) w h)
 by_cases hr:zBN xs
 ·have HRP:=yh hr
  have HIT:=yh (fun W =>Tryz.strconv_Itoa_small n (by omega) W)
  have HJN:=yh (fun (W:World) =>zEB [116,101,112,104,114,97] (Lib.decDigits n) (by simp) (by have:=zCf (show n<100 by omega);omega) W)
  have hadd:=yh (fun W =>zAa (P:=Tryz.prog) W ([116,101,112,104,114,97]++32 :: Lib.decDigits n) [10] (by have:=zCf (show n<100 by omega);simp;omega))
  have HHD:Hid (([116,101,112,104,114,97]++32 :: Lib.decDigits n)++[10]=hdT n):=rfl
  rw [HHD.out] at hadd
  have HHL:Hid ((hdT n).length≤10):=zJD (by omega)
  have HLN:Hid (∀ i,i≤n→(lnsT (xs.take i)).length≤30 * 260001):=fun i hi =>Nat.le_trans (zIe (fun x hx =>Nat.succ_le_succ (zGm (hg x hx))) i) (Nat.mul_le_mul_right _ (by omega))
  have HCM:=yh zFn
  have HC0:Hid (Lib.strCells (tx (hdT n))=Lib.byteCells (hdT n)):=rfl
  have hc0:(⟨(Lib.decDigits n).toArray⟩:ByteArray)=tx (Lib.decDigits n):=rfl
  rw [hc0] at HIT
  obtain ⟨q1,hq1⟩:∃ q,q=tx ([116,101,112,104,114,97]++32 :: Lib.decDigits n):=⟨_,rfl⟩
  obtain ⟨q0,hq0⟩:∃ q,q=tx (Lib.decDigits n):=⟨_,rfl⟩
  obtain ⟨q2,hq2⟩:∃ q,q=tx (hdT n):=⟨_,rfl⟩
  have ht6:tx [116,101,112,104,114,97]={ data:=#[116,101,112,104,114,97] }:=rfl
  have ht10:tx [10]={ data:=#[10] }:=rfl
  rw [← hq1,← hq2,ht10] at hadd
  rw [← hq0] at HIT
  rw [← hq1,← hq0,ht6] at HJN
  have HQ2:Hid (q2.size≤1000000):=by show _≤_;rw [hq2,zAN];have:=HHL.out;omega
  rw [← hq2] at HC0
  have hadd2:=hadd.out
  clear h hg hl hp hr hq1 hq0 hq2 ht6 ht10 hc0 hadd
  go_enter Tryz.func11,Tryz.ntmps11
  go_wp2_with fail
  refine HR.out.mono ?_
  rintro e w1 ⟨he,hb1⟩
  obtain rfl:=he.yes HRP.out
  have HB1:=yh hb1
  clear hb1 he
  go_wp2_with fail
  refine (HIT.out _).mono ?_
  rintro e w2 ⟨rfl,hw2⟩
  subst hw2
  have HB2:Hid (Below w.heap.size w (w1.alloc (.cells #[.pointer none,.slice none 0 0] 61))):=HB1.out.alloc HB1.out.size _
  have HF:=yh (zEV w1)
  have HSB:Hid (w.heap.size≤w1.heap.size):=HB1.out.size
  obtain ⟨b,hb⟩:∃ b,b=w1.heap.size:=⟨_,rfl⟩
  rw [← hb] at HF HSB ⊢
  obtain ⟨w2,hw2⟩:∃ x,x=w1.alloc (.cells #[.pointer none,.slice none 0 0] 61):=⟨_,rfl⟩
  rw [← hw2] at HB2 HF ⊢
  clear hb hw2
  go_wp2_with fail
  refine (HJN.out w2).mono ?_
  rintro e w3 ⟨rfl,hb3⟩
  have HF3:=yh (zBw HF.out hb3)
  have HB3:=yh (HB2.out.trans (hb3.mono HB2.out.size))
  have HSB3:Hid (b≤w3.heap.size):=Nat.le_of_lt (HF3.out.lt)
  clear hb3
  go_wp2_with fail
  refine (zFX b b q2 w3 HF3.out HQ2.out HSB3.out).mono ?_
  rintro e w4 ⟨rfl,hb4,hw4⟩
  rw [HC0.out] at hb4
  have HF4:=yh hb4
  have HB4:=yh (HB3.out.trans (hw4.mono HSB.out))
  clear hb4 hw4
  go_wp2
  go_loopw [21] (fun v wr =>∃ i:Nat,i≤n∧v=.int .i64 (i:Int)∧Lib.BuilderAt 61 5 b b (.pointer (some ⟨b,0,none⟩)) (Lib.byteCells (hdT n++lnsT (xs.take i))) wr∧(∀ y ∈ xs.take i,lnOk y)∧Below w.heap.size w wr) (fun v _ =>n - (intOf v).toNat)
  case atStart =>exact ⟨0,by omega,rfl,by simpa [lnsT] using HF4.out,by simp,HB4.out⟩
  case round =>
   obtain ⟨i,hi,rfl,hbu,hok,hb⟩:=hrel
   have HBU:=yh hbu
   have HOK:=yh hok
   have HB:=yh hb
   by_cases hlt:i<n
   ·obtain ⟨x,hx⟩:∃ x,xs[i]? = some x:=⟨_,List.getElem?_eq_getElem (by rw [HL.out];exact hlt)⟩
    have hmx:=List.mem_of_getElem? hx
    obtain ⟨ad,rfl,hab,k0,k1,k2,k3,k4,k5,k6⟩:=zCn (HRC.out.below hb).1 i x hx
    have HRX:=yh (show zAE w w.heap.size 3 x.A x.n (dps x.l) from (HRC.out.2 x hmx).1)
    have HLX:=yh (fun (W:World) (hb:Below w.heap.size w W) =>zEr x (HG.out x hmx) W (HPOW.out.below hb) ((HRX.out.below hb).more hb.size))
    have HTL:Hid ((lnT x).length≤260000):=zGm (HG.out x hmx)
    have HST:=yh (zIh hx hok)
    have HNO:Hid (¬ lnOk x→¬ OkT xs):=fun h h2 =>h (h2.2 x hmx)
    have HSN:=yh (zEs hx)
    have hadd:=fun W =>zAa (P:=Tryz.prog) W (lnT x) [10] (by have:=HTL.out;simp;omega)
    obtain ⟨⟨k,t,u,o,m,g⟩,xA,xn,xc,xl⟩:=x
    simp only at k0 k1 k2 k3 k4 k5 k6 HLX
    obtain ⟨T,hT⟩:∃ T,T=lnT (⟨⟨k,t,u,o,m,g⟩,xA,xn,xc,xl⟩:Rw):=⟨_,rfl⟩
    rw [← hT] at HLX HTL HSN hadd
    have ht10:tx [10]={ data:=#[10] }:=rfl
    rw [ht10] at hadd
    have HNEW:=yh (zAI wr (.cells #[.int .i64 k,.string (tx t),.int .u64 u,.slice xA xn xc,.int .u64 o,.int .u64 m,.string (tx g)] 37))
    have HAL:Hid (Below wr.heap.size wr (wr.alloc (.cells #[.int .i64 k,.string (tx t),.int .u64 u,.slice xA xn xc,.int .u64 o,.int .u64 m,.string (tx g)] 37))):=(Below.refl _ _).alloc (Nat.le_refl _) _
    have HB5:=yh (HB.out.trans (HAL.out.mono HB.out.size))
    have HBU5:=yh (zBw HBU.out HAL.out)
    have hi0:(0:Int)≤(i:Int):=by omega
    have hi1:(i:Int)<(n:Int):=by omega
    have HI:Hid (i<n):=hlt
    have p0:=zAA (i:=0) HNEW.out rfl
    have p1:=zAA (i:=1) HNEW.out rfl
    have p2:=zAA (i:=2) HNEW.out rfl
    have p3:=zAA (i:=3) HNEW.out rfl
    have p4:=zAA (i:=4) HNEW.out rfl
    have p5:=zAA (i:=5) HNEW.out rfl
    have p6:=zAA (i:=6) HNEW.out rfl
    have hs2:(tx T).size=T.length:=zAN T
    obtain ⟨sT,hsT⟩:∃ sT,sT=tx T:=⟨_,rfl⟩
    obtain ⟨sU,hsU⟩:∃ sU,sU=tx (T++[10]):=⟨_,rfl⟩
    rw [← hsU] at hadd
    rw [← hsT] at HLX hadd
    have HSU:=yh hsU
    clear hmx hx hbu hok hb hlt hT ht10 hs2 hsT hsU
    generalize tx t=st at *
    generalize tx g=sg at *
    go_wp2_with fail
    refine (HLX.out _ HB5.out).mono ?_
    rintro e w6 ⟨hor,hb6⟩
    have HB6:=yh (HB5.out.trans (hb6.mono HB5.out.size))
    have HBU6:=yh (zBw HBU5.out hb6)
    clear hb6
    rcases hor with ⟨hyes,rfl⟩ | ⟨hno,rfl⟩
    ·have HYES:=yh hyes
     have hln:=yh (HLN.out i hi)
     have hsz:sU.size≤1000000:=by rw [HSU.out,zAN,List.length_append];have:=HTL.out;simp;omega
     have hbl:(Lib.byteCells (hdT n++lnsT (xs.take i))).length≤100000000:=by rw [Lib.byteCells_length,List.length_append];have:=HHL.out;have:=hln.out;omega
     have HW:=yh (zGK b b sU _ w6 HBU6.out hsz hbl (Nat.le_of_lt HBU6.out.lt))
     clear hyes hsz hbl
     go_wp2_with fail
     refine HW.out.mono ?_
     rintro e w7 ⟨rfl,hbu7,hb7⟩
     rw [HSU.out,HCM.out,List.append_assoc,← HSN.out] at hbu7
     have HBU7:=yh hbu7
     have HB7:=yh (HB6.out.trans (hb7.mono HSB.out))
     clear hbu7 hb7
     go_wp2
     exact ⟨⟨i+1,HI.out,by go_num,HBU7.out,HST.out HYES.out,HB7.out⟩,by have:=HI.out;simp [intOf];omega⟩
    ·have HANS:=yh (HNO.out hno)
     clear hno
     go_wp2
     go_ret2
     exact ⟨.inr ⟨HANS.out,rfl⟩,HB6.out⟩
   ·obtain rfl:i=n:=by omega
    have hall:=hok
    rw [List.take_of_length_le (by rw [HL.out];exact Nat.le_refl _)] at hall HBU
    have HANS:Hid (OkT xs):=⟨HRP.out,hall⟩
    have HTX:Hid (hdT i++lnsT xs=txt xs):=by show _=_;unfold txt;rw [HL.out]
    have hlen:(txt xs).length≤100000000:=by
     rw [← HTX.out,List.length_append]
     have h1:=HLN.out i (Nat.le_refl _)
     rw [List.take_of_length_le (by rw [HL.out];exact Nat.le_refl _)] at h1
     have:=HHL.out
     omega
    rw [HTX.out] at HBU
    have HST:=yh (Tryz.Builder_String_any b b (txt xs) wr (.inr HBU.out) (Nat.le_of_lt HBU.out.lt))
    have HSE:=yh (fun W (hW:Laid W) =>zDd (txt xs) hlen W hW)
    obtain ⟨sT,hsT⟩:∃ sT,sT=tx (txt xs):=⟨_,rfl⟩
    obtain ⟨sU,hsU⟩:∃ sU,sU=tx (zAc (txt xs)):=⟨_,rfl⟩
    have hsT2:(⟨(txt xs).toArray⟩:ByteArray)=sT:=hsT.symm
    have HSU:=yh hsU
    clear hbu hok hb hlt hall hlen HBU
    go_wp2_with fail
    refine HST.out.mono ?_
    rintro e w5 ⟨rfl,hb5⟩
    have HB5:=yh (HB.out.trans (hb5.mono HSB.out))
    clear hb5
    go_wp2_with fail
    refine (HSE.out _ (HLAID.out.below HB5.out)).mono ?_
    rintro e w6 ⟨rfl,hb6⟩
    have HB6:=yh (HB5.out.trans (hb6.mono HB5.out.size))
    clear hb6
    rw [← HSU.out]
    go_wp2
    go_ret2
    exact ⟨.inl ⟨HANS.out,by rw [← HSU.out];rfl⟩,HB6.out⟩
 ·have HRP:=yh hr
  clear h hg hl hp hr
  go_enter Tryz.func11,Tryz.ntmps11
  go_wp2_with fail
  refine HR.out.mono ?_
  rintro e w1 ⟨he,hb1⟩
  obtain rfl:=he.no HRP.out
  have HB1:=yh hb1
  clear hb1 he
  go_wp2
  go_ret2
  exact ⟨.inr ⟨fun h =>HRP.out h.1,rfl⟩,HB1.out⟩
def PutI (w:World) (x:Rw) (wr:World) (va:Value) (zs:List Rw):Prop :=
 wr.ownsRow (w.heap.size+1) 37 7 va zs.length (rws zs)∧wr.heap[w.heap.size]? = some (.cells #[.int .i64 x.r.kind,.string (tx x.r.target),.int .u64 x.r.rule,.slice x.A x.n x.c,.int .u64 x.r.out,.int .u64 x.r.time,.string (tx x.r.tag)] 37 (0,0))∧Below w.heap.size w wr
theorem PutI.drewN {w wr:World} {x:Rw} {va:Value} {zs:List Rw} (h:PutI w x wr va zs) (q:Nat):PutI w x (wr.drewN q) va zs:=⟨h.1,h.2.1,zBS h.2.2 q⟩
def isS (l:List UInt8):Bool:=Lib.hasPrefix l [115,117,109,32] && (rans (Lib.trimPrefix l [115,117,109,32]++Lib.trimPrefix l [115,117,109,32])).2
theorem zIB (l p:List UInt8):(Lib.trimPrefix l p).length≤l.length:=by
 unfold Lib.trimPrefix
 split
 ·rw [List.length_drop];omega
 ·exact Nat.le_refl _
theorem zDH (l:List UInt8):(tx l).data.toList=l:=by simp [tx]
theorem zFx (l:List UInt8) (hl:l.length≤5000) (w:World) :
  Calls Tryz.prog 47 #[.string (tx l)] w fun e w' =>e=.returned (.bool (isS l))∧w'=w:=by
 obtain ⟨d,hd⟩:∃ d,d=Lib.trimPrefix l [115,117,109,32]:=⟨_,rfl⟩
 obtain ⟨p,hp⟩:∃ p,p=Lib.hasPrefix l [115,117,109,32]:=⟨_,rfl⟩
 have hdl:d.length≤5000:=by rw [hd];exact Nat.le_trans (zIB _ _) hl
 have hi:isS l=(p && (rans (d++d)).2):=by unfold isS;rw [← hd,← hp]
 have HC:Hid (Calls Tryz.prog 78 #[.string (tx l),.string { data:=#[115,117,109,32] }] w fun e w' =>e=.returned (.tuple #[.string (tx d),.bool p])∧w'=w):=by
  refine (Tryz.strings_CutPrefix (tx l) { data:=#[115,117,109,32] } w).mono ?_
  rintro e w' ⟨rfl,rfl⟩
  rw [hd,hp,zDH]
  exact ⟨rfl,rfl⟩
 have HR:=yh (zFE (d++d) (by rw [List.length_append];omega) w)
 have hadd:∀ W:World,(Op.stringOp .add (tx d) (tx d)).run Tryz.prog W=.ok (.string (tx (d++d))) W:=fun W =>zAa W d d (by omega)
 have HI:=yh hi
 clear hd hp hi hdl
 rw [HI.out]
 go_enter Tryz.func47,Tryz.ntmps47
 go_wp2_with fail
 refine HC.out.mono ?_
 rintro e w2 ⟨rfl,hw⟩
 obtain rfl:=hw.symm
 go_wp2_with fail
 unfold rav at HR
 refine HR.out.mono ?_
 rintro e w3 ⟨rfl,hw⟩
 obtain rfl:=hw
 cases p with
 | false =>
  go_wp2
  go_ret
  exact ⟨rfl,rfl⟩
 | true =>
  go_wp2
  go_ret
  exact ⟨rfl,rfl⟩
def kOf (T:List UInt8):Nat:=(Lib.lastIndex (Lib.trimSuffix T [10]) [10]+1).toNat
def unsO (T:List UInt8):List UInt8×Int:=if (Lib.hasSuffix T [10] && isS ((Lib.trimSuffix T [10]).drop (kOf T)))=true then (if zAc (T.take (kOf T))=T then (T.take (kOf T),0) else ([],4)) else ([],3)
theorem zCX (s sub:List UInt8):∀ k,-1≤Lib.lastOcc s sub k∧Lib.lastOcc s sub k<k+0∨Lib.lastOcc s sub k = -1
 | 0 =>.inr rfl
 | k+1 =>by
  rw [Lib.lastOcc]
  split
  ·left;omega
  ·rcases zCX s sub k with h | h
   ·left;omega
   ·right;exact h
theorem zDO (s:List UInt8) (c:UInt8):-1≤Lib.lastIndex s [c]∧Lib.lastIndex s [c]+1≤s.length:=by
 unfold Lib.lastIndex
 split
 ·rename_i h
  rcases zCX s [c] (s.length - [c].length+1) with h1 | h1
  ·simp only [List.length_singleton] at h h1 ⊢;omega
  ·rw [h1];omega
 ·omega
theorem zIC (l p:List UInt8):(Lib.trimSuffix l p).length≤l.length:=by
 unfold Lib.trimSuffix
 split
 ·rw [List.length_take];omega
 ·exact Nat.le_refl _
theorem zCp (T:List UInt8) (hT:T.length≤5000) (w:World) (hl:Laid w) :
  Calls Tryz.prog 20 #[.string (tx T)] w fun e w' =>e=.returned (.tuple #[.string (tx (unsO T).1),.int .i64 (unsO T).2])∧Below w.heap.size w w':=by
 obtain ⟨all,hall⟩:∃ all,all=Lib.trimSuffix T [10]:=⟨_,rfl⟩
 obtain ⟨ok,hok⟩:∃ ok,ok=Lib.hasSuffix T [10]:=⟨_,rfl⟩
 obtain ⟨k,hk⟩:∃ k,k=kOf T:=⟨_,rfl⟩
 have hal:all.length≤T.length:=by rw [hall];exact zIC _ _
 have hb:=zDO all 10
 have hkk:(k:Int)=Lib.lastIndex all [10]+1:=by rw [hk];unfold kOf;rw [← hall];omega
 have hu:unsO T=if (ok && isS (all.drop k))=true then (if zAc (T.take k)=T then (T.take k,0) else ([],4)) else ([],3):=by unfold unsO;rw [← hall,← hok,← hk]
 have HC:Hid (Calls Tryz.prog 45 #[.string (tx T),.string { data:=#[10] }] w fun e w' =>e=.returned (.tuple #[.string (tx all),.bool ok])∧w'=w):=by
  refine (Tryz.strings_CutSuffix (tx T) { data:=#[10] } w (by rw [zAN];omega)).mono ?_
  rintro e w' ⟨rfl,rfl⟩
  rw [hall,hok,zDH]
  exact ⟨rfl,rfl⟩
 have HLI:Hid (Calls Tryz.prog 46 #[.string (tx all),.string { data:=#[10] }] w fun e w' =>e=.returned (.int .i64 ((k:Int) - 1))∧w'=w):=by
  refine (Tryz.strings_LastIndex (tx all) { data:=#[10] } (by rw [zAN];omega) w).mono ?_
  rintro e w' ⟨rfl,rfl⟩
  rw [zDH]
  refine ⟨?_,rfl⟩
  rw [hkk]
  show Ending.returned (.int .i64 (Lib.lastIndex all [10]))=_
  rw [Int.add_sub_cancel]
 have HIS:=yh (zFx (all.drop k) (by rw [List.length_drop];omega) w)
 have HSE:=yh (zDd (T.take k) (by rw [List.length_take];omega) w hl)
 have hka:k≤all.length:=by omega
 have HU:=yh hu
 have hex1:(tx all).extract k (tx all).size=tx (all.drop k):=by rw [zBM,zAN,List.take_length]
 have hex2:(tx T).extract 0 k=tx (T.take k):=by rw [zBM];simp
 have g1:(k:Int)≤((tx all).size:Int):=by rw [zAN];omega
 have g2:(k:Int)≤((tx T).size:Int):=by rw [zAN];omega
 have g3:(0:Int)≤(k:Int):=by omega
 obtain ⟨b,hb2⟩:∃ b,b=isS (all.drop k):=⟨_,rfl⟩
 rw [← hb2] at HIS
 have hTB:((tx (zAc (T.take k))).toList == (tx T).toList)=decide (zAc (T.take k)=T):=by rw [zBD (a:=T)];exact zAb _ T
 obtain ⟨S,hS⟩:∃ S,S=zAc (T.take k):=⟨_,rfl⟩
 rw [← hS] at HSE hTB
 have HU2:Hid (unsO T=if (ok && b)=true then (if S=T then (T.take k,0) else ([],4)) else ([],3)):=by rw [hb2,hS];exact HU.out
 clear hall hok hk hb hkk hu hl hb2 hS HU
 have hkw:wrap64 ((k:Int) - 1+1)=(k:Int):=by simp [wrap64];omega
 go_enter Tryz.func20,Tryz.ntmps20
 go_wp2_with fail
 refine HC.out.mono ?_
 rintro e w2 ⟨rfl,hw⟩
 obtain rfl:=hw.symm
 go_wp2_with fail
 refine HLI.out.mono ?_
 rintro e w2 ⟨rfl,hw⟩
 obtain rfl:=hw.symm
 cases ok with
 | false =>
  go_wp2
  go_ret2
  exact ⟨by rw [HU2.out];rfl,Below.refl _ _⟩
 | true =>
  go_wp2_with fail
  refine HIS.out.mono ?_
  rintro e w2 ⟨rfl,hw⟩
  obtain rfl:=hw.symm
  cases b with
  | false =>
   go_wp2
   go_ret2
   exact ⟨by rw [HU2.out];rfl,Below.refl _ _⟩
  | true =>
   go_wp2_with fail
   refine HSE.out.mono ?_
   rintro e w3 ⟨rfl,hb3⟩
   have HB3:=yh hb3
   by_cases hST:S=T
   ·rw [decide_eq_true hST] at hTB
    have hTB2:((tx S).toList != (tx T).toList)=false:=by rw [bne,hTB];rfl
    have HST:=yh hST
    clear hST hb3
    go_wp2
    go_ret2
    exact ⟨by rw [HU2.out];simp [HST.out],HB3.out⟩
   ·rw [decide_eq_false hST] at hTB
    have hTB2:((tx S).toList != (tx T).toList)=true:=by rw [bne,hTB];rfl
    have HST:Hid (¬ S=T):=hST
    clear hST hb3
    go_wp2
    go_ret2
    exact ⟨by rw [HU2.out];simp [HST.out];rfl,HB3.out⟩
end Go.Proofs.YtgoklhoaedceaaaGreatDoor
