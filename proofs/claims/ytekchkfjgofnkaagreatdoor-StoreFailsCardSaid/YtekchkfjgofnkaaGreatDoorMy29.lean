/- Texts of one proof. -/
import Derived.LaidMore
import Derived.MakeChecks
import Derived.Test.YtekchkfjgofnkaaGreatDoorRows
import Derived.Test.YtekchkfjgofnkaaGreatDoorMy28
set_option maxRecDepth 100000
set_option maxHeartbeats 8000000
namespace Go.Proofs.YtekchkfjgofnkaaGreatDoor
open Go.RowKit
attribute [local go_sem] Oper.semAt_some
theorem zKb (ver:Int) (P:Option Addr) (nP cP:Nat) (w:World) :
  Calls Tryz.prog 79 #[.int .i64 ver,.slice P nP cP] w fun e w' =>e=.returned (.func (.func 102) #[] #[.pointer (some ⟨w.heap.size,0,none⟩),.pointer (some ⟨w.heap.size+1,0,none⟩)])∧w'=(w.alloc (.cells #[.int .i64 ver] 3)).alloc (.cells #[.slice P nP cP] 123):=by
 refine (callsIn_wide (n:=1)).1 ?_
 refine callsIn_of_wp Tryz.func79 rfl trivial ?_ rfl
 simp only [Tryz.ntmps79,List.size_toArray,List.length_cons,List.length_nil,Nat.reduceAdd,Nat.reduceSub,Array.replicate_succ,Array.replicate_zero,List.push_toArray,List.append_toArray,List.nil_append,List.cons_append]
 gi_wp2
 go_ret
 exact ⟨rfl,rfl⟩
theorem zJl {w:World} {B b n1 bf:Nat} {P:Option Addr} {cP:Nat} {gs:List Got} {cs:Array Value} {t:TypeId} (hm:∀ x ∈ gs,Mine w B x.1 x.2.1) (ho:w.ownsRow b 59 1 (.slice P gs.length cP) gs.length (gs.map (·.1))) (hbf:w.heap[bf]? = some (.cells cs t (0,0))) (ht1:59≠t) (ht2:5≠t) (hn:w.heap.size≤n1) :
  PlsT w n1 (fun k =>k=bf∨n1≤k) P gs.length cP (gs.map (·.2.1)):=by
 refine ⟨zGj ho,by simp,gs.map (·.1),(zAD.of_own ho).more hn,fun ad e _ hs =>?_,fun i p hp =>?_⟩
 ·subst e
  rcases hs with h | h
  ·exact zAa ho hbf ht1 (by rw [← h];rfl)
  ·have:=zAP ho ad.block rfl;omega
 ·rw [List.getElem?_map] at hp
  obtain ⟨x,hx,rfl⟩:=Option.map_eq_some_iff.1 hp
  rcases hm x (List.mem_of_getElem? hx) with ⟨h1,h2⟩ | ⟨g,c,cs2,f,h1,h2,h3,h4,h5,h6⟩
  ·refine ⟨none,0,by rw [List.getElem?_map,hx];show some x.1=_;rw [h1,h2];rfl,by rw [h2];exact Nat.le_refl _,by rw [h2];exact ⟨rfl,fun h =>absurd h (by simp)⟩,fun ad e =>by cases e⟩
  ·have hg:=zAg h4
   refine ⟨some ⟨g,0,none⟩,c,by rw [List.getElem?_map,hx];show some x.1=_;rw [h1],h2,⟨by simp,fun _ =>⟨_,rfl,by show g<_;omega,fun j u hu =>?_⟩⟩,fun ad e _ hs =>?_⟩
   ·rw [show (⟨g,0,none⟩:Addr).add j=⟨g,j,none⟩ from by unfold Addr.add;split <;> simp_all]
    simp [World.cell?,h4,h6 j u hu]
   ·obtain rfl:(⟨g,0,none⟩:Addr)=ad:=Option.some.inj e
    rcases hs with h | h
    ·subst h
     rw [h4] at hbf
     injection hbf with hbf
     injection hbf with _ hbf
     exact ht2 hbf
    ·have h':n1≤g:=h
     omega
def zEs (w W0:World) (n1 bf:Nat) (vi:Int) (F:List (List UInt8×Nat)) (pre:List Hnd) (W:World):Prop :=
 (∃ (A E:Option Addr) (c d:Nat),W.heap[bf]? = some (.cells #[.int .i64 vi,.slice A pre.length c,.slice E pre.length d,.int .i64 (zDf F (pre.map sayH):Int)] 48 (0,0))∧W.ownsRow n1 41 7 (.slice A pre.length c) pre.length (rws (pre.map (·.1)))∧W.ownsRow n1 3 1 (.slice E pre.length d) pre.length ((pre.map sayH).map (endV F))) ∧
 (∀ k,k<n1→k≠bf→W.heap[k]? = W0.heap[k]?)∧Below w.heap.size w W∧n1≤W.heap.size
theorem zHy {w:World} {base size n:Nat} {e:TypeId} {v:Value} {xs:List Value} (h:w.ownsRow base e size v n xs):∀ r,v.ownBlock=some r→base≤r∧∃ cs f,w.heap[r]? = some (.cells cs e f):=by
 intro r hr
 rcases h.2 with ⟨e1,_⟩ | ⟨g,cap,cur,e1,hb,hh,_⟩
 ·rw [e1] at hr;simp [Value.ownBlock] at hr
 ·rw [e1] at hr
  obtain rfl:g=r:=by simpa [Value.ownBlock] using hr
  exact ⟨hb,_,_,hh⟩
theorem zEs.gk {w W0:World} {n1 bf:Nat} {vi:Int} {F:List (List UInt8×Nat)} {pre:List Hnd} {A B:World} (h:zEs w W0 n1 bf vi F pre A) (hg:GK n1 A B) (hbf:bf<n1:=by omega) (hn:w.heap.size≤n1:=by omega):zEs w W0 n1 bf vi F pre B:=by
 obtain ⟨⟨A1,E,c,d,h1,h2,h3⟩,h4,h5,h6⟩:=h
 have hr:∀ (e:TypeId) (base size n:Nat) (v:Value) (xs:List Value),e≠9→e≠170→A.ownsRow base e size v n xs→B.ownsRow base e size v n xs:=fun e base size n v xs e1 e2 ho =>zAR ho fun g hgg =>by
  obtain ⟨_,cs,f,hh⟩:=zHy ho g hgg
  exact (hg.2.2.2.2 g _ hh (.inr fun ht =>by
   rcases ht with ⟨_,_,h7⟩ | ⟨_,_,h7⟩ | ⟨_,_,h7⟩
   ·injection h7 with _ h8;exact e1 h8
   ·injection h7 with _ h8;exact e2 h8
   ·cases h7)).trans hh.symm
 refine ⟨⟨A1,E,c,d,hg.2.2.2.2 bf _ h1 (.inl hbf),hr _ _ _ _ _ _ (by decide) (by decide) h2,hr _ _ _ _ _ _ (by decide) (by decide) h3⟩,fun k hk hne =>?_,⟨hg.1.trans h5.os,hg.2.1.trans h5.tape,hg.2.2.1.trans h5.output,Nat.le_trans h5.size hg.2.2.2.1,fun k hk =>?_⟩,Nat.le_trans h6 hg.2.2.2.1⟩
 ·have ho:A.heap[k]? = some A.heap[k]:=Array.getElem?_eq_getElem (by omega)
  exact (hg.2.2.2.2 k _ ho (.inl hk)).trans (ho.symm.trans (h4 k hk hne))
 ·have hks:k<A.heap.size:=Nat.lt_of_lt_of_le hk h5.size
  have ho:A.heap[k]? = some A.heap[k]:=Array.getElem?_eq_getElem hks
  exact (hg.2.2.2.2 k _ ho (.inl (Nat.lt_of_lt_of_le hk hn))).trans (ho.symm.trans (h5.block k hk))
theorem zEs.put {w W0:World} {n1 bf:Nat} {vi:Int} {F:List (List UInt8×Nat)} {pre:List Hnd} {W:World} {l:Nat} {o o':Obj} (h:zEs w W0 n1 bf vi F pre W) (hl:n1≤l) (hn:w.heap.size≤n1) (ho:W.heap[l]? = some o) (hc:∃ L,o=.loop L):zEs w W0 n1 bf vi F pre (W.putObj l o'):=by
 obtain ⟨L,rfl⟩:=hc
 obtain ⟨⟨A1,E,c,d,h1,h2,h3⟩,h4,h5,h6⟩:=h
 have hr:∀ (e:TypeId) (base size n:Nat) (v:Value) (xs:List Value),W.ownsRow base e size v n xs→(W.putObj l o').ownsRow base e size v n xs:=fun e base size n v xs hw =>zAR hw fun g hgg =>by
  obtain ⟨_,cs,f,hh⟩:=zHy hw g hgg
  exact World.putObj_heap_other (fun e2 =>by subst e2;rw [ho] at hh;cases hh)
 refine ⟨⟨A1,E,c,d,(World.putObj_heap_other (fun e2 =>by subst e2;rw [ho] at h1;cases h1)).trans h1,hr _ _ _ _ _ _ h2,hr _ _ _ _ _ _ h3⟩,fun k hk hne =>(World.putObj_heap_other (by omega)).trans (h4 k hk hne),(h5.grown (grownBy_putObj' W l o') (by have:=h5.size;omega) (fun k e =>by cases e;omega)),by have:=(grownBy_putObj' W l o').size;omega⟩
theorem zIW (W:World) (b i:Nat) (u:Value):W.grownBy (W.setCell ⟨b,i,none⟩ u) (some b) :=
 ⟨rfl,rfl,rfl,by simp,fun k _ hk =>by
  have h:k≠b:=fun e =>hk (by rw [e])
  simp [World.setCell,Array.getElem?_modify,Ne.symm h]⟩
theorem zGN {n0 n1 bf:Nat} {W W':World} {row:Option Nat} (hg:W.grownBy W' row) (hn0:n0≤W.heap.size) (h:∀ r,row=some r→n0≤r∧(r=bf∨n1≤r)∧∃ cs t f,W.heap[r]? = some (.cells cs t f)∧t≠9∧t≠170∧t≠95):KeepsOthers W W'∧KpR n0 n1 bf W W':=by
 refine ⟨⟨hg.size,fun k o hk hc =>?_⟩,(Below.refl n0 W).grown hg hn0 (fun r e =>(h r e).1),fun k o hk hc =>?_⟩
 ·refine (hg.block k (zAg hk) (fun e =>?_)).trans hk
  obtain ⟨_,_,cs,t,f,h4,_⟩:=h k e.symm
  rw [hk] at h4
  obtain rfl:=Option.some.inj h4
  cases hc
 ·refine (hg.block k (zAg hk) (fun e =>?_)).trans hk
  obtain ⟨_,h2,cs,t,f,h4,h5,h6,h7⟩:=h k e.symm
  rw [hk] at h4
  obtain rfl:=Option.some.inj h4
  rcases hc with ⟨h8,h9⟩ | h8 | ⟨_,_,h8⟩
  ·rcases h2 with h2 | h2
   ·exact h9 h2
   ·omega
  ·rcases h8 with ⟨_,_,h8⟩ | ⟨_,_,h8⟩ | ⟨_,_,h8⟩
   ·injection h8 with _ h8;exact h5 h8
   ·injection h8 with _ h8;exact h6 h8
   ·cases h8
  ·injection h8 with _ h8;exact h7 h8
theorem zQn (A:Option Addr) (n c:Nat) (bs:List UInt8) (hc:n≤c) (hn:n≤1073741824) (v:Nat) (hv:vg bs=(v,0)) (F:List (List UInt8×Nat)) (hF:F=frun (n+1) 8 bs) (hFl:F.length≤20000) (ps:List (List UInt8)) (hps:ps=F.map (·.1)) (xs:List Rdd) (hxl:xs.length≤2000)
  (hup:∀ (i:Nat) (x:Rdd),xs[i]? = some x→atO (xs.take i)<x.2.2∧x.2.2≤ps.length∧UP (v:Int) (tbO (v:Int) (xs.take i)) ps (atO (xs.take i):Int) x.1 x.2.1 (x.2.2:Int) 0 (tabT (v:Int) (tbO (v:Int) (xs.take i)) x.1 x.2.1))
  (e9:Int) (he9:e9≠0) (hstop:UP (v:Int) (tbO (v:Int) xs) ps (atO xs:Int) rc0 [] 0 e9 (tbO (v:Int) xs)) (w:World) (hl:Laid w) (hr:zAD w w.heap.size 1 A n (bs.map bv)) :
  Calls Tryz.prog 47 #[.slice A n c] w fun e w' =>(∃ (A' E:Option Addr) (c' d:Nat) (zs:List Rw),e=.returned (.tuple #[.agg #[.int .i64 (v:Int),.slice A' xs.length c',.slice E xs.length d,.int .i64 (zDf F xs:Int)],.int .i64 0])∧zCD F xs w.heap.size (.slice A' xs.length c') (.slice E xs.length d) zs w')∧Below w.heap.size w w':=by
 have hbl:bs.length=n:=by have:=hr.1;simpa using this
 have h8:8≤n:=by
  rcases Nat.lt_or_ge bs.length 8 with h | h
  ·unfold vg at hv
   rw [if_pos h] at hv
   cases hv
  ·omega
 have h0:=zAE w (.cells #[.int .i64 0,.slice none 0 0,.slice none 0 0,.int .i64 0] 48)
 have hb0:=(Below.refl w.heap.size w).alloc (Nat.le_refl _) (.cells #[.int .i64 0,.slice none 0 0,.slice none 0 0,.int .i64 0] 48)
 have HA:=yh h0
 have HB:=yh hb0
 have hver:=zKm A n c bs hc hn (w.alloc (.cells #[.int .i64 0,.slice none 0 0,.slice none 0 0,.int .i64 0] 48)) (hl.below hb0) ((hr.below hb0).more hb0.size)
 rw [hv] at hver
 have HV:Hid (Calls Tryz.prog 77 #[.slice A n c] (w.alloc (.cells #[.int .i64 0,.slice none 0 0,.slice none 0 0,.int .i64 0] 48)) fun e w' =>e=.returned (.tuple #[.int .i64 (v:Int),.int .i64 0])∧Below (w.alloc (.cells #[.int .i64 0,.slice none 0 0,.slice none 0 0,.int .i64 0] 48)).heap.size (w.alloc (.cells #[.int .i64 0,.slice none 0 0,.slice none 0 0,.int .i64 0] 48)) w'):=hver
 have HRUN:=yh (fun (W:World) (hW:Below w.heap.size w W) =>zSU A n c 8 bs hc hn h8 W (hl.below hW) ((hr.below hW).more hW.size))
 obtain ⟨vi,hvi⟩:∃ vi:Int,vi=(v:Int):=⟨_,rfl⟩
 simp only [← hvi] at HV hup hstop ⊢
 have HUP:=yh hup
 have HSTOP:=yh hstop
 have HPS:=yh hps
 have HFE:=yh hF
 have HXL:=yh hxl
 obtain ⟨ii,hiI,hiA,hiB,hiC⟩:=info_parts zJV
 obtain ⟨ig,hgI,hgA,hgB,hgC⟩:=info_parts (show (Tryz.prog.info? 41).map (fun i =>(i.zero,i.size,i.bytes))=some (some (.agg #[.int .i64 0,.string ⟨#[]⟩,.int .u64 0,.slice none 0 0,.int .u64 0,.int .u64 0,.string ⟨#[]⟩]),7,88) from by kernel_rfl)
 clear h0 hb0 hver hup hstop hps hF hxl hv hvi h8 hl hr
 refine (callsIn_wide (n:=4)).1 ?_
 refine callsIn_of_wp_marks Tryz.func47 rfl trivial ?_ rfl
 refine wpIn_wide.2 ?_
 simp only [Tryz.ntmps47,List.size_toArray,List.length_cons,List.length_nil,Nat.reduceAdd,Nat.reduceSub,Array.replicate_succ,Array.replicate_zero,List.push_toArray,List.append_toArray,List.nil_append,List.cons_append]
 go_wp2_with fail
 refine HV.out.mono ?_
 rintro e w2 ⟨rfl,hb⟩
 have HX2:Hid (w2.heap[w.heap.size]? = _):=(hb.block w.heap.size (zAg HA.out)).trans HA.out
 have HB2:=yh (HB.out.trans (hb.mono HB.out.size))
 clear hb
 go_wp2_with fail
 refine (HRUN.out _ HB2.out).mono ?_
 rintro e w3 ⟨v1,v2,gs,rfl,hgF,hmine,ho1,ho2,hb⟩
 obtain ⟨P,pc,rfl,hPc⟩:=zAL ho1
 obtain ⟨EN,ec,rfl,hEc⟩:=zAL ho2
 have HX3:Hid (w3.heap[w.heap.size]? = _):=(hb.block w.heap.size (zAg HX2.out)).trans HX2.out
 have HB3:=yh (HB2.out.trans (hb.mono HB2.out.size))
 have HGF:Hid (gs.map (·.2)=F):=by show _=_;rw [HFE.out];exact hgF
 have HMI:=yh hmine
 have HO1:=yh ho1
 have HO2:=yh ho2
 have HPC:=yh hPc
 clear hgF hmine ho1 ho2 hb hPc hEc
 go_wp2_with (go_at_call 79;refine (zKb vi P gs.length pc _).mono ?_;rintro e w' ⟨rfl,rfl⟩)
 obtain ⟨W0,hW0⟩:∃ W0,W0=(((w3.alloc (.cells #[.slice EN gs.length ec] 46)).alloc (.cells #[.int .i64 vi,.slice none 0 0,.slice none 0 0,.int .i64 8] 48)).alloc (.cells #[.int .i64 vi] 3)).alloc (.cells #[.slice P gs.length pc] 123):=⟨_,rfl⟩
 rw [← hW0]
 obtain ⟨m3,hm3⟩:∃ m3,m3=w3.heap.size:=⟨_,rfl⟩
 have hsz:W0.heap.size=m3+4:=by rw [hW0,hm3];simp
 have hB0:Below w3.heap.size w3 W0:=by
  rw [hW0]
  exact ((((Below.refl _ w3).alloc (Nat.le_refl _) _).alloc (by simp) _).alloc (by simp;omega) _).alloc (by simp;omega) _
 have b7:W0.heap[m3]? = some (.cells #[.slice EN gs.length ec] 46 (0,0)):=by
  rw [hW0,hm3]
  exact (Below.heap_alloc _ _ _ (by simp;omega)).trans ((Below.heap_alloc _ _ _ (by simp;omega)).trans ((Below.heap_alloc _ _ _ (by simp)).trans (zAE w3 _)))
 have b8:W0.heap[m3+1]? = some (.cells #[.int .i64 vi,.slice none 0 0,.slice none 0 0,.int .i64 8] 48 (0,0)):=by
  have h:=zAE (w3.alloc (.cells #[.slice EN gs.length ec] 46)) (.cells #[.int .i64 vi,.slice none 0 0,.slice none 0 0,.int .i64 8] 48)
  rw [World.size_alloc] at h
  rw [hW0,hm3]
  exact (Below.heap_alloc _ _ _ (by simp)).trans ((Below.heap_alloc _ _ _ (by simp)).trans h)
 have b9:W0.heap[m3+1+1]? = some (.cells #[.int .i64 vi] 3 (0,0)):=by
  have h:=zAE ((w3.alloc (.cells #[.slice EN gs.length ec] 46)).alloc (.cells #[.int .i64 vi,.slice none 0 0,.slice none 0 0,.int .i64 8] 48)) (.cells #[.int .i64 vi] 3)
  rw [World.size_alloc,World.size_alloc] at h
  rw [hW0,hm3]
  exact (Below.heap_alloc _ _ _ (by simp)).trans h
 have b10:W0.heap[m3+1+1+1]? = some (.cells #[.slice P gs.length pc] 123 (0,0)):=by
  have h:=zAE (((w3.alloc (.cells #[.slice EN gs.length ec] 46)).alloc (.cells #[.int .i64 vi,.slice none 0 0,.slice none 0 0,.int .i64 8] 48)).alloc (.cells #[.int .i64 vi] 3)) (.cells #[.slice P gs.length pc] 123)
  rw [World.size_alloc,World.size_alloc,World.size_alloc] at h
  rw [hW0,hm3]
  exact h
 have hpsg:ps=gs.map (·.2.1):=by rw [HPS.out,← HGF.out,List.map_map];rfl
 have hpt:=zJl (n1:=m3+4) (fun x hx =>(HMI.out x hx).below hB0) (zAK HO1.out hB0) b8 (by decide) (by decide) (by omega)
 rw [← hpsg] at hpt
 have hseq:=zIq 3 w.heap.size (m3+4) (m3+1) (m3+1+1) (m3+1+1+1) (by omega) vi ps xs HXL.out P gs.length pc HUP.out e9 he9 HSTOP.out W0 hsz b9 b10 (by omega) (by omega) hpt HPC.out
 have HSEQ:=yh hseq
 have HEN0:Hid (W0.ownsRow 0 3 1 (.slice EN gs.length ec) gs.length (gs.map fun x =>tn x.2)):=zAT (zAK HO2.out hB0) (Nat.zero_le _)
 have HX0:Hid (W0.heap[w.heap.size]? = _):=(hB0.block w.heap.size (zAg HX3.out)).trans HX3.out
 have HBW0:=yh (HB3.out.trans (hB0.mono HB3.out.size))
 have HB7:=yh b7
 have HB8:=yh b8
 have HSZ:=yh hsz
 have HWM:Hid (w.heap.size≤m3):=by show _≤_;rw [hm3];exact HB3.out.size
 have HWM2:Hid (w.heap.size<m3):=by show _<_;rw [hm3];exact zAg HX3.out
 rw [← hm3]
 clear hW0 hm3 hsz hB0 b7 b8 b9 b10 hpsg hpt hseq HMI HO1 HO2 HX2 HX3
 refine (wpIn_wide (n:=4)).1 ?_
 refine zKX rfl (by omega) (gf:=102) (lb:=#[.pointer (some ⟨m3+1+1,0,none⟩),.pointer (some ⟨m3+1+1+1,0,none⟩)]) rfl trivial (enters_of Tryz.func102 (by kernel_rfl) rfl)
  (fun A B h =>zFC (m3+4) h) (zPB (m3+4)) HSEQ.out (fun _ =>rfl) (fun h k =>h.trans k) ?kb (zEs w W0 (m3+4) (m3+1) vi F) ?hT ?hS ?hI (fun _ _ _ h hg =>h.gk hg (by omega) (by have:=HWM.out;omega)) ?h0
  (fun x V =>{ tmps:=#[.slice A n c,undef,.pointer (some ⟨w.heap.size,0,none⟩),.int .i64 0,.int .i64 vi,.int .i64 0,.slice P gs.length pc,.pointer (some ⟨m3,0,none⟩),.pointer (some ⟨m3+1,0,none⟩),.pointer (some ⟨V.heap.size,0,none⟩),.int .i64 (x.2:Int),.tuple #[.int .i64 vi,.int .i64 0],.slice A n c,.tuple #[.int .i64 vi,.int .i64 0],.int .i64 vi,.int .i64 0,.int .i64 0,.bool false,undef,undef,.tuple #[.slice P gs.length pc,.slice EN gs.length ec],.slice A n c,.tuple #[.slice P gs.length pc,.slice EN gs.length ec],.slice P gs.length pc,.slice EN gs.length ec,.int .i64 vi,.agg #[.int .i64 vi,.slice none 0 0,.slice none 0 0,.int .i64 8],.int .i64 vi,.slice P gs.length pc,.func (.func 102) #[] #[.pointer (some ⟨m3+1+1,0,none⟩),.pointer (some ⟨m3+1+1+1,0,none⟩)],.agg #[.int .i64 x.1.r.kind,.string (tx x.1.r.target),.int .u64 x.1.r.rule,.slice x.1.A x.1.n x.1.c,.int .u64 x.1.r.out,.int .u64 x.1.r.time,.string (tx x.1.r.tag)],.int .i64 (x.2:Int),undef,undef,undef,undef,undef,undef,undef,undef,undef,undef,undef,undef,undef,undef,undef,undef,undef,undef,undef,undef],defers:=[] }) (fun x V =>V.alloc (.cells #[.int .i64 x.1.r.kind,.string (tx x.1.r.target),.int .u64 x.1.r.rule,.slice x.1.A x.1.n x.1.c,.int .u64 x.1.r.out,.int .u64 x.1.r.time,.string (tx x.1.r.tag)] 41)) (fun x V =>World.grownBy_alloc V _ none) ?hTg ?hKg (fun x V W =>W.heap[V.heap.size]? = some (.cells #[.int .i64 x.1.r.kind,.string (tx x.1.r.target),.int .u64 x.1.r.rule,.slice x.1.A x.1.n x.1.c,.int .u64 x.1.r.out,.int .u64 x.1.r.time,.string (tx x.1.r.tag)] 41 (0,0))) (fun x V =>zAE V _) ?hBp ?assign ?body ?done
 case kb =>
  intro W l o o' hl ho hc
  exact zHq W l o o' (by have:=HWM.out;omega) (by have:=HSZ.out;omega) ho hc
 case hT =>
  intro pre x W l o o' h hl ho hc
  exact ⟨h.1.keep fun k p hk hd =>(zHq (n0:=w.heap.size) (n1:=m3+4) (bf:=m3+1) W l o o' (by have:=HWM.out;omega) (by have:=HSZ.out;omega) ho hc).2 k p hk (.inr (.inr hd)),h.2⟩
 case hS =>
  intro ys W l o o' h hl ho hc
  exact ⟨h.1,fun y hy =>(h.2 y hy).keep fun k p hk hd =>(zHq (n0:=w.heap.size) (n1:=m3+4) (bf:=m3+1) W l o o' (by have:=HWM.out;omega) (by have:=HSZ.out;omega) ho hc).2 k p hk (.inr (.inr hd))⟩
 case hI =>
  intro pre W l o o' h hl ho hc
  exact h.put (by have:=HSZ.out;omega) (by have:=HWM.out;omega) ho hc
 case h0 =>
  exact ⟨⟨none,none,0,0,HB8.out,World.ownsRow_nil _ _ _ _,World.ownsRow_nil _ _ _ _⟩,fun k _ _ =>rfl,HBW0.out,by have:=HSZ.out;omega⟩
 case hTg =>
  intro pre x A' B' h hg
  exact ⟨h.1.gk (zFC (m3+4) hg),h.2⟩
 case hKg =>
  intro A' B' hs hg
  exact ⟨(Below.refl w.heap.size A').grown hg (by have:=HSZ.out;have:=HWM.out;omega) (by simp),fun k o hk _ =>(hg.block k (zAg hk) (by simp)).trans hk⟩
 case hBp =>
  intro x V W l o o' h hl ho hc
  obtain ⟨L,rfl⟩:=hc
  exact (World.putObj_heap_other (fun e =>by subst e;rw [ho] at h;cases h)).trans h
 case assign =>
  intro l x W K hK
  unfold hndv
  gi_wp2
  simpa using hK
 case body =>
  rintro l pre x V W hI ⟨hdx,hpx⟩ hbx
  obtain ⟨⟨A1,E,c1,d,hxf,hrec,hint⟩,hkeep,hbw,hszw⟩:=hI
  obtain ⟨z,nx⟩:=x
  obtain ⟨pn,hpn⟩:∃ pn,pn=pre.length:=⟨_,rfl⟩
  have hlt:pn<xs.length:=by
   have h1:=congrArg List.length hpx
   rw [List.length_map,List.length_append,List.length_take,List.length_singleton] at h1
   omega
  have hxi:xs[pn]? = some (z.r,z.l,nx):=by
   have h1:(xs.take (pre.length+1))[pn]? = xs[pn]?:=List.getElem?_take_of_lt (by omega)
   rw [← h1,← hpx,List.getElem?_map,List.getElem?_append_right (by omega),hpn,Nat.sub_self]
   rfl
  obtain ⟨hg1,hg2,_⟩:=HUP.out pn _ hxi
  simp only at hg1 hg2
  obtain ⟨k,rfl⟩:∃ k,nx=k+1:=⟨nx - 1,by omega⟩
  have hgl:gs.length=F.length:=by rw [← HGF.out,List.length_map]
  have hkF:k<F.length:=by rw [HPS.out,List.length_map] at hg2;omega
  obtain ⟨⟨pk,ev⟩,hfk⟩:∃ q,F[k]? = some q:=⟨_,List.getElem?_eq_getElem hkF⟩
  have hea:zDF F (k+1)=ev:=by unfold zDF;rw [show k+1 - 1=k from rfl,hfk];rfl
  have hens:W.ownsRow 0 3 1 (.slice EN gs.length ec) gs.length (gs.map fun x =>tn x.2):=zAR HEN0.out fun g hg =>hkeep g (by have:=zAP HEN0.out g hg;have:=HSZ.out;omega) (fun e =>zAa HEN0.out HB8.out (by decide) (by rw [← e];exact hg))
  obtain ⟨adE,u,rfl,_,hu,hcE⟩:=(zAD.of_own hens).at_ (k:=k) (by omega)
  obtain rfl:u=.int .i64 (ev:Int):=by
   have h1:(gs.map fun x =>tn x.2)[k]? = some (tn (pk,ev)):=by
    have h2:(gs.map fun x =>tn x.2)=F.map tn:=by rw [← HGF.out,List.map_map];rfl
    rw [h2,List.getElem?_map,hfk];rfl
   rw [h1] at hu
   exact (Option.some.inj hu).symm
  have h7:W.heap[m3]? = _:=(hkeep m3 (by omega) (by omega)).trans HB7.out
  have hc7:=zAA (i:=0) h7 rfl
  have y3:W.frozen? ⟨m3+1,3,none⟩=false:=zAC hxf
  have c3:=zAA (i:=3) hxf rfl
  have hkk0:(0:Int)≤(k:Int):=by omega
  have hkk1:(k:Int)<(gs.length:Int):=by omega
  have hkw:IntKind.i64.wrap (k:Int)=(k:Int):=by rw [zEA (by omega) (by omega)]
  have hpn1000:pn<20000:=by have:=HXL.out;omega
  rw [← hpn] at hxf hrec hint
  -- the worlds
  have hx1:(W.setCell ⟨m3+1,3,none⟩ (.int .i64 (ev:Int))).heap[m3+1]? = some (.cells #[.int .i64 vi,.slice A1 pn c1,.slice E pn d,.int .i64 (ev:Int)] 48 (0,0)):=zAF hxf 3 _
  have hg3:W.grownBy (W.setCell ⟨m3+1,3,none⟩ (.int .i64 (ev:Int))) (some (m3+1)):=zIW W (m3+1) 3 _
  obtain ⟨W1,hW1⟩:∃ W1,W1=W.setCell ⟨m3+1,3,none⟩ (.int .i64 (ev:Int)):=⟨_,rfl⟩
  rw [← hW1] at hx1 hg3
  have HX1:=yh hx1
  have HRC1:=yh (zCI hrec hg3 (zAa hrec hxf (by decide)))
  have HIN1:=yh (zCI hint hg3 (zAa hint hxf (by decide)))
  have HSTEP1:=yh (zGN (n0:=w.heap.size) (n1:=m3+4) (bf:=m3+1) hg3 hbw.size (fun r e =>by
   obtain rfl:m3+1=r:=Option.some.inj e
   exact ⟨by have:=HWM.out;omega,.inl rfl,_,_,_,hxf,by decide,by decide,by decide⟩))
  have hbx1:W1.heap[V.heap.size]? = _:=(hg3.block V.heap.size (zAg hbx) (fun e =>by
   have e1:m3+1=V.heap.size:=(Option.some.inj e).symm
   rw [← e1,hxf] at hbx
   injection hbx with hbx
   injection hbx with _ hbx
   revert hbx;decide)).trans hbx
  have HZ:Hid (∀ j u,(rws [z])[j]? = some u→(W1.alloc (.cells #[.int .i64 z.r.kind,.string (tx z.r.target),.int .u64 z.r.rule,.slice z.A z.n z.c,.int .u64 z.r.out,.int .u64 z.r.time,.string (tx z.r.tag)] 41)).cell? ((⟨W1.heap.size,0,none⟩:Addr).add j)=some u):=fun j u hju =>by
   obtain ⟨ad,e,_,h⟩:=(zCZ W1 z).2 (by omega)
   cases e
   exact h j u hju
  have HRC2:=yh (zEa HRC1.out (.cells #[.int .i64 z.r.kind,.string (tx z.r.target),.int .u64 z.r.rule,.slice z.A z.n z.c,.int .u64 z.r.out,.int .u64 z.r.time,.string (tx z.r.tag)] 41))
  have HIN2:=yh (zEa HIN1.out (.cells #[.int .i64 z.r.kind,.string (tx z.r.target),.int .u64 z.r.rule,.slice z.A z.n z.c,.int .u64 z.r.out,.int .u64 z.r.time,.string (tx z.r.tag)] 41))
  have HX2:Hid ((W1.alloc (.cells #[.int .i64 z.r.kind,.string (tx z.r.target),.int .u64 z.r.rule,.slice z.A z.n z.c,.int .u64 z.r.out,.int .u64 z.r.time,.string (tx z.r.tag)] 41)).heap[m3+1]? = _):=(Below.heap_alloc W1 (.cells #[.int .i64 z.r.kind,.string (tx z.r.target),.int .u64 z.r.rule,.slice z.A z.n z.c,.int .u64 z.r.out,.int .u64 z.r.time,.string (tx z.r.tag)] 41) (m3+1) (zAg hx1)).trans hx1
  have hsz1:W1.heap.size=W.heap.size:=by rw [hW1];simp
  have HSW1:Hid (m3+4≤W1.heap.size):=by show _≤_;omega
  have HSTEP2:=yh (zGN (n0:=w.heap.size) (n1:=m3+4) (bf:=m3+1) (World.grownBy_alloc W1 (.cells #[.int .i64 z.r.kind,.string (tx z.r.target),.int .u64 z.r.rule,.slice z.A z.n z.c,.int .u64 z.r.out,.int .u64 z.r.time,.string (tx z.r.tag)] 41) none) (by have:=HSW1.out;have:=HWM.out;omega) (fun r e =>by cases e))
  have d1:=zAA (i:=1) hx1 rfl
  have p0:=zAA (i:=0) hbx1 rfl;have p1:=zAA (i:=1) hbx1 rfl;have p2:=zAA (i:=2) hbx1 rfl;have p3:=zAA (i:=3) hbx1 rfl;have p4:=zAA (i:=4) hbx1 rfl;have p5:=zAA (i:=5) hbx1 rfl;have p6:=zAA (i:=6) hbx1 rfl
  rw [hsz1] at HZ
  rw [hW1] at d1 p0 p1 p2 p3 p4 p5 p6 HRC2 HIN2 HX2 HZ
  have HPN:=yh hpn
  have HLTP:=yh hlt
  have HEA:=yh hea
  have HKEEP:=yh hkeep
  have HBW:=yh hbw
  have HSZW:=yh hszw
  have HDX:=yh hdx
  have HW1:=yh hW1
  have HSZ2:Hid (m3+4≤((W.setCell ⟨m3+1,3,none⟩ (.int .i64 (ev:Int))).alloc (.cells #[.int .i64 z.r.kind,.string (tx z.r.target),.int .u64 z.r.rule,.slice z.A z.n z.c,.int .u64 z.r.out,.int .u64 z.r.time,.string (tx z.r.tag)] 41)).heap.size):=by show _≤_;simp;omega
  clear hxf hrec hint hkeep hbw hszw hpx hxi hg1 hg2 hgl hfk hea hens h7 hx1 hg3 hbx hbx1 hsz1 hW1 hlt hpn hdx hu
  dsimp only
  gi_wp2_with (first
   | (gi_at_builtin;refine wpListIn_append_own _ rfl (.tmp 39) (.tmp 41) 33 rfl (m3+4) 41 ig _ 7 88 Tryz.underlying33 hgI hgA hgB hgC rfl (by decide) (.slice A1 pn c1) pn (rws (pre.map (·.1))) rfl HRC2.out ⟨W.heap.size,0,none⟩ 1 1 (rws [z]) rfl rfl HZ.out (zDZ _) (by unfold maxLen;omega) (by omega) HSZ2.out ?_;intro v4 w4 ho4 hg4 _;obtain ⟨A2,c2,rfl,_⟩:=zAL ho4;have HO4:=yh ho4;have HG4:=yh hg4;have HX4:Hid (w4.heap[m3+1]? = _):=(hg4.block (m3+1) (zAg HX2.out) (fun e =>zAa HRC2.out HX2.out (by decide) e.symm)).trans HX2.out;clear ho4 hg4 d1 p0 p1 p2 p3 p4 p5 p6;have d1:=zAA (i:=1) HX4.out rfl;have y1:w4.frozen? ⟨m3+1,1,none⟩=false:=zAC HX4.out;have hx5:=zAF HX4.out 1 (.slice A2 (pn+1) c2);have HX5:Hid ((w4.setCell ⟨m3+1,1,none⟩ (.slice A2 (pn+1) c2)).heap[m3+1]? = some (.cells #[.int .i64 vi,.slice A2 (pn+1) c2,.slice E pn d,.int .i64 (ev:Int)] 48 (0,0))):=hx5;have e2:=zAA (i:=2) HX5.out rfl;have e3:=zAA (i:=3) HX5.out rfl;clear hx5;have hin4:=zDw HRC2.out HIN2.out (by decide) HG4.out;have hn4:=zAa hin4 HX4.out (by decide);have hn4r:=zAa HO4.out HX4.out (by decide);have HIN5:Hid ((w4.setCell ⟨m3+1,1,none⟩ (.slice A2 (pn+1) c2)).ownsRow (m3+4) 3 1 (.slice E pn d) pn ((pre.map sayH).map (endV F))):=zAR hin4 (fun g h =>zEZ (fun e =>hn4 (by rw [← e];exact h)) 1 _);have HRC5:Hid ((w4.setCell ⟨m3+1,1,none⟩ (.slice A2 (pn+1) c2)).ownsRow (m3+4) 41 7 (.slice A2 (pn+1) c2) (pn+1) (rws (pre.map (·.1))++rws [z])):=zAR HO4.out (fun g h =>zEZ (fun e =>hn4r (by rw [← e];exact h)) 1 _);have HS4:Hid (m3+4≤w4.heap.size):=Nat.le_trans HSZ2.out HG4.out.size;have HIN5A:=yh (zEa HIN5.out (.cells #[.int .i64 (ev:Int)] 3));have HRC5A:=yh (zEa HRC5.out (.cells #[.int .i64 (ev:Int)] 3));have HX5A:Hid (((w4.setCell ⟨m3+1,1,none⟩ (.slice A2 (pn+1) c2)).alloc (.cells #[.int .i64 (ev:Int)] 3)).heap[m3+1]? = _):=(Below.heap_alloc _ _ (m3+1) (zAg HX5.out)).trans HX5.out;have HCE5:Hid (∀ j u,[(Value.int .i64 (ev:Int))][j]? = some u→((w4.setCell ⟨m3+1,1,none⟩ (.slice A2 (pn+1) c2)).alloc (.cells #[.int .i64 (ev:Int)] 3)).cell? ((⟨w4.heap.size,0,none⟩:Addr).add j)=some u):=(by have h:=cell_one_new (w4.setCell ⟨m3+1,1,none⟩ (.slice A2 (pn+1) c2)) (.int .i64 (ev:Int)) 3;rw [show (w4.setCell ⟨m3+1,1,none⟩ (.slice A2 (pn+1) c2)).heap.size=w4.heap.size by simp] at h;exact h);clear hin4 hn4 hn4r)
   | (gi_at_builtin;refine wpListIn_append_own _ rfl (.tmp 45) (.tmp 48) 46 rfl (m3+4) 3 ii _ 1 8 Tryz.underlying46 hiI hiA hiB hiC rfl (by decide) (.slice E pn d) pn ((pre.map sayH).map (endV F)) rfl HIN5A.out ⟨w4.heap.size,0,none⟩ 1 1 [.int .i64 (ev:Int)] rfl rfl HCE5.out (by simp [Value.oneCell']) (by unfold maxLen;omega) (by omega) (by have:=HS4.out;simp;omega) ?_;intro v6 w6 ho6 hg6 _;obtain ⟨E2,d2,rfl,_⟩:=zAL ho6;have HO6:=yh ho6;have HG6:=yh hg6;have HX6:Hid (w6.heap[m3+1]? = _):=(hg6.block (m3+1) (zAg HX5A.out) (fun e =>zAa HIN5A.out HX5A.out (by decide) e.symm)).trans HX5A.out;clear ho6 hg6 d1 y1 e2 e3;have d2x:=zAA (i:=2) HX6.out rfl;have y2:w6.frozen? ⟨m3+1,2,none⟩=false:=zAC HX6.out))
  have hn0:w.heap.size≤m3+4:=by have:=HWM.out;omega
  have hrow:∀ (e:TypeId) (A':Option Addr) (q cc sz:Nat) (X:World) (vs:List Value),e≠9→e≠170→e≠95→X.ownsRow (m3+4) e sz (.slice A' q cc) q vs→∀ r,(Value.slice A' q cc).ownBlock=some r→w.heap.size≤r∧(r=m3+1∨m3+4≤r)∧∃ cs t f,X.heap[r]? = some (.cells cs t f)∧t≠9∧t≠170∧t≠95:=fun e A' q cc sz X vs h1 h2 h3 ho r hr =>by
   obtain ⟨hb,cs,f,hh⟩:=zHy ho r hr
   exact ⟨by omega,.inr hb,cs,e,f,hh,h1,h2,h3⟩
  have hset:∀ (X:World) (j:Nat) (u:Value) (cs:Array Value) (f:Nat×Nat),m3+4≤X.heap.size→X.heap[m3+1]? = some (.cells cs 48 f)→KeepsOthers X (X.setCell ⟨m3+1,j,none⟩ u)∧KpR w.heap.size (m3+4) (m3+1) X (X.setCell ⟨m3+1,j,none⟩ u):=fun X j u cs f hs hx =>zGN (zIW X (m3+1) j u) (by omega) (fun r e =>by
   obtain rfl:m3+1=r:=Option.some.inj e
   exact ⟨by have:=HWM.out;omega,.inl rfl,_,_,_,hx,by decide,by decide,by decide⟩)
  have t1:=HSTEP1.out
  have t2:=HSTEP2.out
  rw [HW1.out] at t1 t2
  have t3:=zGN (n0:=w.heap.size) (n1:=m3+4) (bf:=m3+1) HG4.out (by have:=HSZ2.out;omega) (hrow _ _ _ _ _ _ _ (by decide) (by decide) (by decide) HRC2.out)
  have t4:=hset w4 1 (.slice A2 (pn+1) c2) _ _ HS4.out HX4.out
  have t5:=zGN (n0:=w.heap.size) (n1:=m3+4) (bf:=m3+1) (World.grownBy_alloc (w4.setCell ⟨m3+1,1,none⟩ (.slice A2 (pn+1) c2)) (.cells #[.int .i64 (ev:Int)] 3) none) (by have:=HS4.out;simp;omega) (fun r e =>by cases e)
  have t6:=zGN (n0:=w.heap.size) (n1:=m3+4) (bf:=m3+1) HG6.out (by have:=HS4.out;simp;omega) (hrow _ _ _ _ _ _ _ (by decide) (by decide) (by decide) HIN5A.out)
  have hs6:m3+4≤w6.heap.size:=Nat.le_trans (by have:=HS4.out;simp;omega) HG6.out.size
  have t7:=hset w6 2 (.slice E2 (pn+1) d2) _ _ hs6 HX6.out
  have hkp:=(((((t1.2.trans t2.2).trans t3.2).trans t4.2).trans t5.2).trans t6.2).trans t7.2
  have hko:=(((((t1.1.trans t2.1).trans t3.1).trans t4.1).trans t5.1).trans t6.1).trans t7.1
  have hrc6:=zDw HIN5A.out HRC5A.out (by decide) HG6.out
  have hn6:=zAa hrc6 HX6.out (by decide)
  have hn7:=zAa HO6.out HX6.out (by decide)
  have hlp:(pre++[(z,k+1)]).length=pn+1:=by rw [List.length_append,← HPN.out];rfl
  refine ⟨hko,hkp,⟨A2,E2,c2,d2,?_,?_,?_⟩,fun j hj hne =>?_,HBW.out.trans hkp.1,Nat.le_trans HSZW.out hko.size⟩
  ·rw [hlp,List.map_append]
   have h1:zDf F (pre.map sayH++[(z,k+1)].map sayH)=ev:=by
    show zDf F (pre.map sayH++[(z.r,z.l,k+1)])=ev
    rw [zHL];exact HEA.out
   rw [h1]
   exact zAF HX6.out 2 _
  ·rw [hlp,List.map_append,zCH]
   exact zAR hrc6 (fun g h =>zEZ (fun e =>hn6 (by rw [← e];exact h)) 2 _)
  ·rw [hlp,List.map_append,List.map_append]
   have h1:([(z,k+1)].map sayH).map (endV F)=[.int .i64 (ev:Int)]:=by
    show [inv (zDF F (k+1))]=_
    rw [HEA.out];rfl
   rw [h1]
   exact zAR HO6.out (fun g h =>zEZ (fun e =>hn7 (by rw [← e];exact h)) 2 _)
  ·have hjl:j<W.heap.size:=by have:=HSZW.out;omega
   have ho:W.heap[j]? = some W.heap[j]:=Array.getElem?_eq_getElem hjl
   exact (hkp.2 j _ ho (.inl ⟨hj,hne⟩)).trans (ho.symm.trans (HKEEP.out j hj hne))
 case done =>
  rintro D ys W hD ⟨hys,hds⟩ hI hK
  obtain ⟨⟨A1,E,c1,d,hxf,hrec,hint⟩,hkeep,hbw,hszw⟩:=hI
  have hx0:W.heap[w.heap.size]? = _:=(hkeep w.heap.size (by have:=HWM2.out;omega) (by have:=HWM2.out;omega)).trans HX0.out
  have q0:=zAA (i:=0) hxf rfl;have r0:=zAA (i:=0) hx0 rfl;have y0:W.frozen? ⟨w.heap.size,0,none⟩=false:=zAC hx0;have q1:=zAA (i:=1) hxf rfl;have r1:=zAA (i:=1) hx0 rfl;have y1:W.frozen? ⟨w.heap.size,1,none⟩=false:=zAC hx0;have q2:=zAA (i:=2) hxf rfl;have r2:=zAA (i:=2) hx0 rfl;have y2:W.frozen? ⟨w.heap.size,2,none⟩=false:=zAC hx0;have q3:=zAA (i:=3) hxf rfl;have r3:=zAA (i:=3) hx0 rfl;have y3:W.frozen? ⟨w.heap.size,3,none⟩=false:=zAC hx0
  have HXF:=yh hxf
  have HREC:=yh hrec
  have HINT:=yh hint
  have HX0W:=yh hx0
  have HBW:=yh hbw
  have HK:=yh hK
  have HYS:=yh hys
  have HDS:=yh hds
  have HSZW:=yh hszw
  have HD:=yh hD
  clear hxf hrec hint hkeep hbw hszw hx0 hK hys hds hD
  go_wp2
  have g0:=zBg (W:=W) (b:=w.heap.size) (.int .i64 vi) (.slice A1 ys.length c1) (.slice E ys.length d) (.int .i64 (zDf F (ys.map sayH):Int))
  have hx5:=zAF (zAF (zAF (zAF HX0W.out 0 (.int .i64 vi)) 1 (.slice A1 ys.length c1)) 2 (.slice E ys.length d)) 3 (.int .i64 (zDf F (ys.map sayH):Int))
  obtain ⟨W5,hW5⟩:∃ W5,W5=(((W.setCell ⟨w.heap.size,0,none⟩ (.int .i64 vi)).setCell ⟨w.heap.size,1,none⟩ (.slice A1 ys.length c1)).setCell ⟨w.heap.size,2,none⟩ (.slice E ys.length d)).setCell ⟨w.heap.size,3,none⟩ (.int .i64 (zDf F (ys.map sayH):Int)):=⟨_,rfl⟩
  rw [← hW5] at g0 hx5
  rw [← hW5]
  have hDne:w.heap.size≠D:=by have:=HD.out;have:=HSZ.out;have:=HWM.out;omega
  have hK5:W5.heap[D]? = some (.deferred (some [])):=(g0.block D (zAg HK.out) (fun e =>hDne (Option.some.inj e).symm)).trans HK.out
  have gg:=grownBy_putObj' W5 D (.deferred none)
  have hyl:ys.length=xs.length:=by rw [← HYS.out,List.length_map]
  have hp5:(W5.putObj D (.deferred none)).heap[w.heap.size]? = _:=(World.putObj_heap_other hDne).trans hx5
  have r1:=ownsRow_putObj (zCI HREC.out g0 (zAa HREC.out HX0W.out (by decide))) (.deferred none) hK5 rfl
  have r2:=ownsRow_putObj (zCI HINT.out g0 (zAa HINT.out HX0W.out (by decide))) (.deferred none) hK5 rfl
  have hle:w.heap.size≤m3+4:=by have:=HWM.out;omega
  refine ⟨by simp,.inl ⟨_,_,rfl,run_takeDeferred hK5,?_⟩⟩
  refine ⟨_,zBl Tryz.results47 _ _ w.heap.size _ _ (0,0) _ rfl hp5 Tryz.underlying48 rfl (by kernel_rfl),⟨A1,E,c1,d,ys.map (·.1),?_,?_⟩,(HBW.out.grown g0 HBW.out.size (fun k e =>by cases e;exact Nat.le_refl _)).grown gg (by have:=HBW.out.size;have:=g0.size;omega) (fun k e =>by cases e;have:=HD.out;have:=HSZ.out;omega)⟩
  ·rw [HYS.out,← hyl];rfl
  ·refine ⟨?_,?_,fun zz hz =>?_,?_⟩
   ·rw [← hyl];exact zAT r1 hle
   ·have h2:xs.map sayR=(ys.map sayH).map sayR:=by rw [HYS.out]
    rw [h2,List.map_map,List.map_map];rfl
   ·obtain ⟨y,hy,rfl⟩:=List.mem_map.1 hz
    have hd:=HDS.out y hy
    exact zAT (ownsRow_putObj (zCI hd g0 (zAa hd HX0W.out (by decide))) (.deferred none) hK5 rfl) hle
   ·rw [← hyl]
    have h2:xs.map (endV F)=(ys.map sayH).map (endV F):=by rw [HYS.out]
    rw [h2];exact zAT r2 hle
theorem zCD.read {F:List (List UInt8×Nat)} {xs:List Rdd} {base n:Nat} {A E:Option Addr} {c d:Nat} {zs:List Rw} {w:World} (hn:xs.length=n) (h:zCD F xs base (.slice A n c) (.slice E n d) zs w) :
  Recs w w.heap.size A n zs∧zAD w w.heap.size 1 E n ((xs.map fun x =>zDF F x.2.2).map inv):=by
 have h1:=h.recs
 have h2:=h.ends
 rw [hn] at h1 h2
 refine ⟨⟨zAD.of_own h1,fun z hz =>⟨zAD.of_own (h.deps z hz),fun e =>?_⟩⟩,?_⟩
 ·obtain ⟨A',c',e2,h3⟩:=zAL (h.deps z hz)
  simp only [Value.slice.injEq] at e2
  rw [e2.2.2]
  exact h3 (e2.1▸e)
 ·have e:(xs.map fun x =>zDF F x.2.2).map inv=xs.map (endV F):=by rw [List.map_map];rfl
  rw [e]
  exact zAD.of_own h2
theorem zST {zs:List Rw} {w:World} {base:Nat} {xs:List Rdd} {F:List (List UInt8×Nat)} {va ve:Value} (h:zCD F xs base va ve zs w) (hs:∀ x ∈ xs,x.2.1.length≤1000000):∀ z ∈ zs,z.n≤1000000:=by
 intro z hz
 have h1:=(h.deps z hz).1
 rw [zAn] at h1
 have h2:z.say ∈ xs.map sayR:=by rw [← h.say];exact List.mem_map_of_mem hz
 obtain ⟨x,hx,e⟩:=List.mem_map.1 h2
 have h3:=hs x hx
 have h4:x.2.1=z.l:=congrArg Prod.snd e
 rw [h4] at h3
 omega
theorem zSc {v:Nat} (h:1≤v∧v≤3) (xs:List Rw) (k:Nat) (hk:8≤k):vg ((zAS v (v:Int) xs).take k)=(v,0):=by
 unfold zAS
 rw [List.take_append,zBk,List.take_of_length_le (by rw [zBk];exact hk)]
 exact zSs v h _
theorem zEJ (v:Nat) (xs:List Rw):(zAS v (v:Int) xs).length=eo (v:Int) xs xs.length:=by
 unfold zAS eo
 rw [List.length_append,zBk,List.take_length]
open Go.ChangeShapes Go.WideShapes Go.ChangeAt Go.RowKit
theorem zJW {P:Program} {W:World} {n:String} {g len:Nat} {t e:TypeId} {k:IntKind} {zs:List Int} (hg:P.globalNamed n=some g) (ht0:(P.globals[g]?).map (·.type)=some t)
  (ht:P.underlying t=some (.array len e)) (he:P.underlying e=some (.int k)) (hc:P.cellsOf e=1) (h:laidMet P [(n,.agg (zs.map fun z =>.lit (.int k z)))] W) :
  ∀ (i:Nat) (z:Int),zs[i]? = some z→W.cell? ⟨g,i,none⟩=some (.int k z):=by
 obtain ⟨ps,⟨g',t',cs,fuel,p,q,hg',ht',hvar,hd,_,_⟩,_⟩:=h
 obtain rfl:=Option.some.inj (hg.symm.trans hg')
 obtain rfl:=Option.some.inj (ht0.symm.trans ht')
 obtain ⟨xs,m,rfl,hx,hlen,hxl,hel⟩:=DataW.trod_array ht hd
 simp only [Prod.mk.injEq,DataW.agg.injEq] at hx
 intro i z hz
 have h1:(xs.map (·.1))[i]? = some (.lit (.int k z)):=by rw [← hx.1,List.getElem?_map,hz];rfl
 rw [List.getElem?_map] at h1
 obtain ⟨y,hy,hy1⟩:=Option.map_eq_some_iff.1 h1
 have hi:i<len:=by rw [← hxl];exact (List.getElem?_eq_some_iff.1 hy).1
 have h2:=hel i hi
 rw [hy,hc,Nat.mul_one] at h2
 obtain ⟨n',e1,e2,_⟩:=DataW.trod_int he h2
 rw [e2] at hy1
 have hnz:n'=z:=by simpa using hy1
 subst hnz
 have h3:cs.toList[i]? = some (.int k n'):=by
  have:=congrArg (fun l:List Value =>l[0]?) e1
  simpa [List.getElem?_take,List.getElem?_drop] using this
 rw [World.var?_cell hg hvar i]
 simpa using h3
theorem zQv:Tryz.prog.globalNamed "tephra/crc.halves" = some 0:=by kernel_rfl
theorem zRi:(Tryz.prog.globals[0]?).map (·.type)=some 171:=by kernel_rfl
theorem zQm:Tryz.prog.cellsOf 142=1:=by kernel_rfl
theorem zRK {W:World} (h:laidMetH Tryz.prog [("tephra/crc.halves",Rows.laid_tephra_crc_halves)] W):Laid W:=by
 rw [MakeChecks.laidMetH_plain _ _ _ (by kernel_rfl)] at h
 have h1:=zJW (zs:=tab.map (fun n:Nat =>(n:Int))) zQv zRi Tryz.underlying171 Tryz.underlying142 zQm h
 intro i hi
 refine h1 i (tabN i) ?_
 have:∀ j:Fin 16,(tab.map (fun n:Nat =>(n:Int)))[j.val]? = some ((tabN j.val:Nat):Int):=by decide
 exact this ⟨i,hi⟩
end Go.Proofs.YtekchkfjgofnkaaGreatDoor
