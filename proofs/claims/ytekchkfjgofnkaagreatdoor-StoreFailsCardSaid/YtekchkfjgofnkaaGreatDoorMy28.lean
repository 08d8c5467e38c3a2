/- Texts of one proof. -/
import Derived.Test.YtekchkfjgofnkaaGreatDoorMy27
set_option maxRecDepth 100000
set_option maxHeartbeats 8000000
namespace Go.Proofs.YtekchkfjgofnkaaGreatDoor
open Go.RowKit Go.Shelf
attribute [local go_sem] Oper.semAt_some
theorem zLq:(Tryz.prog.info? 59).map (fun i =>(i.zero,i.size,i.bytes))=some (some (.slice none 0 0),1,24):=by kernel_rfl
theorem zIr {fn:Func} {p q:Tmp} {tp tq:TypeId} (h:fn.results=#[.cell p tp,.cell q tq]) (tmps:Array Value) (P:Program) (w:World) (a b:Addr) (v u:Value)
  (hp:tmps.getD p undef=.pointer (some a)) (hq:tmps.getD q undef=.pointer (some b)) (hv:(loadVar tp a).run P w=.ok v w) (hu:(loadVar tq b).run P w=.ok u w) :
  (results fn tmps).run P w=.ok (.tuple #[v,u]) w:=by
 have hp':tmps[p]?.getD undef=.pointer (some a):=by simpa using hp
 have hq':tmps[q]?.getD undef=.pointer (some b):=by simpa using hq
 simp [results,h,hp',hq',asAddr,hv,hu,Sem.run_bind,Result.andThen]
def RunI (n0:Nat) (ws:World) (pre:List Got) (W:World):Prop :=
 (∃ v1,Boxed W n0 123 v1∧W.ownsRow (n0+4) 59 1 v1 pre.length (pre.map (·.1))) ∧
 (∃ v2,Boxed W (n0+1) 46 v2∧W.ownsRow (n0+4) 3 1 v2 pre.length (pre.map fun x =>tn x.2))∧Below n0 ws W∧n0+4≤W.heap.size
theorem RunI.put {n0:Nat} {ws:World} {pre:List Got} {W:World} (h:RunI n0 ws pre W) {l:Nat} {o:Obj} (o':Obj) (hl:n0+4≤l) (ho:W.heap[l]? = some o) (hc:o.isCells=false):RunI n0 ws pre (W.putObj l o'):=by
 obtain ⟨⟨v1,h1,h2⟩,⟨v2,h3,h4⟩,h5,h6⟩:=h
 refine ⟨⟨v1,h1.kept (grownBy_putObj' W l o') (by simp;omega),ownsRow_putObj h2 o' ho hc⟩,⟨v2,h3.kept (grownBy_putObj' W l o') (by simp;omega),ownsRow_putObj h4 o' ho hc⟩,
  h5.grown (grownBy_putObj' W l o') (by omega) (fun k e =>by cases e;omega),by simpa using h6⟩
theorem RunI.grow {n0:Nat} {ws:World} {pre:List Got} {W W':World} (h:RunI n0 ws pre W) (hg:W.grownBy W' none):RunI n0 ws pre W':=by
 obtain ⟨⟨v1,h1,h2⟩,⟨v2,h3,h4⟩,h5,h6⟩:=h
 have hb:Below W.heap.size W W':=⟨hg.os,hg.tape,hg.output,hg.size,fun k hk =>hg.block k hk (by simp)⟩
 exact ⟨⟨v1,h1.kept hg (by simp),zAK h2 hb⟩,⟨v2,h3.kept hg (by simp),zAK h4 hb⟩,h5.trans (hb.mono (by omega)),Nat.le_trans h6 hg.size⟩
theorem zFE (W:World) (b:Nat) (v:Value):(W.setCell ⟨b,0,none⟩ v).heap.size=W.heap.size:=by simp
theorem zCw {n0:Nat} {W W':World} {row:Option Nat} (hg:W.grownBy W' row) (hn0:n0≤W.heap.size)
  (hr:∀ r,row=some r→n0≤r∧r≠n0+2∧r≠n0+3∧∃ (cs:Array Value) (e:TypeId) (f:Nat×Nat),W.heap[r]? = some (.cells cs e f)∧e≠5):Kp n0 W W'∧KeepsOthers W W' :=
 ⟨zRG hg hn0 hr,KeepsOthers.of_grownBy hg (fun j o e ho =>by
  obtain ⟨_,_,_,cs,e2,f,h4,_⟩:=hr j e
  rw [ho] at h4
  injection h4 with h4
  subst h4
  rfl)⟩
theorem zRu {n0:Nat} {ws W w1:World} {v1 v2 v':Value} {n m:Nat} {xs ys xs':List Value} {tmp:Obj}
  (h1:Boxed W n0 123 v1) (h2:W.ownsRow (n0+4) 59 1 v1 n xs) (h3:Boxed W (n0+1) 46 v2) (h4:W.ownsRow (n0+4) 3 1 v2 m ys) (h5:Below n0 ws W) (h6:n0+4≤W.heap.size)
  (hown:w1.ownsRow (n0+4) 59 1 v' (n+1) xs') (hg:(W.alloc tmp).grownBy w1 v1.ownBlock) :
  Boxed w1 n0 123 v1∧Boxed (w1.setCell ⟨n0,0,none⟩ v') n0 123 v'∧(w1.setCell ⟨n0,0,none⟩ v').ownsRow (n0+4) 59 1 v' (n+1) xs' ∧
  Boxed (w1.setCell ⟨n0,0,none⟩ v') (n0+1) 46 v2∧(w1.setCell ⟨n0,0,none⟩ v').ownsRow (n0+4) 3 1 v2 m ys ∧
  Kp n0 W (w1.setCell ⟨n0,0,none⟩ v')∧KeepsOthers W (w1.setCell ⟨n0,0,none⟩ v')∧n0+4≤(w1.setCell ⟨n0,0,none⟩ v').heap.size∧Below n0 ws (w1.setCell ⟨n0,0,none⟩ v'):=by
 have b1:Boxed w1 n0 123 v1:=(h1.alloc tmp).kept hg (h1.not_row (by decide) h2)
 have b2:Boxed w1 (n0+1) 46 v2:=(h3.alloc tmp).kept hg (h3.not_row (by decide) h2)
 have o2:w1.ownsRow (n0+4) 3 1 v2 m ys:=zDw (h2.alloc tmp) (h4.alloc tmp) (by decide) hg
 have hgs:=grownBy_setCell' w1 n0 v'
 have k1:=zCw (n0:=n0) (World.grownBy_alloc W tmp none) (by omega) (by simp)
 have k2:=zCw (n0:=n0) hg (by simp;omega) (fun r e =>by
  rcases (h2.alloc tmp).2 with ⟨rfl,_⟩ | ⟨g,cap,cur,rfl,hb,hh,_⟩
  ·simp [Value.ownBlock] at e
  ·simp only [Value.ownBlock,Option.some.injEq] at e
   subst e
   exact ⟨by omega,by omega,by omega,_,_,_,hh,by decide⟩)
 have hs1:n0+4≤w1.heap.size:=by have:=hg.size;simp at this;omega
 have k3:=zCw (n0:=n0) hgs (by omega) (fun r e =>by cases e;exact ⟨Nat.le_refl _,by omega,by omega,_,_,_,b1,by decide⟩)
 have hk:=(k1.1.trans k2.1).trans k3.1
 refine ⟨b1,b1.set v',ownsRow_setCell_below hown (by simp) v',b2.kept hgs (by simp),ownsRow_setCell_below o2 (by simp) v',hk,(k1.2.trans k2.2).trans k3.2,by have:=hgs.size;omega,h5.trans hk.1⟩
theorem zRv {n0:Nat} {ws W w1:World} {v1 v2 v':Value} {n m:Nat} {xs ys ys':List Value} {tmp:Obj}
  (h1:Boxed W n0 123 v1) (h2:W.ownsRow (n0+4) 59 1 v1 n xs) (h3:Boxed W (n0+1) 46 v2) (h4:W.ownsRow (n0+4) 3 1 v2 m ys) (h5:Below n0 ws W) (h6:n0+4≤W.heap.size)
  (hown:w1.ownsRow (n0+4) 3 1 v' (m+1) ys') (hg:(W.alloc tmp).grownBy w1 v2.ownBlock) :
  Boxed w1 (n0+1) 46 v2∧Boxed (w1.setCell ⟨n0+1,0,none⟩ v') (n0+1) 46 v'∧(w1.setCell ⟨n0+1,0,none⟩ v').ownsRow (n0+4) 3 1 v' (m+1) ys' ∧
  Boxed (w1.setCell ⟨n0+1,0,none⟩ v') n0 123 v1∧(w1.setCell ⟨n0+1,0,none⟩ v').ownsRow (n0+4) 59 1 v1 n xs ∧
  Kp n0 W (w1.setCell ⟨n0+1,0,none⟩ v')∧KeepsOthers W (w1.setCell ⟨n0+1,0,none⟩ v')∧n0+4≤(w1.setCell ⟨n0+1,0,none⟩ v').heap.size∧Below n0 ws (w1.setCell ⟨n0+1,0,none⟩ v'):=by
 have b1:Boxed w1 n0 123 v1:=(h1.alloc tmp).kept hg (h1.not_row (by decide) h4)
 have b2:Boxed w1 (n0+1) 46 v2:=(h3.alloc tmp).kept hg (h3.not_row (by decide) h4)
 have o2:w1.ownsRow (n0+4) 59 1 v1 n xs:=zDw (h4.alloc tmp) (h2.alloc tmp) (by decide) hg
 have hgs:=grownBy_setCell' w1 (n0+1) v'
 have k1:=zCw (n0:=n0) (World.grownBy_alloc W tmp none) (by omega) (by simp)
 have k2:=zCw (n0:=n0) hg (by simp;omega) (fun r e =>by
  rcases (h4.alloc tmp).2 with ⟨rfl,_⟩ | ⟨g,cap,cur,rfl,hb,hh,_⟩
  ·simp [Value.ownBlock] at e
  ·simp only [Value.ownBlock,Option.some.injEq] at e
   subst e
   exact ⟨by omega,by omega,by omega,_,_,_,hh,by decide⟩)
 have hs1:n0+4≤w1.heap.size:=by have:=hg.size;simp at this;omega
 have k3:=zCw (n0:=n0) hgs (by omega) (fun r e =>by cases e;exact ⟨by omega,by omega,by omega,_,_,_,b2,by decide⟩)
 have hk:=(k1.1.trans k2.1).trans k3.1
 refine ⟨b2,b2.set v',ownsRow_setCell_below hown (by simp) v',b1.kept hgs (by simp),ownsRow_setCell_below o2 (by simp) v',hk,(k1.2.trans k2.2).trans k3.2,by have:=hgs.size;omega,h5.trans hk.1⟩
theorem zRc (A:Option Addr) (m c:Nat) (a0:Int) (w:World) (n0:Nat) (hn0:n0=w.heap.size) (F:List (List UInt8×Nat))
    (hseq:∀ W:World,Below n0 w W→W.heap[n0+2]? = some (.cells #[.slice A m c] 59)→W.heap[n0+3]? = some (.cells #[.int .i64 a0] 3) →
      zLT Fence.wide 3 Tryz.prog 113 #[.pointer (some ⟨n0+3,0,none⟩),.pointer (some ⟨n0+2,0,none⟩)] gotv (GotT n0) (Kp n0) (GotS n0 F) W) :
    Calls Tryz.prog 78 #[.slice A m c,.int .i64 a0] w fun e w' =>∃ (v1 v2:Value) (xs:List Got),e=.returned (.tuple #[v1,v2])∧xs.map (·.2)=F∧(∀ x ∈ xs,Mine w' n0 x.1 x.2.1) ∧
      w'.ownsRow (n0+4) 59 1 v1 xs.length (xs.map (·.1))∧w'.ownsRow (n0+4) 3 1 v2 xs.length (xs.map fun x =>tn x.2)∧Below n0 w w':=by
  obtain ⟨ib,hb,hb0,hb1,hb2⟩:=info_parts zLq
  obtain ⟨ii,hi,hi0,hi1,hi2⟩:=info_parts zJV
  have HSEQ:=yh hseq
  clear hseq
  refine (callsIn_wide (n:=4)).1 ?_
  refine callsIn_of_wp_marks Tryz.func78 rfl trivial ?_ rfl
  refine wpIn_wide.2 ?_
  simp only [Tryz.ntmps78,List.size_toArray,List.length_cons,List.length_nil,Nat.reduceAdd,Nat.reduceSub,Array.replicate_succ,Array.replicate_zero,List.push_toArray,List.append_toArray,List.nil_append,List.cons_append]
  go_wp2_with (go_at_call 101;refine (zLn A m c a0 _).mono ?_;rintro e w' ⟨rfl,rfl⟩)
  obtain ⟨W0,hW0⟩:∃ W0,W0=(((w.alloc (.cells #[.slice none 0 0] 123)).alloc (.cells #[.slice none 0 0] 46)).alloc (.cells #[.slice A m c] 59)).alloc (.cells #[.int .i64 a0] 3):=⟨_,rfl⟩
  rw [← hW0]
  have hsz:W0.heap.size=n0+4:=by rw [hW0,hn0];simp
  have hB0:Below n0 w W0:=by
    rw [hW0,hn0]
    exact ((((Below.refl _ w).alloc (Nat.le_refl _) _).alloc (by simp) _).alloc (by simp;omega) _).alloc (by simp;omega) _
  have b1:Boxed W0 n0 123 (.slice none 0 0):=by
    rw [hW0,hn0]
    exact (((Boxed.new w 123 (.slice none 0 0)).alloc _).alloc _).alloc _
  have b2:Boxed W0 (n0+1) 46 (.slice none 0 0):=by
    have h:=((Boxed.new (w.alloc (.cells #[.slice none 0 0] 123)) 46 (.slice none 0 0)).alloc (.cells #[.slice A m c] 59)).alloc (.cells #[.int .i64 a0] 3)
    rw [← hW0,World.size_alloc,← hn0] at h
    exact h
  have b3:W0.heap[n0+2]? = some (.cells #[.slice A m c] 59):=by
    have h:=(Boxed.new ((w.alloc (.cells #[.slice none 0 0] 123)).alloc (.cells #[.slice none 0 0] 46)) 59 (.slice A m c)).alloc (.cells #[.int .i64 a0] 3)
    rw [← hW0,World.size_alloc,World.size_alloc,← hn0] at h
    exact h
  have b4:W0.heap[n0+3]? = some (.cells #[.int .i64 a0] 3):=by
    have h:=Boxed.new (((w.alloc (.cells #[.slice none 0 0] 123)).alloc (.cells #[.slice none 0 0] 46)).alloc (.cells #[.slice A m c] 59)) 3 (.int .i64 a0)
    rw [← hW0,World.size_alloc,World.size_alloc,World.size_alloc,← hn0] at h
    exact h
  have hseq:=HSEQ.out W0 hB0 b3 b4
  have hw0:w.heap.size=n0:=hn0.symm
  rw [hw0]
  have HSZ:=yh hsz
  have hszle:n0+4≤W0.heap.size:=by omega
  clear HSEQ hW0 b3 b4 hw0 hn0 hsz
  refine (wpIn_wide (n:=4)).1 ?_
  refine zLw rfl (by omega) (gf:=113) (lb:=#[.pointer (some ⟨n0+3,0,none⟩),.pointer (some ⟨n0+2,0,none⟩)]) rfl trivial (enters_of Tryz.func113 (by kernel_rfl) rfl)
    hseq (fun _ =>rfl) (fun h k =>h.trans k) ?kb (RunI n0 w) ?hT ?hS ?hI (fun _ _ _ h hg =>h.grow hg) ⟨⟨_,b1,World.ownsRow_nil _ _ _ _⟩,⟨_,b2,World.ownsRow_nil _ _ _ _⟩,hB0,hszle⟩
    (fun x =>{ tmps:=#[.slice A m c,.int .i64 a0,undef,undef,.pointer (some ⟨n0,0,none⟩),.pointer (some ⟨n0+1,0,none⟩),x.1,.int .i64 (x.2.2:Int),.slice A m c,.int .i64 a0,.func (.func 113) #[] #[.pointer (some ⟨n0+1+1+1,0,none⟩),.pointer (some ⟨n0+1+1,0,none⟩)],x.1,.int .i64 (x.2.2:Int),undef,undef,undef,undef,undef,undef,undef,undef,undef,undef],defers:=[] }) ?assign ?body ?done
  case kb =>
    intro W l o o' hl ho hc
    refine ⟨(Below.refl n0 W).grown (grownBy_putObj' W l o') (by have:=(Array.getElem?_eq_some_iff.1 ho).1;omega) (fun k e =>by cases e;omega),fun k p hk hcs =>?_⟩
    rcases hcs with h | h | h | ⟨cs,f,rfl⟩
    · exact zEL (n0:=n0) o' (by omega) ho hc k p hk (.inl h)
    · exact zEL (n0:=n0) o' (by omega) ho hc k p hk (.inr (.inl h))
    · exact zEL (n0:=n0) o' (by omega) ho hc k p hk (.inr (.inr (.inl h)))
    · exact zEL (n0:=n0) o' (by omega) ho hc k _ hk (.inr (.inr (.inr rfl)))
  case hT =>
    intro pre x W l o o' h hl ho hc
    exact ⟨h.1,h.2.keep fun g cs f _ hg =>(zEL (n0:=n0) o' (by omega) ho hc g _ hg (.inr (.inr (.inr rfl)))).trans hg.symm⟩
  case hS =>
    intro xs W l o o' h hl ho hc
    exact ⟨h.1,fun x hx =>(h.2 x hx).keep fun g cs f _ hg =>(zEL (n0:=n0) o' (by omega) ho hc g _ hg (.inr (.inr (.inr rfl)))).trans hg.symm⟩
  case hI =>
    intro xs W l o o' h hl ho hc
    exact h.put o' (by omega) ho hc
  case assign =>
    intro l x W K hK
    unfold gotv
    gi_wp2
    simpa using hK
  case body =>
    rintro l pre ⟨v,p,nx⟩ W ⟨⟨v1,h1,h2⟩,⟨v2,h3,h4⟩,h5,h6⟩ ⟨hlen,hm⟩
    simp only at hm
    obtain ⟨A2,c2,rfl,-⟩:=hm.reads
    have hc1:=h1.cell
    have hf1:=h1.frozen
    dsimp only
    gi_wp2_with (first
      | (gi_at_builtin;refine wpListIn_append_own _ rfl (.tmp 13) (.tmp 15) 123 rfl (n0+4) 59 ib (.slice none 0 0) 1 24 Tryz.underlying123 hb hb0 hb1 hb2 rfl (by decide) _ _ _ rfl (h2.alloc _) ⟨W.heap.size,0,none⟩ 1 1 [.slice A2 p.length c2] rfl rfl (cell_one_new _ _ _) (by simp [Value.oneCell']) (by unfold maxLen;omega) (by omega) (by simp;omega) ?_
         intro v' w1 hown1 hgrow1 _
         obtain ⟨g',cap',rfl⟩:=ownsRow_succ hown1
         have hkA:=zRu h1 h2 h3 h4 h5 h6 hown1 hgrow1
         have hd1:=hkA.1.cell
         have hd2:=hkA.1.frozen
         have hd3:=hkA.2.2.2.1.cell
         have hd4:=hkA.2.2.2.1.frozen
         clear hc1 hf1)
      | (gi_at_builtin;refine wpListIn_append_own _ rfl (.tmp 17) (.tmp 19) 46 rfl (n0+4) 3 ii (.int .i64 0) 1 8 Tryz.underlying46 hi hi0 hi1 hi2 rfl (by decide) _ _ _ rfl (hkA.2.2.2.2.1.alloc _) ⟨w1.heap.size,0,none⟩ 1 1 [.int .i64 (nx:Int)] rfl rfl (by have h:=cell_one_new (w1.setCell ⟨n0,0,none⟩ (.slice (some ⟨g',0,none⟩) (pre.length+1) cap')) (.int .i64 (nx:Int)) 3;rwa [(zFE w1 n0 _)] at h) (by simp [Value.oneCell']) (by unfold maxLen;omega) (by omega) (by have:=hkA.2.2.2.2.2.2.2.1;simp at *;omega) ?_
         intro v'' w2 hown2 hgrow2 _
         obtain ⟨g'',cap'',rfl⟩:=ownsRow_succ hown2
         have hkB:=zRv hkA.2.1 hkA.2.2.1 hkA.2.2.2.1 hkA.2.2.2.2.1 hkA.2.2.2.2.2.2.2.2 hkA.2.2.2.2.2.2.2.1 hown2 hgrow2
         have he1:=hkB.1.cell
         have he2:=hkB.1.frozen
         clear hd3 hd4))
    refine ⟨hkA.2.2.2.2.2.2.1.trans hkB.2.2.2.2.2.2.1,hkA.2.2.2.2.2.1.trans hkB.2.2.2.2.2.1,⟨_,hkB.2.2.2.1,?_⟩,⟨_,hkB.2.1,?_⟩,hkB.2.2.2.2.2.2.2.2,hkB.2.2.2.2.2.2.2.1⟩
    · simpa using hkB.2.2.2.2.1
    · simpa [tn] using hkB.2.2.1
  case done =>
    rintro D xs W hD ⟨hxs,hms⟩ ⟨⟨v1,h1,h2⟩,⟨v2,h3,h4⟩,h5,h6⟩ hK
    have hc1:=h1.cell
    have hf1:=h1.frozen
    have hc2:=h3.cell
    have hf2:=h3.frozen
    obtain ⟨A1,d1,rfl,-⟩:=zBF h2
    obtain ⟨A2,d2,rfl,-⟩:=zBF h4
    have HMS:=yh hms
    have HXS:=yh hxs
    clear hms hxs
    go_wp2
    go_region
    all_goals (try go_wp2)
    obtain ⟨W5,hW5⟩:∃ W5,W5=((W.setCell ⟨n0,0,none⟩ (.slice A1 xs.length d1)).setCell ⟨n0+1,0,none⟩ (.slice A2 xs.length d2)).drew:=⟨_,rfl⟩
    rw [← hW5]
    have hkeep:∀ k:Nat,k≠n0→k≠n0+1→W5.heap[k]? = W.heap[k]?:=by
      intro k e1 e2
      rw [hW5]
      exact (Below.heap_setCell _ _ _ k e2).trans (Below.heap_setCell _ _ _ k e1)
    have g1:Boxed W5 n0 123 (.slice A1 xs.length d1):=by
      rw [hW5]
      exact (Below.heap_setCell _ _ _ n0 (by simp)).trans (h1.set _)
    have g2:Boxed W5 (n0+1) 46 (.slice A2 xs.length d2):=by
      rw [hW5]
      exact (h3.kept (grownBy_setCell' W n0 _) (by simp)).set _
    have hb5:Below n0 W W5:=by
      rw [hW5]
      exact (((Below.refl n0 W).setCell (p:=⟨n0,0,none⟩) (Nat.le_refl _) _).setCell (p:=⟨n0+1,0,none⟩) (by simp) _).drew
    have hK5:W5.heap[D]? = some (.deferred (some [])):=(hkeep D (by omega) (by omega)).trans hK
    have r1:W5.ownsRow (n0+4) 59 1 (.slice A1 xs.length d1) xs.length (xs.map (·.1)):=by
      rw [hW5]
      exact ownsRow_setCell_below (ownsRow_setCell_below h2 (by simp) _) (by simp) _
    have r2:W5.ownsRow (n0+4) 3 1 (.slice A2 xs.length d2) xs.length (xs.map fun x =>tn x.2):=by
      rw [hW5]
      exact ownsRow_setCell_below (ownsRow_setCell_below h4 (by simp) _) (by simp) _
    have hm5:∀ x ∈ xs,Mine W5 n0 x.1 x.2.1:=fun x hx =>(HMS.out x hx).keep fun g cs f _ hg =>hkeep g
      (fun e =>by subst e;rw [show W.heap[g]? = _ from h1] at hg;injection hg with hg;injection hg with _ hg;cases hg)
      (fun e =>by subst e;rw [show W.heap[n0+1]? = _ from h3] at hg;injection hg with hg;injection hg with _ hg;cases hg)
    have gg:=grownBy_putObj' W5 D (.deferred none)
    refine ⟨by simp,.inl ⟨_,_,rfl,run_takeDeferred hK5,?_⟩⟩
    have p1:Boxed (W5.putObj D (.deferred none)) n0 123 (.slice A1 xs.length d1):=g1.kept gg (by simp;omega)
    have p2:Boxed (W5.putObj D (.deferred none)) (n0+1) 46 (.slice A2 xs.length d2):=g2.kept gg (by simp;omega)
    have q1:=p1.cell
    have q2:=p2.cell
    refine ⟨_,zIr rfl _ _ _ ⟨n0,0,none⟩ ⟨n0+1,0,none⟩ (.slice A1 xs.length d1) (.slice A2 xs.length d2) rfl rfl (by simp [loadVar,go_sem,q1]) (by simp [loadVar,go_sem,q2]),_,_,xs,rfl,HXS.out,?_,ownsRow_putObj r1 _ hK5 rfl,ownsRow_putObj r2 _ hK5 rfl,
      (h5.trans hb5).grown gg (by have:=hb5.size;omega) (fun k e =>by cases e;omega)⟩
    exact fun x hx =>(hm5 x hx).keep fun g cs f _ hg =>(zEL (n0:=n0) _ (by omega) hK5 rfl g _ hg (.inr (.inr (.inr rfl)))).trans hg.symm
theorem zSU (A:Option Addr) (m c a0:Nat) (bs:List UInt8) (hc:m≤c) (hm:m≤1073741824) (ha0:a0≤m) (w:World) (hl:Laid w) (hr:zAD w w.heap.size 1 A m (bs.map bv)) :
  Calls Tryz.prog 78 #[.slice A m c,.int .i64 (a0:Int)] w fun e w' =>∃ (v1 v2:Value) (xs:List Got),e=.returned (.tuple #[v1,v2])∧xs.map (·.2)=frun (m+1) a0 bs∧(∀ x ∈ xs,Mine w' w.heap.size x.1 x.2.1) ∧
   w'.ownsRow (w.heap.size+4) 59 1 v1 xs.length (xs.map (·.1))∧w'.ownsRow (w.heap.size+4) 3 1 v2 xs.length (xs.map fun x =>tn x.2)∧Below w.heap.size w w' :=
 zRc A m c a0 w _ rfl _ fun W hb h1 h2 =>zJR 3 _ (by omega) A m c a0 bs hc hm ha0 _ rfl w rfl hl hr W hb h1 h2
end Go.Proofs.YtekchkfjgofnkaaGreatDoor
