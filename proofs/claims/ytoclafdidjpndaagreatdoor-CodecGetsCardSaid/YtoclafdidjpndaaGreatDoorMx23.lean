/- Texts of one proof. -/
import Derived.Test.YtoclafdidjpndaaGreatDoorMx22
set_option maxRecDepth 100000
set_option maxHeartbeats 8000000
namespace Go.Proofs.YtoclafdidjpndaaGreatDoor
open Go.RowKit Go.Shelf
def rres (r:List UInt8×Nat×Nat):Value:=.tuple #[.string (tx r.1),.int .i64 (r.2.1:Int),.int .i64 (r.2.2:Int)]
theorem zLE (bs:List UInt8) (at_:Nat) (hn:bs.length≤1073741824) (hat:at_≤bs.length) (w:World) :
  Calls Tryz.prog 46 #[.string (tx bs),.int .i64 (at_:Int)] w fun e w' =>e=.returned (rres (fg at_ bs))∧Below w.heap.size w w':=by
 obtain ⟨n,hnl⟩:∃ n,n=bs.length:=⟨_,rfl⟩
 rw [← hnl] at hn hat
 obtain ⟨s,hs⟩:∃ s,s=tx bs:=⟨_,rfl⟩
 have hsz:s.size=n:=by rw [hs,zBH,hnl]
 have n1:¬ ((at_:Int)<0):=by omega
 have n2:¬ ((n:Int)<(at_:Int)):=by omega
 have HG0:=fun W =>zHW at_ 2048 bs (by omega) (by omega) (by omega) W
 rw [← hs] at HG0 ⊢
 by_cases h0:at_=n
 ·subst h0
  have e0:rres (fg at_ bs)=.tuple #[.string ⟨#[]⟩,.int .i64 0,.int .i64 6]:=by rw [hnl,zGq];rfl
  rw [e0]
  clear hnl hs e0 HG0
  go_enter Tryz.func46,Tryz.ntmps46
  go_wp2
  go_ret3
  exact ⟨rfl,Below.refl _ _⟩
 have hne:((at_:Int) == (n:Int))=false:=by rw [beq_eq_false_iff_ne];omega
 have hnb:at_≠bs.length:=by omega
 have hfive:(∃ e0,(e0=2∨e0=3∨e0=5)∧bg 2048 at_ bs=([],0,e0)) ∨ ∃ s nx,bg 2048 at_ bs=(s,nx,0):=by
  rcases zFi (most:=2048) (at_:=at_) (bs:=bs) with h | h | h | h
  ·exact .inl ⟨2,by simp,h⟩
  ·exact .inl ⟨3,by simp,h⟩
  ·exact .inl ⟨5,by simp,h⟩
  ·exact .inr h
 rcases hfive with ⟨e0,he0,hg⟩ | ⟨p,nx,hg⟩
 ·rw [zFE hnb hg (by omega)]
  rw [hg] at HG0
  clear hg hnl hs hnb
  rcases he0 with rfl | rfl | rfl
  all_goals
   have HG:=yh HG0
   clear HG0
   go_enter Tryz.func46,Tryz.ntmps46
   go_wp2_with (go_at_call 66;refine (HG.out _).mono ?_;rintro e w1 ⟨rfl,rfl⟩;unfold bres)
   go_ret3
   exact ⟨rfl,Below.refl _ _⟩
 ·rw [hg] at HG0
  have hb1:=zGl hg
  have hm1:=zGv hg
  by_cases hp:p=[]
  ·subst hp
   rw [zHG hnb hg]
   have hem:(tx ([]:List UInt8))=⟨#[]⟩:=rfl
   have HG:=yh HG0
   clear hg hnl hs hnb hb1 HG0
   go_enter Tryz.func46,Tryz.ntmps46
   go_wp2_with (go_at_call 66;refine (HG.out _).mono ?_;rintro e w1 ⟨rfl,rfl⟩;unfold bres;rw [hem])
   go_ret3
   exact ⟨rfl,Below.refl _ _⟩
  ·have hpe:((tx p).toList == [])=false:=by rw [zBG];simpa using hp
   have hbr:bres (p,nx,0)=.tuple #[.string (tx p),.int .i64 (nx:Int),.int .i64 0]:=rfl
   rw [hbr] at HG0
   have hnx1:at_<nx:=hb1.1
   have hnx2:nx≤n:=by omega
   clear hbr hb1
   obtain ⟨m,hm⟩:∃ m,m=nx+4:=⟨_,rfl⟩
   have hm4:(nx:Int)+4=(m:Int):=by omega
   by_cases hsh:n<nx+4
   ·rw [zFz hnb hg hp (by omega)]
    have HG:=yh HG0
    have HM:(n:Int)<(m:Int):=by omega
    clear HG0 hg hp hnl hs hnb hm
    generalize tx p=t at HG hpe
    go_enter Tryz.func46,Tryz.ntmps46
    go_wp2_with (go_at_call 66;refine (HG.out _).mono ?_;rintro e w1 ⟨rfl,rfl⟩)
    go_ret3
    exact ⟨rfl,Below.refl _ _⟩
   ·have x1:s.extract at_ nx=tx ((bs.drop at_).take (nx - at_)):=by rw [hs,zCK]
    have x2:s.extract nx m=tx ((bs.drop nx).take 4):=by rw [hs,zCK,hm,show nx+4 - nx=4 by omega]
    have HS:Hid (∀ W:World,Calls Tryz.prog 32 #[.string (tx ((bs.drop at_).take (nx - at_)))] W fun e w' =>e=.returned (wv (crc ((bs.drop at_).take (nx - at_))))∧W=w'):=fun W =>zDh _ (by rw [List.length_take,List.length_drop];omega) W
    obtain ⟨q,hq⟩:∃ q,q=crc ((bs.drop at_).take (nx - at_)):=⟨_,rfl⟩
    have HB:Hid (∀ W:World,Calls Tryz.prog 31 #[wv q] W fun e w' =>e=.returned (.string (tx (lb q)))∧Below W.heap.size W w'):=fun W =>zCv q W
    have hsl1:∀ W:World,(Instr.slice 9 (.string s) (some (.int .i64 (at_:Int))) (some (.int .i64 (nx:Int))) none).run Tryz.prog W=.ok (.string (tx ((bs.drop at_).take (nx - at_)))) W:=fun W =>by
     have h:=run_slice_string (P:=Tryz.prog) (w:=W) 9 s .i64 .i64 (at_:Int) (nx:Int) Tryz.underlying9 (by omega) (by omega) (by rw [hsz];omega)
     rw [h,← x1];rfl
    have hsl2:∀ W:World,(Instr.slice 9 (.string s) (some (.int .i64 (nx:Int))) (some (.int .i64 (m:Int))) none).run Tryz.prog W=.ok (.string (tx ((bs.drop nx).take 4))) W:=fun W =>by
     have h:=run_slice_string (P:=Tryz.prog) (w:=W) 9 s .i64 .i64 (nx:Int) (m:Int) Tryz.underlying9 (by omega) (by omega) (by rw [hsz];omega)
     rw [h,← x2];rfl
    have hwm:IntKind.i64.wrap (m:Int)=(m:Int):=by rw [IntKind.wrap_i64];omega
    have HM:¬ ((n:Int)<(m:Int)):=by omega
    by_cases hc4:lb q=(bs.drop nx).take 4
    ·rw [zHu hnb hg hp (by omega) (by rw [← hq];exact hc4)]
     have hres:rres (p,nx+4,0)=.tuple #[.string (tx p),.int .i64 (m:Int),.int .i64 0]:=by rw [hm];rfl
     rw [hres]
     rw [← hc4] at hsl2
     rw [← hq] at HS
     have hself:((tx (lb q)).toList == (tx (lb q)).toList)=true:=by simp
     generalize tx (lb q)=t8 at hsl2 HB hself
     generalize tx ((bs.drop at_).take (nx - at_))=t4 at hsl1 HS
     generalize wv q=q2 at HS HB
     generalize tx p=t at HG0 hpe ⊢
     have HG:=yh HG0
     clear HG0 hg hp hnl hs hnb hm hc4 hq x1 x2 hres
     go_enter Tryz.func46,Tryz.ntmps46
     go_wp2_with fail
     refine (HG.out _).mono ?_
     rintro e w1 ⟨rfl,rfl⟩
     go_wp2_with fail
     have hS0:Below w.heap.size w w.drew:=(Below.refl _ w).drew
     refine wp_region_held (S:=fun W =>Below w.heap.size w W) (by kernel_rfl) ?_
     refine zAB 0 (.string s) rfl (by kernel_rfl) (by kernel_rfl) (by kernel_rfl) (fun _ _ _ h =>h) (by kernel_rfl) hS0 (fun _ _ =>by kernel_rfl) ?_
     refine zAB 1 (.int .i64 (at_:Int)) rfl (by kernel_rfl) (by kernel_rfl) (by kernel_rfl) (fun _ _ _ h =>h) (by kernel_rfl) hS0 (fun _ _ =>by kernel_rfl) ?_
     refine zAB 2 (.int .i64 (nx:Int)) rfl (by kernel_rfl) (by kernel_rfl) (by kernel_rfl) (fun _ _ _ h =>h) (by kernel_rfl) hS0 (fun _ _ =>by kernel_rfl) ?_
     refine zAB 3 (.string t4) rfl (by kernel_rfl) (by kernel_rfl) (by kernel_rfl) (fun _ _ _ h =>h) (by kernel_rfl) hS0 (by intro w' hb;go_simp) ?_
     refine zAB 6 (.string s) rfl (by kernel_rfl) (by kernel_rfl) (by kernel_rfl) (fun _ _ _ h =>h) (by kernel_rfl) hS0 (fun _ _ =>by kernel_rfl) ?_
     refine zAB 7 (.int .i64 (nx:Int)) rfl (by kernel_rfl) (by kernel_rfl) (by kernel_rfl) (fun _ _ _ h =>h) (by kernel_rfl) hS0 (fun _ _ =>by kernel_rfl) ?_
     refine zAB 8 (.int .i64 (nx:Int)) rfl (by kernel_rfl) (by kernel_rfl) (by kernel_rfl) (fun _ _ _ h =>h) (by kernel_rfl) hS0 (fun _ _ =>by kernel_rfl) ?_
     refine zAB 9 (.int .i64 (m:Int)) rfl (by kernel_rfl) (by kernel_rfl) (by kernel_rfl) (fun _ _ _ h =>h) (by kernel_rfl) hS0 (by intro w' hb;go_simp) ?_
     refine zAB 10 (.string t8) rfl (by kernel_rfl) (by kernel_rfl) (by kernel_rfl) (fun _ _ _ h =>h) (by kernel_rfl) hS0 (by intro w' hb;go_simp) ?_
     refine zAP 4 rfl (by kernel_rfl) (by kernel_rfl) (fun K hK =>?_)
     go_simp
     refine (HS.out _).mono ?_
     rintro e w6 ⟨rfl,rfl⟩
     refine hK _ _ hS0 ?_
     clear hK K
     refine zAP 5 rfl (by kernel_rfl) (by kernel_rfl) (fun K hK =>?_)
     go_simp
     refine (HB.out _).mono ?_
     rintro e w5 ⟨rfl,hb5⟩
     have hS5:Below w.heap.size w w5:=hS0.trans (hb5.mono hS0.size)
     clear hb5
     refine hK _ _ hS5 ?_
     clear hK K
     refine zAB 11 (.bool false) rfl (by kernel_rfl) (by kernel_rfl) (by kernel_rfl) (fun _ _ _ h =>h) (by kernel_rfl) hS5 (by intro w' hb;go_simp) ?_
     refine wpAnyH_done (by kernel_rfl) ?_ _
     go_simp
     go_wp2
     go_ret3
     exact ⟨rfl,hS5⟩
    ·rw [zIU hnb hg hp (by omega) (by rw [← hq];exact hc4)]
     rw [← hq] at HS
     have hne2:((tx (lb q)).toList == (tx ((bs.drop nx).take 4)).toList)=false:=by rw [zBG,zBG];simpa using hc4
     generalize tx (lb q)=t9 at HB hne2
     generalize tx ((bs.drop nx).take 4)=t8 at hsl2 hne2
     generalize tx ((bs.drop at_).take (nx - at_))=t4 at hsl1 HS
     generalize wv q=q2 at HS HB
     generalize tx p=t at HG0 hpe
     have HG:=yh HG0
     clear HG0 hg hp hnl hs hnb hm hc4 hq x1 x2
     go_enter Tryz.func46,Tryz.ntmps46
     go_wp2_with fail
     refine (HG.out _).mono ?_
     rintro e w1 ⟨rfl,rfl⟩
     go_wp2_with fail
     have hS0:Below w.heap.size w w.drew:=(Below.refl _ w).drew
     refine wp_region_held (S:=fun W =>Below w.heap.size w W) (by kernel_rfl) ?_
     refine zAB 0 (.string s) rfl (by kernel_rfl) (by kernel_rfl) (by kernel_rfl) (fun _ _ _ h =>h) (by kernel_rfl) hS0 (fun _ _ =>by kernel_rfl) ?_
     refine zAB 1 (.int .i64 (at_:Int)) rfl (by kernel_rfl) (by kernel_rfl) (by kernel_rfl) (fun _ _ _ h =>h) (by kernel_rfl) hS0 (fun _ _ =>by kernel_rfl) ?_
     refine zAB 2 (.int .i64 (nx:Int)) rfl (by kernel_rfl) (by kernel_rfl) (by kernel_rfl) (fun _ _ _ h =>h) (by kernel_rfl) hS0 (fun _ _ =>by kernel_rfl) ?_
     refine zAB 3 (.string t4) rfl (by kernel_rfl) (by kernel_rfl) (by kernel_rfl) (fun _ _ _ h =>h) (by kernel_rfl) hS0 (by intro w' hb;go_simp) ?_
     refine zAB 6 (.string s) rfl (by kernel_rfl) (by kernel_rfl) (by kernel_rfl) (fun _ _ _ h =>h) (by kernel_rfl) hS0 (fun _ _ =>by kernel_rfl) ?_
     refine zAB 7 (.int .i64 (nx:Int)) rfl (by kernel_rfl) (by kernel_rfl) (by kernel_rfl) (fun _ _ _ h =>h) (by kernel_rfl) hS0 (fun _ _ =>by kernel_rfl) ?_
     refine zAB 8 (.int .i64 (nx:Int)) rfl (by kernel_rfl) (by kernel_rfl) (by kernel_rfl) (fun _ _ _ h =>h) (by kernel_rfl) hS0 (fun _ _ =>by kernel_rfl) ?_
     refine zAB 9 (.int .i64 (m:Int)) rfl (by kernel_rfl) (by kernel_rfl) (by kernel_rfl) (fun _ _ _ h =>h) (by kernel_rfl) hS0 (by intro w' hb;go_simp) ?_
     refine zAB 10 (.string t8) rfl (by kernel_rfl) (by kernel_rfl) (by kernel_rfl) (fun _ _ _ h =>h) (by kernel_rfl) hS0 (by intro w' hb;go_simp) ?_
     refine zAP 4 rfl (by kernel_rfl) (by kernel_rfl) (fun K hK =>?_)
     go_simp
     refine (HS.out _).mono ?_
     rintro e w6 ⟨rfl,rfl⟩
     refine hK _ _ hS0 ?_
     clear hK K
     refine zAP 5 rfl (by kernel_rfl) (by kernel_rfl) (fun K hK =>?_)
     go_simp
     refine (HB.out _).mono ?_
     rintro e w5 ⟨rfl,hb5⟩
     have hS5:Below w.heap.size w w5:=hS0.trans (hb5.mono hS0.size)
     clear hb5
     refine hK _ _ hS5 ?_
     clear hK K
     refine zAB 11 (.bool true) rfl (by kernel_rfl) (by kernel_rfl) (by kernel_rfl) (fun _ _ _ h =>h) (by kernel_rfl) hS5 (by intro w' hb;go_simp) ?_
     refine wpAnyH_done (by kernel_rfl) ?_ _
     go_simp
     go_wp2
     go_ret3
     exact ⟨rfl,hS5⟩
theorem zNS:(Tryz.prog.info? 9).map (fun i =>(i.zero,i.size,i.bytes))=some (some (.string ⟨#[]⟩),1,16):=by kernel_rfl
theorem zDv:(Tryz.prog.info? 3).map (fun i =>(i.zero,i.size,i.bytes))=some (some (.int .i64 0),1,8):=by kernel_rfl
theorem zAk {w w':World} {b1 b2 s1 s2 n1 n2:Nat} {e1 e2:TypeId} {v1 v2:Value} {xs1 xs2:List Value} (h1:w.ownsRow b1 e1 s1 v1 n1 xs1) (h2:w.ownsRow b2 e2 s2 v2 n2 xs2) (he:e1≠e2)
  (hg:w.grownBy w' v1.ownBlock):w'.ownsRow b2 e2 s2 v2 n2 xs2:=by
 refine zAp h2 (fun g hg1 hg2 =>?_) hg
 rcases h1.2 with ⟨rfl,_⟩ | ⟨g1,c1,k1,rfl,_,hh1,_⟩
 ·simp [Value.ownBlock] at hg1
 rcases h2.2 with ⟨rfl,_⟩ | ⟨g2,c2,k2,rfl,_,hh2,_⟩
 ·simp [Value.ownBlock] at hg2
 simp only [Value.ownBlock,Option.some.injEq] at hg1 hg2
 subst hg1
 subst hg2
 rw [hh1] at hh2
 injection hh2 with hh2
 injection hh2 with _ h
 exact he h
theorem zAs {w:World} {base n size:Nat} {e:TypeId} {v:Value} {xs:List Value} (h:w.ownsRow base e size v n xs) (o:Obj):(w.alloc o).ownsRow base e size v n xs :=
 zAF h ((Below.refl _ w).alloc (Nat.le_refl _) o)
def tp (r:List UInt8×Nat):Value:=sv r.1
def tn (r:List UInt8×Nat):Value:=.int .i64 (r.2:Int)
theorem zJQ {k at_ nx:Nat} {p bs:List UInt8} (h:fg at_ bs=(p,nx,0)):frun (k+1) at_ bs=(p,nx) :: frun k nx bs:=by
 rw [frun,h];rfl
def ZRel (w:World) (bs:List UInt8) (F:List (List UInt8×Nat)) (at_ l e:Value) (wr:World):Prop :=
 ∃ (D:List (List UInt8×Nat)) (a k:Nat),at_=.int .i64 (a:Int)∧a≤bs.length∧bs.length - a<k∧D.length≤a∧F=D++frun k a bs ∧
  wr.ownsRow w.heap.size 9 1 l D.length (D.map tp)∧wr.ownsRow w.heap.size 3 1 e D.length (D.map tn)∧Below w.heap.size w wr
theorem zMy (bs:List UInt8) (a0:Nat) (hn:bs.length≤1073741824) (hat:a0≤bs.length) (w:World) (F:List (List UInt8×Nat)) (hF:F=frun (bs.length+1) a0 bs) :
  Calls Tryz.prog 24 #[.string (tx bs),.int .i64 (a0:Int)] w fun e w' =>∃ l en,e=.returned (.tuple #[l,en]) ∧
   w'.ownsRow w.heap.size 9 1 l F.length (F.map tp)∧w'.ownsRow w.heap.size 3 1 en F.length (F.map tn)∧Below w.heap.size w w':=by
 obtain ⟨is,hs,hs0,hs1,hs2⟩:=info_parts zNS
 obtain ⟨ii,hi,hi0,hi1,hi2⟩:=info_parts zDv
 have HG:Hid (∀ (a:Nat) (W:World),a≤bs.length→Calls Tryz.prog 46 #[.string (tx bs),.int .i64 (a:Int)] W fun e w' =>e=.returned (rres (fg a bs))∧Below W.heap.size W w'):=fun a W h =>zLE bs a hn h W
 have HF:=yh hF
 have HN:=yh hn
 have HAT:=yh hat
 clear hF hn hat
 generalize tx bs=s at HG
 go_enter Tryz.func24,Tryz.ntmps24
 go_wp2
 go_loopw [1,6,7] (fun at_ l e wr =>ZRel w bs F at_ l e wr) (fun at_ l e wr =>bs.length - (intOf at_).toNat)
 case atStart =>
  refine ⟨[],a0,bs.length+1,rfl,HAT.out,by omega,by simp,by rw [HF.out];rfl,zAs (zBF w 9) _,?_,(((Below.refl _ w).alloc (Nat.le_refl _) _).alloc (by simp) _)⟩
  have h:=zEz (base':=w.heap.size) (zBF (w.alloc (.cells #[] 9)) 3) (by simp)
  rw [World.size_alloc] at h
  exact h
 case round =>
  obtain ⟨D,a,k,rfl,ha,hk,hD,hFD,ho1,ho2,hb⟩:=hrel
  obtain ⟨k,rfl⟩:∃ k',k=k'+1:=⟨k - 1,by omega⟩
  obtain ⟨p,nx,er,hg⟩:∃ p nx er,fg a bs=(p,nx,er):=⟨_,_,_,rfl⟩
  have hget:=HG.out a wr ha
  rw [hg] at hget
  have HGET:=yh hget
  have HHG:=yh hg
  have HFD:=yh hFD
  have HD:=yh hD
  have HK:=yh hk
  have HA:=yh ha
  clear hg hget hFD hD hk ha
  by_cases her:er=0
  ·subst her
   have h4:=zHw HHG.out
   have hfit:D.length+1≤1073741824:=by have:=HN.out;have:=HD.out;omega
   have H4:=yh h4
   clear h4
   go_wp2_with (first
    | (go_at_call 46;refine HGET.out.mono ?_;rintro e w1 ⟨rfl,hb1⟩;unfold rres)
    | (at_builtin;refine wpList_append_own _ rfl (.tmp 24) (.tmp 26) 53 rfl w.heap.size 9 is (.string ⟨#[]⟩) 1 16 Tryz.underlying53 hs hs0 hs1 hs2 rfl (by decide) _ D.length (D.map tp) rfl (zAs (zAF ho1 hb1) _) ⟨w1.heap.size,0,none⟩ 1 1 [sv p] rfl rfl (cell_one_new _ _ _) (by simp [Value.oneCell',sv]) (by unfold maxLen;omega) (by omega) (by have:=hb.size;have:=hb1.size;simp;omega) ?_;intro l2 w2 ho3 hg2 _)
    | (at_builtin;refine wpList_append_own _ rfl (.tmp 28) (.tmp 30) 29 rfl w.heap.size 3 ii (.int .i64 0) 1 8 Tryz.underlying29 hi hi0 hi1 hi2 rfl (by decide) _ D.length (D.map tn) rfl (zAs (zAk (zAs (zAF ho1 hb1) _) (zAs (zAF ho2 hb1) _) (by decide) hg2) _) ⟨w2.heap.size,0,none⟩ 1 1 [.int .i64 (nx:Int)] rfl rfl (cell_one_new _ _ _) (by simp [Value.oneCell']) (by unfold maxLen;omega) (by omega) (by have:=hb.size;have:=hb1.size;have:=hg2.size;simp at *;omega) ?_;intro e2 w3 ho4 hg3 _))
   have hb2:=((hb.trans (hb1.mono hb.size)).alloc (by have:=hb.size;have:=hb1.size;omega) (.cells #[sv p] 9)).grown hg2 (by have:=hb.size;have:=hb1.size;simp;omega) (zAI ho1)
   have hb3:=(hb2.alloc hb2.size (.cells #[.int .i64 (nx:Int)] 3)).grown hg3 (by have:=hb2.size;simp;omega) (zAI ho2)
   refine ⟨⟨D++[(p,nx)],nx,k,rfl,H4.out.2.1,by have:=H4.out;have:=HK.out;omega,by have:=H4.out;have:=HD.out;simp;omega,by rw [HFD.out,zJQ HHG.out];simp,?_,?_,hb3⟩,by simp [intOf];have:=H4.out;omega⟩
   ·have h:=zAk (zAs (zAk (zAs (zAF ho1 hb1) _) (zAs (zAF ho2 hb1) _) (by decide) hg2) _) (zAs ho3 _) (by decide) hg3
    simpa [tp,sv] using h
   ·simpa [tn] using ho4
  ·have hre:((er:Int) == 0)=false:=by rw [beq_eq_false_iff_ne];omega
   have HE:=yh her
   clear her
   go_wp2_with (go_at_call 46;refine HGET.out.mono ?_;rintro e w1 ⟨rfl,hb1⟩;unfold rres)
   go_ret2
   have hF2:F=D:=by rw [HFD.out,zDx (by rw [HHG.out];exact HE.out),List.append_nil]
   rw [hF2]
   exact ⟨_,_,rfl,zAF ho1 hb1,zAF ho2 hb1,hb.trans (hb1.mono hb.size)⟩
open Go.RowKit
theorem zCA (t:List UInt8) (w:World):Calls Tryz.prog 56 #[rsv t] w fun e w' =>e=.returned (.bool (zAu t))∧w=w':=by
 unfold rsv
 have hsz:=zBU t
 by_cases h0:t=[]
 ·subst h0
  have he:(tx ([]:List UInt8)).toList=[]:=by simp [tx]
  go_enter Tryz.func56,Tryz.ntmps56
  go_wp2
  go_ret
  exact ⟨rfl,rfl⟩
 ·have h1:=zCY t h0
  have hl:1≤t.length:=by
   rcases t with _ | ⟨a,t⟩
   ·exact absurd rfl h0
   ·simp
  obtain ⟨n,hn⟩:∃ n,n=t.length:=⟨_,rfl⟩
  rw [← hn] at hsz hl
  by_cases h2:n≤64
  ·have hi:Hid (zAu t=true):=by show zAu t=true;unfold zAu;rw [← hn];exact decide_eq_true ⟨hl,h2⟩
   have h3:decide ((n:Int)<65)=true:=by rw [decide_eq_true_iff];omega
   clear hn h0
   go_enter Tryz.func56,Tryz.ntmps56
   go_wp2
   go_ret
   exact ⟨by rw [hi.out];first | rfl | (congr 2;simp;omega),rfl⟩
  ·have hi:Hid (zAu t=false):=by show zAu t=false;unfold zAu;rw [← hn];exact decide_eq_false (by omega)
   have h3:decide ((n:Int)<65)=false:=by rw [decide_eq_false_iff_not];omega
   clear hn h0
   go_enter Tryz.func56,Tryz.ntmps56
   go_wp2
   go_ret
   exact ⟨by rw [hi.out];first | rfl | (congr 2;simp;omega),rfl⟩
theorem zBm {t:List UInt8} {ns:List (List UInt8)} {s:List UInt8}:(t :: (ns++[s])).Nodup ↔ (t :: ns).Nodup∧s≠t∧s ∉ ns:=by
 rw [List.nodup_cons,List.nodup_cons,List.nodup_append]
 simp only [List.mem_append,List.mem_singleton,List.nodup_cons,List.not_mem_nil,not_false_iff,List.nodup_nil,and_true,true_and]
 constructor
 ·rintro ⟨h1,h2,h3⟩
  exact ⟨⟨fun h =>h1 (.inl h),h2⟩,fun h =>h1 (.inr h.symm),fun h =>h3 s h s rfl rfl⟩
 ·rintro ⟨⟨h1,h2⟩,h3,h4⟩
  refine ⟨fun h =>?_,h2,fun a ha b hb e =>?_⟩
  ·rcases h with h | h
   ·exact h1 h
   ·exact h3 h.symm
  ·subst hb;subst e;exact h4 ha
theorem zDZ {t:List UInt8} {ns:List (List UInt8)} (h:(t :: ns).Nodup) (i:Nat):(t :: ns.take i).Nodup:=by
 rw [List.nodup_cons] at h ⊢
 exact ⟨fun hm =>h.1 (List.mem_of_mem_take hm),h.2.sublist (List.take_sublist _ _)⟩
def zHv (v:Int) (w:World) (o:Obj) (t:List UInt8) (l:List Dp) (idx:Value) (wr:World):Prop :=
 ∃ i:Nat,i≤l.length∧idx=.int .i64 (i:Int)∧(∀ d ∈ l.take i,DepP v d)∧(t :: (zAM l).take i).Nodup∧Below w.heap.size w wr∧wr.heap[w.heap.size]? = some o∧w.heap.size<wr.heap.size
def zFo (w:World) (o x:Obj) (b i:Nat) (s:List UInt8) (l:List Dp) (idx:Value) (wr:World):Prop :=
 ∃ j:Nat,j≤i∧idx=.int .i64 (j:Int)∧s ∉ (zAM l).take j∧Below w.heap.size w wr∧wr.heap[w.heap.size]? = some o∧w.heap.size<wr.heap.size∧wr.heap[b]? = some x∧b<wr.heap.size
theorem zPE (t:List UInt8) (u o:Int) (A:Option Addr) (n c:Nat) (l:List Dp) (hn:n≤1000) (hfit:Fits ⟨1,t,u,o,0,[]⟩ l) (hq:zAu t=true) (h16:n≤16) (w:World) (h:zAE w w.heap.size 3 A n (dps l)) :
  Calls Tryz.prog 33 #[.int .i64 1,rcv ⟨1,t,u,o,0,[]⟩ A n c] w fun e w' =>zAz (MayP 1 ⟨1,t,u,o,0,[]⟩ l) e∧Below w.heap.size w w':=by
 have HL:Hid (l.length=n):=by have:=h.1;rw [zAe] at this;show _=_;omega
 have H1:=yh h
 have H0:=yh (zAG w (.cells (zAR ⟨1,t,u,o,0,[]⟩ A n c) 45))
 have HB0:=yh ((Below.refl w.heap.size w).alloc (Nat.le_refl _) (.cells (zAR ⟨1,t,u,o,0,[]⟩ A n c) 45))
 have HS0:Hid (w.heap.size<(w.alloc (.cells (zAR ⟨1,t,u,o,0,[]⟩ A n c) 45)).heap.size):=by show w.heap.size<_;simp
 have hst:=zBU t
 have hsg:=zBU []
 obtain ⟨hft,hfg,hfd⟩:=hfit
 have HFD:=yh hfd
 have HNAME:=yh (zCA t)
 have q0:=zAA (i:=0) H0.out rfl
 have q1:=zAA (i:=1) H0.out rfl
 have q2:=zAA (i:=2) H0.out rfl
 have q3:=zAA (i:=3) H0.out rfl
 have q4:=zAA (i:=4) H0.out rfl
 have q5:=zAA (i:=5) H0.out rfl
 have q6:=zAA (i:=6) H0.out rfl
 unfold maxLen at hft hfg
 simp only at hft hfg
 clear h hfd
 unfold zAR at *
 unfold rcv rsv at *
 rw [hq] at HNAME
 have d16:decide ((n:Int) > 16)=false:=decide_eq_false (by omega)
 have he:(tx ([]:List UInt8)).toList=[]:=by simp [tx]
 have HIFF:Hid (MayP 1 ⟨1,t,u,o,0,[]⟩ l ↔ zDC 1 ⟨1,t,u,o,0,[]⟩ l):=⟨fun h =>by rcases h.2.2.2 with h | h;exact h.2.2.2;exact absurd h.1 (by simp),fun h =>⟨by omega,by omega,hq,.inl ⟨rfl,.inl rfl,.inl rfl,h⟩⟩⟩
 have H16:Hid (n≤16):=h16
 go_enter Tryz.func33,Tryz.ntmps33
 go_wp2_with (go_at_call 56;refine (HNAME.out _).mono ?_;rintro e w2 ⟨rfl,rfl⟩)
 go_loopw [5] (fun idx wr =>zHv 1 w (.cells #[.int .i64 1,.string (tx t),.int .u64 u,.slice A n c,.int .u64 o,.int .u64 0,.string (tx [])] 45) t l idx wr) (fun idx wr =>n - (intOf idx).toNat)
 case atStart =>exact ⟨0,by omega,rfl,by simp,by simp,HB0.out,H0.out,HS0.out⟩
 case round =>
  obtain ⟨i,hi,rfl,hok,hnd,hb,hbx,hz⟩:=hrel
  obtain ⟨wo,hwo⟩:∃ x,x=wr:=⟨wr,rfl⟩
  subst hwo
  have HOK:=yh hok
  have HND:=yh hnd
  have HBR:=yh hb
  have HBX:=yh hbx
  have HZ:=yh hz
  rw [HL.out] at hi
  have b1:=zAA (i:=1) hbx rfl
  have b3:=zAA (i:=3) hbx rfl
  by_cases hlt:i<n
  ·obtain ⟨y,hy⟩:∃ y,l[i]? = some y:=⟨_,List.getElem?_eq_getElem (by rw [HL.out];exact hlt)⟩
   obtain ⟨ad,rfl,_,hcx⟩:=(H1.out.below hb).2 (by omega)
   obtain ⟨x0,x1,x2⟩:=zBI l i y hy
   have k0:=hcx _ _ x0
   have k1:=hcx _ _ x1
   have k2:=hcx _ _ x2
   rw [zBg] at k1
   rw [zBf] at k2
   have hnb:=zAG wo (.cells #[.string (tx y.name),.int .u64 y.hash,.bool y.order] 73)
   have p0:=zAA (i:=0) hnb rfl
   have p2:=zAA (i:=2) hnb rfl
   have hbn:=yh (hb.alloc (by omega) (.cells #[.string (tx y.name),.int .u64 y.hash,.bool y.order] 73))
   have hbxn:=yh ((Below.heap_alloc wo (.cells #[.string (tx y.name),.int .u64 y.hash,.bool y.order] 73) w.heap.size hz).trans hbx)
   have hzn:Hid (w.heap.size<(wo.alloc (.cells #[.string (tx y.name),.int .u64 y.hash,.bool y.order] 73)).heap.size):=by show w.heap.size<_;simp;omega
   have HNB:=yh hnb
   have HNBZ:Hid (wo.heap.size<(wo.alloc (.cells #[.string (tx y.name),.int .u64 y.hash,.bool y.order] 73)).heap.size):=by show _<_;simp
   have c1:=(World.cell?_alloc_lt wo (.cells #[.string (tx y.name),.int .u64 y.hash,.bool y.order] 73) ⟨w.heap.size,1,none⟩ hz).trans b1
   have hname:=yh (zCA y.name)
   have hi0:(0:Int)≤(i:Int):=by omega
   have hi1:(i:Int)<(n:Int):=by omega
   have HNM:Hid ((zAM l)[i]? = some y.name):=by show _=_;unfold zAM;rw [List.getElem?_map,hy];rfl
   have HIN:Hid (DepP 1 y→∀ d ∈ l.take (i+1),DepP 1 d):=fun hp d hd =>by
    rw [List.take_add_one,hy,List.mem_append] at hd
    rcases hd with hd | hd
    ·exact HOK.out d hd
    ·simp at hd;subst hd;exact hp
   have HOUT:Hid (¬ DepP 1 y→¬ MayP 1 ⟨1,t,u,o,0,[]⟩ l):=fun hp hd =>hp ((HIFF.out.1 hd).2.1 y (List.mem_of_getElem? hy))
   have HDUP:Hid (y.name=t∨y.name ∈ (zAM l).take i→¬ MayP 1 ⟨1,t,u,o,0,[]⟩ l):=fun hp hd =>by
    have h1:=zDZ (HIFF.out.1 hd).2.2 (i+1)
    rw [List.take_add_one,HNM.out] at h1
    have h2:=zBm.1 h1
    rcases hp with hp | hp
    ·exact h2.2.1 hp
    ·exact h2.2.2 hp
   obtain ⟨xn,xh,xo⟩:=y
   unfold rsv at k0 hname
   simp only at k0 k1 k2 p0 p2 hbn hbxn hzn HNB HNBZ c1 hname HNM HDUP
   clear hcx x0 x1 x2 hok hnd hb hbx hnb hy
   cases hqn:zAu xn
   ·have HNO:=yh (HOUT.out (fun hp =>by have:=hp.1;simp only at this;rw [hqn] at this;cases this))
    rw [hqn] at hname
    go_wp2_with (go_at_call 56;refine (hname.out _).mono ?_;rintro e w2 ⟨rfl,rfl⟩)
    go_ret
    exact ⟨zAK HNO.out,hbn.out⟩
   rw [hqn] at hname
   by_cases het:xn=t
   ·subst het
    have HNO:=yh (HDUP.out (.inl rfl))
    have hlk:=zBS xn
    go_wp2_with (go_at_call 56;refine (hname.out _).mono ?_;rintro e w2 ⟨rfl,rfl⟩)
    go_ret
    exact ⟨zAK HNO.out,hbn.out⟩
   have hun:=zBK het
   have HET:=yh het
   clear het
   cases xo
   rotate_left
   ·have HNO:=yh (HOUT.out (fun hp =>by have:=hp.2 rfl;omega))
    go_wp2_with (go_at_call 56;refine (hname.out _).mono ?_;rintro e w2 ⟨rfl,rfl⟩)
    go_ret
    exact ⟨zAK HNO.out,hbn.out⟩
   have HGO:=yh (HIN.out ⟨hqn,fun h =>by cases h⟩)
   ·go_wp2_with (go_at_call 56;refine (hname.out _).mono ?_;rintro e w2 ⟨rfl,rfl⟩)
    go_loopw [7] (fun idx wr =>zFo w (.cells #[.int .i64 1,.string (tx t),.int .u64 u,.slice (some ad) n c,.int .u64 o,.int .u64 0,.string (tx [])] 45) (.cells #[.string (tx xn),.int .u64 xh,.bool false] 73) wo.heap.size i xn l idx wr) (fun idx wr =>i - (intOf idx).toNat)
    case atStart =>exact ⟨0,by omega,rfl,by simp,hbn.out,hbxn.out,hzn.out,HNB.out,HNBZ.out⟩
    case round =>
     obtain ⟨j,hj,rfl,hnm,hb2,hbx2,hz2,hnb2,hnz2⟩:=hrel
     have HNM2:=yh hnm
     have HB2:=yh hb2
     have HBX2:=yh hbx2
     have HNB2:=yh hnb2
     have HZ2:=yh hz2
     have HNZ2:=yh hnz2
     have e3:=zAA (i:=3) hbx2 rfl
     have e0:=zAA (i:=0) hnb2 rfl
     by_cases hjlt:j<i
     ·obtain ⟨z,hzz⟩:∃ z,l[j]? = some z:=⟨_,List.getElem?_eq_getElem (by rw [HL.out];omega)⟩
      obtain ⟨ad',had,_,hcz⟩:=(H1.out.below hb2).2 (by omega)
      obtain rfl:ad=ad':=by injection had
      have m0:=hcz _ _ (zBI l j z hzz).1
      have HNZ:Hid ((zAM l)[j]? = some z.name):=by show _=_;unfold zAM;rw [List.getElem?_map,hzz];rfl
      obtain ⟨zn,zh,zo⟩:=z
      unfold rsv at m0
      simp only at m0 HNZ
      have hj0:(0:Int)≤(j:Int):=by omega
      have hj1:(j:Int)<(n:Int):=by omega
      clear hcz hzz hnm hb2 hbx2 hnb2 had
      by_cases hzx:zn=xn
      ·subst hzx
       have hlk:=zBS zn
       have HNO:=yh (HDUP.out (.inr (List.mem_of_getElem? (show ((zAM l).take i)[j]? = some zn by rw [List.getElem?_take,if_pos hjlt];exact HNZ.out))))
       go_wp2_with fail
       refine wp_region_held (S:=fun v1 =>v1.heap=wr.heap) (by kernel_rfl) ?_
       have hS:wr.drew.heap=wr.heap:=rfl
       refine zAB 0 (.pointer (some ⟨w.heap.size,3,none⟩)) rfl (by kernel_rfl) (by kernel_rfl) (by kernel_rfl) (fun _ _ _ h =>h) (by kernel_rfl) hS (fun _ _ =>by kernel_rfl) ?_
       refine zAB 1 (.slice (some ad) n c) rfl (by kernel_rfl) (by kernel_rfl) (by kernel_rfl) (fun _ _ _ h =>h) (by kernel_rfl) hS (by intro v1 hv;have q:=(zAU hv _).trans e3;go_simp) ?_
       refine zAB 2 (.int .i64 (j:Int)) rfl (by kernel_rfl) (by kernel_rfl) (by kernel_rfl) (fun _ _ _ h =>h) (by kernel_rfl) hS (fun _ _ =>by kernel_rfl) ?_
       refine zAB 3 (.pointer (some (ad.add (j * 3)))) rfl (by kernel_rfl) (by kernel_rfl) (by kernel_rfl) (fun _ _ _ h =>h) (by kernel_rfl) hS (by intro v1 hv;go_simp) ?_
       refine zAB 4 (.pointer (some (ad.add (j * 3)))) rfl (by kernel_rfl) (by kernel_rfl) (by kernel_rfl) (fun _ _ _ h =>h) (by kernel_rfl) hS (by intro v1 hv;go_simp) ?_
       refine zAB 5 (.string (tx zn)) rfl (by kernel_rfl) (by kernel_rfl) (by kernel_rfl) (fun _ _ _ h =>h) (by kernel_rfl) hS (by intro v1 hv;have q:=(zAU hv _).trans m0;go_simp) ?_
       refine zAB 6 (.pointer (some ⟨wo.heap.size,0,none⟩)) rfl (by kernel_rfl) (by kernel_rfl) (by kernel_rfl) (fun _ _ _ h =>h) (by kernel_rfl) hS (fun _ _ =>by kernel_rfl) ?_
       refine zAB 7 (.string (tx zn)) rfl (by kernel_rfl) (by kernel_rfl) (by kernel_rfl) (fun _ _ _ h =>h) (by kernel_rfl) hS (by intro v1 hv;have q:=(zAU hv _).trans e0;go_simp) ?_
       refine zAB 8 (.bool true) rfl (by kernel_rfl) (by kernel_rfl) (by kernel_rfl) (fun _ _ _ h =>h) (by kernel_rfl) hS (by intro v1 hv;go_simp) ?_
       refine wpAnyH_done (by kernel_rfl) ?_ _
       go_simp
       go_wp2
       go_ret
       exact ⟨zAK HNO.out,HB2.out.drew⟩
      ·have hul:=zBK hzx
       have HN2:Hid (xn ∉ (zAM l).take (j+1)):=fun h =>by
        rw [List.take_add_one,HNZ.out,List.mem_append] at h
        rcases h with h | h
        ·exact HNM2.out h
        ·simp at h;exact hzx h.symm
       clear hzx
       go_wp2_with fail
       refine wp_region_held (S:=fun v1 =>v1.heap=wr.heap) (by kernel_rfl) ?_
       have hS:wr.drew.heap=wr.heap:=rfl
       refine zAB 0 (.pointer (some ⟨w.heap.size,3,none⟩)) rfl (by kernel_rfl) (by kernel_rfl) (by kernel_rfl) (fun _ _ _ h =>h) (by kernel_rfl) hS (fun _ _ =>by kernel_rfl) ?_
       refine zAB 1 (.slice (some ad) n c) rfl (by kernel_rfl) (by kernel_rfl) (by kernel_rfl) (fun _ _ _ h =>h) (by kernel_rfl) hS (by intro v1 hv;have q:=(zAU hv _).trans e3;go_simp) ?_
       refine zAB 2 (.int .i64 (j:Int)) rfl (by kernel_rfl) (by kernel_rfl) (by kernel_rfl) (fun _ _ _ h =>h) (by kernel_rfl) hS (fun _ _ =>by kernel_rfl) ?_
       refine zAB 3 (.pointer (some (ad.add (j * 3)))) rfl (by kernel_rfl) (by kernel_rfl) (by kernel_rfl) (fun _ _ _ h =>h) (by kernel_rfl) hS (by intro v1 hv;go_simp) ?_
       refine zAB 4 (.pointer (some (ad.add (j * 3)))) rfl (by kernel_rfl) (by kernel_rfl) (by kernel_rfl) (fun _ _ _ h =>h) (by kernel_rfl) hS (by intro v1 hv;go_simp) ?_
       refine zAB 5 (.string (tx zn)) rfl (by kernel_rfl) (by kernel_rfl) (by kernel_rfl) (fun _ _ _ h =>h) (by kernel_rfl) hS (by intro v1 hv;have q:=(zAU hv _).trans m0;go_simp) ?_
       refine zAB 6 (.pointer (some ⟨wo.heap.size,0,none⟩)) rfl (by kernel_rfl) (by kernel_rfl) (by kernel_rfl) (fun _ _ _ h =>h) (by kernel_rfl) hS (fun _ _ =>by kernel_rfl) ?_
       refine zAB 7 (.string (tx xn)) rfl (by kernel_rfl) (by kernel_rfl) (by kernel_rfl) (fun _ _ _ h =>h) (by kernel_rfl) hS (by intro v1 hv;have q:=(zAU hv _).trans e0;go_simp) ?_
       refine zAB 8 (.bool false) rfl (by kernel_rfl) (by kernel_rfl) (by kernel_rfl) (fun _ _ _ h =>h) (by kernel_rfl) hS (by intro v1 hv;go_simp) ?_
       refine wpAnyH_done (by kernel_rfl) ?_ _
       go_simp
       go_wp2
       exact ⟨⟨j+1,by omega,by go_num,HN2.out,HB2.out.drew,HBX2.out,HZ2.out,HNB2.out,HNZ2.out⟩,by simp [intOf];omega⟩
     ·obtain rfl:j=i:=by omega
      have HND2:Hid ((t :: (zAM l).take (j+1)).Nodup):=by
       show List.Nodup _
       rw [List.take_add_one,HNM.out]
       exact zBm.2 ⟨HND.out,HET.out,HNM2.out⟩
      clear hnm hb2 hbx2 hnb2
      go_wp2
      exact ⟨⟨j+1,by rw [HL.out];omega,by go_num,HGO.out,HND2.out,HB2.out,HBX2.out,HZ2.out⟩,by simp [intOf];omega⟩
  ·obtain rfl:i=n:=by omega
   rw [List.take_of_length_le (by rw [HL.out];omega)] at HOK
   rw [List.take_of_length_le (by unfold zAM;rw [List.length_map,HL.out];omega)] at HND
   have HP:Hid (MayP 1 ⟨1,t,u,o,0,[]⟩ l):=HIFF.out.2 ⟨by rw [HL.out];exact H16.out,HOK.out,HND.out⟩
   clear hok hnd hb hbx
   go_wp2
   go_ret
   exact ⟨zBZ HP.out,HBR.out⟩
end Go.Proofs.YtoclafdidjpndaaGreatDoor
