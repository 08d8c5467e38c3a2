/- Texts of one proof. -/
import Derived.Deep.Upon
import Derived.Lib.SliceRun
import Derived.Test.YtekchkfjgofnkaaGreatDoorMy17
set_option maxRecDepth 100000
set_option maxHeartbeats 8000000
namespace Go.Proofs.YtekchkfjgofnkaaGreatDoor
open Go.RowKit
def zBh:List UInt8→Bool
 | [] =>false
 | x :: _ =>x == 0
def zAf:List (List UInt8)→Nat
 | [] =>0
 | p :: l =>if zBh p then zAf l+1 else 0
theorem zIm:∀ ps,zAf ps≤ps.length
 | [] =>Nat.le_refl _
 | p :: l =>by
  unfold zAf
  split
  ·have:=zIm l;simp;omega
  ·exact Nat.zero_le _
theorem zDM (ts:List (List UInt8)) (p:List UInt8) (l:List (List UInt8)) (ht:∀ t ∈ ts,zBh t=true) (hp:zBh p=false):zAf (ts++p :: l)=ts.length:=by
 induction ts with
 | nil =>simp [zAf,hp]
 | cons t ts ih =>
  rw [List.cons_append,zAf,if_pos (ht t (by simp)),ih (fun x hx =>ht x (by simp [hx]))]
  rfl
theorem zKl {ps:List (List UInt8)} {i:Nat} {p:List UInt8} (h:ps[i]? = some p):zAf (ps.drop i)=if zBh p then zAf (ps.drop (i+1))+1 else 0:=by
 obtain ⟨hlt,hp⟩:=List.getElem?_eq_some_iff.1 h
 rw [List.drop_eq_getElem_cons hlt,hp]
 rfl
def zSf (ps:List (List UInt8)) (w:World) (idx:Value) (wr:World):Prop :=
 ∃ i:Nat,i≤ps.length∧idx=.int .i64 (i:Int)∧wr=w∧zAf ps=i+zAf (ps.drop i)
theorem zDk (B n c:Nat) (ps:List (List UInt8)) (A:Option Addr) (hn:n≤100000) (w:World) (hr:PlsC w B A n c ps) :
  Calls Tryz.prog 115 #[.slice A n c] w fun e w' =>e=.returned (.int .i64 (zAf ps:Int))∧w=w':=by
 obtain ⟨hnc,hpn,vs,hrv,hps⟩:=hr
 have HRV:=yh hrv
 have HPS:=yh hps
 have HN:=yh hpn
 clear hrv hps hpn
 go_enter Tryz.func115,Tryz.ntmps115
 go_wp2_with fail
 go_loopw [7] (fun idx wr =>zSf ps w idx wr) (fun idx wr =>n - (intOf idx).toNat)
 case atStart =>exact ⟨0,by omega,rfl,rfl,by simp⟩
 case round =>
  obtain ⟨i,hi,rfl,rfl,hta⟩:=hrel
  rw [HN.out] at hi
  have HTA:=yh hta
  clear hta
  by_cases hlt:i<n
  ·obtain ⟨p,hp⟩:∃ p,ps[i]? = some p:=⟨_,List.getElem?_eq_getElem (by rw [HN.out];exact hlt)⟩
   obtain ⟨A4,c4,hv4,hc4,hr4⟩:=HPS.out i p hp
   obtain ⟨ad,rfl,_,hcx⟩:=HRV.out.2 (by omega)
   have k0:=hcx i _ hv4
   have hi0:(0:Int)≤(i:Int):=by omega
   have hi1:(i:Int)<(n:Int):=by omega
   have HD:=yh (zKl hp)
   cases p with
   | nil =>
    simp only [List.length_nil] at k0
    have HF:Hid ((zAf ps:Int)=(i:Int)):=by have h1:zAf (ps.drop i)=0:=HD.out;have h2:=HTA.out;show _=_;omega
    clear hcx hv4 hp hc4 hr4
    go_wp2
    go_ret
    exact ⟨by rw [HF.out];rfl,rfl⟩
   | cons x t =>
    obtain ⟨ad4,rfl,_,hcx4⟩:=hr4.2 (by simp)
    have k1:wr.cell? ad4=some (.int .u8 (x.toNat:Int)):=hcx4 0 (bv x) rfl
    obtain ⟨kl,hkl⟩:∃ kl,kl=t.length:=⟨_,rfl⟩
    simp only [List.length_cons] at k0
    rw [← hkl] at k0
    by_cases hx:x=0
    ·subst hx
     have HF:Hid (zAf ps=(i+1)+zAf (ps.drop (i+1))):=by have h1:zAf (ps.drop i)=zAf (ps.drop (i+1))+1:=HD.out;have h2:=HTA.out;show _=_;omega
     clear hcx hv4 hp hc4 hr4 hcx4 hkl
     go_wp2
     exact ⟨⟨i+1,by rw [HN.out];omega,by go_num,rfl,HF.out⟩,by simp [intOf];omega⟩
    ·have HF:Hid ((zAf ps:Int)=(i:Int)):=by have h1:=HD.out;have h2:=HTA.out;rw [if_neg (by simp [zBh,hx])] at h1;show _=_;omega
     obtain ⟨kx,hkx⟩:∃ kx,kx=x.toNat:=⟨_,rfl⟩
     have hkx0:¬ (kx:Int)=0:=fun h =>hx (by apply UInt8.toNat_inj.1;rw [← hkx];simpa using h)
     rw [← hkx] at k1
     have hq1:((kx:Int) != 0)=true:=by simpa using hkx0
     have hq2:((kl:Int)+1 == 0)=false:=by simp;omega
     clear hcx hv4 hp hc4 hr4 hcx4 hkl hkx hx
     go_wp2
     go_ret
     exact ⟨by rw [HF.out];rfl,rfl⟩
  ·obtain rfl:i=n:=by omega
   have HF:Hid ((zAf ps:Int)=(i:Int)):=by have h2:=HTA.out;rw [List.drop_of_length_le (by rw [HN.out];exact Nat.le_refl _)] at h2;show _=_;simp only [zAf] at h2;omega
   go_wp2
   go_ret
   exact ⟨by rw [HF.out];rfl,rfl⟩
theorem zRo {p q:List UInt8}:((tx p).toList == (tx q).toList)=decide (p=q):=by
 rw [zBd,zBd]
 by_cases h:p=q
 ·subst h;simp
 ·rw [decide_eq_false h]
  exact beq_eq_false_iff_ne.2 h
theorem zMk (B B2 n c n2 c2:Nat) (A A2:Option Addr) (p q:List UInt8) (w:World) (h1:zAD w B 1 A n (p.map bv)) (h2:zAD w B2 1 A2 n2 (q.map bv)) :
  Calls Tryz.prog 119 #[.slice A n c,.slice A2 n2 c2] w fun e w' =>e=.returned (.bool (decide (p=q)))∧w=w':=by
 have hc1:(convert 59 9 (.slice A n c)).run Tryz.prog w=.ok (.string (tx p)) w:=zBV Tryz.underlying59 Tryz.underlying5 Tryz.underlying9 h1
 have hc2:(convert 59 9 (.slice A2 n2 c2)).run Tryz.prog w=.ok (.string (tx q)) w:=zBV Tryz.underlying59 Tryz.underlying5 Tryz.underlying9 h2
 have HE:=yh (zRo (p:=p) (q:=q))
 generalize decide (p=q)=b at *
 clear h1 h2
 go_enter Tryz.func119,Tryz.ntmps119
 go_wp2
 go_ret
 exact ⟨by rw [← HE.out];rfl,rfl⟩
def zSh (ps qs:List (List UInt8)) (w:World) (idx:Value) (wr:World):Prop :=
 ∃ i:Nat,i≤ps.length∧idx=.int .i64 (i:Int)∧wr=w∧ps.take i=qs.take i
theorem zFW (B B2 n c n2 c2:Nat) (A A2:Option Addr) (ps qs:List (List UInt8)) (hn:n≤100000) (hn2:n2≤100000) (w:World) (hr:PlsC w B A n c ps) (hr2:PlsC w B2 A2 n2 c2 qs) :
  Calls Tryz.prog 118 #[.slice A n c,.slice A2 n2 c2,.func (.func 119) #[] #[]] w fun e w' =>e=.returned (.bool (decide (ps=qs)))∧w=w':=by
 obtain ⟨hnc,hpn,vs,hrv,hps⟩:=hr
 obtain ⟨hnc2,hpn2,vs2,hrv2,hps2⟩:=hr2
 have HRV:=yh hrv
 have HPS:=yh hps
 have HN:=yh hpn
 have HRV2:=yh hrv2
 have HPS2:=yh hps2
 have HN2:=yh hpn2
 clear hrv hps hpn hrv2 hps2 hpn2
 by_cases hnn:n=n2
 ·subst hnn
  go_enter Tryz.func118,Tryz.ntmps118
  go_wp2_with fail
  go_loopw [17] (fun idx wr =>zSh ps qs w idx wr) (fun idx wr =>n - (intOf idx).toNat)
  case atStart =>exact ⟨0,by omega,rfl,rfl,by simp⟩
  case round =>
   obtain ⟨i,hi,rfl,rfl,hta⟩:=hrel
   rw [HN.out] at hi
   have HTA:=yh hta
   clear hta
   by_cases hlt:i<n
   ·obtain ⟨p,hp⟩:∃ p,ps[i]? = some p:=⟨_,List.getElem?_eq_getElem (by rw [HN.out];exact hlt)⟩
    obtain ⟨q,hq⟩:∃ q,qs[i]? = some q:=⟨_,List.getElem?_eq_getElem (by rw [HN2.out];exact hlt)⟩
    obtain ⟨A4,c4,hv4,hc4,hr4⟩:=HPS.out i p hp
    obtain ⟨A5,c5,hv5,hc5,hr5⟩:=HPS2.out i q hq
    obtain ⟨ad,rfl,_,hcx⟩:=HRV.out.2 (by omega)
    obtain ⟨ad2,rfl,_,hcx2⟩:=HRV2.out.2 (by omega)
    have k0:=hcx i _ hv4
    have k1:=hcx2 i _ hv5
    have hi0:(0:Int)≤(i:Int):=by omega
    have hi1:(i:Int)<(n:Int):=by omega
    have HEQ:=yh (zMk B B2 p.length c4 q.length c5 A4 A5 p q wr hr4 hr5)
    obtain ⟨lp,hlp⟩:∃ lp,lp=p.length:=⟨_,rfl⟩
    obtain ⟨lq,hlq⟩:∃ lq,lq=q.length:=⟨_,rfl⟩
    rw [← hlp] at HEQ k0
    rw [← hlq] at HEQ k1
    by_cases hpq:p=q
    ·have HF:Hid (ps.take (i+1)=qs.take (i+1)):=by show _=_;rw [List.take_add_one,List.take_add_one,HTA.out,hp,hq,hpq]
     rw [decide_eq_true hpq] at HEQ
     clear hcx hcx2 hv4 hv5 hp hq hc4 hc5 hr4 hr5 hlp hlq hpq
     go_wp2_with (go_at_call 119;refine HEQ.out.mono ?_;rintro e w3 ⟨rfl,rfl⟩)
     exact ⟨⟨i+1,by rw [HN.out];omega,by go_num,rfl,HF.out⟩,by simp [intOf];omega⟩
    ·have HF:Hid (decide (ps=qs)=false):=by
      refine decide_eq_false fun h =>hpq ?_
      rw [h] at hp
      exact Option.some.inj (hp.symm.trans hq)
     rw [decide_eq_false hpq] at HEQ
     clear hcx hcx2 hv4 hv5 hp hq hc4 hc5 hr4 hr5 hlp hlq hpq
     go_wp2_with (go_at_call 119;refine HEQ.out.mono ?_;rintro e w3 ⟨rfl,rfl⟩)
     go_ret
     exact ⟨by rw [HF.out];rfl,rfl⟩
   ·obtain rfl:i=n:=by omega
    have HF:Hid (decide (ps=qs)=true):=by
     refine decide_eq_true ?_
     have h1:=HTA.out
     rw [List.take_of_length_le (by rw [HN.out];exact Nat.le_refl _),List.take_of_length_le (by rw [HN2.out];exact Nat.le_refl _)] at h1
     exact h1
    go_wp2
    go_ret
    exact ⟨by rw [HF.out];rfl,rfl⟩
 ·have HF:Hid (decide (ps=qs)=false):=decide_eq_false fun h =>hnn (by rw [← HN.out,← HN2.out,h])
  have hni:¬ (n:Int)=(n2:Int):=by omega
  have hq1:((n:Int) != (n2:Int))=true:=by simpa using hni
  go_enter Tryz.func118,Tryz.ntmps118
  go_wp2
  go_ret
  exact ⟨by rw [HF.out];rfl,rfl⟩
theorem PlsC.of_rows {w:World} {base:Nat} {S:Nat→Prop} {A:Option Addr} {n c:Nat} {ps:List (List UInt8)} (hn:n=ps.length) (h:Rows w base S (.slice A n c) ps):PlsC w w.heap.size A n c ps:=by
 subst hn
 obtain ⟨vs,h1,h2,h3,h4⟩:=h
 have cap:∀ {e:TypeId} {A:Option Addr} {n c:Nat} {xs:List Value},w.ownsRow base e 1 (.slice A n c) n xs→n≤c:=fun h =>by
  rcases h.2 with ⟨h5,h6⟩ | ⟨g,cap,cur,h5,_,_,h6,_⟩
  ·cases h5;exact Nat.le_refl _
  ·cases h5;exact h6
 refine ⟨cap h1,rfl,vs,zAD.of_own h1,fun i p hp =>?_⟩
 obtain ⟨v,h5,h6,h7⟩:=h4 i p hp
 obtain ⟨A',c',rfl,_⟩:=zAL h6
 exact ⟨A',c',h5,cap h6,zAD.of_own h6⟩
open Go.RowKit Go.Maps Go.ChangeMaps Go.WideMaps
theorem zLc {P:Program} (W:World) (t e ty:TypeId) (A:Option Addr) (c:Nat) (ht:P.underlying t=some (.slice e)):(Builtin.clear_ #[t] ty #[.slice A 0 c]).run P W=.ok (.tuple #[]) W:=by
 cases A <;> simp [Builtin.clear_,run_underlying ht]
theorem zQo (L:Option Addr) (b n c:Nat) (sz:Int) (w:World) (hc0:w.cell? ⟨b,0,none⟩=some (.slice L n c)) (hnc:n≤c) (hc1:c≤9223372036854775807) (hf0:w.frozen? ⟨b,0,none⟩=false) (hsz:(n:Int)<sz∨sz=(n:Int)∨(sz<0∧n=0)) :
    Calls Tryz.prog 147 #[.pointer (some ⟨b,0,none⟩),.int .i64 sz] w fun e w' =>e=.returned (.tuple #[])∧w'=w.setCell ⟨b,0,none⟩ (.slice L n c):=by
  have hcl:=fun (W:World) (ty:TypeId) (A:Option Addr) (c:Nat) =>zLc (P:=Tryz.prog) W 82 9 ty A c Tryz.underlying82
  rcases hsz with hsz | rfl | ⟨hsz,rfl⟩
  all_goals
    go_enter Tryz.func147,Tryz.ntmps147
    go_wp2
  all_goals
    (go_loopw [22] (fun idx wr =>idx=.int .i64 0∧wr=w) (fun idx wr =>0)
     case atStart =>exact ⟨rfl,rfl⟩
     case round =>
       obtain ⟨rfl,rfl⟩:=hrel
       go_wp2
       go_end0
       first | exact ⟨rfl,rfl⟩ | (refine ⟨rfl,?_⟩;subst_vars;rfl))
theorem zFs (g:Nat) (e:TypeId) (f:Nat×Nat):∀ (vs:List Value) (o:Nat) (w:World) (cur:Array Value),w.heap[g]? = some (.cells cur e f) →
  ∃ cur',(w.setCells g o vs).heap[g]? = some (.cells cur' e f)∧cur'.size=cur.size∧∀ j:Nat,j<o→cur'[j]? = cur[j]?
 | [],_,_,cur,h =>⟨cur,h,rfl,fun _ _ =>rfl⟩
 | v :: vs,o,w,_,h =>by
  obtain ⟨cur',h1,h2,h3⟩:=zFs g e f vs (o+1) (w.setCell ⟨g,o,none⟩ v) _ (zCv (u:=v) (j:=o) h)
  refine ⟨cur',h1,by rw [h2];simp,fun j hj =>?_⟩
  rw [h3 j (by omega),Array.getElem?_setIfInBounds,if_neg (by omega)]
theorem zDo (g:Nat) (S:Nat→Prop) (hs:S g):∀ (vs:List Value) (o:Nat) (a w:World),Turn S a w→Turn S a (w.setCells g o vs)
 | [],_,_,_,h =>h
 | v :: vs,o,a,_,h =>zDo g S hs vs (o+1) a _ (h.setCell g o v hs)
theorem zIe {w:World} {g n k c:Nat} {e:TypeId} {xs:List Value} (h:w.ownsRow 0 e 1 (.slice (some ⟨g,0,none⟩) n c) n xs) (hk:k≤n) (vs:List Value) :
  (w.setCells g k vs).ownsRow 0 e 1 (.slice (some ⟨g,0,none⟩) k c) k (xs.take k):=by
 have hlen:=h.1
 rcases h.2 with ⟨h0,_⟩ | ⟨g',cap,cur,hv,_,hg,h1,h2,h3,h4⟩
 ·cases h0
 ·injection hv with hv _ hv2
  cases hv
  subst hv2
  obtain ⟨cur',g1,g2,g3⟩:=zFs g e (0,0) vs k w cur hg
  refine ⟨by rw [List.length_take];omega,.inr ⟨g,c,cur',rfl,Nat.zero_le _,g1,by omega,h2,by rw [g2,h3],?_⟩⟩
  rw [← h4,List.take_take]
  apply List.ext_getElem?
  intro j
  rw [List.getElem?_take,List.getElem?_take]
  by_cases hj:j<k * 1
  ·rw [if_pos hj,if_pos (by omega)]
   have:=g3 j (by omega)
   simpa using this
  ·rw [if_neg hj,if_neg (by omega)]
theorem zOf (S:Nat→Prop) (b g mb n k c N:Nat) (D:DataW Nat) (l:List (List UInt8)) (sz:Int) (hkn:k<n) (hnl:n=l.length) (hnb:n≤1073741824) (w:World) (hh:w.heap[b]? = some (.cells #[.slice (some ⟨g,0,none⟩) n c,.map (some mb)] 170 (0,0)))
  (ho:w.ownsRow 0 9 1 (.slice (some ⟨g,0,none⟩) n c) n (l.map tsv)) (hm:w.ownsMap Tryz.prog 9 (plainElem Tryz.prog 38) mb N D) (hn:zDC D l) (hnd:l.Nodup) (hlen:∀ s ∈ l,s.length≤maxLen) (hSb:S b) (hSg:S g) (hSm:S mb)
  (hsz:(sz<0∧k=0)∨sz=(k:Int)) :
  Calls Tryz.prog 147 #[.pointer (some ⟨b,0,none⟩),.int .i64 sz] w fun e w' =>e=.returned (.tuple #[])∧Tab w' S b N (l.take k)∧Turn S w w':=by
 have hbm:b≠mb:=by
  intro e
  subst e
  obtain ⟨es,clock,hb,_⟩:=hm
  rw [hh] at hb;cases hb
 have hgm:g≠mb:=zGL ho hm g rfl
 have hgb:g≠b:=fun e =>zAa ho hh (by decide) (by rw [e];rfl)
 have hcn:n≤c∧c≤maxLen:=by
  rcases ho.2 with ⟨h0,_⟩ | ⟨g',cap,cur,hv,_,hg,h1,h2,h3,h4⟩
  ·cases h0
  ·injection hv with _ _ hv2
   subst hv2
   exact ⟨h1,h2⟩
 have hc1:c≤9223372036854775807:=by have:=hcn.2;unfold maxLen at this;omega
 have hck:¬ c=k:=by omega
 have hc0:w.cell? ⟨b,0,none⟩=some (.slice (some ⟨g,0,none⟩) n c):=zAr hh rfl
 have hcm:w.cell? ⟨b,1,none⟩=some (.map (some mb)):=zAr hh rfl
 have hf0:w.frozen? ⟨b,0,none⟩=false:=zBN hh
 have hrow:=zAD.of_own ho
 have HH:=yh hh
 have HO:=yh ho
 have HM:=yh hm
 have HROW:=yh hrow
 have HN:=yh (zIp k hn)
 have HND:=yh hnd
 have HLEN:=yh hlen
 have HNL:=yh hnl
 have HBM:=yh hbm
 have HGM:=yh hgm
 have HGB:=yh hgb
 have HSS:Hid (S b∧S g∧S mb):=⟨hSb,hSg,hSm⟩
 have hnc:=hcn.1
 clear hh ho hm hrow hn hnd hlen hnl hbm hgm hgb hSb hSg hSm hcn
 rcases hsz with ⟨hsz,rfl⟩ | rfl
 ·go_enter Tryz.func147,Tryz.ntmps147
  go_wp2
  go_loopw [22] (fun idx wr =>∃ (i:Nat) (D':DataW Nat),i≤n∧idx=.int .i64 (i:Int)∧wr.ownsMap Tryz.prog 9 (plainElem Tryz.prog 38) mb N D'∧zEB D' l 0 (0+i)∧Turn (fun q =>q=mb) w wr) (fun idx wr =>n - (intOf idx).toNat)
  case atStart =>exact ⟨0,D,by omega,rfl,HM.out,HN.out,Turn.refl _ _⟩
  case round =>
   obtain ⟨i,D',hi,rfl,hm',hn',ht'⟩:=hrel
   have hhr:wr.heap[b]? = some (.cells #[.slice (some ⟨g,0,none⟩) n c,.map (some mb)] 170 (0,0)):=(ht'.2.2.2.2 b (Array.getElem?_eq_some_iff.1 HH.out).1 HBM.out).trans HH.out
   have hor:=zAR (w':=wr) HO.out (fun q hq =>by
    obtain rfl:g=q:=by simpa [Value.ownBlock] using hq
    exact ht'.2.2.2.2 g (zAP HO.out g rfl) HGM.out)
   have hcmr:wr.cell? ⟨b,1,none⟩=some (.map (some mb)):=zAr hhr rfl
   by_cases hlt:i<n
   ·obtain ⟨s,hs⟩:∃ s,l[0+i]? = some s:=⟨_,List.getElem?_eq_getElem (by rw [← HNL.out];omega)⟩
    have hcell:wr.cell? ⟨g,i,none⟩=some (.string (tx s)):=by
     have h:=hor.cellAt (0+i) (by omega)
     rw [List.getElem?_map,hs] at h
     simpa [tsv] using h
    have hkey:=zHb (HLEN.out s (List.mem_of_getElem? hs))
    unfold tsv at hkey
    have HST:=yh (zFl HND.out (by omega) hs hn')
    have HTT:=yh ht'
    clear hs hhr hor hn' ht'
    go_wp2_with (at_delete;refine wpList_delete_own _ rfl _ _ 159 9 rfl 38 tkey Tryz.underlying159 _ mb N D' rfl hm' _ _ rfl hkey ?_;intro w1 hm1 ht1)
    exact ⟨⟨i+1,_,by omega,by go_num,hm1,HST.out,HTT.out.grown ht1.grown (fun q e _ =>by cases e;rfl)⟩,by simp [intOf];omega⟩
   ·have hk0:0+i=l.length:=by have:=HNL.out;omega
    rw [hk0] at hn'
    have hend:=zGW HND.out hn'
    have hc0r:wr.cell? ⟨b,0,none⟩=some (.slice (some ⟨g,0,none⟩) n c):=zAr hhr rfl
    have hf0r:wr.frozen? ⟨b,0,none⟩=false:=zBN hhr
    have hcl:∀ ty,(Builtin.clear_ #[82] ty #[.slice (some ⟨g,0,none⟩) (n) (c)]).run Tryz.prog wr=.ok (.tuple #[]) (wr.setCells g 0 (List.replicate (n) (.string ⟨#[]⟩))):=fun ty =>
     Lib.run_clear_slice wr 82 9 ty (.string ⟨#[]⟩) Tryz.underlying82 (fun w =>by kernel_rfl) rfl rfl g 0 (n) (c) (by omega)
      (fun j hj =>by rw [hor.cellAt (0+j) (by omega)];simp;rw [← HNL.out];omega) (fun j _ =>hor.frozenAt _)
    have hs1:∀ vs:List Value,(wr.setCells g 0 vs).heap[b]? = wr.heap[b]?:=fun vs =>World.heap_setCells_other wr g 0 vs (Array.getElem?_eq_some_iff.1 hhr).1 (fun e =>HGB.out e.symm)
    have hhs:=(hs1 (List.replicate (n) (.string ⟨#[]⟩))).trans hhr
    have hc0s:(wr.setCells g 0 (List.replicate (n) (.string ⟨#[]⟩))).cell? ⟨b,0,none⟩=some (.slice (some ⟨g,0,none⟩) n c):=zAr hhs rfl
    have hf0s:(wr.setCells g 0 (List.replicate (n) (.string ⟨#[]⟩))).frozen? ⟨b,0,none⟩=false:=zBN hhs
    have HHS:=yh hhs
    have HOR:=yh hor
    have HMM:=yh hm'
    have HTT:=yh ht'
    have HEND:=yh hend
    have HHR:=yh hhr
    clear hhs hor hm' ht' hend hs1 hn' hk0 hhr
    generalize hvs:List.replicate (n) (Value.string ⟨#[]⟩)=vs at hcl hc0s hf0s HHS
    clear hvs
    go_wp2
    go_end0
    obtain ⟨sb,sg,sm⟩:=HSS.out
    have hlk:(l.take 0).length=0:=by rw [List.length_take,← HNL.out];omega
    have htu:Turn S w wr:=⟨HTT.out.1,HTT.out.2.1,HTT.out.2.2.1,HTT.out.2.2.2.1,fun q h1 h2 =>HTT.out.2.2.2.2 q h1 (fun e =>h2 (by rw [e];exact sm))⟩
    have hof:=zIe HOR.out (k:=0) (by omega) vs
    have hmb:((wr.setCells g 0 vs).setCell ⟨b,0,none⟩ (.slice (some ⟨g,0,none⟩) 0 c)).heap[mb]? = wr.heap[mb]? :=
     (Below.heap_setCell _ _ _ mb (fun e =>HBM.out e.symm)).trans (World.heap_setCells_other wr g 0 vs HMM.out.lt (fun e =>HGM.out e.symm))
    refine ⟨rfl,⟨some ⟨g,0,none⟩,c,some mb,?_,sb,?_,fun q hq =>?_,.inr ⟨mb,D',rfl,sm,zFM HMM.out hmb,HEND.out⟩,HND.out.sublist (List.take_sublist _ _),fun s hs =>HLEN.out s (List.mem_of_mem_take hs)⟩,?_⟩
    ·rw [hlk];exact zCv HHS.out
    ·rw [hlk,List.map_take]
     exact zAR hof (fun q hq =>Below.heap_setCell _ _ _ q (fun e =>by
      obtain rfl:g=q:=by simpa [Value.ownBlock] using hq
      exact HGB.out e))
    ·obtain rfl:g=q:=by simpa [Value.ownBlock] using hq
     exact sg
    ·exact (zDo g S sg vs 0 w wr htu).setCell b 0 _ sb
 ·go_enter Tryz.func147,Tryz.ntmps147
  go_wp2
  go_loopw [22] (fun idx wr =>∃ (i:Nat) (D':DataW Nat),i≤n - k∧idx=.int .i64 (i:Int)∧wr.ownsMap Tryz.prog 9 (plainElem Tryz.prog 38) mb N D'∧zEB D' l k (k+i)∧Turn (fun q =>q=mb) w wr) (fun idx wr =>n - k - (intOf idx).toNat)
  case atStart =>exact ⟨0,D,by omega,rfl,HM.out,HN.out,Turn.refl _ _⟩
  case round =>
   obtain ⟨i,D',hi,rfl,hm',hn',ht'⟩:=hrel
   have hhr:wr.heap[b]? = some (.cells #[.slice (some ⟨g,0,none⟩) n c,.map (some mb)] 170 (0,0)):=(ht'.2.2.2.2 b (Array.getElem?_eq_some_iff.1 HH.out).1 HBM.out).trans HH.out
   have hor:=zAR (w':=wr) HO.out (fun q hq =>by
    obtain rfl:g=q:=by simpa [Value.ownBlock] using hq
    exact ht'.2.2.2.2 g (zAP HO.out g rfl) HGM.out)
   have hcmr:wr.cell? ⟨b,1,none⟩=some (.map (some mb)):=zAr hhr rfl
   by_cases hlt:i<n - k
   ·obtain ⟨s,hs⟩:∃ s,l[k+i]? = some s:=⟨_,List.getElem?_eq_getElem (by rw [← HNL.out];omega)⟩
    have hcell:wr.cell? ⟨g,k+i,none⟩=some (.string (tx s)):=by
     have h:=hor.cellAt (k+i) (by omega)
     rw [List.getElem?_map,hs] at h
     simpa [tsv] using h
    have hkey:=zHb (HLEN.out s (List.mem_of_getElem? hs))
    unfold tsv at hkey
    have HST:=yh (zFl HND.out (by omega) hs hn')
    have HTT:=yh ht'
    clear hs hhr hor hn' ht'
    go_wp2_with (at_delete;refine wpList_delete_own _ rfl _ _ 159 9 rfl 38 tkey Tryz.underlying159 _ mb N D' rfl hm' _ _ rfl hkey ?_;intro w1 hm1 ht1)
    exact ⟨⟨i+1,_,by omega,by go_num,hm1,HST.out,HTT.out.grown ht1.grown (fun q e _ =>by cases e;rfl)⟩,by simp [intOf];omega⟩
   ·have hk0:k+i=l.length:=by have:=HNL.out;omega
    rw [hk0] at hn'
    have hend:=zGW HND.out hn'
    have hc0r:wr.cell? ⟨b,0,none⟩=some (.slice (some ⟨g,0,none⟩) n c):=zAr hhr rfl
    have hf0r:wr.frozen? ⟨b,0,none⟩=false:=zBN hhr
    have hcl:∀ ty,(Builtin.clear_ #[82] ty #[.slice (some ⟨g,k,none⟩) (n - k) (c - k)]).run Tryz.prog wr=.ok (.tuple #[]) (wr.setCells g k (List.replicate (n - k) (.string ⟨#[]⟩))):=fun ty =>
     Lib.run_clear_slice wr 82 9 ty (.string ⟨#[]⟩) Tryz.underlying82 (fun w =>by kernel_rfl) rfl rfl g k (n - k) (c - k) (by omega)
      (fun j hj =>by rw [hor.cellAt (k+j) (by omega)];simp;rw [← HNL.out];omega) (fun j _ =>hor.frozenAt _)
    have hs1:∀ vs:List Value,(wr.setCells g k vs).heap[b]? = wr.heap[b]?:=fun vs =>World.heap_setCells_other wr g k vs (Array.getElem?_eq_some_iff.1 hhr).1 (fun e =>HGB.out e.symm)
    have hhs:=(hs1 (List.replicate (n - k) (.string ⟨#[]⟩))).trans hhr
    have hc0s:(wr.setCells g k (List.replicate (n - k) (.string ⟨#[]⟩))).cell? ⟨b,0,none⟩=some (.slice (some ⟨g,0,none⟩) n c):=zAr hhs rfl
    have hf0s:(wr.setCells g k (List.replicate (n - k) (.string ⟨#[]⟩))).frozen? ⟨b,0,none⟩=false:=zBN hhs
    have HHS:=yh hhs
    have HOR:=yh hor
    have HMM:=yh hm'
    have HTT:=yh ht'
    have HEND:=yh hend
    have HHR:=yh hhr
    clear hhs hor hm' ht' hend hs1 hn' hk0 hhr
    generalize hvs:List.replicate (n - k) (Value.string ⟨#[]⟩)=vs at hcl hc0s hf0s HHS
    clear hvs
    go_wp2
    go_end0
    obtain ⟨sb,sg,sm⟩:=HSS.out
    have hlk:(l.take k).length=k:=by rw [List.length_take,← HNL.out];omega
    have htu:Turn S w wr:=⟨HTT.out.1,HTT.out.2.1,HTT.out.2.2.1,HTT.out.2.2.2.1,fun q h1 h2 =>HTT.out.2.2.2.2 q h1 (fun e =>h2 (by rw [e];exact sm))⟩
    have hof:=zIe HOR.out (k:=k) (by omega) vs
    have hmb:((wr.setCells g k vs).setCell ⟨b,0,none⟩ (.slice (some ⟨g,0,none⟩) k c)).heap[mb]? = wr.heap[mb]? :=
     (Below.heap_setCell _ _ _ mb (fun e =>HBM.out e.symm)).trans (World.heap_setCells_other wr g k vs HMM.out.lt (fun e =>HGM.out e.symm))
    refine ⟨rfl,⟨some ⟨g,0,none⟩,c,some mb,?_,sb,?_,fun q hq =>?_,.inr ⟨mb,D',rfl,sm,zFM HMM.out hmb,HEND.out⟩,HND.out.sublist (List.take_sublist _ _),fun s hs =>HLEN.out s (List.mem_of_mem_take hs)⟩,?_⟩
    ·rw [hlk];exact zCv HHS.out
    ·rw [hlk,List.map_take]
     exact zAR hof (fun q hq =>Below.heap_setCell _ _ _ q (fun e =>by
      obtain rfl:g=q:=by simpa [Value.ownBlock] using hq
      exact HGB.out e))
    ·obtain rfl:g=q:=by simpa [Value.ownBlock] using hq
     exact sg
    ·exact (zDo g S sg vs k w wr htu).setCell b 0 _ sb
theorem zOV (b:Nat) (sz:Int) (w:World) (Q:World→Prop) (h:Calls Tryz.prog 147 #[.pointer (some ⟨b,0,none⟩),.int .i64 sz] w fun e w' =>e=.returned (.tuple #[])∧Q w') :
  Calls Tryz.prog 117 #[.pointer (some ⟨b,0,none⟩),.int .i64 sz] w fun e w' =>e=.returned (.tuple #[])∧Q w':=by
 have H:=yh h
 clear h
 go_enter Tryz.func117,Tryz.ntmps117
 go_wp2_with (first
  | (go_at_call 108;refine (zEm b _).mono ?_;rintro e w1 ⟨rfl,rfl⟩)
  | (go_at_call 147;refine H.out.mono ?_;rintro e w1 ⟨rfl,hq⟩))
 go_end0
 exact ⟨rfl,hq⟩
def tcut (n:Nat) (sz:Int):Nat:=min n (max sz 0).toNat
theorem zEk (S:Nat→Prop) (b N:Nat) (l:List (List UInt8)) (sz:Int) (hl:l.length≤1073741824) (w:World) (h:Tab w S b N l) :
  Calls Tryz.prog 117 #[.pointer (some ⟨b,0,none⟩),.int .i64 sz] w fun e w' =>e=.returned (.tuple #[])∧Tab w' S b N (l.take (tcut l.length sz))∧Turn S w w':=by
 refine zOV b sz w (fun w' =>Tab w' S b N (l.take (tcut l.length sz))∧Turn S w w') ?_
 have htab:=h
 obtain ⟨L,c,mv,h1,hSb,h3,h4,h5,hnd,hlen⟩:=h
 by_cases hk:tcut l.length sz=l.length
 ·rw [hk,List.take_length]
  have hcap:l.length≤c∧c≤maxLen:=by
   rcases h3.2 with ⟨h0,h00⟩ | ⟨g',cap,cur,hv,_,_,g1,g2,_⟩
   ·injection h0 with _ _ h0;subst h0;rw [h00];exact ⟨Nat.le_refl _,Nat.zero_le _⟩
   ·injection hv with _ _ hv2;subst hv2;exact ⟨g1,g2⟩
  refine (zQo L b l.length c sz w (zAr h1 rfl) hcap.1 (by have:=hcap.2;unfold maxLen at this;omega) (zBN h1) (by unfold tcut at hk;omega)).mono ?_
  rintro e w' ⟨rfl,rfl⟩
  refine ⟨rfl,?_,(Turn.refl S w).setCell b 0 _ hSb⟩
  have hb2:(w.setCell ⟨b,0,none⟩ (.slice L l.length c)).heap[b]? = w.heap[b]?:=by rw [zCv h1,h1];rfl
  exact htab.keep fun q _ hq =>by
   by_cases e:q=b
   ·rw [e];exact hb2
   ·exact Below.heap_setCell _ _ _ q e
 ·have hlt:tcut l.length sz<l.length:=by unfold tcut at hk ⊢;omega
  obtain ⟨g,hL⟩:∃ g,L=some ⟨g,0,none⟩:=by
   rcases h3.2 with ⟨_,h00⟩ | ⟨g',cap,cur,hv,_⟩
   ·omega
   ·injection hv with hv _ _;exact ⟨g',hv⟩
  subst hL
  rcases h5 with ⟨_,e⟩ | ⟨mb,D,rfl,hSm,hm,hn⟩
  ·rw [e] at hlt;simp at hlt
  ·exact zOf S b g mb l.length (tcut l.length sz) c N D l sz hlt rfl hl w h1 h3 hm hn hnd hlen hSb (h4 g rfl) hSm (by unfold tcut at hlt ⊢;omega)
theorem zFB:∀ (ns tl:List (List UInt8)),((zBA tl ns).map List.tail).foldl tput tl=ns.foldl tput tl
 | [],_ =>rfl
 | s :: ns,tl =>by
  unfold zBA
  by_cases h:s ∈ tl
  ·rw [if_pos h,List.foldl_cons,zDa h]
   exact zFB ns tl
  ·rw [if_neg h,List.map_cons,List.foldl_cons,List.foldl_cons]
   show List.foldl tput (tput tl s) _=_
   rw [zCc h]
   exact zFB ns (tl++[s])
theorem zFi:∀ (ns tl:List (List UInt8)),(∀ s ∈ ns,s.length≤64)→∀ t ∈ zBA tl ns,zBh t=true∧t≠[]∧t.length≤1000000
 | [],_,_,t,ht =>by cases ht
 | s :: ns,tl,h,t,ht =>by
  unfold zBA at ht
  split at ht
  ·exact zFi ns tl (fun x hx =>h x (by simp [hx])) t ht
  ·rcases List.mem_cons.1 ht with rfl | ht
   ·have h1:=h s (by simp)
    exact ⟨rfl,by simp,by simp only [List.length_cons];omega⟩
   ·exact zFi ns _ (fun x hx =>h x (by simp [hx])) t ht
theorem zFv:∀ (ns tl:List (List UInt8)),∃ x,ns.foldl tput tl=tl++x
 | [],tl =>⟨[],by simp⟩
 | s :: ns,tl =>by
  obtain ⟨x,hx⟩:=zFv ns (tput tl s)
  rw [List.foldl_cons,hx]
  by_cases h:s ∈ tl
  ·rw [zDa h];exact ⟨x,rfl⟩
  ·rw [zCc h];exact ⟨[s]++x,by simp⟩
theorem zIj (ver:Int) (tl:List (List UInt8)) (r:Rc) (l:List Dp):(tabT ver tl r l).take (tcut (tabT ver tl r l).length (tl.length:Int))=tl:=by
 have h:∃ x,tabT ver tl r l=tl++x:=by
  unfold tabT
  split
  ·exact ⟨[],by simp⟩
  ·exact zFv _ _
 obtain ⟨x,hx⟩:=h
 have h1:tcut (tabT ver tl r l).length (tl.length:Int)=tl.length:=by
  unfold tcut
  rw [hx,List.length_append]
  omega
 rw [h1,hx,List.take_left]
theorem zFh (ver:Int) (tl:List (List UInt8)) (r:Rc) (l:List Dp):tabT ver tl r l=((freT ver tl r l).map List.tail).foldl tput tl:=by
 unfold tabT freT
 split
 ·rfl
 ·exact (zFB _ _).symm
theorem zFA {ver:Int} {tl:List (List UInt8)} {r:Rc} {l:List Dp} (h:MayP ver r l):∀ t ∈ freT ver tl r l,zBh t=true∧t≠[]∧t.length≤1000000:=by
 unfold freT
 split
 ·intro t ht;cases ht
 ·exact zFi _ _ (zDA h).1
theorem zOu {ver:Int} {tl:List (List UInt8)} {r:Rc} {l:List Dp} (h:MayP ver r l):(freT ver tl r l).length≤18:=by
 have h1:=zCr (tl:=tl) h
 unfold payL at h1
 rw [List.length_append] at h1
 simp at h1
 omega
theorem zJk (ver:Int) (tl:List (List UInt8)) (r:Rc) (l:List Dp):zBh (payB ver tl r l)=false:=by
 unfold payB
 split <;> rfl
theorem zPa {ver:Int} {tl:List (List UInt8)} {r:Rc} {l:List Dp} (hm:MayP ver r l) (hnu:Nums r l) (htl:tl.length≤1073741824):(payB ver tl r l).length≤1000000:=by
 obtain ⟨h1,h2,h3,h4⟩:=zBZ hm
 have hvt:=zBQ _ (zAc hnu.1).2
 have hvo:=zBQ _ (zAc hnu.2.1).2
 have hvw:=zBQ _ (zAc hnu.2.2.1).2
 have hnm:=zHv (ver:=ver) h1 htl
 have hfd:=zIJ (ver:=ver) h3 h4 hnu.2.2.2 htl
 have hfg:=zJM (r:=r) htl
 have hz:([]:List UInt8).length=0:=rfl
 unfold payB
 split
 ·rw [List.length_cons];omega
 ·rw [List.length_cons,List.length_append,List.length_append,List.length_append,List.length_append,List.length_append]
  split <;> split <;> (first | omega | (simp only [hz];omega))
theorem zKC (ver:Int) (tl:List (List UInt8)) (r:Rc) (l:List Dp):ver<2 ∨ ∀ s ∈ zBK r l,s ∈ tabT ver tl r l:=by
 by_cases h:ver<2
 ·exact .inl h
 ·right
  intro s hs
  unfold tabT
  rw [if_neg h]
  exact zFw _ _ _ (.inr hs)
theorem zNd {ver:Int} {tl:List (List UInt8)} {r:Rc} {l:List Dp} (hm:MayP ver r l) (hnu:Nums r l) (ht:tl.length≤1073741824) (hin:ver<2 ∨ ∀ s ∈ zBK r l,s ∈ tl):(zBi ver tl (Cu.new (payB ver tl r l) 0).byte.1.toNat (zAY (payB ver tl r l))).r=r∧(zBi ver tl (Cu.new (payB ver tl r l) 0).byte.1.toNat (zAY (payB ver tl r l))).l=l:=by
 obtain ⟨h1,h2,h3⟩:=zPc hm hnu ht hin
 have hk:(Cu.new (payB ver tl r l) 0).byte.1.toNat=r.kind.toNat:=by
  have h4:((Cu.new (payB ver tl r l) 0).byte.1.toNat:Int)=r.kind:=h1
  omega
 rw [hk]
 exact ⟨h2,h3⟩
theorem PlsC.drop {w:World} {B:Nat} {A:Option Addr} {n c k:Nat} {ps:List (List UInt8)} (h:PlsC w B A n c ps) (hk:k≤n):PlsC w B (if c=k then A else A.map (·.add k)) (n - k) (c - k) (ps.drop k):=by
 obtain ⟨h0,h2,vs,h1,h3⟩:=h
 have h4:=h1.cut (cap:=c) hk h0
 rw [Nat.mul_one] at h4
 refine ⟨by omega,by rw [List.length_drop,h2],vs.drop k,h4,fun i p hp =>?_⟩
 rw [List.getElem?_drop] at hp
 obtain ⟨A',c',h5,h6⟩:=h3 _ p hp
 exact ⟨A',c',by rw [List.getElem?_drop];exact h5,h6⟩
theorem PlsC.upto {w:World} {B:Nat} {A:Option Addr} {n c k:Nat} {ps:List (List UInt8)} (h:PlsC w B A n c ps) (hk:k≤n):PlsC w B A k c (ps.take k):=by
 obtain ⟨h0,h2,vs,h1,h3⟩:=h
 refine ⟨by omega,by rw [List.length_take];omega,vs.take k,h1.take hk,fun i p hp =>?_⟩
 have hi:i<k:=by have:=(List.getElem?_eq_some_iff.1 hp).1;rw [List.length_take] at this;omega
 rw [List.getElem?_take_of_lt hi] at hp
 obtain ⟨A',c',h5,h6⟩:=h3 _ p hp
 exact ⟨A',c',by rw [List.getElem?_take_of_lt hi];exact h5,h6⟩
theorem PlsT.drop {w:World} {B:Nat} {S:Nat→Prop} {A:Option Addr} {n c k:Nat} {ps:List (List UInt8)} (h:PlsT w B S A n c ps) (hk:k<n):PlsT w B S (if c=k then A else A.map (·.add k)) (n - k) (c - k) (ps.drop k):=by
 obtain ⟨h0,h2,vs,h1,ha,h3⟩:=h
 have h4:=h1.cut (cap:=c) (Nat.le_of_lt hk) h0
 rw [Nat.mul_one] at h4
 refine ⟨by omega,by rw [List.length_drop,h2],vs.drop k,h4,fun ad e _ =>?_,fun i p hp =>?_⟩
 ·rw [if_neg (by omega)] at e
  cases A with
  | none =>cases e
  | some a0 =>
   obtain rfl:a0.add k=ad:=Option.some.inj e
   rw [zAQ]
   exact ha a0 rfl (by omega)
 ·rw [List.getElem?_drop] at hp
  obtain ⟨A',c',h5,h6⟩:=h3 _ p hp
  exact ⟨A',c',by rw [List.getElem?_drop];exact h5,h6⟩
theorem PlsT.upto {w:World} {B:Nat} {S:Nat→Prop} {A:Option Addr} {n c k:Nat} {ps:List (List UInt8)} (h:PlsT w B S A n c ps) (hk:k≤n):PlsT w B S A k c (ps.take k):=by
 obtain ⟨h0,h2,vs,h1,ha,h3⟩:=h
 refine ⟨by omega,by rw [List.length_take];omega,vs.take k,h1.take hk,fun ad e hn =>ha ad e (by omega),fun i p hp =>?_⟩
 have hi:i<k:=by have:=(List.getElem?_eq_some_iff.1 hp).1;rw [List.length_take] at this;omega
 rw [List.getElem?_take_of_lt hi] at hp
 obtain ⟨A',c',h5,h6⟩:=h3 _ p hp
 exact ⟨A',c',by rw [List.getElem?_take_of_lt hi];exact h5,h6⟩
end Go.Proofs.YtekchkfjgofnkaaGreatDoor
