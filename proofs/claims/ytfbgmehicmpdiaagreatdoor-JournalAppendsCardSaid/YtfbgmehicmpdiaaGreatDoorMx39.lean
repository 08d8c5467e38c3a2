/- Texts of one proof. -/
import Derived.Test.YtfbgmehicmpdiaaGreatDoorShi
import Derived.Test.YtfbgmehicmpdiaaGreatDoorMx38
set_option maxRecDepth 100000
set_option maxHeartbeats 8000000
namespace Go.Proofs.YtfbgmehicmpdiaaGreatDoor
open Go.RowKit Go.Maps Go.ChangeMaps Go.WideMaps Go.Sort Go.Shelf
set_option maxRecDepth 100000
theorem zLe (m:Nat):AnyZ.SortsIn Tryz.prog Tryz.iterSorted_ren Fence.wide m :=
  ⟨fun blk off cap ss W hH hblk hsz =>callsIn_wide.2 (AnyM.slices_Sort_string Tryz.iterSort blk off cap ss W hH hblk hsz),
   fun p cap W =>callsIn_wide.2 (AnyM.slices_Sort_string_none Tryz.iterSort p cap W)⟩
theorem zLW (mb:Option Nat) (W:World):Calls Tryz.prog 52 #[.map mb] W fun e w' =>e=.returned (.func (.func 68) #[] #[.pointer (some ⟨W.heap.size,0,none⟩)])∧w'=W.alloc (.cells #[.map mb] 55) :=
 callsIn_wide.1 (AnyZ.keys_in Tryz.iterKeys Fence.wide 5 trivial rfl mb W)
theorem zJD (b nn:Nat) (D0:DataW Value) (w:World) (hown:w.ownsMap Tryz.prog 9 zEh b nn D0) (hmax:Maps.size D0≤maxLen) (hbytes:Maps.size D0 * 16≤140737488355328) :
  Calls Tryz.prog 51 #[.func (.func 68) #[] #[.pointer (some ⟨w.heap.size,0,none⟩)]] (w.alloc (.cells #[.map (some b)] 55)) fun e w' =>∃ (v:Value) (ss:List (List UInt8)),e=.returned v∧ss.Perm (strKeys D0) ∧
   w'.ownsRow (w.alloc (.cells #[.map (some b)] 55)).heap.size 9 1 v ss.length ((ss.mergeSort (fun x y =>decide (x≤y))).map encStr)∧(v=.slice none 0 0 ↔ ss=[])∧Below (w.alloc (.cells #[.map (some b)] 55)).heap.size (w.alloc (.cells #[.map (some b)] 55)) w':=by
 have hbl:=hown.lt
 have hseq:SeqGives Fence.wide 2 Tryz.prog 68 #[.pointer (some ⟨w.heap.size,0,none⟩)] encStr (fun ss =>ss.Perm (strKeys D0)) (Maps.size D0) (w.alloc (.cells #[.map (some b)] 55)) :=
  AnyZ.keys_gives (ρ:=Tryz.iterKeys_ren) { Tryz.iterKeys with } Fence.wide _ trivial rfl (by omega) w.heap.size b nn D0 _ (by simp) (by simp) (by
   obtain ⟨es,clock,hb,Ft,hs,hD⟩:=hown
   exact ⟨es,clock,(Below.heap_alloc _ _ b hbl).trans hb,Ft,hs,hD⟩)
 exact callsIn_wide.1 (AnyZ.sorted_in Tryz.iterSorted Fence.wide 5 trivial trivial trivial trivial rfl (by omega) (zLe _) (enters_of Tryz.func67 (by kernel_rfl) rfl) 68 #[.pointer (some ⟨w.heap.size,0,none⟩)] trivial (enters_of Tryz.func68 (by kernel_rfl) rfl) _ _ hmax hbytes _ hseq)
theorem zNe {w:World} {b n:Nat} {D:DataW Value} (h:w.ownsMap Tryz.prog 9 zEh b n D):(strKeys D).Nodup∧∀ x,x ∈ strKeys D ↔ Maps.has D (.string x)=true:=by
 obtain ⟨es,hD,hpw,_⟩:=h.entries xkey
 obtain ⟨es',hD',hko⟩:=h.keysOf
 obtain rfl:es=es':=by rw [hD] at hD';simpa using hD'
 subst hD
 have hk:∀ q ∈ es,∃ x,q.1=.string x:=fun q hq =>by
  obtain ⟨v,hv⟩:=hko q hq
  obtain ⟨x,_,hx,_⟩:=Maps.keyOf_str Tryz.underlying9 hv
  exact ⟨x,hx⟩
 constructor
 ·refine List.pairwise_map.2 (hpw.imp_of_mem fun {q r} hq hr hne e =>hne ?_)
  obtain ⟨x,hx⟩:=hk q hq
  obtain ⟨y,hy⟩:=hk r hr
  rw [hx,hy] at e ⊢
  exact congrArg _ e
 ·intro x
  rw [has_eq,List.any_eq_true]
  show x ∈ es.map (fun q =>strOf q.1) ↔ _
  rw [List.mem_map]
  constructor
  ·rintro ⟨q,hq,rfl⟩
   obtain ⟨y,hy⟩:=hk q hq
   exact ⟨q,hq,by rw [hy];simp [Lit.sameKey,strOf]⟩
  ·rintro ⟨q,hq,hs⟩
   obtain ⟨y,hy⟩:=hk q hq
   rw [hy] at hs
   exact ⟨q,hq,by rw [hy];simpa [Lit.sameKey,strOf] using hs⟩
def zDB (fl:List UInt8→Option Fl) (ns:List (List UInt8)):Prop:=ns.Pairwise (fun a b =>a<b)∧∀ u,u ∈ ns ↔ (fl u).isSome=true
theorem zNo {l:List (List UInt8)} (hn:l.Nodup):(l.mergeSort (fun x y =>decide (x≤y))).Pairwise (fun a b =>a<b):=by
 have tr:∀ a b c:List UInt8,decide (a≤b)=true→decide (b≤c)=true→decide (a≤c)=true:=fun a b c h1 h2 =>by simp only [decide_eq_true_eq] at *;exact List.le_trans h1 h2
 have to:∀ a b:List UInt8,(decide (a≤b) || decide (b≤a))=true:=fun a b =>by simp only [Bool.or_eq_true,decide_eq_true_eq];exact List.le_total a b
 have h1:=List.pairwise_mergeSort tr to l
 have h2:(l.mergeSort (fun x y =>decide (x≤y))).Nodup:=(List.mergeSort_perm l _).nodup_iff.2 hn
 refine (h1.and h2).imp fun {a b} h =>?_
 have h3:a≤b:=by simpa using h.1
 rcases zQP a b with h4 | h4 | h4
 ·exact h4
 ·exact absurd h4 h.2
 ·exact absurd (List.le_antisymm h3 (List.le_of_lt h4)) h.2
theorem zGu (p b N base:Nat) (down:Bool) (f g:Bool×Int) (fl:List UInt8→Option Fl) (F:List UInt8→Option Value) (hN:N≤1000000) (w:World) (h:zAL w p b down f g) (hf:zAa w base b N fl F) :
  Calls Tryz.prog 33 #[.pointer (some ⟨p,0,none⟩)] w fun e w' =>(∃ A c ns,zDB fl ns∧ns.length≤N∧e=.returned (.slice A ns.length c)∧(A=none→c=0)∧w'.ownsRow w.heap.size 9 1 (.slice A ns.length c) ns.length (ns.map tsv))∧Below w.heap.size w w':=by
 have c0:=zAA (i:=0) h rfl
 obtain ⟨⟨D,hown,hmf⟩,hnone,hsome,_⟩:=hf
 have hsz:=hown.size_le
 obtain ⟨hnd,hmem⟩:=zNe hown
 have HSO:=yh (zJD b N D w hown (by unfold maxLen;omega) (by omega))
 have HKS:Hid (∀ ss:List (List UInt8),ss.Perm (strKeys D)→zDB fl (ss.mergeSort (fun x y =>decide (x≤y)))):=fun ss hp =>by
  refine ⟨zNo (hp.nodup_iff.2 hnd),fun u =>?_⟩
  rw [List.mem_mergeSort,hp.mem_iff,hmem,hmf.has]
  cases e:fl u with
  | none =>rw [hnone u e];simp
  | some x =>
   obtain ⟨A,c,e2,_⟩:=hsome u x e
   rw [e2]
   rfl
 have HLN:Hid (∀ ss:List (List UInt8),ss.Perm (strKeys D)→ss.length≤N):=fun ss hp =>by
  rw [hp.length_eq]
  refine Nat.le_trans ?_ hsz
  obtain ⟨es,hD⟩:=hown.isMap
  subst hD
  show (es.map _).length≤es.length
  simp
 clear h hown hmf hnone hsome hnd hmem hsz
 go_enter Tryz.func33,Tryz.ntmps33
 go_wp2_with (first
  | (go_at_call 51;refine HSO.out.mono ?_;rintro e w6 ⟨v,ss,rfl,hp,ho6,_,hb6⟩;obtain ⟨A6,c6,rfl,hA6⟩:=zAM ho6;have HO6:=yh ho6;have HA6:=yh hA6;have HP:=yh hp;have HB6:=yh hb6;clear ho6 hA6 hp hb6)
  | (go_at_call 52;refine (zLW _ _).mono ?_;rintro e w5 ⟨rfl,rfl⟩))
 go_ret
 have hl:(ss.mergeSort (fun x y =>decide (x≤y))).length=ss.length:=List.length_mergeSort _
 have hal:Below w.heap.size w (w.alloc (.cells #[.map (some b)] 55)):=(Below.refl _ _).alloc (Nat.le_refl _) _
 refine ⟨⟨A6,c6,_,HKS.out ss HP.out,by rw [hl];exact HLN.out ss HP.out,by rw [hl];rfl,HA6.out,?_⟩,hal.trans (HB6.out.mono (by simp))⟩
 rw [hl]
 exact zAV HO6.out (by simp)
open Go.RowKit Go.Maps Go.ChangeMaps Go.WideMaps Go.Sort
theorem zIz (p b:Nat) (f g:Bool×Int) (s:List UInt8) (Ab:Option Addr) (nb cb:Nat) (w:World) (hx:zAL w p b true f g) :
  Calls Tryz.prog 9 #[.pointer (some ⟨p,0,none⟩),.string (tx s),.slice Ab nb cb] w fun e w' =>e=.returned (.int .i64 7)∧Below w.heap.size w w':=by
 have z0:(w.alloc (.cells #[.pointer (some ⟨p,0,none⟩)] 26)).heap.size=w.heap.size+1:=by simp only [World.size_alloc]
 have z1:((w.alloc (.cells #[.pointer (some ⟨p,0,none⟩)] 26)).alloc (.cells #[.string (tx s)] 9)).heap.size=w.heap.size+2:=by simp only [World.size_alloc,Nat.add_assoc,Nat.reduceAdd]
 have z2:(((w.alloc (.cells #[.pointer (some ⟨p,0,none⟩)] 26)).alloc (.cells #[.string (tx s)] 9)).alloc (.cells #[.slice Ab nb cb] 31)).heap.size=w.heap.size+3:=by simp only [World.size_alloc,Nat.add_assoc,Nat.reduceAdd]
 have HA:Hid (Below w.heap.size w (((w.alloc (.cells #[.pointer (some ⟨p,0,none⟩)] 26)).alloc (.cells #[.string (tx s)] 9)).alloc (.cells #[.slice Ab nb cb] 31))):=(((Below.refl _ _).alloc (by first | exact Nat.le_refl _ | (rw [z0];omega)) _).alloc (by first | exact Nat.le_refl _ | (rw [z0];omega)) _).alloc (by first | exact Nat.le_refl _ | (rw [z1];omega)) _
 have e0:=zAD w (.cells #[.pointer (some ⟨p,0,none⟩)] 26)
 have e0:=(Below.heap_alloc (w.alloc (.cells #[.pointer (some ⟨p,0,none⟩)] 26)) (.cells #[.string (tx s)] 9) _ (by rw [z0];omega)).trans e0
 have e0:=(Below.heap_alloc ((w.alloc (.cells #[.pointer (some ⟨p,0,none⟩)] 26)).alloc (.cells #[.string (tx s)] 9)) (.cells #[.slice Ab nb cb] 31) _ (by rw [z1];omega)).trans e0
 have e1:=zAD (w.alloc (.cells #[.pointer (some ⟨p,0,none⟩)] 26)) (.cells #[.string (tx s)] 9)
 rw [z0] at e1
 have e1:=(Below.heap_alloc ((w.alloc (.cells #[.pointer (some ⟨p,0,none⟩)] 26)).alloc (.cells #[.string (tx s)] 9)) (.cells #[.slice Ab nb cb] 31) _ (by rw [z1];omega)).trans e1
 have e2:=zAD ((w.alloc (.cells #[.pointer (some ⟨p,0,none⟩)] 26)).alloc (.cells #[.string (tx s)] 9)) (.cells #[.slice Ab nb cb] 31)
 rw [z1] at e2
 have hx1:=hx.below HA.out
 have q0:=zAA (i:=0) e0 rfl
 have q1:=zAA (i:=1) hx1 rfl
 clear hx hx1 e0 e1 e2 z0 z1 z2
 go_enter Tryz.func9,Tryz.ntmps9
 go_wp2
 go_ret
 exact ⟨rfl,HA.out⟩
def zBx (x:Fl) (ks:List Int):Fl×List Int :=
 if x.safe<x.body.length then
  match ks with
  | [] =>(⟨x.body.take x.safe,x.safe⟩,[])
  | k :: ks =>(⟨x.body.take (x.safe+min k.toNat (x.body.length - x.safe)),x.safe+min k.toNat (x.body.length - x.safe)⟩,ks)
 else (⟨x.body.take x.safe,x.safe⟩,ks)
def crN:List (List UInt8)→(List UInt8→Option Fl)×List Int→(List UInt8→Option Fl)×List Int
 | [],st =>st
 | s :: ns,st =>match st.1 s with
  | none =>crN ns st
  | some x =>crN ns (zAZ st.1 s (some (zBx x st.2).1),(zBx x st.2).2)
theorem zHC:∀ (a b:List (List UInt8)) (st:(List UInt8→Option Fl)×List Int),crN (a++b) st=crN b (crN a st)
 | [],_,_ =>rfl
 | s :: a,b,st =>by
  show (match st.1 s with | none =>_ | some x =>_)=crN b (match st.1 s with | none =>_ | some x =>_)
  cases st.1 s with
  | none =>exact zHC a b st
  | some x =>exact zHC a b _
theorem zFz {ns:List (List UInt8)} {i:Nat} {s:List UInt8} {x:Fl} (h:ns[i]? = some s) (st:(List UInt8→Option Fl)×List Int) (hx:(crN (ns.take i) st).1 s=some x) :
  crN (ns.take (i+1)) st=(zAZ (crN (ns.take i) st).1 s (some (zBx x (crN (ns.take i) st).2).1),(zBx x (crN (ns.take i) st).2).2):=by
 rw [List.take_add_one,h]
 show crN (ns.take i++[s]) st=_
 rw [zHC]
 show (match (crN (ns.take i) st).1 s with | none =>_ | some x =>_)=_
 rw [hx]
 rfl
theorem zDz {u:List UInt8}:∀ (ns:List (List UInt8)) (st:(List UInt8→Option Fl)×List Int),u ∉ ns→(crN ns st).1 u=st.1 u
 | [],_,_ =>rfl
 | s :: ns,st,h =>by
  have hne:u≠s:=fun e =>h (by simp [e])
  have hn:u ∉ ns:=fun e =>h (List.mem_cons_of_mem _ e)
  show ((match st.1 s with | none =>crN ns st | some x =>crN ns (zAZ st.1 s (some (zBx x st.2).1),(zBx x st.2).2)).1) u=_
  cases st.1 s with
  | none =>exact zDz ns st hn
  | some x =>
   rw [zDz ns _ hn]
   unfold zAZ
   simp only
   rw [if_neg hne]
theorem zKQ (x:Fl) (ks:List Int) (h:x.safe≤x.body.length):∃ m,x.safe≤m∧m≤x.body.length∧(zBx x ks).1=⟨x.body.take m,m⟩:=by
 unfold zBx
 by_cases hl:x.safe<x.body.length
 ·rw [if_pos hl]
  cases ks with
  | nil =>exact ⟨x.safe,Nat.le_refl _,h,rfl⟩
  | cons k ks =>exact ⟨_,by omega,by omega,rfl⟩
 ·rw [if_neg hl]
  exact ⟨x.safe,Nat.le_refl _,h,rfl⟩
theorem zFy:∀ (ns:List (List UInt8)) (st:(List UInt8→Option Fl)×List Int),ns.Nodup→∀ u,u ∈ ns→∀ x,st.1 u=some x→x.safe≤x.body.length→∃ m,x.safe≤m∧m≤x.body.length∧(crN ns st).1 u=some ⟨x.body.take m,m⟩
 | [],_,_,u,hu,_,_,_ =>by cases hu
 | s :: ns,st,hn,u,hu,x,hx,hs =>by
  obtain ⟨hs1,hn1⟩:=List.nodup_cons.1 hn
  by_cases e:u=s
  ·subst e
   obtain ⟨m,h1,h2,h3⟩:=zKQ x st.2 hs
   refine ⟨m,h1,h2,?_⟩
   show ((match st.1 u with | none =>crN ns st | some x =>crN ns (zAZ st.1 u (some (zBx x st.2).1),(zBx x st.2).2)).1) u=_
   rw [hx]
   show (crN ns _).1 u=_
   rw [zDz ns _ hs1]
   unfold zAZ
   simp only
   rw [if_pos trivial,h3]
  ·have hu2:u ∈ ns:=by
    rcases List.mem_cons.1 hu with h | h
    ·exact absurd h e
    ·exact h
   show ∃ m,_∧_∧((match st.1 s with | none =>crN ns st | some x =>crN ns (zAZ st.1 s (some (zBx x st.2).1),(zBx x st.2).2)).1) u=_
   cases st.1 s with
   | none =>exact zFy ns st hn1 u hu2 x hx hs
   | some y =>exact zFy ns _ hn1 u hu2 x (by unfold zAZ;simp only;rw [if_neg e];exact hx) hs
end Go.Proofs.YtfbgmehicmpdiaaGreatDoor
