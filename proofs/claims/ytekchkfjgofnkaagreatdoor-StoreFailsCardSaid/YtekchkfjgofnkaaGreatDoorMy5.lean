/- Texts of one proof. -/
import Derived.Maps.OwnSet
import Derived.RegionTactic
import Derived.Shelf.SlMaps.Clone
import Derived.Test.YtekchkfjgofnkaaGreatDoorMy4
set_option maxRecDepth 100000
set_option maxHeartbeats 8000000
namespace Go.Proofs.YtekchkfjgofnkaaGreatDoor
open Go.RowKit Go.Maps Go.ChangeMaps Go.WideMaps
def tnum (l:List (List UInt8)) (s:List UInt8):Nat:=if s ∈ l then l.idxOf s else 0
theorem zLM {l:List (List UInt8)} {s:List UInt8} (h:s ∈ l):tnum l s<l.length:=by
 rw [tnum,if_pos h];exact List.idxOf_lt_length_of_mem h
theorem zEF {l:List (List UInt8)} {s:List UInt8} (h:s ∈ l):l[tnum l s]? = some s:=by
 rw [tnum,if_pos h]
 rw [List.getElem?_eq_getElem (List.idxOf_lt_length_of_mem h),List.getElem_idxOf]
theorem zIC {l:List (List UInt8)} (hd:l.Nodup) {i:Nat} {s:List UInt8} (h:l[i]? = some s):s ∈ l∧tnum l s=i:=by
 have hm:=List.mem_of_getElem? h
 refine ⟨hm,?_⟩
 obtain ⟨h1,h2⟩:=List.getElem?_eq_some_iff.1 h
 obtain ⟨h3,h4⟩:=List.getElem?_eq_some_iff.1 (zEF hm)
 exact (List.getElem_inj hd).1 (h4.trans h2.symm)
theorem tkey:Keyed Tryz.prog 9:=string_keyed Tryz.underlying9
theorem zHj (w:World):(zeroValue 38).run Tryz.prog w=.ok (.int .u64 0) w:=by kernel_rfl
def u0:DataW Nat:=.lit (.int .u64 0)
def zDC (D:DataW Nat) (l:List (List UInt8)):Prop :=
 IsMap D∧∀ s:List UInt8,Maps.has D (.string s)=decide (s ∈ l)∧D.atKey (.string s) u0=.lit (.int .u64 (tnum l s:Int))
theorem zNY:zDC (.map []) []:=⟨isMap_empty,fun s =>⟨by simp [Maps.has],rfl⟩⟩
theorem zNZ {D:DataW Nat} {l:List (List UInt8)} {s:List UInt8} (h:zDC D l) (hs:s ∉ l):zDC (D.put (.string s) (.lit (.int .u64 (l.length:Int)))) (l++[s]):=by
 refine ⟨h.1.put _ _,fun t =>?_⟩
 by_cases ht:t=s
 ·subst ht
  refine ⟨by rw [has_put_same h.1 (k:=.string t) (show WideAt.IsKeyLit (.string t) from trivial)];simp,?_⟩
  rw [atKey_put_same h.1 (k:=.string t) (show WideAt.IsKeyLit (.string t) from trivial)]
  have:tnum (l++[t]) t=l.length:=by
   rw [tnum,if_pos (by simp),List.idxOf_append,if_neg hs];simp
  rw [this]
 ·have hne:Lit.string t≠Lit.string s:=fun e =>ht (by injection e)
  refine ⟨by rw [has_put_other hne,(h.2 t).1];simp [ht],?_⟩
  rw [atKey_put_other hne,(h.2 t).2]
  have:tnum (l++[s]) t=tnum l t:=by
   by_cases hm:t ∈ l
   ·rw [tnum,tnum,if_pos (by simp [hm]),if_pos hm,List.idxOf_append,if_pos hm]
   ·rw [tnum,tnum,if_neg (by simp [hm,ht]),if_neg hm]
  rw [this]
def zEB (D:DataW Nat) (l:List (List UInt8)) (k j:Nat):Prop :=
 IsMap D∧∀ s:List UInt8,Maps.has D (.string s)=decide (s ∈ l∧¬ (k≤tnum l s∧tnum l s<j))∧(s ∈ l→¬ (k≤tnum l s∧tnum l s<j)→D.atKey (.string s) u0=.lit (.int .u64 (tnum l s:Int)))∧(¬ (s ∈ l∧¬ (k≤tnum l s∧tnum l s<j))→D.atKey (.string s) u0=u0)
theorem zIp {D:DataW Nat} {l:List (List UInt8)} (k:Nat) (h:zDC D l):zEB D l k k:=by
 refine ⟨h.1,fun s =>⟨by rw [(h.2 s).1];congr 1;exact propext ⟨fun hh =>⟨hh,by omega⟩,fun hh =>hh.1⟩,fun _ _ =>(h.2 s).2,fun hn =>?_⟩⟩
 have hm:s ∉ l:=fun hm =>hn ⟨hm,by omega⟩
 rw [(h.2 s).2,tnum,if_neg hm];rfl
theorem zFl {D:DataW Nat} {l:List (List UInt8)} {k j:Nat} {s:List UInt8} (hd:l.Nodup) (hkj:k≤j) (hs:l[j]? = some s) (h:zEB D l k j):zEB (D.del (.string s)) l k (j+1):=by
 obtain ⟨hsm,hsn⟩:=zIC hd hs
 refine ⟨h.1.del _,fun t =>?_⟩
 by_cases ht:t=s
 ·subst ht
  refine ⟨by rw [has_del_same,hsn];symm;rw [decide_eq_false_iff_not];rintro ⟨_,h2⟩;exact h2 ⟨hkj,by omega⟩,fun _ h2 =>absurd ⟨by omega,by omega⟩ h2,fun _ =>atKey_del_same _⟩
 ·have hne:Lit.string t≠Lit.string s:=fun e =>ht (by injection e)
  obtain ⟨h1,h2,h3⟩:=h.2 t
  have hiff:t ∈ l→((k≤tnum l t∧tnum l t<j+1) ↔ (k≤tnum l t∧tnum l t<j)):=by
   intro hm
   have:tnum l t≠j:=by
    intro e
    have h4:=zEF hm
    rw [e,hs] at h4
    exact ht (Option.some.inj h4).symm
   omega
  refine ⟨?_,fun hm hn =>by rw [atKey_del_other hne];exact h2 hm (fun hh =>hn ((hiff hm).2 hh)),fun hn =>by rw [atKey_del_other hne];exact h3 (fun ⟨hm,hh⟩ =>hn ⟨hm,fun h4 =>hh ((hiff hm).1 h4)⟩)⟩
  rw [has_del_other hne,h1]
  congr 1
  apply propext
  constructor
  ·rintro ⟨hm,hh⟩;exact ⟨hm,fun h4 =>hh ((hiff hm).1 h4)⟩
  ·rintro ⟨hm,hh⟩;exact ⟨hm,fun h4 =>hh ((hiff hm).2 h4)⟩
theorem zJd {l:List (List UInt8)} (hd:l.Nodup) {k:Nat} {s:List UInt8}:s ∈ l.take k ↔ s ∈ l∧tnum l s<k:=by
 constructor
 ·intro h
  obtain ⟨i,hi⟩:=List.mem_iff_getElem?.1 h
  rw [List.getElem?_take] at hi
  split at hi
  ·obtain ⟨h1,h2⟩:=zIC hd hi
   exact ⟨h1,by omega⟩
  ·cases hi
 ·rintro ⟨h1,h2⟩
  have h3:=zEF h1
  exact List.mem_of_getElem? (i:=tnum l s) (by rw [List.getElem?_take,if_pos h2];exact h3)
theorem zON {l:List (List UInt8)} (hd:l.Nodup) {k:Nat} {s:List UInt8} (h:s ∈ l.take k):tnum (l.take k) s=tnum l s:=by
 have h1:=zEF h
 rw [List.getElem?_take] at h1
 split at h1
 ·exact (zIC hd h1).2.symm
 ·cases h1
theorem zGW {D:DataW Nat} {l:List (List UInt8)} {k:Nat} (hd:l.Nodup) (h:zEB D l k l.length):zDC D (l.take k):=by
 refine ⟨h.1,fun s =>?_⟩
 obtain ⟨h1,h2,h3⟩:=h.2 s
 have hiff:(s ∈ l∧¬ (k≤tnum l s∧tnum l s<l.length)) ↔ s ∈ l.take k:=by
  rw [zJd hd]
  constructor
  ·rintro ⟨hm,hh⟩;have:=zLM hm;exact ⟨hm,by omega⟩
  ·rintro ⟨hm,hh⟩;exact ⟨hm,by omega⟩
 refine ⟨by rw [h1];congr 1;exact propext hiff,?_⟩
 by_cases hs:s ∈ l.take k
 ·have hm:=hiff.2 hs
  rw [h2 hm.1 hm.2,zON hd hs]
 ·rw [h3 (fun hh =>hs (hiff.1 hh)),tnum,if_neg hs];rfl
def Tab (w:World) (S:Nat→Prop) (b N:Nat) (l:List (List UInt8)):Prop :=
 ∃ (L:Option Addr) (c:Nat) (mv:Option Nat),w.heap[b]? = some (.cells #[.slice L l.length c,.map mv] 170 (0,0))∧S b∧w.ownsRow 0 9 1 (.slice L l.length c) l.length (l.map tsv) ∧
  (∀ g,(Value.slice L l.length c).ownBlock=some g→S g)∧((mv=none∧l=[]) ∨ ∃ (mb:Nat) (D:DataW Nat),mv=some mb∧S mb∧w.ownsMap Tryz.prog 9 (plainElem Tryz.prog 38) mb N D∧zDC D l) ∧
  l.Nodup∧∀ s ∈ l,s.length≤maxLen
theorem zFM {w w':World} {b n:Nat} {D:DataW Nat} {k:TypeId} {R:Value→Option (DataW Nat×List MemPlace)} (h:w.ownsMap Tryz.prog k R b n D) (hk:w'.heap[b]? = w.heap[b]?):w'.ownsMap Tryz.prog k R b n D:=by
 obtain ⟨es,clock,hb,r⟩:=h
 exact ⟨es,clock,hk.trans hb,r⟩
theorem Tab.keep {w w':World} {S:Nat→Prop} {b N:Nat} {l:List (List UInt8)} (h:Tab w S b N l) (hk:∀ k,S k→k<w.heap.size→w'.heap[k]? = w.heap[k]?):Tab w' S b N l:=by
 obtain ⟨L,c,mv,h1,h2,h3,h4,h5,h6⟩:=h
 have hb:=(Array.getElem?_eq_some_iff.1 h1).1
 refine ⟨L,c,mv,(hk b h2 hb).trans h1,h2,zAR h3 (fun g hg =>hk g (h4 g hg) (zAP h3 g hg)),h4,?_,h6⟩
 rcases h5 with h5 | ⟨mb,D,e,hs,hm,hn⟩
 ·exact .inl h5
 ·exact .inr ⟨mb,D,e,hs,zFM hm (hk mb hs hm.lt),hn⟩
theorem Tab.turn {w w':World} {S S2:Nat→Prop} {b N:Nat} {l:List (List UInt8)} (h:Tab w S b N l) (ht:Turn S2 w w') (hs:∀ k,S k→k<w.heap.size→¬ S2 k):Tab w' S b N l :=
 h.keep fun k h1 h2 =>ht.2.2.2.2 k h2 (hs k h1 h2)
theorem Tab.wide {w:World} {S S2:Nat→Prop} {b N:Nat} {l:List (List UInt8)} (h:Tab w S b N l) (hs:∀ k,S k→k<w.heap.size→S2 k):Tab w S2 b N l:=by
 obtain ⟨L,c,mv,h1,h2,h3,h4,h5,h6⟩:=h
 refine ⟨L,c,mv,h1,hs b h2 (Array.getElem?_eq_some_iff.1 h1).1,h3,fun g hg =>hs g (h4 g hg) (zAP h3 g hg),?_,h6⟩
 rcases h5 with h5 | ⟨mb,D,e,hs',hm,hn⟩
 ·exact .inl h5
 ·exact .inr ⟨mb,D,e,hs mb hs' hm.lt,hm,hn⟩
theorem Tab.more {w:World} {S:Nat→Prop} {b N N':Nat} {l:List (List UInt8)} (h:Tab w S b N l) (hN:N≤N'):Tab w S b N' l:=by
 obtain ⟨L,c,mv,h1,h2,h3,h4,h5,h6⟩:=h
 refine ⟨L,c,mv,h1,h2,h3,h4,?_,h6⟩
 rcases h5 with h5 | ⟨mb,D,e,hs',hm,hn⟩
 ·exact .inl h5
 ·exact .inr ⟨mb,D,e,hs',hm.mono hN,hn⟩
theorem zHb {s:List UInt8} (h:s.length≤maxLen):keyOf Tryz.prog 9 (tsv s)=some (.string s):=by
 rw [tsv,keyOf_string_mk Tryz.underlying9 (by rw [zDb];exact h)]
 simp [tx]
theorem zEm (b:Nat) (w:World):Calls Tryz.prog 108 #[.pointer (some ⟨b,0,none⟩)] w fun e w' =>e=.returned (.pointer (some ⟨b,0,none⟩))∧w=w':=by
 go_enter Tryz.func108,Tryz.ntmps108
 go_wp2
 go_ret
 exact ⟨rfl,rfl⟩
theorem zDP (S:Nat→Prop) (b N:Nat) (l:List (List UInt8)) (w:World) (h:Tab w S b N l) :
  Calls Tryz.prog 86 #[.pointer (some ⟨b,0,none⟩)] w fun e w' =>e=.returned (.int .i64 (l.length:Int))∧w=w':=by
 obtain ⟨L,c,mv,h1,_⟩:=h
 have hc0:=zAr (i:=0) h1 rfl
 clear h1
 go_enter Tryz.func86,Tryz.ntmps86
 go_wp2_with (go_at_call 108;refine (zEm b _).mono ?_;rintro e w1 ⟨rfl,rfl⟩)
 go_ret
 exact ⟨rfl,rfl⟩
theorem zGL {w:World} {base n size:Nat} {e:TypeId} {v:Value} {xs:List Value} {b m:Nat} {D:DataW Nat} {k:TypeId} {R:Value→Option (DataW Nat×List MemPlace)} (h:w.ownsRow base e size v n xs) (hm:w.ownsMap Tryz.prog k R b m D):∀ g,v.ownBlock=some g→g≠b:=by
 intro g hg e2
 subst e2
 obtain ⟨es,clock,hb,_⟩:=hm
 rcases h.2 with ⟨rfl,_⟩ | ⟨g2,cap,cur,rfl,_,hh,_⟩
 ·simp [Value.ownBlock] at hg
 ·simp only [Value.ownBlock,Option.some.injEq] at hg
  subst hg
  rw [hb] at hh
  cases hh
theorem zHS (S:Nat→Prop) (b n N mb g3 c3 c:Nat) (L:Option Addr) (l:List (List UInt8)) (s:List UInt8) (w Wp w2 w3:World) (D:DataW Nat) (hn:n=l.length) (hin:s ∉ l) (hnd:(l++[s]).Nodup) (hlen:∀ t ∈ l++[s],t.length≤maxLen) (hSb:S b) (htp:Turn S w Wp) (hpm:S mb∨w.heap.size≤mb)
  (hp1:Wp.heap[b]? = some (.cells #[.slice L n c,.map (some mb)] 170 (0,0))) (hpo:Wp.ownsRow 0 9 1 (.slice L n c) n (l.map tsv)) (hmp:Wp.ownsMap Tryz.prog 9 (plainElem Tryz.prog 38) mb N D) (hno:zDC D l) (hbl:∀ g,(Value.slice L n c).ownBlock=some g→S g)
  (hm2:w2.ownsMap Tryz.prog 9 (plainElem Tryz.prog 38) mb (N+1) (D.put (.string s) (.lit (.int .u64 (n:Int))))) (ht2:Wp.mapTurned w2 mb)
  (hgl:(Value.slice L n c).ownBlock=some g3∨g3=w2.heap.size+1) (hg3:(w2.alloc (.cells #[.string (tx s)] 9)).grownBy w3 (Value.slice L n c).ownBlock) (ho3:w3.ownsRow 0 9 1 (.slice (some ⟨g3,0,none⟩) (n+1) c3) (n+1) (l.map tsv++[.string (tx s)])) (hh3:w3.heap[b]? = some (.cells #[.slice L n c,.map (some mb)] 170 (0,0))) (hb:b<w.heap.size) :
  Tab (w3.setCell ⟨b,0,none⟩ (.slice (some ⟨g3,0,none⟩) (n+1) c3)) (fun k =>S k∨w.heap.size≤k) b (N+1) (l++[s])∧Turn S w (w3.setCell ⟨b,0,none⟩ (.slice (some ⟨g3,0,none⟩) (n+1) c3)):=by
 have hgrow:=ht2.grown
 have t2:Turn S w w2:=htp.grown hgrow (fun i e hi =>by
  obtain rfl:=Option.some.inj e
  rcases hpm with h | h
  ·exact h
  ·omega)
 have t3:Turn S w w3:=(t2.grown (World.grownBy_alloc w2 _ none) (by simp)).grown hg3 (fun i e _ =>hbl i e)
 have t4:=t3.setCell b 0 (.slice (some ⟨g3,0,none⟩) (n+1) c3) hSb
 have hl1:(l++[s]).length=n+1:=by rw [List.length_append,hn];rfl
 have hmb3:w3.heap[mb]? = w2.heap[mb]?:=by
  have hlt:=hm2.lt
  refine (hg3.block mb (by simp;omega) (fun e =>?_)).trans (Below.heap_alloc _ _ _ hlt)
  exact zGL hpo hmp mb e.symm rfl
 have hne:mb≠b:=by
  intro e
  subst e
  obtain ⟨es,clock,hb2,_⟩:=hm2
  rw [hh3] at hmb3
  rw [hb2] at hmb3
  cases hmb3
 refine ⟨⟨some ⟨g3,0,none⟩,c3,some mb,?_,.inl hSb,?_,?_,.inr ⟨mb,D.put (.string s) (.lit (.int .u64 (n:Int))),rfl,hpm,?_,?_⟩,hnd,hlen⟩,t4⟩
 ·rw [hl1];exact zCv hh3
 ·rw [hl1,List.map_append]
  exact zAR ho3 (fun g hg =>Below.heap_setCell _ _ _ g (fun e =>zAa ho3 hh3 (by decide) (hg.trans (congrArg some e))))
 ·intro g hg
  obtain rfl:g3=g:=by simpa [Value.ownBlock] using hg
  rcases hgl with h | h
  ·exact .inl (hbl _ h)
  ·exact .inr (by have:=t2.2.2.2.1;omega)
 ·exact zFM hm2 ((Below.heap_setCell _ _ _ mb hne).trans hmb3)
 ·rw [hn];exact zNZ hno hin
theorem zLy (S:Nat→Prop) (b N:Nat) (l:List (List UInt8)) (s:List UInt8) (hs:s.length≤maxLen) (hl:l.length+1≤1073741824) (hN:N<1073741824) (w:World) (h:Tab w S b N l) :
    Calls Tryz.prog 131 #[.pointer (some ⟨b,0,none⟩),tsv s] w fun e w' =>e=.returned (.tuple #[.int .u64 (tnum (tput l s) s:Int),.bool (!decide (s ∈ l))]) ∧
      Tab w' (fun k =>S k∨w.heap.size≤k) b (N+1) (tput l s)∧Turn S w w':=by
  obtain ⟨is,his,his0,his1,his2⟩:=info_parts zQZ
  have htab:=h
  obtain ⟨L,c,mv,h1,hSb,h3,h4,h5,hnd,hlen⟩:=h
  have hc1:=zAr (i:=1) h1 rfl
  have hf1:=zBN (i:=1) h1
  have hc0:=zAr (i:=0) h1 rfl
  have hf0:=zBN (i:=0) h1
  have hkey:=zHb hs
  have HS:=yh hs
  unfold tsv at hkey ⊢
  by_cases hin:s ∈ l
  · rw [zDa hin,decide_eq_true hin]
    obtain ⟨mb,D,rfl,hSm,hm,hn⟩:∃ (mb:Nat) (D:DataW Nat),mv=some mb∧S mb∧w.ownsMap Tryz.prog 9 (plainElem Tryz.prog 38) mb N D∧zDC D l:=by
      rcases h5 with ⟨_,e⟩ | h5
      · rw [e] at hin;simp at hin
      · exact h5
    obtain ⟨e1,e2⟩:=hn.2 s
    rw [decide_eq_true hin] at e1
    have E2:=yh e2
    have HT:=yh htab
    clear e2 h1 h3 h4 h5 hnd hlen htab
    go_enter Tryz.func131,Tryz.ntmps131
    go_wp2_with (at_lookup;refine wpList_lookup_own_ok_int _ rfl _ _ 159 rfl 9 38 .u64 tkey Tryz.underlying159 Tryz.underlying38 (zHj _) mb N D rfl hm _ _ rfl hkey ?_;intro cv hat hwc)
    go_ret2
    have e3:=E2.out
    unfold u0 at e3
    rw [e3] at hat
    have:cv=(tnum l s:Int):=by injection hat with hat;injection hat with _ hat;exact hat.symm
    rw [this]
    exact ⟨rfl,(HT.out.wide fun k hk _ =>.inl hk).more (by omega),Turn.refl _ _⟩
  · rw [zCc hin,decide_eq_false hin]
    have hnum:tnum (l++[s]) s=l.length:=by
      rw [tnum,if_pos (by simp),List.idxOf_append,if_neg hin];simp
    have HNUM:=yh hnum
    have hnd2:=zHd (s:=s) hnd
    rw [zCc hin] at hnd2
    have HND:=yh hnd2
    have hlen2:∀ t ∈ l++[s],t.length≤maxLen:=fun t ht =>by
      rcases List.mem_append.1 ht with ht | ht
      · exact hlen t ht
      · obtain rfl:=List.mem_singleton.1 ht;exact hs
    have HLEN:=yh hlen2
    have HIN:=yh hin
    have HB:=yh h4
    have HSB:=yh hSb
    have hbl:=(Array.getElem?_eq_some_iff.1 h1).1
    obtain ⟨n,hnl⟩:∃ n,n=l.length:=⟨_,rfl⟩
    have HNL:=yh hnl
    have hown:=h3
    rw [← hnl] at h1 hc0 hl hown
    have hw1:IntKind.u64.wrap (n:Int)=(n:Int):=by rw [IntKind.wrap_u64];omega
    have hwf:(Lit.int .u64 (n:Int)).wf=true:=by simp [Lit.wf,IntKind.min,IntKind.max,IntKind.signed,IntKind.bits];omega
    have HOWN:=yh hown
    rcases h5 with ⟨rfl,e0⟩ | ⟨mb,D,rfl,hSm,hm,hn⟩
    · have hnil:=fun W:World =>look_nil (w:=W) (P:=Tryz.prog) true tkey Tryz.underlying159 (zHj W) hkey
      have hq:=fun W =>run_eql_map_nil_sl (P:=Tryz.prog) W 159 _ _ none Tryz.underlying159
      have hmm:=@run_makeMap Tryz.prog
      have hbl2:b≠w.heap.size:=by omega
      have HP1:Hid (((w.setCell ⟨b,1,none⟩ (.map (some w.heap.size))).alloc (.map #[] 0)).heap[b]? = some (.cells #[.slice L n c,.map (some w.heap.size)] 170 (0,0))):=(Below.heap_alloc _ _ _ (by simpa using hbl)).trans (zCv h1)
      have HPO:Hid (((w.setCell ⟨b,1,none⟩ (.map (some w.heap.size))).alloc (.map #[] 0)).ownsRow 0 9 1 (.slice L n c) n (l.map tsv)) :=
        (zAR (w':=w.setCell ⟨b,1,none⟩ (.map (some w.heap.size))) hown (fun g hg =>Below.heap_setCell _ _ _ g (fun e =>zAa hown h1 (by decide) (hg.trans (congrArg some e))))).alloc _
      have HMP:Hid (((w.setCell ⟨b,1,none⟩ (.map (some w.heap.size))).alloc (.map #[] 0)).ownsMap Tryz.prog 9 (plainElem Tryz.prog 38) w.heap.size N (.map []:DataW Nat)):=by
        have h:=World.ownsMap_made (H:=Nat) (w.setCell ⟨b,1,none⟩ (.map (some w.heap.size))) Tryz.prog 9 (plainElem Tryz.prog 38)
        rw [World.size_setCell] at h
        exact h.mono (Nat.zero_le _)
      have HTP:Hid (Turn S w ((w.setCell ⟨b,1,none⟩ (.map (some w.heap.size))).alloc (.map #[] 0))):=((Turn.refl S w).setCell b 1 _ hSb).grown (World.grownBy_alloc _ _ none) (by simp)
      have HPM:Hid (S w.heap.size∨w.heap.size≤w.heap.size):=.inr (Nat.le_refl _)
      have HNO:Hid (zDC (.map []) l):=by show zDC _ _;rw [e0];exact zNY
      have HBM:Hid (b≠w.heap.size):=hbl2
      have HBL:Hid (∀ g,(Value.slice L n c).ownBlock=some g→S g):=by show ∀ g,_;rw [hnl];exact h4
      have HKEY:=yh hkey
      clear hnl hnum hnd2 hlen2 hin h1 h3 h4 hnd hlen htab hown e0 hbl2 hSb hs
      go_enter Tryz.func131,Tryz.ntmps131
      go_wp2_with (first
        | (at_mapUpdate;refine wpList_mapUpdate_in _ rfl _ _ _ 159 rfl 9 38 tkey Tryz.underlying159 _ w.heap.size N (.map []) rfl HMP.out (by unfold maxLen;omega) _ _ _ rfl rfl HKEY.out _ [] (plainElem_int Tryz.underlying38 hwf) ?_
           intro w2 hm2 ht2
           have hh2:w2.heap[b]? = some (.cells #[.slice L n c,.map (some w.heap.size)] 170 (0,0)):=(ht2.grown.block b (Array.getElem?_eq_some_iff.1 HP1.out).1 (fun e =>HBM.out (Option.some.inj e))).trans HP1.out
           have hc0':w2.cell? ⟨b,0,none⟩=some (.slice L n c):=zAr hh2 rfl
           have hf0':w2.frozen? ⟨b,0,none⟩=false:=zBN hh2
           have ho2:=zAR (w':=w2) HPO.out (fun g hg =>ht2.grown.block g (zAP HPO.out g hg) (fun e =>zGL HPO.out HMP.out g hg (Option.some.inj e)))
           have HM2:=yh hm2
           have HT2:=yh ht2
           have HH2:=yh hh2
           clear hm2 ht2 hh2)
        | (at_builtin;refine wpList_append_lies _ rfl (.tmp 44) (.tmp 46) 82 rfl 0 9 is (.string ⟨#[]⟩) 1 16 Tryz.underlying82 his his0 his1 his2 rfl (by decide) _ n _ rfl (ho2.alloc _) ⟨w2.heap.size,0,none⟩ 1 1 [.string (tx s)] rfl rfl (cell_one_new _ _ _) (by simp [Value.oneCell']) (by omega) (by unfold maxLen;omega) (by omega) (Nat.zero_le _) (w2.heap.size+1) (by simp) ?_
           intro g3 c3 w3 ho3 hg3 hgl3 _
           have hh3:w3.heap[b]? = some (.cells #[.slice L n c,.map (some w.heap.size)] 170 (0,0)):=(hg3.block b (by have:=(Array.getElem?_eq_some_iff.1 HH2.out).1;simp;omega) (fun e =>zAa ho2 HH2.out (by decide) e.symm)).trans ((Below.heap_alloc _ _ _ (Array.getElem?_eq_some_iff.1 HH2.out).1).trans HH2.out)
           have hf3:w3.frozen? ⟨b,0,none⟩=false:=zBN hh3
           have hc3:w3.cell? ⟨b,0,none⟩=some (.slice L n c):=zAr hh3 rfl
           have HG3:=yh hg3
           have HGL:=yh hgl3
           have HO3:=yh ho3
           have HO2:=yh ho2
           have HH3:=yh hh3
           clear hgl3 hg3 ho3 hh3 hc0' hf0'))
      go_ret2
      refine ⟨by first | (rw [HNUM.out,← HNL.out];done) | (rw [HNUM.out,← HNL.out];rfl),?_⟩
      exact zHS S b n N w.heap.size g3 c3 c L l s w _ w2 w3 (.map []) HNL.out HIN.out HND.out HLEN.out HSB.out HTP.out HPM.out HP1.out HPO.out HMP.out HNO.out HBL.out HM2.out HT2.out HGL.out HG3.out HO3.out HH3.out (by omega)
    · have hnl0:=hnl
      clear hnl0
      obtain ⟨e1,e2⟩:=hn.2 s
      rw [decide_eq_false hin] at e1
      have hq:=fun W =>run_eql_map_nil_sl (P:=Tryz.prog) W 159 _ _ (some mb) Tryz.underlying159
      have HP1:=yh h1
      have HPO:=yh hown
      have HMP:=yh hm
      have HTP:=yh (Turn.refl S w)
      have HPM:Hid (S mb∨w.heap.size≤mb):=.inl hSm
      have HNO:=yh hn
      have HBM:Hid (b≠mb):=fun e =>by
        subst e
        obtain ⟨es,clock,hb,_⟩:=hm
        rw [h1] at hb;cases hb
      have HBL:Hid (∀ g,(Value.slice L n c).ownBlock=some g→S g):=by show ∀ g,_;rw [hnl];exact h4
      have HKEY:=yh hkey
      clear hnl hnum hnd2 hlen2 hin h1 h3 h4 hnd hlen htab hown e2 hSb hs hn
      go_enter Tryz.func131,Tryz.ntmps131
      go_wp2_with (first
        | (at_lookup;refine wpList_lookup_own_ok_int _ rfl _ _ 159 rfl 9 38 .u64 tkey Tryz.underlying159 Tryz.underlying38 (zHj _) mb N D rfl hm _ _ rfl HKEY.out ?_;intro cv hat hwc;clear hat hwc)
        | (at_mapUpdate;refine wpList_mapUpdate_in _ rfl _ _ _ 159 rfl 9 38 tkey Tryz.underlying159 _ mb N D rfl HMP.out (by unfold maxLen;omega) _ _ _ rfl rfl HKEY.out _ [] (plainElem_int Tryz.underlying38 hwf) ?_
           intro w2 hm2 ht2
           have hh2:w2.heap[b]? = some (.cells #[.slice L n c,.map (some mb)] 170 (0,0)):=(ht2.grown.block b (Array.getElem?_eq_some_iff.1 HP1.out).1 (fun e =>HBM.out (Option.some.inj e))).trans HP1.out
           have hc0':w2.cell? ⟨b,0,none⟩=some (.slice L n c):=zAr hh2 rfl
           have hf0':w2.frozen? ⟨b,0,none⟩=false:=zBN hh2
           have ho2:=zAR (w':=w2) HPO.out (fun g hg =>ht2.grown.block g (zAP HPO.out g hg) (fun e =>zGL HPO.out HMP.out g hg (Option.some.inj e)))
           have HM2:=yh hm2
           have HT2:=yh ht2
           have HH2:=yh hh2
           clear hm2 ht2 hh2)
        | (at_builtin;refine wpList_append_lies _ rfl (.tmp 44) (.tmp 46) 82 rfl 0 9 is (.string ⟨#[]⟩) 1 16 Tryz.underlying82 his his0 his1 his2 rfl (by decide) _ n _ rfl (ho2.alloc _) ⟨w2.heap.size,0,none⟩ 1 1 [.string (tx s)] rfl rfl (cell_one_new _ _ _) (by simp [Value.oneCell']) (by omega) (by unfold maxLen;omega) (by omega) (Nat.zero_le _) (w2.heap.size+1) (by simp) ?_
           intro g3 c3 w3 ho3 hg3 hgl3 _
           have hh3:w3.heap[b]? = some (.cells #[.slice L n c,.map (some mb)] 170 (0,0)):=(hg3.block b (by have:=(Array.getElem?_eq_some_iff.1 HH2.out).1;simp;omega) (fun e =>zAa ho2 HH2.out (by decide) e.symm)).trans ((Below.heap_alloc _ _ _ (Array.getElem?_eq_some_iff.1 HH2.out).1).trans HH2.out)
           have hf3:w3.frozen? ⟨b,0,none⟩=false:=zBN hh3
           have hc3:w3.cell? ⟨b,0,none⟩=some (.slice L n c):=zAr hh3 rfl
           have HG3:=yh hg3
           have HGL:=yh hgl3
           have HO3:=yh ho3
           have HO2:=yh ho2
           have HH3:=yh hh3
           clear hgl3 hg3 ho3 hh3 hc0' hf0'))
      go_ret2
      refine ⟨by first | (rw [HNUM.out,← HNL.out];done) | (rw [HNUM.out,← HNL.out];rfl),?_⟩
      exact zHS S b n N mb g3 c3 c L l s w w w2 w3 D HNL.out HIN.out HND.out HLEN.out HSB.out HTP.out HPM.out HP1.out HPO.out HMP.out HNO.out HBL.out HM2.out HT2.out HGL.out HG3.out HO3.out HH3.out (by omega)
theorem zFb (S:Nat→Prop) (b N:Nat) (l:List (List UInt8)) (s:List UInt8) (hs:s.length≤maxLen) (hl:l.length+1≤1073741824) (hN:N<1073741824) (w:World) (h:Tab w S b N l) :
  Calls Tryz.prog 107 #[.pointer (some ⟨b,0,none⟩),tsv s] w fun e w' =>e=.returned (.tuple #[.int .u64 (tnum (tput l s) s:Int),.bool (!decide (s ∈ l))]) ∧
   Tab w' (fun k =>S k∨w.heap.size≤k) b (N+1) (tput l s)∧Turn S w w':=by
 have HF:=yh (zLy S b N l s hs hl hN w h)
 unfold tsv at HF ⊢
 generalize (!decide (s ∈ l))=q at HF ⊢
 clear h hs hl hN
 go_enter Tryz.func107,Tryz.ntmps107
 go_wp2_with (first
  | (go_at_call 108;refine (zEm b _).mono ?_;rintro e w1 ⟨rfl,rfl⟩)
  | (go_at_call 131;refine HF.out.mono ?_;rintro e w1 ⟨rfl,ht1,htu1⟩))
 go_ret2
 exact ⟨rfl,ht1,htu1⟩
theorem zOq (S:Nat→Prop) (b N:Nat) (l:List (List UInt8)) (s:List UInt8) (hs:s.length≤maxLen) (w:World) (h:Tab w S b N l) :
  Calls Tryz.prog 187 #[.pointer (some ⟨b,0,none⟩),tsv s] w fun e w' =>e=.returned (.tuple #[.int .u64 (tnum l s:Int),.bool (decide (s ∈ l))])∧w=w':=by
 obtain ⟨L,c,mv,h1,_,_,_,h5,_⟩:=h
 have hc1:=zAr (i:=1) h1 rfl
 have hkey:=zHb hs
 have HK:=yh hkey
 unfold tsv at hkey ⊢
 rcases h5 with ⟨rfl,rfl⟩ | ⟨mb,D,rfl,_,hm,hn⟩
 ·have hnil:=fun W:World =>look_nil (w:=W) (P:=Tryz.prog) true tkey Tryz.underlying159 (zHj W) hkey
  have hnum:tnum [] s=0:=by simp [tnum]
  rw [hnum]
  clear hkey h1
  go_enter Tryz.func187,Tryz.ntmps187
  go_wp2
  go_ret2
  exact ⟨by simp,rfl⟩
 ·obtain ⟨e1,e2⟩:=hn.2 s
  have E1:=yh e1
  have E2:=yh e2
  clear e1 e2 h1
  go_enter Tryz.func187,Tryz.ntmps187
  go_wp2_with (at_lookup;refine wpList_lookup_own_ok_int _ rfl _ _ 159 rfl 9 38 .u64 tkey Tryz.underlying159 Tryz.underlying38 (zHj _) mb N D rfl hm _ _ rfl hkey ?_;intro cv hat hwc)
  go_ret2
  have e3:=E2.out
  unfold u0 at e3
  rw [e3] at hat
  have:cv=(tnum l s:Int):=by injection hat with hat;injection hat with _ hat;exact hat.symm
  rw [this,E1.out]
  exact ⟨rfl,rfl⟩
theorem zOX (S:Nat→Prop) (b N:Nat) (l:List (List UInt8)) (s:List UInt8) (hs:s.length≤maxLen) (w:World) (h:Tab w S b N l) :
  Calls Tryz.prog 183 #[.pointer (some ⟨b,0,none⟩),tsv s] w fun e w' =>e=.returned (.tuple #[.int .u64 (tnum l s:Int),.bool (decide (s ∈ l))])∧w=w':=by
 have HF:=yh (zOq S b N l s hs w h)
 unfold tsv at HF ⊢
 generalize decide (s ∈ l)=q at HF ⊢
 clear h hs
 go_enter Tryz.func183,Tryz.ntmps183
 go_wp2_with (first
  | (go_at_call 108;refine (zEm b _).mono ?_;rintro e w1 ⟨rfl,rfl⟩)
  | (go_at_call 187;refine HF.out.mono ?_;rintro e w1 ⟨rfl,rfl⟩))
 go_ret2
 exact ⟨rfl,rfl⟩
open Go.RowKit
def rsv (t:List UInt8):Value:=.string (tx t)
structure Rc where
 kind:Int
 target:List UInt8
 rule:Int
 out:Int
 time:Int
 tag:List UInt8
structure Dp where
 name:List UInt8
 hash:Int
 order:Bool
def Dp.cells (d:Dp):List Value:=[rsv d.name,.int .u64 d.hash,.bool d.order]
def dps (l:List Dp):List Value:=l.flatMap Dp.cells
def rcv (r:Rc) (A:Option Addr) (n c:Nat):Value:=.agg #[.int .i64 r.kind,rsv r.target,.int .u64 r.rule,.slice A n c,.int .u64 r.out,.int .u64 r.time,rsv r.tag]
def zCV (r:Rc):Value:=.agg #[.int .i64 r.kind,rsv r.target,rsv r.tag,.int .u64 r.rule,.int .u64 r.out,.int .u64 r.time]
theorem zEQ (t:List UInt8):(tx t).size=t.length:=by simp [tx,ByteArray.size]
theorem zGv (t:List UInt8) (h:t≠[]):((tx t).toList == [])=false:=by
 rw [beq_eq_false_iff_ne]
 intro e
 exact h (by simpa [tx] using e)
theorem zCd {s t:List UInt8} (h:s≠t):((tx s).toList == (tx t).toList)=false:=by
 rw [beq_eq_false_iff_ne]
 intro e
 exact h (by simpa [tx] using e)
theorem zCS (s:List UInt8):((tx s).toList == (tx s).toList)=true:=by simp
theorem zPm (kind1 kind2:Int) (target1 target2:List UInt8) (rule1 rule2:Int) (out1 out2:Int) (time1 time2:Int) (tag1 tag2:List UInt8) (n1 n2:Nat) (A B:Option Addr) (c d:Nat) (h:kind1≠kind2) (w:World) :
  Calls Tryz.prog 42 #[.agg #[.int .i64 kind1,.string (tx target1),.int .u64 rule1,.slice A n1 c,.int .u64 out1,.int .u64 time1,.string (tx tag1)],.agg #[.int .i64 kind2,.string (tx target2),.int .u64 rule2,.slice B n2 d,.int .u64 out2,.int .u64 time2,.string (tx tag2)]] w fun e w' =>e=.returned (.bool false)∧Below w.heap.size w w':=by
 have HB:=yh (((Below.refl w.heap.size w).alloc (Nat.le_refl _) (.cells #[.int .i64 kind1,.string (tx target1),.int .u64 rule1,.slice A n1 c,.int .u64 out1,.int .u64 time1,.string (tx tag1)] 41)).alloc (by simp) (.cells #[.int .i64 kind2,.string (tx target2),.int .u64 rule2,.slice B n2 d,.int .u64 out2,.int .u64 time2,.string (tx tag2)] 41))
 have hu1:(kind1 != kind2)=true:=by rw [bne_iff_ne];exact h
 have hu2:decide (kind1=kind2)=false:=decide_eq_false h
 have hu3:(kind1 == kind2)=false:=by rw [beq_eq_false_iff_ne];exact h
 clear h
 go_enter Tryz.func42,Tryz.ntmps42
 go_wp2
 go_ret
 exact ⟨rfl,HB.out⟩
theorem zMI (kind:Int) (target1 target2:List UInt8) (rule1 rule2:Int) (out1 out2:Int) (time1 time2:Int) (tag1 tag2:List UInt8) (n1 n2:Nat) (A B:Option Addr) (c d:Nat) (h:target1≠target2) (w:World) :
  Calls Tryz.prog 42 #[.agg #[.int .i64 kind,.string (tx target1),.int .u64 rule1,.slice A n1 c,.int .u64 out1,.int .u64 time1,.string (tx tag1)],.agg #[.int .i64 kind,.string (tx target2),.int .u64 rule2,.slice B n2 d,.int .u64 out2,.int .u64 time2,.string (tx tag2)]] w fun e w' =>e=.returned (.bool false)∧Below w.heap.size w w':=by
 have HB:=yh (((Below.refl w.heap.size w).alloc (Nat.le_refl _) (.cells #[.int .i64 kind,.string (tx target1),.int .u64 rule1,.slice A n1 c,.int .u64 out1,.int .u64 time1,.string (tx tag1)] 41)).alloc (by simp) (.cells #[.int .i64 kind,.string (tx target2),.int .u64 rule2,.slice B n2 d,.int .u64 out2,.int .u64 time2,.string (tx tag2)] 41))
 have hu:=zCd h
 clear h
 go_enter Tryz.func42,Tryz.ntmps42
 go_wp2
 go_ret
 exact ⟨rfl,HB.out⟩
theorem zPn (kind:Int) (target:List UInt8) (rule1 rule2:Int) (out1 out2:Int) (time1 time2:Int) (tag1 tag2:List UInt8) (n1 n2:Nat) (A B:Option Addr) (c d:Nat) (h:rule1≠rule2) (w:World) :
  Calls Tryz.prog 42 #[.agg #[.int .i64 kind,.string (tx target),.int .u64 rule1,.slice A n1 c,.int .u64 out1,.int .u64 time1,.string (tx tag1)],.agg #[.int .i64 kind,.string (tx target),.int .u64 rule2,.slice B n2 d,.int .u64 out2,.int .u64 time2,.string (tx tag2)]] w fun e w' =>e=.returned (.bool false)∧Below w.heap.size w w':=by
 have HB:=yh (((Below.refl w.heap.size w).alloc (Nat.le_refl _) (.cells #[.int .i64 kind,.string (tx target),.int .u64 rule1,.slice A n1 c,.int .u64 out1,.int .u64 time1,.string (tx tag1)] 41)).alloc (by simp) (.cells #[.int .i64 kind,.string (tx target),.int .u64 rule2,.slice B n2 d,.int .u64 out2,.int .u64 time2,.string (tx tag2)] 41))
 have hu1:(rule1 != rule2)=true:=by rw [bne_iff_ne];exact h
 have hu2:decide (rule1=rule2)=false:=decide_eq_false h
 have hu3:(rule1 == rule2)=false:=by rw [beq_eq_false_iff_ne];exact h
 have hl1:=zCS target
 clear h
 go_enter Tryz.func42,Tryz.ntmps42
 go_wp2
 go_ret
 exact ⟨rfl,HB.out⟩
theorem zRa (kind:Int) (target:List UInt8) (rule:Int) (out1 out2:Int) (time1 time2:Int) (tag1 tag2:List UInt8) (n1 n2:Nat) (A B:Option Addr) (c d:Nat) (h:out1≠out2) (w:World) :
  Calls Tryz.prog 42 #[.agg #[.int .i64 kind,.string (tx target),.int .u64 rule,.slice A n1 c,.int .u64 out1,.int .u64 time1,.string (tx tag1)],.agg #[.int .i64 kind,.string (tx target),.int .u64 rule,.slice B n2 d,.int .u64 out2,.int .u64 time2,.string (tx tag2)]] w fun e w' =>e=.returned (.bool false)∧Below w.heap.size w w':=by
 have HB:=yh (((Below.refl w.heap.size w).alloc (Nat.le_refl _) (.cells #[.int .i64 kind,.string (tx target),.int .u64 rule,.slice A n1 c,.int .u64 out1,.int .u64 time1,.string (tx tag1)] 41)).alloc (by simp) (.cells #[.int .i64 kind,.string (tx target),.int .u64 rule,.slice B n2 d,.int .u64 out2,.int .u64 time2,.string (tx tag2)] 41))
 have hu1:(out1 != out2)=true:=by rw [bne_iff_ne];exact h
 have hu2:decide (out1=out2)=false:=decide_eq_false h
 have hu3:(out1 == out2)=false:=by rw [beq_eq_false_iff_ne];exact h
 have hl1:=zCS target
 clear h
 go_enter Tryz.func42,Tryz.ntmps42
 go_wp2
 go_ret
 exact ⟨rfl,HB.out⟩
theorem zPo (kind:Int) (target:List UInt8) (rule:Int) (out:Int) (time1 time2:Int) (tag1 tag2:List UInt8) (n1 n2:Nat) (A B:Option Addr) (c d:Nat) (h:time1≠time2) (w:World) :
  Calls Tryz.prog 42 #[.agg #[.int .i64 kind,.string (tx target),.int .u64 rule,.slice A n1 c,.int .u64 out,.int .u64 time1,.string (tx tag1)],.agg #[.int .i64 kind,.string (tx target),.int .u64 rule,.slice B n2 d,.int .u64 out,.int .u64 time2,.string (tx tag2)]] w fun e w' =>e=.returned (.bool false)∧Below w.heap.size w w':=by
 have HB:=yh (((Below.refl w.heap.size w).alloc (Nat.le_refl _) (.cells #[.int .i64 kind,.string (tx target),.int .u64 rule,.slice A n1 c,.int .u64 out,.int .u64 time1,.string (tx tag1)] 41)).alloc (by simp) (.cells #[.int .i64 kind,.string (tx target),.int .u64 rule,.slice B n2 d,.int .u64 out,.int .u64 time2,.string (tx tag2)] 41))
 have hu1:(time1 != time2)=true:=by rw [bne_iff_ne];exact h
 have hu2:decide (time1=time2)=false:=decide_eq_false h
 have hu3:(time1 == time2)=false:=by rw [beq_eq_false_iff_ne];exact h
 have hl1:=zCS target
 clear h
 go_enter Tryz.func42,Tryz.ntmps42
 go_wp2
 go_ret
 exact ⟨rfl,HB.out⟩
theorem zRb (kind:Int) (target:List UInt8) (rule:Int) (out:Int) (time:Int) (tag1 tag2:List UInt8) (n1 n2:Nat) (A B:Option Addr) (c d:Nat) (h:tag1≠tag2) (w:World) :
  Calls Tryz.prog 42 #[.agg #[.int .i64 kind,.string (tx target),.int .u64 rule,.slice A n1 c,.int .u64 out,.int .u64 time,.string (tx tag1)],.agg #[.int .i64 kind,.string (tx target),.int .u64 rule,.slice B n2 d,.int .u64 out,.int .u64 time,.string (tx tag2)]] w fun e w' =>e=.returned (.bool false)∧Below w.heap.size w w':=by
 have HB:=yh (((Below.refl w.heap.size w).alloc (Nat.le_refl _) (.cells #[.int .i64 kind,.string (tx target),.int .u64 rule,.slice A n1 c,.int .u64 out,.int .u64 time,.string (tx tag1)] 41)).alloc (by simp) (.cells #[.int .i64 kind,.string (tx target),.int .u64 rule,.slice B n2 d,.int .u64 out,.int .u64 time,.string (tx tag2)] 41))
 have hu:=zCd h
 have hl1:=zCS target
 clear h
 go_enter Tryz.func42,Tryz.ntmps42
 go_wp2
 go_ret
 exact ⟨rfl,HB.out⟩
theorem zSx (kind:Int) (target:List UInt8) (rule:Int) (out:Int) (time:Int) (tag:List UInt8) (n1 n2:Nat) (A B:Option Addr) (c d:Nat) (h:n1≠n2) (w:World) :
  Calls Tryz.prog 42 #[.agg #[.int .i64 kind,.string (tx target),.int .u64 rule,.slice A n1 c,.int .u64 out,.int .u64 time,.string (tx tag)],.agg #[.int .i64 kind,.string (tx target),.int .u64 rule,.slice B n2 d,.int .u64 out,.int .u64 time,.string (tx tag)]] w fun e w' =>e=.returned (.bool false)∧Below w.heap.size w w':=by
 have HB:=yh (((Below.refl w.heap.size w).alloc (Nat.le_refl _) (.cells #[.int .i64 kind,.string (tx target),.int .u64 rule,.slice A n1 c,.int .u64 out,.int .u64 time,.string (tx tag)] 41)).alloc (by simp) (.cells #[.int .i64 kind,.string (tx target),.int .u64 rule,.slice B n2 d,.int .u64 out,.int .u64 time,.string (tx tag)] 41))
 have hu0:(n1:Int)≠(n2:Int):=by omega
 have hu1:((n1:Int) != (n2:Int))=true:=by rw [bne_iff_ne];exact hu0
 have hu3:((n1:Int) == (n2:Int))=false:=by rw [beq_eq_false_iff_ne];exact hu0
 have hl1:=zCS target
 have hl5:=zCS tag
 clear h
 go_enter Tryz.func42,Tryz.ntmps42
 go_wp2
 go_ret
 exact ⟨rfl,HB.out⟩
theorem zAn (l:List Dp):(dps l).length=l.length * 3:=by
 induction l with
 | nil =>rfl
 | cons t l ih =>simp [dps,Dp.cells] at *;omega
theorem zCl:∀ (l:List Dp) (i:Nat) (t:Dp),l[i]? = some t→(dps l)[i * 3]? = some (rsv t.name)∧(dps l)[i * 3+1]? = some (.int .u64 t.hash)∧(dps l)[i * 3+2]? = some (.bool t.order)
 | [],i,t,h =>by simp at h
 | a :: l,0,t,h =>by
  have:a=t:=by simpa using h
  subst this
  exact ⟨rfl,rfl,rfl⟩
 | a :: l,i+1,t,h =>by
  have:=zCl l i t (by simpa using h)
  have e:∀ j,(dps (a :: l))[(i+1) * 3+j]? = (dps l)[i * 3+j]?:=fun j =>by
   show (Dp.cells a++dps l)[(i+1) * 3+j]? = _
   rw [List.getElem?_append_right (by simp [Dp.cells];omega)]
   congr 1
   simp [Dp.cells];omega
  exact ⟨(e 0).trans this.1,(e 1).trans this.2.1,(e 2).trans this.2.2⟩
theorem zDR (a:Addr) (k:Nat):a.add (k+1)=⟨(a.add k).block,(a.add k).off+1,none⟩:=by
 unfold Addr.add
 by_cases h:k=0
 ·subst h;rfl
 ·simp [h,Nat.add_assoc]
theorem zDT (a:Addr) (k:Nat):a.add (k+2)=⟨(a.add k).block,(a.add k).off+2,none⟩:=by
 unfold Addr.add
 by_cases h:k=0
 ·subst h;rfl
 ·simp [h,Nat.add_assoc]
theorem zHp (l:List Dp):∀ u ∈ dps l,u.oneCell'=true:=by
 intro u hu
 obtain ⟨d,_,hd⟩:=List.mem_flatMap.1 hu
 simp only [Dp.cells,rsv,List.mem_cons,List.not_mem_nil,or_false] at hd
 rcases hd with rfl | rfl | rfl <;> rfl
def Deps (w:World) (base:Nat) (A:Option Addr) (n c:Nat) (l:List Dp):Prop:=w.ownsRow base 95 3 (.slice A n c) n (dps l)∧(A=none→c=0)
end Go.Proofs.YtekchkfjgofnkaaGreatDoor
