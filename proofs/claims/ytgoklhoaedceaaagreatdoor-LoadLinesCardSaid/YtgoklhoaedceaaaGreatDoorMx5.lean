/- Texts of one proof. -/
import Derived.Test.YtgoklhoaedceaaaGreatDoorMx4
set_option maxRecDepth 100000
set_option maxHeartbeats 8000000
namespace Go.Proofs.YtgoklhoaedceaaaGreatDoor
open Go.RowKit Go.Maps Go.ChangeMaps Go.WideMaps
theorem zLY {s:List UInt8} (h:s.length≤maxLen):keyOf Tryz.prog 9 (tsv s)=some (.string s):=by
 rw [tsv,keyOf_string_mk Tryz.underlying9 (by rw [zAK];exact h)]
 simp [tx]
theorem zHK (b:Nat) (w:World):Calls Tryz.prog 109 #[.pointer (some ⟨b,0,none⟩)] w fun e w' =>e=.returned (.pointer (some ⟨b,0,none⟩))∧w=w':=by
 go_enter Tryz.func109,Tryz.ntmps109
 go_wp2
 go_ret
 exact ⟨rfl,rfl⟩
theorem zHI (S:Nat→Prop) (b N:Nat) (l:List (List UInt8)) (w:World) (h:Tab w S b N l) :
  Calls Tryz.prog 89 #[.pointer (some ⟨b,0,none⟩)] w fun e w' =>e=.returned (.int .i64 (l.length:Int))∧w=w':=by
 obtain ⟨L,c,mv,h1,_⟩:=h
 have hc0:=zBY (i:=0) h1 rfl
 clear h1
 go_enter Tryz.func89,Tryz.ntmps89
 go_wp2_with (go_at_call 109;refine (zHK b _).mono ?_;rintro e w1 ⟨rfl,rfl⟩)
 go_ret
 exact ⟨rfl,rfl⟩
theorem zFF {w:World} {base n size:Nat} {e:TypeId} {v:Value} {xs:List Value} {b m:Nat} {D:DataW Nat} {k:TypeId} {R:Value→Option (DataW Nat×List MemPlace)} (h:w.ownsRow base e size v n xs) (hm:w.ownsMap Tryz.prog k R b m D):∀ g,v.ownBlock=some g→g≠b:=by
 intro g hg e2
 subst e2
 obtain ⟨es,clock,hb,_⟩:=hm
 rcases h.2 with ⟨rfl,_⟩ | ⟨g2,cap,cur,rfl,_,hh,_⟩
 ·simp [Value.ownBlock] at hg
 ·simp only [Value.ownBlock,Option.some.injEq] at hg
  subst hg
  rw [hb] at hh
  cases hh
theorem zEr (S:Nat→Prop) (b n N mb g3 c3 c:Nat) (L:Option Addr) (l:List (List UInt8)) (s:List UInt8) (w Wp w2 w3:World) (D:DataW Nat) (hn:n=l.length) (hin:s ∉ l) (hnd:(l++[s]).Nodup) (hlen:∀ t ∈ l++[s],t.length≤maxLen) (hSb:S b) (htp:Turn S w Wp) (hpm:S mb∨w.heap.size≤mb)
  (hp1:Wp.heap[b]? = some (.cells #[.slice L n c,.map (some mb)] 153 (0,0))) (hpo:Wp.ownsRow 0 9 1 (.slice L n c) n (l.map tsv)) (hmp:Wp.ownsMap Tryz.prog 9 (plainElem Tryz.prog 34) mb N D) (hno:zCn D l) (hbl:∀ g,(Value.slice L n c).ownBlock=some g→S g)
  (hm2:w2.ownsMap Tryz.prog 9 (plainElem Tryz.prog 34) mb (N+1) (D.put (.string s) (.lit (.int .u64 (n:Int))))) (ht2:Wp.mapTurned w2 mb)
  (hgl:(Value.slice L n c).ownBlock=some g3∨g3=w2.heap.size+1) (hg3:(w2.alloc (.cells #[.string (tx s)] 9)).grownBy w3 (Value.slice L n c).ownBlock) (ho3:w3.ownsRow 0 9 1 (.slice (some ⟨g3,0,none⟩) (n+1) c3) (n+1) (l.map tsv++[.string (tx s)])) (hh3:w3.heap[b]? = some (.cells #[.slice L n c,.map (some mb)] 153 (0,0))) (hb:b<w.heap.size) :
  Tab (w3.setCell ⟨b,0,none⟩ (.slice (some ⟨g3,0,none⟩) (n+1) c3)) (fun k =>S k∨w.heap.size≤k) b (N+1) (l++[s])∧Turn S w (w3.setCell ⟨b,0,none⟩ (.slice (some ⟨g3,0,none⟩) (n+1) c3)):=by
 have hgrow:=ht2.grown
 have t2:Turn S w w2:=htp.grown hgrow (fun i e hi =>by
  obtain rfl:=Option.some.inj e
  rcases hpm with h | h
  ·exact h
  ·omega)
 have t3:Turn S w w3:=(t2.grown (World.grownBy_alloc w2 _ none) (by simp)).grown hg3 (fun i e _ =>hbl i e)
 have t4:=t3.setCell b 0 (.slice (some ⟨g3,0,none⟩) (n+1) c3) hSb
 have hl1:(l++[s]).length=n+1:=by rw [List.length_append,hn];rfl
 have hmb3:w3.heap[mb]? = w2.heap[mb]?:=by
  have hlt:=hm2.lt
  refine (hg3.block mb (by simp;omega) (fun e =>?_)).trans (Below.heap_alloc _ _ _ hlt)
  exact zFF hpo hmp mb e.symm rfl
 have hne:mb≠b:=by
  intro e
  subst e
  obtain ⟨es,clock,hb2,_⟩:=hm2
  rw [hh3] at hmb3
  rw [hb2] at hmb3
  cases hmb3
 refine ⟨⟨some ⟨g3,0,none⟩,c3,some mb,?_,.inl hSb,?_,?_,.inr ⟨mb,D.put (.string s) (.lit (.int .u64 (n:Int))),rfl,hpm,?_,?_⟩,hnd,hlen⟩,t4⟩
 ·rw [hl1];exact zFR hh3
 ·rw [hl1,List.map_append]
  exact zAs ho3 (fun g hg =>Below.heap_setCell _ _ _ g (fun e =>zBS ho3 hh3 (by decide) (hg.trans (congrArg some e))))
 ·intro g hg
  obtain rfl:g3=g:=by simpa [Value.ownBlock] using hg
  rcases hgl with h | h
  ·exact .inl (hbl _ h)
  ·exact .inr (by have:=t2.2.2.2.1;omega)
 ·exact zGX hm2 ((Below.heap_setCell _ _ _ mb hne).trans hmb3)
 ·rw [hn];exact zIr hno hin
theorem zHv (S:Nat→Prop) (b N:Nat) (l:List (List UInt8)) (s:List UInt8) (hs:s.length≤maxLen) (hl:l.length+1≤1073741824) (hN:N<1073741824) (w:World) (h:Tab w S b N l) :
    Calls Tryz.prog 131 #[.pointer (some ⟨b,0,none⟩),tsv s] w fun e w' =>e=.returned (.tuple #[.int .u64 (tnum (tput l s) s:Int),.bool (!decide (s ∈ l))]) ∧
      Tab w' (fun k =>S k∨w.heap.size≤k) b (N+1) (tput l s)∧Turn S w w':=by
  obtain ⟨is,his,his0,his1,his2⟩:=info_parts zLr
  have htab:=h
  obtain ⟨L,c,mv,h1,hSb,h3,h4,h5,hnd,hlen⟩:=h
  have hc1:=zBY (i:=1) h1 rfl
  have hf1:=zBn (i:=1) h1
  have hc0:=zBY (i:=0) h1 rfl
  have hf0:=zBn (i:=0) h1
  have hkey:=zLY hs
  have HS:=yh hs
  unfold tsv at hkey ⊢
  by_cases hin:s ∈ l
  · rw [zFI hin,decide_eq_true hin]
    obtain ⟨mb,D,rfl,hSm,hm,hn⟩:∃ (mb:Nat) (D:DataW Nat),mv=some mb∧S mb∧w.ownsMap Tryz.prog 9 (plainElem Tryz.prog 34) mb N D∧zCn D l:=by
      rcases h5 with ⟨_,e⟩ | h5
      · rw [e] at hin;simp at hin
      · exact h5
    obtain ⟨e1,e2⟩:=hn.2 s
    rw [decide_eq_true hin] at e1
    have E2:=yh e2
    have HT:=yh htab
    clear e2 h1 h3 h4 h5 hnd hlen htab
    go_enter Tryz.func131,Tryz.ntmps131
    go_wp2_with (at_lookup;refine wpList_lookup_own_ok_int _ rfl _ _ 132 rfl 9 34 .u64 tkey Tryz.underlying132 Tryz.underlying34 (zIH _) mb N D rfl hm _ _ rfl hkey ?_;intro cv hat hwc)
    go_ret2
    have e3:=E2.out
    unfold u0 at e3
    rw [e3] at hat
    have:cv=(tnum l s:Int):=by injection hat with hat;injection hat with _ hat;exact hat.symm
    rw [this]
    exact ⟨rfl,(HT.out.wide fun k hk _ =>.inl hk).more (by omega),Turn.refl _ _⟩
  · rw [zDe hin,decide_eq_false hin]
    have hnum:tnum (l++[s]) s=l.length:=by
      rw [tnum,if_pos (by simp),List.idxOf_append,if_neg hin];simp
    have HNUM:=yh hnum
    have hnd2:=zEw (s:=s) hnd
    rw [zDe hin] at hnd2
    have HND:=yh hnd2
    have hlen2:∀ t ∈ l++[s],t.length≤maxLen:=fun t ht =>by
      rcases List.mem_append.1 ht with ht | ht
      · exact hlen t ht
      · obtain rfl:=List.mem_singleton.1 ht;exact hs
    have HLEN:=yh hlen2
    have HIN:=yh hin
    have HB:=yh h4
    have HSB:=yh hSb
    have hbl:=(Array.getElem?_eq_some_iff.1 h1).1
    obtain ⟨n,hnl⟩:∃ n,n=l.length:=⟨_,rfl⟩
    have HNL:=yh hnl
    have hown:=h3
    rw [← hnl] at h1 hc0 hl hown
    have hw1:IntKind.u64.wrap (n:Int)=(n:Int):=by rw [IntKind.wrap_u64];omega
    have hwf:(Lit.int .u64 (n:Int)).wf=true:=by simp [Lit.wf,IntKind.min,IntKind.max,IntKind.signed,IntKind.bits];omega
    have HOWN:=yh hown
    rcases h5 with ⟨rfl,e0⟩ | ⟨mb,D,rfl,hSm,hm,hn⟩
    · have hnil:=fun W:World =>look_nil (w:=W) (P:=Tryz.prog) true tkey Tryz.underlying132 (zIH W) hkey
      have hq:=fun W =>run_eql_map_nil_sl (P:=Tryz.prog) W 132 _ _ none Tryz.underlying132
      have hmm:=@run_makeMap Tryz.prog
      have hbl2:b≠w.heap.size:=by omega
      have HP1:Hid (((w.setCell ⟨b,1,none⟩ (.map (some w.heap.size))).alloc (.map #[] 0)).heap[b]? = some (.cells #[.slice L n c,.map (some w.heap.size)] 153 (0,0))):=(Below.heap_alloc _ _ _ (by simpa using hbl)).trans (zFR h1)
      have HPO:Hid (((w.setCell ⟨b,1,none⟩ (.map (some w.heap.size))).alloc (.map #[] 0)).ownsRow 0 9 1 (.slice L n c) n (l.map tsv)) :=
        (zAs (w':=w.setCell ⟨b,1,none⟩ (.map (some w.heap.size))) hown (fun g hg =>Below.heap_setCell _ _ _ g (fun e =>zBS hown h1 (by decide) (hg.trans (congrArg some e))))).alloc _
      have HMP:Hid (((w.setCell ⟨b,1,none⟩ (.map (some w.heap.size))).alloc (.map #[] 0)).ownsMap Tryz.prog 9 (plainElem Tryz.prog 34) w.heap.size N (.map []:DataW Nat)):=by
        have h:=World.ownsMap_made (H:=Nat) (w.setCell ⟨b,1,none⟩ (.map (some w.heap.size))) Tryz.prog 9 (plainElem Tryz.prog 34)
        rw [World.size_setCell] at h
        exact h.mono (Nat.zero_le _)
      have HTP:Hid (Turn S w ((w.setCell ⟨b,1,none⟩ (.map (some w.heap.size))).alloc (.map #[] 0))):=((Turn.refl S w).setCell b 1 _ hSb).grown (World.grownBy_alloc _ _ none) (by simp)
      have HPM:Hid (S w.heap.size∨w.heap.size≤w.heap.size):=.inr (Nat.le_refl _)
      have HNO:Hid (zCn (.map []) l):=by show zCn _ _;rw [e0];exact zIq
      have HBM:Hid (b≠w.heap.size):=hbl2
      have HBL:Hid (∀ g,(Value.slice L n c).ownBlock=some g→S g):=by show ∀ g,_;rw [hnl];exact h4
      have HKEY:=yh hkey
      clear hnl hnum hnd2 hlen2 hin h1 h3 h4 hnd hlen htab hown e0 hbl2 hSb hs
      go_enter Tryz.func131,Tryz.ntmps131
      go_wp2_with (first
        | (at_mapUpdate;refine wpList_mapUpdate_in _ rfl _ _ _ 132 rfl 9 34 tkey Tryz.underlying132 _ w.heap.size N (.map []) rfl HMP.out (by unfold maxLen;omega) _ _ _ rfl rfl HKEY.out _ [] (plainElem_int Tryz.underlying34 hwf) ?_
           intro w2 hm2 ht2
           have hh2:w2.heap[b]? = some (.cells #[.slice L n c,.map (some w.heap.size)] 153 (0,0)):=(ht2.grown.block b (Array.getElem?_eq_some_iff.1 HP1.out).1 (fun e =>HBM.out (Option.some.inj e))).trans HP1.out
           have hc0':w2.cell? ⟨b,0,none⟩=some (.slice L n c):=zBY hh2 rfl
           have hf0':w2.frozen? ⟨b,0,none⟩=false:=zBn hh2
           have ho2:=zAs (w':=w2) HPO.out (fun g hg =>ht2.grown.block g (zBu HPO.out g hg) (fun e =>zFF HPO.out HMP.out g hg (Option.some.inj e)))
           have HM2:=yh hm2
           have HT2:=yh ht2
           have HH2:=yh hh2
           clear hm2 ht2 hh2)
        | (at_builtin;refine wpList_append_lies _ rfl (.tmp 44) (.tmp 46) 51 rfl 0 9 is (.string ⟨#[]⟩) 1 16 Tryz.underlying51 his his0 his1 his2 rfl (by decide) _ n _ rfl (ho2.alloc _) ⟨w2.heap.size,0,none⟩ 1 1 [.string (tx s)] rfl rfl (cell_one_new _ _ _) (by simp [Value.oneCell']) (by omega) (by unfold maxLen;omega) (by omega) (Nat.zero_le _) (w2.heap.size+1) (by simp) ?_
           intro g3 c3 w3 ho3 hg3 hgl3 _
           have hh3:w3.heap[b]? = some (.cells #[.slice L n c,.map (some w.heap.size)] 153 (0,0)):=(hg3.block b (by have:=(Array.getElem?_eq_some_iff.1 HH2.out).1;simp;omega) (fun e =>zBS ho2 HH2.out (by decide) e.symm)).trans ((Below.heap_alloc _ _ _ (Array.getElem?_eq_some_iff.1 HH2.out).1).trans HH2.out)
           have hf3:w3.frozen? ⟨b,0,none⟩=false:=zBn hh3
           have hc3:w3.cell? ⟨b,0,none⟩=some (.slice L n c):=zBY hh3 rfl
           have HG3:=yh hg3
           have HGL:=yh hgl3
           have HO3:=yh ho3
           have HO2:=yh ho2
           have HH3:=yh hh3
           clear hgl3 hg3 ho3 hh3 hc0' hf0'))
      go_ret2
      refine ⟨by first | (rw [HNUM.out,← HNL.out];done) | (rw [HNUM.out,← HNL.out];rfl),?_⟩
      exact zEr S b n N w.heap.size g3 c3 c L l s w _ w2 w3 (.map []) HNL.out HIN.out HND.out HLEN.out HSB.out HTP.out HPM.out HP1.out HPO.out HMP.out HNO.out HBL.out HM2.out HT2.out HGL.out HG3.out HO3.out HH3.out (by omega)
    · have hnl0:=hnl
      clear hnl0
      obtain ⟨e1,e2⟩:=hn.2 s
      rw [decide_eq_false hin] at e1
      have hq:=fun W =>run_eql_map_nil_sl (P:=Tryz.prog) W 132 _ _ (some mb) Tryz.underlying132
      have HP1:=yh h1
      have HPO:=yh hown
      have HMP:=yh hm
      have HTP:=yh (Turn.refl S w)
      have HPM:Hid (S mb∨w.heap.size≤mb):=.inl hSm
      have HNO:=yh hn
      have HBM:Hid (b≠mb):=fun e =>by
        subst e
        obtain ⟨es,clock,hb,_⟩:=hm
        rw [h1] at hb;cases hb
      have HBL:Hid (∀ g,(Value.slice L n c).ownBlock=some g→S g):=by show ∀ g,_;rw [hnl];exact h4
      have HKEY:=yh hkey
      clear hnl hnum hnd2 hlen2 hin h1 h3 h4 hnd hlen htab hown e2 hSb hs hn
      go_enter Tryz.func131,Tryz.ntmps131
      go_wp2_with (first
        | (at_lookup;refine wpList_lookup_own_ok_int _ rfl _ _ 132 rfl 9 34 .u64 tkey Tryz.underlying132 Tryz.underlying34 (zIH _) mb N D rfl hm _ _ rfl HKEY.out ?_;intro cv hat hwc;clear hat hwc)
        | (at_mapUpdate;refine wpList_mapUpdate_in _ rfl _ _ _ 132 rfl 9 34 tkey Tryz.underlying132 _ mb N D rfl HMP.out (by unfold maxLen;omega) _ _ _ rfl rfl HKEY.out _ [] (plainElem_int Tryz.underlying34 hwf) ?_
           intro w2 hm2 ht2
           have hh2:w2.heap[b]? = some (.cells #[.slice L n c,.map (some mb)] 153 (0,0)):=(ht2.grown.block b (Array.getElem?_eq_some_iff.1 HP1.out).1 (fun e =>HBM.out (Option.some.inj e))).trans HP1.out
           have hc0':w2.cell? ⟨b,0,none⟩=some (.slice L n c):=zBY hh2 rfl
           have hf0':w2.frozen? ⟨b,0,none⟩=false:=zBn hh2
           have ho2:=zAs (w':=w2) HPO.out (fun g hg =>ht2.grown.block g (zBu HPO.out g hg) (fun e =>zFF HPO.out HMP.out g hg (Option.some.inj e)))
           have HM2:=yh hm2
           have HT2:=yh ht2
           have HH2:=yh hh2
           clear hm2 ht2 hh2)
        | (at_builtin;refine wpList_append_lies _ rfl (.tmp 44) (.tmp 46) 51 rfl 0 9 is (.string ⟨#[]⟩) 1 16 Tryz.underlying51 his his0 his1 his2 rfl (by decide) _ n _ rfl (ho2.alloc _) ⟨w2.heap.size,0,none⟩ 1 1 [.string (tx s)] rfl rfl (cell_one_new _ _ _) (by simp [Value.oneCell']) (by omega) (by unfold maxLen;omega) (by omega) (Nat.zero_le _) (w2.heap.size+1) (by simp) ?_
           intro g3 c3 w3 ho3 hg3 hgl3 _
           have hh3:w3.heap[b]? = some (.cells #[.slice L n c,.map (some mb)] 153 (0,0)):=(hg3.block b (by have:=(Array.getElem?_eq_some_iff.1 HH2.out).1;simp;omega) (fun e =>zBS ho2 HH2.out (by decide) e.symm)).trans ((Below.heap_alloc _ _ _ (Array.getElem?_eq_some_iff.1 HH2.out).1).trans HH2.out)
           have hf3:w3.frozen? ⟨b,0,none⟩=false:=zBn hh3
           have hc3:w3.cell? ⟨b,0,none⟩=some (.slice L n c):=zBY hh3 rfl
           have HG3:=yh hg3
           have HGL:=yh hgl3
           have HO3:=yh ho3
           have HO2:=yh ho2
           have HH3:=yh hh3
           clear hgl3 hg3 ho3 hh3 hc0' hf0'))
      go_ret2
      refine ⟨by first | (rw [HNUM.out,← HNL.out];done) | (rw [HNUM.out,← HNL.out];rfl),?_⟩
      exact zEr S b n N mb g3 c3 c L l s w w w2 w3 D HNL.out HIN.out HND.out HLEN.out HSB.out HTP.out HPM.out HP1.out HPO.out HMP.out HNO.out HBL.out HM2.out HT2.out HGL.out HG3.out HO3.out HH3.out (by omega)
theorem zII (S:Nat→Prop) (b N:Nat) (l:List (List UInt8)) (s:List UInt8) (hs:s.length≤maxLen) (hl:l.length+1≤1073741824) (hN:N<1073741824) (w:World) (h:Tab w S b N l) :
  Calls Tryz.prog 108 #[.pointer (some ⟨b,0,none⟩),tsv s] w fun e w' =>e=.returned (.tuple #[.int .u64 (tnum (tput l s) s:Int),.bool (!decide (s ∈ l))]) ∧
   Tab w' (fun k =>S k∨w.heap.size≤k) b (N+1) (tput l s)∧Turn S w w':=by
 have HF:=yh (zHv S b N l s hs hl hN w h)
 unfold tsv at HF ⊢
 generalize (!decide (s ∈ l))=q at HF ⊢
 clear h hs hl hN
 go_enter Tryz.func108,Tryz.ntmps108
 go_wp2_with (first
  | (go_at_call 109;refine (zHK b _).mono ?_;rintro e w1 ⟨rfl,rfl⟩)
  | (go_at_call 131;refine HF.out.mono ?_;rintro e w1 ⟨rfl,ht1,htu1⟩))
 go_ret2
 exact ⟨rfl,ht1,htu1⟩
def tnew (ts:List (List UInt8)):List (List UInt8):=ts.foldl tput []
theorem zFr (ts:List (List UInt8)) (s:List UInt8):tnew (ts++[s])=tput (tnew ts) s:=by simp [tnew]
theorem zKF (l:List (List UInt8)) (s:List UInt8):(tput l s).length≤l.length+1:=by
 unfold tput;split <;> simp
theorem zDy:∀ (ts l:List (List UInt8)),(ts.foldl tput l).length≤l.length+ts.length
 | [],l =>by simp
 | s :: ts,l =>by
  have h1:=zDy ts (tput l s)
  have h2:=zKF l s
  simp only [List.foldl_cons,List.length_cons]
  omega
theorem zGm (ts:List (List UInt8)):(tnew ts).length≤ts.length:=by
 have:=zDy ts []
 simpa [tnew] using this
theorem zJO (w:World):Tab (w.alloc (.cells #[.slice none 0 0,.map none] 153)) (fun k =>w.heap.size≤k) w.heap.size 0 []:=by
 refine ⟨none,0,none,?_,Nat.le_refl _,World.ownsRow_nil _ _ _ _,fun g hg =>by simp [Value.ownBlock] at hg,.inl ⟨rfl,rfl⟩,List.nodup_nil,by simp⟩
 show (w.heap.push _)[w.heap.size]? = _
 simp
def zLf (ts:List (List UInt8)) (w:World) (idx:Value) (wr:World):Prop :=
 ∃ i:Nat,i≤ts.length∧idx=.int .i64 (i:Int)∧Tab wr (fun k =>w.heap.size≤k) w.heap.size i (tnew (ts.take i))∧Below w.heap.size w wr
theorem zKb (L:Option Addr) (m d n0:Nat) (ts:List (List UInt8)) (hm:m≤1000000) (hts:∀ s ∈ ts,s.length≤maxLen) (w:World) (hn0:n0≤w.heap.size) (hr:zAE w n0 1 L m (ts.map tsv)) :
  Calls Tryz.prog 107 #[.slice L m d] w fun e w' =>e=.returned (.pointer (some ⟨w.heap.size,0,none⟩))∧Tab w' (fun k =>w.heap.size≤k) w.heap.size m (tnew ts)∧Below w.heap.size w w':=by
 have hml:ts.length=m:=by have:=hr.1;simpa using this
 have HML:=yh hml
 have HTS:=yh hts
 have HR:=yh (hr.more hn0)
 have HT0:=yh (zJO w)
 have HB0:Hid (Below w.heap.size w (w.alloc (.cells #[.slice none 0 0,.map none] 153))):=(Below.refl _ w).alloc (Nat.le_refl _) _
 clear hml hts hr
 go_enter Tryz.func107,Tryz.ntmps107
 go_wp2
 go_loopw [10] (fun idx wr =>zLf ts w idx wr) (fun idx wr =>m - (intOf idx).toNat)
 case atStart =>exact ⟨0,by omega,rfl,HT0.out,HB0.out⟩
 case round =>
  obtain ⟨i,hi,rfl,ht,hb⟩:=hrel
  rw [HML.out] at hi
  by_cases hlt:i<m
  ·obtain ⟨ad,u,rfl,_,hu,hcell⟩:=(HR.out.below hb).at_ hlt
   obtain ⟨s,hs⟩:∃ s,ts[i]? = some s:=⟨_,List.getElem?_eq_getElem (by rw [HML.out];exact hlt)⟩
   obtain rfl:u=tsv s:=by rw [List.getElem?_map,hs] at hu;simpa using hu.symm
   have htk:ts.take (i+1)=ts.take i++[s]:=by rw [List.take_add_one,hs];rfl
   have hln:(tnew (ts.take i)).length≤i:=by have:=zGm (ts.take i);rw [List.length_take] at this;omega
   have hid:=zII _ w.heap.size i (tnew (ts.take i)) s (HTS.out s (List.mem_of_getElem? hs)) (by omega) (by omega) wr ht
   rw [← zFr,← htk] at hid
   have HID:=yh hid
   have HB:=yh hb
   unfold tsv at hcell HID
   clear hu hs htk hln hid ht hb
   go_wp2_with (go_at_call 108;refine HID.out.mono ?_;rintro e w1 ⟨rfl,ht1,htu1⟩)
   have hsz:=HB.out.size
   exact ⟨⟨i+1,by rw [HML.out];omega,by go_num,ht1.wide (fun k hk _ =>by rcases hk with hk | hk <;> omega),HB.out.trans (htu1.below (fun k hk =>hk) hsz)⟩,by simp [intOf];omega⟩
  ·obtain rfl:i=m:=by omega
   have hall:ts.take i=ts:=List.take_of_length_le (by rw [HML.out];omega)
   rw [hall] at ht
   go_wp2
   go_ret
   exact ⟨rfl,ht,hb⟩
theorem zIy (W:World) (e:TypeId) (ts:List (List UInt8)):zAE (W.alloc (.cells (ts.map tsv).toArray e)) (W.heap.size+1) 1 (some ⟨W.heap.size,0,none⟩) ts.length (ts.map tsv) :=
 ⟨by simp,fun _ =>⟨_,rfl,by simp,fun j u hu =>by
  have h0:Addr.add ⟨W.heap.size,0,none⟩ j=⟨W.heap.size,j,none⟩:=by
   unfold Addr.add
   split
   ·rename_i h;rw [h]
   ·simp
  rw [h0]
  simp only [World.cell?,World.alloc,Array.getElem?_push_size]
  simpa using hu⟩⟩
open Go.RowKit
def zAN (l:List Dp):List (List UInt8):=l.map Dp.name
def zCo (v:Int) (r:Rc):Prop:=r.time=0∨2≤v
def TagP (v:Int) (r:Rc):Prop:=r.tag=[]∨(3≤v∧r.tag.length≤64)
theorem zKE (v:Int) (r:Rc) (A:Option Addr) (n c:Nat) (w:World) :
  Calls Tryz.prog 66 #[.int .i64 v,rcv r A n c] w fun e w' =>∃ q:Bool,(q=true ↔ zCo v r)∧e=.returned (.bool q)∧Below w.heap.size w w':=by
 obtain ⟨k,t,u,o,m,g⟩:=r
 by_cases h1:m=0
 ·subst h1
  have HB:=yh ((Below.refl w.heap.size w).alloc (Nat.le_refl _) (.cells (zAO ⟨k,t,u,o,0,g⟩ A n c) 37))
  have q5:=zAA (i:=5) (zAI w (.cells (zAO ⟨k,t,u,o,0,g⟩ A n c) 37)) rfl
  unfold zAO at HB q5
  unfold rcv rsv
  have HP:Hid (zCo v ⟨k,t,u,o,0,g⟩):=.inl rfl
  go_enter Tryz.func66,Tryz.ntmps66
  go_wp2
  go_ret
  first | exact ⟨true,by simp [HP.out],rfl,HB.out⟩ | exact .inr ⟨HP.out,rfl,HB.out⟩ | exact .inl ⟨HP.out,rfl,HB.out⟩
 ·have h2:(m == 0)=false:=by rw [beq_eq_false_iff_ne];exact h1
  have HB:=yh ((Below.refl w.heap.size w).alloc (Nat.le_refl _) (.cells (zAO ⟨k,t,u,o,m,g⟩ A n c) 37))
  have q5:=zAA (i:=5) (zAI w (.cells (zAO ⟨k,t,u,o,m,g⟩ A n c) 37)) rfl
  unfold zAO at HB q5
  unfold rcv rsv
  have h4:decide (m=0)=false:=decide_eq_false h1
  by_cases h3:2≤v
  ·have HP:Hid (zCo v ⟨k,t,u,o,m,g⟩):=.inr h3
   have h5:decide (2≤v)=true:=decide_eq_true h3
   clear h1
   go_enter Tryz.func66,Tryz.ntmps66
   go_wp2
   go_ret
   first | exact ⟨true,by simp [HP.out],rfl,HB.out⟩ | exact .inr ⟨HP.out,by first | rfl | simp [h3],HB.out⟩ | exact .inl ⟨HP.out,by first | rfl | simp [h3],HB.out⟩
  ·have HP:Hid (¬ zCo v ⟨k,t,u,o,m,g⟩):=fun h =>by rcases h with h | h;exact h1 h;exact h3 h
   have h5:decide (2≤v)=false:=decide_eq_false h3
   clear h1
   go_enter Tryz.func66,Tryz.ntmps66
   go_wp2
   go_ret
   first | exact ⟨false,by simp [HP.out],rfl,HB.out⟩ | exact .inl ⟨HP.out,by first | rfl | simp [h3],HB.out⟩ | exact .inr ⟨HP.out,by first | rfl | simp [h3],HB.out⟩
theorem zLF (v:Int) (r:Rc) (A:Option Addr) (n c:Nat) (w:World) :
  Calls Tryz.prog 67 #[.int .i64 v,rcv r A n c] w fun e w' =>∃ q:Bool,(q=true ↔ TagP v r)∧e=.returned (.bool q)∧Below w.heap.size w w':=by
 have HB:=yh ((Below.refl w.heap.size w).alloc (Nat.le_refl _) (.cells (zAO r A n c) 37))
 have q6:=zAA (i:=6) (zAI w (.cells (zAO r A n c) 37)) rfl
 obtain ⟨k,t,u,o,m,g⟩:=r
 unfold zAO at HB q6
 unfold rcv rsv
 have hs:=zAk g
 by_cases h1:g=[]
 ·have HP:Hid (TagP v ⟨k,t,u,o,m,g⟩):=.inl h1
  subst h1
  have he:(tx ([]:List UInt8)).toList=[]:=by simp [tx]
  go_enter Tryz.func67,Tryz.ntmps67
  go_wp2
  go_ret
  first | exact ⟨true,by simp [HP.out],by first | rfl | simp,HB.out⟩ | exact .inr ⟨HP.out,by first | rfl | simp,HB.out⟩ | exact .inl ⟨HP.out,by first | rfl | simp,HB.out⟩
 ·have he:=zCM g h1
  obtain ⟨x,hx⟩:∃ x,x=g.length:=⟨_,rfl⟩
  rw [← hx] at hs
  by_cases h3:3≤v
  ·by_cases h4:x≤64
   ·have HP:Hid (TagP v ⟨k,t,u,o,m,g⟩):=.inr ⟨h3,hx▸h4⟩
    have h5:decide (3≤v)=true:=decide_eq_true h3
    have h6:decide ((x:Int)≤64)=true:=decide_eq_true (by omega)
    clear h1 hx
    go_enter Tryz.func67,Tryz.ntmps67
    go_wp2
    go_ret
    first | exact ⟨true,by simp [HP.out],by first | rfl | simp,HB.out⟩ | exact .inr ⟨HP.out,by first | rfl | simp,HB.out⟩ | exact .inl ⟨HP.out,by first | rfl | simp,HB.out⟩
   ·have HP:Hid (¬ TagP v ⟨k,t,u,o,m,g⟩):=fun h =>by rcases h with h | h;exact h1 h;exact h4 (hx▸h.2)
    have h5:decide (3≤v)=true:=decide_eq_true h3
    have h6:decide ((x:Int)≤64)=false:=decide_eq_false (by omega)
    clear h1 hx
    go_enter Tryz.func67,Tryz.ntmps67
    go_wp2
    go_ret
    first | exact ⟨false,by simp [HP.out],by first | rfl | simp,HB.out⟩ | exact .inl ⟨HP.out,by first | rfl | simp,HB.out⟩ | exact .inr ⟨HP.out,by first | rfl | simp,HB.out⟩
  ·have HP:Hid (¬ TagP v ⟨k,t,u,o,m,g⟩):=fun h =>by rcases h with h | h;exact h1 h;exact h3 h.1
   have h5:decide (3≤v)=false:=decide_eq_false h3
   clear h1 hx
   go_enter Tryz.func67,Tryz.ntmps67
   go_wp2
   go_ret
   first | exact ⟨false,by simp [HP.out],by first | rfl | simp,HB.out⟩ | exact .inl ⟨HP.out,by first | rfl | simp,HB.out⟩ | exact .inr ⟨HP.out,by first | rfl | simp,HB.out⟩
theorem zLW {w:World} {S:Nat→Prop} {b N:Nat} {l:List (List UInt8)} (h:Tab w S b N l):b<w.heap.size:=by
 obtain ⟨L,c,mv,h1,_⟩:=h
 rcases Nat.lt_or_ge b w.heap.size with h2 | h2
 ·exact h2
 ·rw [Array.getElem?_eq_none h2] at h1;cases h1
def zLe (w:World) (b:Nat) (t:List UInt8) (ns:List (List UInt8)) (idx:Value) (wr:World):Prop :=
 ∃ i:Nat,i≤ns.length∧idx=.int .i64 (i:Int)∧Tab wr (fun k =>w.heap.size+2≤k) b (1+i) (tnew (t :: ns.take i))∧Below w.heap.size w wr∧w.heap.size+2<wr.heap.size
theorem zIp (r:Rc) (A:Option Addr) (n c:Nat) (l:List Dp) (hn:n≤5000) (ht:r.target.length≤maxLen) (hl:∀ d ∈ l,d.name.length≤maxLen) (w:World) (h:zAE w w.heap.size 3 A n (dps l)) :
  Calls Tryz.prog 88 #[rcv r A n c] w fun e w' =>∃ b,e=.returned (.pointer (some ⟨b,0,none⟩))∧w.heap.size≤b∧b<w'.heap.size∧Tab w' (fun k =>w.heap.size≤k) b (1+n) (tnew (r.target :: zAN l))∧Below w.heap.size w w':=by
 have HL:Hid (l.length=n):=by have:=h.1;rw [zAd] at this;show _=_;omega
 have HF:=yh hl
 have H1:=yh h
 have h0:=zAI w (.cells (zAO r A n c) 37)
 have hb0:=(Below.refl w.heap.size w).alloc (Nat.le_refl _) (.cells (zAO r A n c) 37)
 have q1:=zAA (i:=1) h0 rfl
 have HNEW:=yh (zKb (some ⟨w.heap.size+1,0,none⟩) 1 1 (w.heap.size+2) [r.target] (by omega) (by simpa using ht) ((w.alloc (.cells (zAO r A n c) 37)).alloc (.cells #[.string (tx r.target)] 9)) (by simp) (by
  have:=zIy (w.alloc (.cells (zAO r A n c) 37)) 9 [r.target]
  simpa [tsv] using this))
 have HB0:=yh hb0
 have H0:=yh h0
 clear hl h ht h0 hb0
 unfold zAO at *
 unfold rcv rsv
 have hsz:∀ a b:Obj,((w.alloc a).alloc b).heap.size=w.heap.size+2:=fun a b =>by simp
 rw [hsz] at HNEW
 clear hsz
 go_enter Tryz.func88,Tryz.ntmps88
 go_wp2_with (go_at_call 107;refine HNEW.out.mono ?_;rintro e w1 ⟨rfl,ht1,hb1⟩;have q3:=(hb1.cell (p:=⟨w.heap.size,3,none⟩) (show w.heap.size<w.heap.size+2 by omega)).trans ((World.cell?_alloc_lt _ _ _ (by show w.heap.size<_;simp)).trans (zAA (i:=3) H0.out rfl));have HB1:=yh ((HB0.out.alloc (by simp) _).trans (hb1.mono (by omega)));have HT1:=yh ht1;have HSZ:Hid (w.heap.size+2<w1.heap.size):=zLW ht1;clear ht1 hb1)
 go_loopw [13] (fun idx wr =>zLe w (w.heap.size+2) r.target (zAN l) idx wr) (fun idx wr =>n - (intOf idx).toNat)
 case atStart =>exact ⟨0,by omega,rfl,by rw [List.take_zero];exact HT1.out.wide (fun k hk _ =>by omega),HB1.out,HSZ.out⟩
 case round =>
  obtain ⟨i,hi,rfl,htb,hb,hz⟩:=hrel
  have hnl:(zAN l).length=n:=by unfold zAN;rw [List.length_map];exact HL.out
  rw [hnl] at hi
  have HTB:=yh htb
  have HBR:=yh hb
  by_cases hlt:i<n
  ·obtain ⟨x,hx⟩:∃ x,l[i]? = some x:=⟨_,List.getElem?_eq_getElem (by rw [HL.out];exact hlt)⟩
   obtain ⟨ad,rfl,_,hcx⟩:=(H1.out.below hb).2 (by omega)
   obtain ⟨x0,x1,x2⟩:=zAt l i x hx
   have k0:=hcx _ _ x0
   have k1:=hcx _ _ x1
   have k2:=hcx _ _ x2
   rw [zBO] at k1
   rw [zBP] at k2
   have htk:(zAN l).take (i+1)=(zAN l).take i++[x.name]:=by rw [List.take_add_one];unfold zAN;rw [List.getElem?_map,hx];rfl
   have hln:(tnew (r.target :: (zAN l).take i)).length≤1+i:=by have:=zGm (r.target :: (zAN l).take i);rw [List.length_cons,List.length_take] at this;omega
   have hid:=zII _ (w.heap.size+2) (1+i) (tnew (r.target :: (zAN l).take i)) x.name (HF.out x (List.mem_of_getElem? hx)) (by omega) (by omega) (wr.alloc (.cells #[.string (tx x.name),.int .u64 x.hash,.bool x.order] 73)) (htb.keep (fun k _ hk =>Below.heap_alloc _ _ _ hk))
   rw [← zFr,List.cons_append,← htk] at hid
   have HID:=yh hid
   have hnb:=zAI wr (.cells #[.string (tx x.name),.int .u64 x.hash,.bool x.order] 73)
   have p0:=zAA (i:=0) hnb rfl
   have hbn:=yh (hb.alloc (by omega) (.cells #[.string (tx x.name),.int .u64 x.hash,.bool x.order] 73))
   have hi0:(0:Int)≤(i:Int):=by omega
   have hi1:(i:Int)<(n:Int):=by omega
   obtain ⟨xn,xh,xo⟩:=x
   unfold rsv at k0
   unfold tsv at HID
   simp only at k0 k1 k2 p0 HID hbn
   clear hcx x0 x1 x2 hx htk hln hid htb hb hnb hnl
   go_wp2_with (go_at_call 108;refine HID.out.mono ?_;rintro e w2 ⟨rfl,ht2,htu2⟩)
   have hsz:=hbn.out.size
   exact ⟨⟨i+1,by unfold zAN;rw [List.length_map,HL.out];omega,by go_num,(ht2.wide (fun k hk _ =>by rcases hk with hk | hk;omega;(have:(wr.alloc (.cells #[.string (tx xn),.int .u64 xh,.bool xo] 73)).heap.size=wr.heap.size+1:=by simp);omega)).more (by omega),hbn.out.trans (htu2.below (fun k hk =>by omega) hsz),by have:=htu2.2.2.2.1;simp at this;omega⟩,by simp [intOf];omega⟩
  ·obtain rfl:i=n:=by omega
   have hall:(zAN l).take i=zAN l:=List.take_of_length_le (by omega)
   rw [hall] at HTB
   clear hb htb
   go_wp2
   go_ret
   exact ⟨_,rfl,by omega,by omega,HTB.out.wide (fun k hk _ =>by omega),HBR.out⟩
def zAf (t:List UInt8):Bool:=decide (1≤t.length∧t.length≤64)
theorem zGY (t:List UInt8) (w:World):Calls Tryz.prog 65 #[rsv t] w fun e w' =>e=.returned (.bool (zAf t))∧w=w':=by
 unfold rsv
 have hsz:=zAk t
 by_cases h0:t=[]
 ·subst h0
  have he:(tx ([]:List UInt8)).toList=[]:=by simp [tx]
  go_enter Tryz.func65,Tryz.ntmps65
  go_wp2
  go_ret
  exact ⟨rfl,rfl⟩
 ·have h1:=zCM t h0
  have hl:1≤t.length:=by
   rcases t with _ | ⟨a,t⟩
   ·exact absurd rfl h0
   ·simp
  obtain ⟨n,hn⟩:∃ n,n=t.length:=⟨_,rfl⟩
  rw [← hn] at hsz hl
  by_cases h2:n≤64
  ·have hi:Hid (zAf t=true):=by show zAf t=true;unfold zAf;rw [← hn];exact decide_eq_true ⟨hl,h2⟩
   clear hn h0
   go_enter Tryz.func65,Tryz.ntmps65
   go_wp2
   go_ret
   exact ⟨by rw [hi.out];first | rfl | (congr 2;simp;omega),rfl⟩
  ·have hi:Hid (zAf t=false):=by show zAf t=false;unfold zAf;rw [← hn];exact decide_eq_false (by omega)
   have h3:decide ((n:Int)≤64)=false:=by rw [decide_eq_false_iff_not];omega
   clear hn h0
   go_enter Tryz.func65,Tryz.ntmps65
   go_wp2
   go_ret
   exact ⟨by rw [hi.out];first | rfl | (congr 2;simp;omega),rfl⟩
end Go.Proofs.YtgoklhoaedceaaaGreatDoor
