/- Texts of one proof. -/
import Derived.Test.YtgoklhoaedceaaaGreatDoorMx25
set_option maxRecDepth 100000
set_option maxHeartbeats 8000000
namespace Go.Proofs.YtgoklhoaedceaaaGreatDoor
open Go.RowKit
def zJR (T:List UInt8) (w:World) (e:Ending) (w':World):Prop :=
 (∃ A n c zs,zAV T zs∧e=.returned (.tuple #[.slice A n c,.int .i64 0])∧TrI w w' (.slice A n c) zs)∨((∀ zs,¬ zAV T zs)∧(∃ A c,e=.returned (.tuple #[.slice A 0 c,.int .i64 (if (unsO T).2=4 then 4 else 3)]))∧Below w.heap.size w w')
theorem zHG {T rest:List UInt8} {D:List (List UInt8)} (hT:T=flat D++rest) (h10:(10:UInt8) ∉ rest) (h:¬ (rest=[]∧D≠[])):unsO T=([],3):=by
 refine zHe T fun hl =>h ?_
 by_cases hr:rest=[]
 ·subst hr
  refine ⟨rfl,fun hd =>?_⟩
  subst hd
  rw [hT] at hl
  cases hl
 ·rw [hT,List.getLast?_append] at hl
  cases hx:rest.getLast? with
  | none =>exact absurd (List.getLast?_eq_none_iff.1 hx) hr
  | some x =>
   rw [hx] at hl
   obtain rfl:x=10:=by simpa using hl
   exact absurd (List.mem_of_getLast? hx) h10
theorem zHB (w:World):(w.alloc (.cells #[] 37)).ownsRow w.heap.size 37 7 (.slice (some ⟨w.heap.size,0,none⟩) 0 0) 0 (rws []) :=
 ⟨by simp [rws],.inr ⟨w.heap.size,0,#[],rfl,Nat.le_refl _,(by show (w.heap.push _)[w.heap.size]? = _;exact Array.getElem?_push_size),Nat.le_refl _,by unfold maxLen;omega,rfl,rfl⟩⟩
theorem zFn (T:List UInt8) (hT:T.length≤5013) (w:World) :
  Calls Tryz.prog 9 #[.string (tx T)] w (zJR T w):=by
 have hb0:=(Below.refl w.heap.size w).alloc (Nat.le_refl _) (.cells #[] 37)
 obtain ⟨w0,hw0⟩:∃ x,x=w.alloc (.cells #[] 37):=⟨_,rfl⟩
 rw [← hw0] at hb0
 have HW0:=yh hw0
 have HB0:=yh hb0
 have HLN:=yh (zHz T (by omega) w0)
 have HT:=yh hT
 clear hw0 hb0 hT
 go_enter Tryz.func9,Tryz.ntmps9
 go_wp2_with fail
 rw [← HW0.out]
 refine HLN.out.mono ?_
 rintro e w1 ⟨v,D,rest,ok,hTD,hr10,hD10,hok,rfl,hown,hb1⟩
 have HB1:=yh (HB0.out.trans (hb1.mono HB0.out.size))
 clear hb1
 cases ok with
 | false =>
  have hu:=zHG hTD hr10 (fun h =>by have:=hok.2 h;cases this)
  have HU:=yh hu
  clear hTD hr10 hD10 hok hu hown
  go_wp2
  go_ret2
  exact .inr ⟨zBl (by rw [HU.out];decide),⟨_,_,by rw [HU.out];rfl⟩,HB1.out⟩
 | true =>
  obtain ⟨rfl,hD⟩:=hok.1 rfl
  obtain ⟨D',s,rfl⟩:∃ D' s,D=D'++[s]:=⟨D.dropLast,D.getLast hD,(List.dropLast_concat_getLast hD).symm⟩
  rw [List.append_nil] at hTD
  have hs10:=hD10 s (by simp)
  have HUN:=yh (zFt D' s hs10)
  have HTD:=yh hTD
  have HD10:=yh hD10
  obtain ⟨A,c,rfl,hA⟩:=zAL hown
  obtain ⟨d,hd⟩:∃ d,d=D'.length:=⟨_,rfl⟩
  have HDL:=yh hd
  have hlen:(D'++[s]).length=d+1:=by rw [List.length_append,hd];rfl
  rw [hlen] at hown ⊢
  have hd5:d≤5013:=by
   have h1:=HT.out
   have h3:∀ l:List (List UInt8),l.length≤(flat l).length:=fun l =>by
    induction l with
    | nil =>simp
    | cons a l ih =>rw [zAZ,List.length_append,List.length_cons,List.length_cons];omega
   have h4:=h3 (D'++[s])
   rw [← hTD,hlen] at h4
   omega
  obtain ⟨gW,rfl⟩:∃ gW,A=some ⟨gW,0,none⟩:=by
   rcases hown.2 with ⟨h,_⟩ | ⟨g,cap,cur,h,_⟩
   ·injection h with _ h2 _;omega
   ·injection h with h1 _ _;exact ⟨g,h1⟩
  obtain ⟨ad,had,hbl,hcl⟩:=(zAE.of_own hown).2 (by omega)
  obtain rfl:=(Option.some.inj had).symm
  have c1:∀ j:Nat,(⟨gW,0,none⟩:Addr).add j=⟨gW,j,none⟩:=fun j =>by simp [Addr.add];exact fun h =>h.symm
  have HCL:Hid (∀ (j:Nat) (x:List UInt8),(D'++[s])[j]? = some x→w1.cell? ⟨gW,j,none⟩=some (.string (tx x))):=fun j x hx =>by
   have h1:=hcl j (tsv x) (by rw [List.getElem?_map,hx];rfl)
   rw [c1] at h1
   exact h1
  have HGW:Hid (gW<w1.heap.size):=hbl
  have q0:=HCL.out d s (by rw [hd];simp)
  have hk1:wrap64 (((d+1:Nat):Int) - 1)=(d:Int):=by simp [wrap64];omega
  clear hbl hcl c1 hown hA hlen hTD hr10 hD10 hok hD hs10 hd
  obtain ⟨m,hm⟩:∃ m,m=d+1:=⟨_,rfl⟩
  rw [← hm] at hk1 ⊢
  have hdm:(d:Int)<(m:Int):=by omega
  have hd0:(0:Int)≤(d:Int):=by omega
  have HM:=yh hm
  clear hm
  have hx4:(tx s).extract 0 4=tx (s.take 4):=by rw [zAv];simp
  have hxd:(tx s).extract 4 (tx s).size=tx (s.drop 4):=by rw [zAv,zAK,List.take_length]
  have hadd:({ data:=#[48,48,48,48,48,48,48,48] }:ByteArray)++tx (s.drop 4)=tx (List.replicate 8 48++s.drop 4):=by
   apply ByteArray.ext
   simp [tx]
  have hss:(tx s).size=s.length:=zAK s
  have HIS:=yh (zHS s)
  by_cases h12:s.length=12
  ·have g12:(((tx s).size:Int) != 12)=false:=by rw [hss,h12];rfl
   have g4:(4:Int)≤((tx s).size:Int):=by rw [hss,h12];decide
   by_cases ht4:s.take 4=[115,117,109,32]
   ·have gp:(((tx s).extract 0 4).toList == [115,117,109,32])=true:=by rw [hx4,zAg,ht4];rfl
    have hxd2:(tx s).extract 4 12=tx (s.drop 4):=by rw [← hxd,hss,h12]
    have HXD:=yh hxd2
    clear hxd2
    have HADD:=yh hadd
    have HRR:=yh (zBb (List.replicate 8 48++s.drop 4) (by simp;omega) w1)
    obtain ⟨b,hb⟩:∃ b,b=(rans (List.replicate 8 48++s.drop 4)).2:=⟨_,rfl⟩
    have HB:=yh (show isS s=b from by
     rw [hb]
     cases hr:(rans (List.replicate 8 48++s.drop 4)).2 with
     | true =>exact HIS.out.2 ⟨h12,ht4,hr⟩
     | false =>exact Bool.eq_false_iff.2 fun h =>by rw [(HIS.out.1 h).2.2] at hr;cases hr)
    rw [← hb] at HRR
    have hN:T.length=(flat D').length+13:=by rw [HTD.out,zBh,List.length_append,List.length_append,h12];rfl
    have HFD:Hid ((flat D').length≤5000):=by
     have:=HT.out
     show _≤_
     omega
    obtain ⟨kk,hkk⟩:∃ kk,kk=(flat D').length:=⟨_,rfl⟩
    have hTs:(tx T).size=kk+13:=by rw [zAK,hN,hkk]
    have hT13:wrap64 (((tx T).size:Int) - 13)=(kk:Int):=by
     have:=HT.out
     rw [hTs]
     simp [wrap64]
     omega
    have gk:(kk:Int)≤((tx T).size:Int):=by rw [hTs];omega
    have gk0:(0:Int)≤(kk:Int):=by omega
    have hxk0:(tx T).extract 0 kk=tx (T.take kk):=by rw [zAv];simp
    have hxk:(tx T).extract 0 kk=tx (flat D'):=by
     rw [hxk0,hkk]
     congr 1
     conv =>lhs;rw [HTD.out,zBh,List.append_assoc]
     exact List.take_left
    have hs12:(tx s).size=12:=by rw [hss,h12]
    have HXK:=yh hxk
    have HSE:=yh (zEO (flat D') (by have:=HT.out;omega) w1)
    have hTT:((tx (zAP (flat D'))).toList == (tx T).toList)=decide (zAP (flat D')=T):=by
     rw [zAg,zAg]
     by_cases e:zAP (flat D')=T <;> simp [e]
    clear hx4 hxd hadd hss HIS h12 ht4 hN hTs hxk hxk0 hkk hb
    go_wp2_with fail
    rw [HXD.out,HADD.out]
    unfold rav at HRR
    refine HRR.out.mono ?_
    rintro e w2 ⟨rfl,hw⟩
    obtain rfl:=hw
    cases b with
    | false =>
     have hu:unsO T=([],3):=by rw [HTD.out,HUN.out,if_neg (by rw [HB.out];decide)]
     have HU:=yh hu
     clear hu
     go_wp2
     go_ret2
     exact .inr ⟨zBl (by rw [HU.out];decide),⟨_,_,by rw [HU.out];rfl⟩,HB1.out⟩
    | true =>
     go_wp2_with fail
     rw [HXK.out]
     refine HSE.out.mono ?_
     rintro e w2 ⟨rfl,hw⟩
     obtain rfl:=hw
     by_cases hse:zAP (flat D')=T
     ·rw [decide_eq_true hse] at hTT
      have hu:unsO T=(flat D',0):=by rw [HTD.out,HUN.out,if_pos HB.out,if_pos (by rw [hse,HTD.out])]
      have HU:=yh hu
      have HBK:Hid (∀ zs,zAV T zs→Trs (D'.drop 1) zs):=fun zs hz =>by
       have h0:(unsO T).2=0:=by rw [HU.out]
       obtain ⟨hd,ls,fnd,hcut,hn10,_,hback⟩:=zCf h0
       rw [HU.out] at hcut
       cases hD':D' with
       | nil =>
        rw [hD'] at hcut
        obtain rfl:ls=[]:=by
         have h1:Lib.cut (flat []) [10]=([],[],false):=rfl
         rw [show ((flat [],(0:Int)):List UInt8×Int).1=flat [] from rfl,h1] at hcut
         cases ls with
         | nil =>rfl
         | cons a b =>exact absurd (congrArg (fun p:List UInt8×List UInt8×Bool =>p.2.1) hcut).symm (zCu a b)
        exact hback zs hz
       | cons a ds =>
        rw [hD'] at hcut
        have ha:=HD10.out a (by rw [hD'];simp)
        rw [show ((flat (a :: ds),(0:Int)):List UInt8×Int).1=flat (a :: ds) from rfl,zAZ,zDN a _ ha] at hcut
        have h2:flat ds=flat ls:=congrArg (fun p:List UInt8×List UInt8×Bool =>p.2.1) hcut
        have h3:=zCO (fun s hs =>HD10.out s (by rw [hD'];simp [hs])) hn10 h2
        rw [List.drop_succ_cons,List.drop_zero,h3]
        exact hback zs hz
      have hI0:TrI w1 (w1.alloc (.cells #[] 37)) (.slice (some ⟨w1.heap.size,0,none⟩) 0 0) [] :=
       ⟨zHB w1,by simp,(Below.refl _ w1).alloc (Nat.le_refl _) _⟩
      have HI0:=yh hI0
      have HS1:=yh hse
      have HLA:=yh (fun (x:List UInt8) (hx:x.length≤5000) (W:World) =>zFl x hx W)
      have HCB:Hid (∀ (W:World),Below w1.heap.size w1 W→∀ (j:Nat) (x:List UInt8),(D'++[s])[j]? = some x→W.cell? ⟨gW,j,none⟩=some (.string (tx x))):=fun W hb j x hx =>zAp hb HGW.out (HCL.out j x hx)
      have HLX:Hid (∀ x ∈ D',x.length≤5000):=fun x hx =>by
       have h1:=HFD.out
       obtain ⟨a,b,e⟩:=List.append_of_mem hx
       rw [e] at h1
       unfold flat at h1
       simp only [List.flatMap_append,List.flatMap_cons,List.length_append] at h1
       omega
      have HFL:Hid ((flat (D'.drop 1)).length≤5000):=by
       show _≤_
       have h1:=HFD.out
       have h2:(flat (D'.drop 1)).length≤(flat D').length:=by
        cases D' with
        | nil =>simp
        | cons a ds =>rw [List.drop_succ_cons,List.drop_zero,zAZ,List.length_append,List.length_cons];omega
       omega
      generalize tx (zAP (flat D'))=S at *
      obtain ⟨i0,ii0,iz0,iz1,iz2⟩:=info_parts zGG
      clear hu hI0 hse q0
      go_wp2
      go_loopw [8,9] (fun v8 v9 wr =>∃ (i:Nat) (zs:List Rw),v9=.int .i64 (i:Int)∧1≤i∧(i≤d∨i=1)∧Trs ((D'.drop 1).take (i - 1)) zs∧TrI w1 wr v8 zs) (fun _ v9 _ =>d - (intOf v9).toNat)
      case atStart =>exact ⟨1,[],rfl,Nat.le_refl _,.inr rfl,.none,HI0.out⟩
      case round =>
       obtain ⟨i,zs,rfl,hi1,hi2,htr,hti⟩:=hrel
       have hbw:=hti.2.2
       have HTR:=yh htr
       have HTI:=yh hti
       have HBW:=yh hbw
       obtain ⟨Ao,co,rfl,_⟩:=zAL hti.1
       clear htr hti hbw
       by_cases hlt:i<d
       ·obtain ⟨x,hx⟩:∃ x,D'[i]? = some x:=⟨_,List.getElem?_eq_getElem (by rw [← HDL.out];exact hlt)⟩
        have hx5:=HLX.out x (List.mem_of_getElem? hx)
        have HLW:=yh (HLA.out x hx5 wr)
        have hxl:(D'++[s])[i]? = some x:=by rw [List.getElem?_append_left (by rw [← HDL.out];exact hlt)];exact hx
        have q0:=HCB.out wr HBW.out i x hxl
        have hdx:(D'.drop 1)[i - 1]? = some x:=by rw [List.getElem?_drop,show 1+(i - 1)=i by omega];exact hx
        have htk:(D'.drop 1).take (i+1 - 1)=(D'.drop 1).take (i - 1)++[x]:=by
         rw [show i+1 - 1=(i - 1)+1 by omega,List.take_add_one,hdx]
         rfl
        have HTK:=yh htk
        have HDX:=yh hdx
        have HZL:Hid (zs.length≤5100):=by
         have h1:=HTR.out.len
         rw [List.length_take] at h1
         show _≤_
         omega
        have gi0:(0:Int)≤(i:Int):=by omega
        have gi1:(i:Int)<(d:Int):=by omega
        have gi2:(i:Int)<(m:Int):=by omega
        clear hx hx5 hxl hdx htk
        go_wp2_with fail
        refine HLW.out.mono ?_
        rintro e w3 ⟨hans,hb3⟩
        have HT3:=yh (HTI.out.below hb3)
        rcases hans with ⟨r,l,A2,n2,c2,hlo,rfl,how⟩ | ⟨hnl,rfl⟩
        ·have HLO:=yh hlo
         have hdep:Deps w3 w1.heap.size A2 n2 c2 l:=⟨zCA how HTI.out.2.2.size,by
          obtain ⟨A',c',hx,hA⟩:=zAL how
          cases hx
          exact hA⟩
         have HX3:=yh (HT3.out.below ((Below.refl _ w3).alloc (Nat.le_refl _) (.cells #[.int .i64 r.kind,.string (tx r.target),.int .u64 r.rule,.slice A2 n2 c2,.int .u64 r.out,.int .u64 r.time,.string (tx r.tag)] 37)))
         have HD3:=yh (zDP hdep (.cells #[.int .i64 r.kind,.string (tx r.target),.int .u64 r.rule,.slice A2 n2 c2,.int .u64 r.out,.int .u64 r.time,.string (tx r.tag)] 37))
         have hr3:=zBD (w3.alloc (.cells #[.int .i64 r.kind,.string (tx r.target),.int .u64 r.rule,.slice A2 n2 c2,.int .u64 r.out,.int .u64 r.time,.string (tx r.tag)] 37)) ⟨r,A2,n2,c2,l⟩
         rw [show (w3.alloc (.cells #[.int .i64 r.kind,.string (tx r.target),.int .u64 r.rule,.slice A2 n2 c2,.int .u64 r.out,.int .u64 r.time,.string (tx r.tag)] 37)).heap.size=w3.heap.size+1 from by simp] at hr3
         have HR3:=yh hr3
         have HBW3:Hid (w1.heap.size≤w3.heap.size):=HT3.out.2.2.size
         clear hr3 hdep hlo how hb3 q0
         go_wp2_with (at_builtin;refine zAQ _ rfl (.tmp 77) (.tmp 79) 23 rfl w1.heap.size 37 i0 _ 7 88 Tryz.underlying23 ii0 iz0 iz1 iz2 rfl (by decide) _ zs.length (rws zs) rfl (HX3.out.1.alloc _) (some ⟨w3.heap.size+1,0,none⟩) 1 1 (w3.heap.size+1+1) (rws [⟨r,A2,n2,c2,l⟩]) rfl (by simp) HR3.out (zBQ _) (by have:=HZL.out;unfold maxLen;omega) (by have:=HZL.out;omega) (by have:=HBW3.out;simp;omega) ?_;intro v1 w6 ho hg;obtain ⟨v1A,v1c,rfl,_⟩:=zAL ho;have HFIN:=yh (HX3.out.more ⟨r,A2,n2,c2,l⟩ HD3.out ho hg);clear ho hg)
         exact ⟨⟨i+1,zs++[⟨r,A2,n2,c2,l⟩],by go_num,by omega,by omega,by rw [HTK.out];exact HTR.out.snoc HLO.out,HFIN.out⟩,by simp [intOf];omega⟩
        ·have HNL:=yh hnl
         clear hnl hb3 q0
         go_wp2
         go_ret2
         refine .inr ⟨fun zs2 h =>?_,⟨_,_,by rw [HU.out];rfl⟩,(HB1.out.trans (HT3.out.2.2.mono HB1.out.size)).alloc (Nat.le_trans HB1.out.size HT3.out.2.2.size) _⟩
         obtain ⟨y,_,hy⟩:=(HBK.out zs2 h).at HDX.out
         exact HNL.out _ _ hy
       ·have hall:(D'.drop 1).take (i - 1)=D'.drop 1:=List.take_of_length_le (by rw [List.length_drop,← HDL.out];omega)
        rw [hall] at HTR
        have gi1:¬ (i:Int)<(d:Int):=by omega
        have HRT:=yh (zJB Ao zs.length co zs (by have h2:=HTR.out.few;have h3:=HFL.out;omega) (fun x hx =>(HTR.out.lns.2 x hx).1) wr HTI.out.recs)
        have HNO:Hid (¬ zAV T zs→∀ ys,¬ zAV T ys):=fun hn ys hy =>by
         have h1:=HBK.out ys hy
         obtain ⟨e1,e2⟩:=h1.txt HTR.out
         exact hn ⟨fun x hx =>(HTR.out.lns.2 x hx).1,e2 hy.2.1,by rw [← e1];exact hy.2.2⟩
        have HGD:Hid (∀ x ∈ zs,zBA x):=fun x hx =>(HTR.out.lns.2 x hx).1
        have HTT2:Hid (∀ X:List UInt8,((tx X).toList == (tx T).toList)=decide (X=T)):=fun X =>by
         rw [zAg,zAg]
         by_cases e:X=T <;> simp [e]
        clear hall
        go_wp2_with fail
        refine HRT.out.mono ?_
        rintro e w3 ⟨he,hb3⟩
        have HT3:=yh (HTI.out.below hb3)
        clear hb3
        rcases he with ⟨hok,rfl⟩ | ⟨hok,rfl⟩
        ·by_cases hs:zAP (txt zs)=T
         ·have HY:Hid (zAV T zs):=⟨HGD.out,hok,hs.symm⟩
          have hc:((tx (zAP (txt zs))).toList == (tx T).toList)=true:=by rw [HTT2.out,decide_eq_true hs]
          generalize tx (zAP (txt zs))=S2 at *
          clear hs hok
          go_wp2
          go_ret2
          exact .inl ⟨_,_,_,zs,HY.out,rfl,zDJ HT3.out HB1.out⟩
         ·have HY:Hid (∀ ys,¬ zAV T ys):=HNO.out fun h =>hs h.2.2.symm
          have hc:((tx (zAP (txt zs))).toList == (tx T).toList)=false:=by rw [HTT2.out,decide_eq_false hs]
          generalize tx (zAP (txt zs))=S2 at *
          clear hs hok
          go_wp2
          go_ret2
          exact .inr ⟨HY.out,⟨_,_,by rw [HU.out];rfl⟩,HB1.out.trans (HT3.out.2.2.mono HB1.out.size)⟩
        ·have HY:Hid (∀ ys,¬ zAV T ys):=HNO.out fun h =>hok h.2.1
         clear hok
         go_wp2
         go_ret2
         exact .inr ⟨HY.out,⟨_,_,by rw [HU.out];rfl⟩,HB1.out.trans (HT3.out.2.2.mono HB1.out.size)⟩
     ·rw [decide_eq_false hse] at hTT
      have hu:unsO T=([],4):=by rw [HTD.out,HUN.out,if_pos HB.out,if_neg (fun h =>hse (by rw [h,← HTD.out]))]
      have HU:=yh hu
      generalize tx (zAP (flat D'))=S at *
      clear hu hse
      go_wp2
      go_ret2
      exact .inr ⟨zBl (by rw [HU.out];decide),⟨_,_,by rw [HU.out];rfl⟩,HB1.out⟩
   ·have gp:(((tx s).extract 0 4).toList == [115,117,109,32])=false:=by rw [hx4,zAg];exact beq_eq_false_iff_ne.2 ht4
    have hu:unsO T=([],3):=by rw [HTD.out,HUN.out,if_neg (fun h =>ht4 ((HIS.out.1 h).2.1))]
    have HU:=yh hu
    clear hx4 hxd hadd hss HIS h12 ht4 hu
    go_wp2
    go_ret2
    exact .inr ⟨zBl (by rw [HU.out];decide),⟨_,_,by rw [HU.out];rfl⟩,HB1.out⟩
  ·have g12:(((tx s).size:Int) != 12)=true:=by rw [hss,bne_iff_ne];omega
   have hu:unsO T=([],3):=by rw [HTD.out,HUN.out,if_neg (fun h =>h12 (HIS.out.1 h).1)]
   have HU:=yh hu
   clear hx4 hxd hadd hss HIS h12 hu
   go_wp2
   go_ret2
   exact .inr ⟨zBl (by rw [HU.out];decide),⟨_,_,by rw [HU.out];rfl⟩,HB1.out⟩
theorem zAV.one {T:List UInt8} {xs ys:List Rw} (h:zAV T xs) (g:zAV T ys):xs.map Rw.say=ys.map Rw.say:=by
 obtain ⟨_,_,_,_,_,_,hb⟩:=zCf (T:=T) (by rw [h.uns])
 exact (hb xs h).one (hb ys g)
theorem zAV.few {T:List UInt8} {xs:List Rw} (h:zAV T xs) (hT:T.length≤5013):xs.length≤125:=by
 obtain ⟨_,_,_,_,_,hl,hb⟩:=zCf (T:=T) (by rw [h.uns])
 have h1:=(hb xs h).few
 have h2:(unsO T).1.length+13=T.length:=by
  have h3:=congrArg List.length (zDg (T:=T) (by rw [h.uns])).1
  rw [zBj] at h3
  exact h3
 omega
theorem zEQ {x:Rw} {W:World} {B:Nat} (h:zAE W B 3 x.A x.n (dps x.l)) (hg:zBA x):x.n≤1000000:=by
 have h1:=h.1
 rw [zAd] at h1
 have:=hg.2.2.2.1
 omega
theorem zHt (T:List UInt8) (w:World) (hl:Laid w) (hp:zAl w) (he:zAx w) (hsh:w.ShapedOpen Tryz.prog) :
  Calls Tryz.prog 3 #[.string (tx T)] w fun e w' =>e=.returned (.bool true)∧Below w.heap.size w w':=by
 have HF:=yh (fun (W:World) (hW:Below w.heap.size w W) =>zCV W (hl.below hW) (hp.below hW) (zAW hsh hW))
 by_cases h5:T.length≤5000
 ·have hsz:((tx T).size:Int)≤5000:=by rw [zAK];omega
  have HLT:=yh (zFg T (by omega) w hl hp he hsh)
  have HRT:=yh (fun (W:World) =>zFn T (by omega) W)
  have HDT:=yh (fun (zs:List Rw) (hz:zAV T zs) (W:World) (hW:Below w.heap.size w W) (A:Option Addr) (n c:Nat) (hr:Recs W W.heap.size A n zs) =>zCN A n c zs (by have h1:=hr.len;have h2:=hz.few (by omega);omega) hz.1 W (hl.below hW) (hp.below hW) hr)
  have H5:=yh h5
  clear hl hp he hsh h5
  go_enter Tryz.func3,Tryz.ntmps3
  go_wp2_with fail
  refine HLT.out.mono ?_
  rintro e w1 hans
  rcases hans with ⟨A,n,c,zs,hz,rfl,hti⟩ | ⟨hno,rfl,hb1⟩
  ·have HZ:=yh hz
   have HTI:=yh hti
   clear hz hti
   go_wp2_with fail
   refine (HRT.out w1).mono ?_
   rintro e w2 hans
   rcases hans with ⟨B,m,d,ys,hy,rfl,hti2⟩ | ⟨hno,_⟩
   ·have HY:=yh hy
    have HTI2:=yh (zDJ hti2 HTI.out.2.2)
    have HT1:=yh (HTI.out.below hti2.2.2)
    clear hy hti2 HTI
    have HAL:=yh (zCK A B n m c d zs ys (by have h1:=HT1.out.recs.len;have h2:=HZ.out.few (by have:=H5.out;omega);unfold maxLen;omega) (by have h1:=HTI2.out.recs.len;have h2:=HY.out.few (by have:=H5.out;omega);unfold maxLen;omega) (fun x hx =>zEQ (HT1.out.recs.2 x hx).1 (HZ.out.1 x hx)) w2 HT1.out.recs HTI2.out.recs)
    go_wp2_with fail
    refine HAL.out.mono ?_
    rintro e w3 ⟨he,hb3⟩
    obtain rfl:=he.yes (HZ.out.one HY.out)
    have HT3:=yh (HT1.out.below hb3)
    clear he hb3 HTI2 HT1
    go_wp2_with fail
    refine (HDT.out zs HZ.out _ HT3.out.2.2 _ _ _ HT3.out.recs).mono ?_
    rintro e w4 ⟨he,hb4⟩
    obtain rfl:e=.returned (.tuple #[.string (tx T),.int .i64 0]):=by
     rcases he with ⟨_,he⟩ | ⟨hn,_⟩
     ·rw [he,← HZ.out.2.2]
     ·exact absurd HZ.out.2.1 hn
    have HB4:=yh (HT3.out.below hb4).2.2
    clear he hb4
    go_wp2_with fail
    refine (HF.out _ HB4.out).mono ?_
    rintro e w5 ⟨rfl,hb5⟩
    have HB5:=yh (HB4.out.trans (hb5.mono HB4.out.size))
    clear hb5
    go_wp2
    go_ret
    exact ⟨rfl,HB5.out⟩
   ·exact absurd HZ.out (hno zs)
  ·obtain ⟨ec,hec⟩:∃ ec:Int,ec=if (unsO T).2=4 then 4 else 3:=⟨_,rfl⟩
   rw [← hec]
   have hec0:ec≠0:=by rw [hec];split <;> decide
   have HEC:=yh hec
   have HB1:=yh hb1
   have HNO:=yh hno
   clear hb1 hno hec
   go_wp2_with fail
   refine (HRT.out w1).mono ?_
   rintro e w2 hans
   rcases hans with ⟨B,m,d,ys,hy,rfl,hti2⟩ | ⟨hno,⟨B,d,rfl⟩,hb2⟩
   ·exact absurd hy (HNO.out ys)
   ·rw [← HEC.out]
    have HB2:=yh (HB1.out.trans (hb2.mono HB1.out.size))
    have HAL:=yh (zCK none B 0 0 0 d [] [] (by decide) (by decide) (by simp) w2 (Recs.nil _ _ _) (Recs.nil _ _ _))
    clear hb2 hno
    go_wp2_with fail
    refine HAL.out.mono ?_
    rintro e w3 ⟨he,hb3⟩
    obtain rfl:=he.yes (by trivial)
    have HB3:=yh (HB2.out.trans (hb3.mono HB2.out.size))
    clear he hb3
    go_wp2_with fail
    refine (HF.out _ HB3.out).mono ?_
    rintro e w5 ⟨rfl,hb5⟩
    have HB5:=yh (HB3.out.trans (hb5.mono HB3.out.size))
    clear hb5
    go_wp2
    go_ret
    exact ⟨rfl,HB5.out⟩
 ·have hsz:5000<((tx T).size:Int):=by rw [zAK];omega
  clear hl hp he hsh h5
  go_enter Tryz.func3,Tryz.ntmps3
  go_wp2_with fail
  refine (HF.out _ (Below.refl _ _)).mono ?_
  rintro e w5 ⟨rfl,hb5⟩
  have HB5:=yh hb5
  clear hb5
  go_wp2
  go_ret
  exact ⟨rfl,HB5.out⟩
theorem zJN {t:List UInt8} (h:(unsO (zAP t)).2=4):∃ k b,t.length=k+1∧t[k]? = some b∧b≠10:=by
 by_cases ht:t=[]
 ·rw [zCY t (.inl ht)] at h
  cases h
 ·have h0:=List.length_pos_iff.2 ht
  refine ⟨t.length - 1,t.getLast ht,by omega,?_,fun hb =>?_⟩
  ·rw [← List.getLast?_eq_getElem?,List.getLast?_eq_some_getLast ht]
  ·rw [zCY t (.inr (by rw [List.getLast?_eq_some_getLast ht,hb]))] at h
   cases h
theorem zGz (t:List UInt8) (w:World) (hl:Laid w) (hp:zAl w) (he:zAx w) (hsh:w.ShapedOpen Tryz.prog) :
  Calls Tryz.prog 4 #[.string (tx t)] w fun e w' =>e=.returned (.bool true)∧Below w.heap.size w w':=by
 have HF:=yh (fun (W:World) (hW:Below w.heap.size w W) =>zCV W (hl.below hW) (hp.below hW) (zAW hsh hW))
 by_cases h5:t.length≤5000
 ·have hsz:((tx t).size:Int)≤5000:=by rw [zAK];omega
  have hTl:(zAP t).length≤5013:=by rw [zBj];omega
  have HSE:=yh (zDd t (by omega) w hl)
  have HLT:=yh (fun (W:World) (hW:Below w.heap.size w W) =>zFg (zAP t) hTl W (hl.below hW) (hp.below hW) (he.below hW) (zAW hsh hW))
  have HRT:=yh (fun (W:World) =>zFn (zAP t) hTl W)
  have HWR:=yh (fun h =>zJN (t:=t) h)
  have HAT:=yh (fun i x h hp =>zDf t i x h hp)
  obtain ⟨nt,hnt⟩:∃ nt,nt=t.length:=⟨_,rfl⟩
  have hst:(tx t).size=nt:=by rw [zAK,hnt]
  have HNT:=yh hnt
  have H5:Hid (nt≤5000):=by rw [hnt];exact h5
  obtain ⟨T,hT⟩:∃ T,T=zAP t:=⟨_,rfl⟩
  rw [← hT] at HSE HLT HRT HWR hTl
  have HTL:=yh hTl
  generalize tx t=s0 at *
  generalize htT:tx T=sT at *
  clear hl hp he hsh h5 hnt hT hTl htT
  go_enter Tryz.func4,Tryz.ntmps4
  go_wp2_with fail
  refine HSE.out.mono ?_
  rintro e w0 ⟨rfl,hb0⟩
  have HB0:=yh hb0
  clear hb0
  go_wp2_with fail
  refine (HLT.out w0 HB0.out).mono ?_
  rintro e w1 hans
  rcases hans with ⟨A,n,c,zs,hz,rfl,hti⟩ | ⟨hno,rfl,hb1⟩
  ·have HZ:=yh hz
   have HTI:=yh (zDJ hti HB0.out)
   clear hz hti
   go_wp2_with fail
   refine (HRT.out w1).mono ?_
   rintro e w2 hans
   rcases hans with ⟨B,m,d,ys,hy,rfl,hti2⟩ | ⟨hno,_⟩
   ·have HY:=yh hy
    have HTI2:=yh (zDJ hti2 HTI.out.2.2)
    have HT1:=yh (HTI.out.below hti2.2.2)
    clear hy hti2 HTI
    go_wp2_with fail
    refine (HF.out _ HT1.out.2.2).mono ?_
    rintro e w4 ⟨rfl,hb4⟩
    have HT4:=yh (HT1.out.below hb4)
    have HU4:=yh (HTI2.out.below hb4)
    clear hb4
    have HAL:=yh (zCK A B n m c d zs ys (by have h1:=HT4.out.recs.len;have h2:=HZ.out.few HTL.out;unfold maxLen;omega) (by have h1:=HU4.out.recs.len;have h2:=HY.out.few HTL.out;unfold maxLen;omega) (fun x hx =>zEQ (HT4.out.recs.2 x hx).1 (HZ.out.1 x hx)) w4 HT4.out.recs HU4.out.recs)
    go_wp2_with fail
    refine HAL.out.mono ?_
    rintro e w3 ⟨he,hb3⟩
    obtain rfl:=he.yes (HZ.out.one HY.out)
    have HB3:=yh (HT4.out.below hb3).2.2
    clear he hb3
    go_wp2
    go_ret
    exact ⟨rfl,HB3.out⟩
   ·exact absurd HZ.out (hno zs)
  ·have HB1:=yh (HB0.out.trans (hb1.mono HB0.out.size))
   have HNO:=yh hno
   clear hb1 hno
   by_cases h4:(unsO T).2=4
   ·obtain ⟨k,b,hk,hkb,hb10⟩:=HWR.out h4
    have HK:=yh hk
    have HKB:=yh hkb
    have HB10:Hid (b≠10):=hb10
    have H4:=yh h4
    rw [if_pos h4]
    clear hk hkb hb10 h4
    go_wp2_with fail
    refine (HRT.out w1).mono ?_
    rintro e w2 hans
    rcases hans with ⟨B,m,d,ys,hy,rfl,hti2⟩ | ⟨hno,⟨B,d,rfl⟩,hb2⟩
    ·exact absurd hy (HNO.out ys)
    ·have HB2:=yh (HB1.out.trans (hb2.mono HB1.out.size))
     clear hb2 hno
     rw [if_pos H4.out]
     have hnk:nt=k+1:=by rw [HNT.out,HK.out]
     subst hnk
     have hkk:wrap64 (((k+1:Nat):Int) - 1)=(k:Int):=by have:=H5.out;simp [wrap64];omega
     have hks:k<s0.size:=by omega
     have hat:=HAT.out k b HKB.out hks
     have hi0:(0:Int)≤(k:Int):=by omega
     have hi1:(k:Int)<((k+1:Nat):Int):=by omega
     have hnb:((b.toNat:Int) != 10)=true:=by
      rw [bne_iff_ne]
      intro e
      exact HB10.out (UInt8.toNat_inj.1 (show b.toNat=10 by omega))
     have hgt:(0:Int)<((k+1:Nat):Int):=by omega
     go_wp2_with fail
     refine (HF.out _ HB2.out).mono ?_
     rintro e w4 ⟨rfl,hb4⟩
     have HB4:=yh (HB2.out.trans (hb4.mono HB2.out.size))
     clear hb4
     have HAL:=yh (zCK none B 0 0 0 d [] [] (by decide) (by decide) (by simp) w4 (Recs.nil _ _ _) (Recs.nil _ _ _))
     go_wp2_with fail
     refine HAL.out.mono ?_
     rintro e w3 ⟨he,hb3⟩
     obtain rfl:=he.yes (by trivial)
     have HB3:=yh (HB4.out.trans (hb3.mono HB4.out.size))
     clear he hb3
     go_wp2
     go_ret
     exact ⟨rfl,HB3.out⟩
   ·have H4:Hid (¬ (unsO T).2=4):=h4
    rw [if_neg h4]
    clear h4
    go_wp2_with fail
    refine (HRT.out w1).mono ?_
    rintro e w2 hans
    rcases hans with ⟨B,m,d,ys,hy,rfl,hti2⟩ | ⟨hno,⟨B,d,rfl⟩,hb2⟩
    ·exact absurd hy (HNO.out ys)
    ·have HB2:=yh (HB1.out.trans (hb2.mono HB1.out.size))
     clear hb2 hno
     rw [if_neg H4.out]
     go_wp2_with fail
     refine (HF.out _ HB2.out).mono ?_
     rintro e w4 ⟨rfl,hb4⟩
     have HB4:=yh (HB2.out.trans (hb4.mono HB2.out.size))
     clear hb4
     have HAL:=yh (zCK none B 0 0 0 d [] [] (by decide) (by decide) (by simp) w4 (Recs.nil _ _ _) (Recs.nil _ _ _))
     go_wp2_with fail
     refine HAL.out.mono ?_
     rintro e w3 ⟨he,hb3⟩
     obtain rfl:=he.yes (by trivial)
     have HB3:=yh (HB4.out.trans (hb3.mono HB4.out.size))
     clear he hb3
     go_wp2
     go_ret
     exact ⟨rfl,HB3.out⟩
 ·have hsz:5000<((tx t).size:Int):=by rw [zAK];omega
  clear hl hp he hsh h5
  go_enter Tryz.func4,Tryz.ntmps4
  go_wp2_with fail
  refine (HF.out _ (Below.refl _ _)).mono ?_
  rintro e w5 ⟨rfl,hb5⟩
  have HB5:=yh hb5
  clear hb5
  go_wp2
  go_ret
  exact ⟨rfl,HB5.out⟩
theorem zJf (a b:List (List UInt8)):flat (a++b)=flat a++flat b:=by unfold flat;rw [List.flatMap_append]
theorem zLN (n:Nat):∃ h:List UInt8,hdT n=h++[10]∧(10:UInt8) ∉ h∧h.take 4=[116,101,112,104]:=by
 refine ⟨[116,101,112,104,114,97,32]++Lib.decDigits n,rfl,fun hm =>?_,rfl⟩
 rcases List.mem_append.1 hm with hm | hm
 ·revert hm;decide
 ·exact zFA n 10 hm rfl
theorem zFs {xs:List Rw} (h:∀ x ∈ xs,zBA x∧lnOk x):∃ hd:List UInt8,(10:UInt8) ∉ hd∧hd.take 4=[116,101,112,104]∧txt xs=flat (hd :: xs.map lnT):=by
 obtain ⟨hd,e,hn,ht⟩:=zLN xs.length
 refine ⟨hd,hn,ht,?_⟩
 unfold txt
 rw [e,(zEA xs h).lns.1,zAZ,List.append_assoc]
 rfl
theorem zGl (l:List UInt8):(10:UInt8) ∉ [115,117,109]++32 :: sum8 l:=fun hm =>by
 simp only [List.cons_append,List.nil_append,List.mem_cons] at hm
 rcases hm with hm | hm | hm | hm | hm
 ·exact absurd hm (by decide)
 ·exact absurd hm (by decide)
 ·exact absurd hm (by decide)
 ·exact absurd hm (by decide)
 ·exact zFq l hm
theorem zJi {α:Type} {D M L:List α} {s:α} (h:D++M=L++[s]) (hM:M≠[]):∀ x ∈ D,x ∈ L:=by
 obtain ⟨M',m,rfl⟩:∃ M' m,M=M'++[m]:=⟨M.dropLast,M.getLast hM,(List.dropLast_concat_getLast hM).symm⟩
 rw [← List.append_assoc] at h
 have h1:=(List.append_inj' h rfl).1
 intro x hx
 rw [← h1]
 exact List.mem_append.2 (.inl hx)
theorem zKe {T:List UInt8} {X:List Rw} (h:zAV T X) (k:Nat) (hk:k<T.length):(unsO (T.take k)).2=3:=by
 by_cases hl0:(T.take k).getLast? ≠ some 10
 ·rw [zHe _ hl0]
 have hl:(T.take k).getLast? = some 10:=Classical.not_not.1 hl0
 obtain ⟨D,e,hD⟩:=zEE (T.take k) (.inr hl)
 have hz:∀ x ∈ X,zBA x∧lnOk x:=fun x hx =>⟨h.1 x hx,h.2.1.2 x hx⟩
 obtain ⟨hd,hd10,hd4,et⟩:=zFs hz
 have hT:T=flat ((hd :: X.map lnT)++[[115,117,109]++32 :: sum8 (txt X)]):=by
  rw [h.2.2,zBh,← et]
  rfl
 have hLn:∀ s ∈ (hd :: X.map lnT)++[[115,117,109]++32 :: sum8 (txt X)],(10:UInt8) ∉ s:=fun s hs =>by
  rcases List.mem_append.1 hs with hs | hs
  ·rcases List.mem_cons.1 hs with rfl | hs
   ·exact hd10
   ·obtain ⟨x,hx,rfl⟩:=List.mem_map.1 hs
    exact fun hm =>zEU _ _ _ _ _ _ 10 hm rfl
  ·obtain rfl:=List.mem_singleton.1 hs
   exact zGl _
 have hlast:T.getLast? = some 10:=by rw [hT,zBh,List.getLast?_append];rfl
 have hdrop:(T.drop k).getLast? = some 10:=by
  rw [List.getLast?_drop,if_neg (by omega)]
  exact hlast
 obtain ⟨M,eM,hM⟩:=zEE (T.drop k) (.inr hdrop)
 have hMne:M≠[]:=fun hm =>by
  rw [eM,hm,zCg] at hdrop
  cases hdrop
 have hDne:D≠[]:=fun hm =>by
  rw [e,hm,zCg] at hl
  cases hl
 have hall:D++M=(hd :: X.map lnT)++[[115,117,109]++32 :: sum8 (txt X)]:=by
  refine zCO (fun s hs =>?_) hLn ?_
  ·rcases List.mem_append.1 hs with hs | hs
   ·exact hD s hs
   ·exact hM s hs
  ·rw [zJf,← e,← eM,List.take_append_drop,← hT]
 have hin:=zJi hall hMne
 obtain ⟨D',s,rfl⟩:∃ D' s,D=D'++[s]:=⟨D.dropLast,D.getLast hDne,(List.dropLast_concat_getLast hDne).symm⟩
 have hs:=hin s (by simp)
 have hno:isS s=false:=by
  rw [Bool.eq_false_iff]
  intro hS
  obtain ⟨h12,h4,_⟩:=(zHS s).1 hS
  rcases List.mem_cons.1 hs with rfl | hs
  ·rw [hd4] at h4
   exact absurd h4 (by decide)
  ·obtain ⟨x,hx,rfl⟩:=List.mem_map.1 hs
   obtain ⟨i,hi⟩:=List.mem_iff_getElem?.1 hx
   obtain ⟨y,_,hy⟩:=(zEA X hz).at (i:=i) (s:=lnT x) (by rw [List.getElem?_map,hi];rfl)
   have:=zFc hy
   omega
 rw [e,zFt D' s (hD s (by simp)),hno]
 rfl
theorem zAV.lines {T:List UInt8} {X:List Rw} (h:zAV T X) (hX:X.length≤30):∀ hd ls fnd,(unsO T).2=0→Lib.cut (unsO T).1 [10]=(hd,flat ls,fnd)→(∀ s ∈ ls,(10:UInt8) ∉ s)→(∀ s ∈ ls,s.length≤5000)∧ls.length≤5000∧∀ zs,Trs ls zs→zs.length≤125:=by
 intro hd ls fnd _ hcut hn
 have hz:∀ x ∈ X,zBA x∧lnOk x:=fun x hx =>⟨h.1 x hx,h.2.1.2 x hx⟩
 obtain ⟨hd2,hd10,_,et⟩:=zFs hz
 have h1:(unsO T).1=flat (hd2 :: X.map lnT):=by rw [h.uns,← et]
 rw [h1,zAZ,zDN _ _ hd10] at hcut
 have h2:flat (X.map lnT)=flat ls:=congrArg (fun p:List UInt8×List UInt8×Bool =>p.2.1) hcut
 have h3:=zCO (fun s hs =>by
  obtain ⟨x,hx,rfl⟩:=List.mem_map.1 hs
  exact fun hm =>zEU _ _ _ _ _ _ 10 hm rfl) hn h2
 have h4:ls.length≤30:=by rw [← h3,List.length_map];exact hX
 refine ⟨fun s hs =>?_,by omega,fun zs ht =>by have:=ht.len;omega⟩
 rw [← h3] at hs
 obtain ⟨x,hx,rfl⟩:=List.mem_map.1 hs
 exact zEV (hz x hx).1 (hz x hx).2
theorem zAV.short {T:List UInt8} {X:List Rw} (h:zAV T X) (hX:X.length≤30):T.length≤200000∧22≤T.length:=by
 have hz:∀ x ∈ X,zBA x∧lnOk x:=fun x hx =>⟨h.1 x hx,h.2.1.2 x hx⟩
 have h1:=zFE (xs:=X) (M:=5001) (fun x hx =>by have:=zEV (hz x hx).1 (hz x hx).2;omega) X.length
 rw [List.take_length] at h1
 have h2:=zGI (n:=X.length) (by omega)
 have h3:X.length * 5001≤30 * 5001:=Nat.mul_le_mul_right _ hX
 have h4:T.length=(hdT X.length).length+(lnsT X).length+13:=by rw [h.2.2,zBj];unfold txt;rw [List.length_append]
 have h5:9≤(hdT X.length).length:=by
  unfold hdT
  have:=List.length_pos_iff.2 (zDn X.length)
  simp only [List.length_append,List.length_cons,List.length_nil]
  omega
 omega
end Go.Proofs.YtgoklhoaedceaaaGreatDoor
