/- Texts of one proof. -/
import Derived.Lib.UnsafeStr
import Derived.Shelf.Strings.Builder1
import Derived.Sort.KeysCollected
import Derived.Test.YtgoklhoaedceaaaGreatDoorMx13
set_option maxRecDepth 100000
set_option maxHeartbeats 8000000
namespace Go.Proofs.YtgoklhoaedceaaaGreatDoor
open Go.RowKit
theorem zDm:(Tryz.prog.info? 61).map (·.size)=some 2:=by kernel_rfl
theorem zFz:liesAt Tryz.prog Tryz.prog.depth 61 (2 / Tryz.prog.cellsOf 61) 0 61 1=true:=by kernel_rfl
theorem zFJ:(Tryz.prog.info? 5).map (fun i =>(i.zero,i.size,i.bytes))=some (some (.int .u8 0),1,1):=by kernel_rfl
theorem zGs (b:Nat) (w:World) (h0:w.cell? ⟨b,0,none⟩=some (.pointer none)) (hsh:w.shape? b=some (61,2)) (hfz:w.frozen? ⟨b,0,none⟩=false) :
  Calls Tryz.prog 53 #[.pointer (some ⟨b,0,none⟩)] w fun e w' =>e=.returned (.tuple #[])∧w'=w.setCell ⟨b,0,none⟩ (.pointer (some ⟨b,0,none⟩)):=by
 obtain ⟨j,hj,hjs⟩:=Option.map_eq_some_iff.1 zDm
 go_enter Tryz.func53,Tryz.ntmps53
 go_wp2
 rw [Lib.run_to_unsafe w ⟨b,0,none⟩ Tryz.underlying58 Tryz.underlying109 hj (by rw [hjs];decide) hsh (Nat.zero_lt_succ 1)]
 simp only [Result.andThen]
 rw [Oper.upon_value]
 go_wp2
 rw [run_callFunc_extern Tryz.func81 (by kernel_rfl) (by kernel_rfl) (by kernel_rfl) (e:=Extern.AbiNoEscape.same) (by kernel_rfl)]
 rw [Lib.run_noEscape]
 simp only [Result.andThen]
 rw [Oper.upon_value]
 go_wp2
 rw [Lib.run_from_unsafe w ⟨b,0,none⟩ Tryz.underlying109 Tryz.underlying58 hj hsh zFz]
 simp only [Result.andThen]
 rw [Oper.upon_value]
 go_wp2
 go_end0
 exact ⟨rfl,rfl⟩
theorem zHH (B b:Nat) (s:ByteArray) (w:World) (h:Lib.BuilderAt 61 5 B b (.pointer none) [] w) (hlen:s.size≤1000000) (hBw:B≤w.heap.size) :
  Calls Tryz.prog 27 #[.pointer (some ⟨b,0,none⟩),.string s] w fun e w' =>e=.returned (.tuple #[.int .i64 s.size,.nilIface])∧(Lib.BuilderAt 61 5 B b (.pointer (some ⟨b,0,none⟩)) (Lib.strCells s) w'∧Below B w w'):=by
 obtain ⟨i0,hi,hz0,hz1,hz2⟩:=info_parts zFJ
 have hcc:=zGs b w h.cell0 h.shape h.frozen0
 have HU:=yh (h.used (.pointer (some ⟨b,0,none⟩)))
 have hB1:=yh ((Below.refl B w).setCell (p:=⟨b,0,none⟩) h.1 (.pointer (some ⟨b,0,none⟩)))
 have HC:=yh hcc
 clear hcc h
 go_enter Tryz.func27,Tryz.ntmps27
 go_wp2_with fail
 refine HC.out.mono ?_
 rintro e w1 ⟨rfl,hw1⟩
 rw [← hw1] at HU hB1
 clear hw1 HC
 obtain ⟨hB,v,hbk,hown,hne⟩:=HU.out
 have hb1:=hB1.out
 have c0:w1.cell? ⟨b,0,none⟩=some (.pointer (some ⟨b,0,none⟩)):=by rw [Lib.cell_of_heap hbk];rfl
 have c1:w1.cell? ⟨b,1,none⟩=some v:=by rw [Lib.cell_of_heap hbk];rfl
 go_wp2_with (at_builtin;refine Lib.wpList_append_own_string _ rfl _ _ 59 9 rfl B 5 i0 Tryz.underlying59 Tryz.underlying9 hi hz0 hz1 hz2 _ _ _ rfl hown s rfl ?c3 ?c4 ?c5 ?_)
 case c3 =>unfold maxLen;simp;omega
 case c4 =>simp;omega
 case c5 =>have:=hb1.size;omega
 intro v' w2 hown' hgrow _
 have hlt:b<w1.heap.size:=by
  rcases Nat.lt_or_ge b w1.heap.size with h' | h'
  ·exact h'
  ·simp [Array.getElem?_eq_none h'] at hbk
 have hb2:w2.heap[b]? = some (.cells #[.pointer (some ⟨b,0,none⟩),v] 61 (0,0)):=by
  rw [hgrow.block b hlt (fun e =>hne e.symm)]
  exact hbk
 have d0:w2.cell? ⟨b,0,none⟩=some (.pointer (some ⟨b,0,none⟩)):=by rw [Lib.cell_of_heap hb2];rfl
 have d1:w2.cell? ⟨b,1,none⟩=some v:=by rw [Lib.cell_of_heap hb2];rfl
 have f1:w2.frozen? ⟨b,1,none⟩=false:=Lib.frozen_of_heap hb2 1
 obtain ⟨ao,n',cap,rfl⟩:∃ ao n' cap,v'=.slice ao n' cap:=by
  rcases hown'.2 with ⟨hv,_⟩ | ⟨g,cap,cur,hv,_⟩
  ·exact ⟨_,_,_,hv⟩
  ·exact ⟨_,_,_,hv⟩
 go_wp2
 go_ret2
 refine ⟨rfl,?_,?_⟩
 ·exact Lib.BuilderAt.put (T:=61) (e:=5) hB hb2 (bs':=Lib.strCells s) (by simpa [Lib.strCells_length] using hown') (by decide)
 ·exact (hb1.grown hgrow (by have:=hb1.size;omega) (fun k hk =>(hown.lt k hk).1)).setCell (p:=⟨b,1,none⟩) hB _
theorem zFu (w:World):Lib.BuilderAt 61 5 w.heap.size w.heap.size (.pointer none) [] (w.alloc (.cells #[.pointer none,.slice none 0 0] 61)) :=
 ⟨Nat.le_refl _,.slice none 0 0,zAI w _,World.ownsRow_nil _ _ _ _,by simp [Value.ownBlock]⟩
theorem zBw {T e:TypeId} {B b:Nat} {p:Value} {bs:List Value} {w w':World} (h:Lib.BuilderAt T e B b p bs w) (hb:Below w.heap.size w w'):Lib.BuilderAt T e B b p bs w':=by
 have hlt:=h.lt
 obtain ⟨hB,v,hk,hown,hne⟩:=h
 exact ⟨hB,v,(hb.block b hlt).trans hk,zAb hown hb,hne⟩
theorem zDR (r:Rc) (A:Option Addr) (n c:Nat) (l:List Dp) (w:World) (hn:n≤maxLen) (hfit:∀ d ∈ l,d.name.length≤maxLen) (ht:r.target.length≤maxLen) (hg:r.tag.length≤maxLen) (h:zAE w w.heap.size 3 A n (dps l)) :
  Calls Tryz.prog 13 #[rcv r A n c] w fun e w' =>zAX (¬ zBF r l) e∧Below w.heap.size w w':=by
 have HL:Hid (l.length=n):=by have:=h.1;rw [zAd] at this;show _=_;omega
 have H1:=yh h
 have HF:=yh hfit
 have hm:Hid (maxLen=9223372036854775807∨True):=.inr trivial
 have hbx:=yh ((Below.refl w.heap.size w).alloc (Nat.le_refl _) (.cells #[.int .i64 r.kind,.string (tx r.target),.int .u64 r.rule,.slice A n c,.int .u64 r.out,.int .u64 r.time,.string (tx r.tag)] 37))
 have hnb:Hid ((w.alloc (.cells #[.int .i64 r.kind,.string (tx r.target),.int .u64 r.rule,.slice A n c,.int .u64 r.out,.int .u64 r.time,.string (tx r.tag)] 37)).heap[w.heap.size]? = some (.cells #[.int .i64 r.kind,.string (tx r.target),.int .u64 r.rule,.slice A n c,.int .u64 r.out,.int .u64 r.time,.string (tx r.tag)] 37 (0,0))):=by show (w.heap.push _)[w.heap.size]? = _;exact Array.getElem?_push_size
 unfold rcv rsv
 have hs1:=zAk r.target
 have hs2:=zAk r.tag
 unfold maxLen at hn ht hg
 clear h hfit
 go_enter Tryz.func13,Tryz.ntmps13
 go_wp2
 go_loopw [8] (fun idx wr =>∃ i:Nat,i≤n∧idx=.int .i64 (i:Int)∧(∀ d ∈ l.take i,d.name.length≤300)∧Below w.heap.size w wr∧wr.heap[w.heap.size]? = some (.cells #[.int .i64 r.kind,.string (tx r.target),.int .u64 r.rule,.slice A n c,.int .u64 r.out,.int .u64 r.time,.string (tx r.tag)] 37 (0,0))) (fun idx wr =>n - (intOf idx).toNat)
 case atStart =>exact ⟨0,by omega,rfl,by simp,hbx.out,hnb.out⟩
 case round =>
  obtain ⟨i,hi,rfl,hsm,hb,hbl⟩:=hrel
  have HSM:=yh hsm
  have q1:=zAA (i:=1) hbl rfl
  have q3:=zAA (i:=3) hbl rfl
  have q6:=zAA (i:=6) hbl rfl
  clear hsm
  by_cases hlt:i<n
  ·obtain ⟨x,hx⟩:∃ x,l[i]? = some x:=⟨_,List.getElem?_eq_getElem (by rw [HL.out];exact hlt)⟩
   obtain ⟨ad,rfl,_,hcx⟩:=(H1.out.below hb).2 (by omega)
   obtain ⟨x0,x1,x2⟩:=zAt l i x hx
   have k0:=hcx _ _ x0
   have k1:=hcx _ _ x1
   have k2:=hcx _ _ x2
   rw [zBO] at k1
   rw [zBP] at k2
   have hxl:=HF.out x (List.mem_of_getElem? hx)
   obtain ⟨xn,xh,xo⟩:=x
   simp only at k0 k1 k2 hxl
   have hs3:=zAk xn
   obtain ⟨m,hm⟩:∃ m,m=xn.length:=⟨_,rfl⟩
   rw [← hm] at hs3 hxl
   unfold rsv at k0
   unfold maxLen at hxl
   have HX:Hid (m≤300→∀ d ∈ l.take (i+1),d.name.length≤300):=fun hle d hd =>by
    rw [List.take_add_one,hx,List.mem_append] at hd
    rcases hd with hd | hd
    ·exact HSM.out d hd
    ·simp at hd;subst hd;exact hm▸hle
   have HNS:Hid (¬ m≤300→¬ zBF r l):=fun hle h =>hle (by rw [hm];exact h.1 ⟨xn,xh,xo⟩ (List.mem_of_getElem? hx))
   have HBR:=yh hb
   have HBL:=yh hbl
   have hi0:(0:Int)≤(i:Int):=by omega
   have hi1:(i:Int)<(n:Int):=by omega
   have HBN:=yh (hb.alloc hb.size (.cells #[.string (tx xn),.int .u64 xh,.bool xo] 73))
   have HBLN:=yh ((Below.heap_alloc wr (.cells #[.string (tx xn),.int .u64 xh,.bool xo] 73) w.heap.size (by
    rcases Nat.lt_or_ge w.heap.size wr.heap.size with h | h
    ·exact h
    ·rw [Array.getElem?_eq_none h] at hbl;cases hbl)).trans hbl)
   clear hcx x0 x1 x2 hx hb hbl hm
   by_cases h300:m≤300
   ·have hd1:decide ((m:Int) > 300)=false:=by rw [decide_eq_false_iff_not];omega
    go_wp2
    exact ⟨⟨i+1,by omega,by go_num,HX.out h300,HBN.out,HBLN.out⟩,by simp [intOf];omega⟩
   ·have hd1:decide ((m:Int) > 300)=true:=by rw [decide_eq_true_iff];omega
    have HN2:=yh (HNS.out h300)
    go_wp2
    go_ret
    exact ⟨zAq HN2.out,HBN.out⟩
  ·obtain rfl:i=n:=by omega
   have HBR:=yh hb
   rw [List.take_of_length_le (by rw [HL.out];omega)] at HSM
   clear hb hbl
   by_cases hA:i≤60∧r.target.length≤300∧r.tag.length≤300
   ·have HQ:Hid (zBF r l):=⟨HSM.out,by rw [HL.out];exact hA.1,hA.2⟩
    obtain ⟨g1,g2,g3⟩:=hA
    go_wp2
    go_ret
    exact ⟨by first | exact zAF (fun h =>h HQ.out) | (refine (show ∀ {b:Bool},b=false→zAX (¬ zBF r l) (.returned (.bool b)) from fun h =>h▸zAF (fun h =>h HQ.out)) ?_;simp;omega),HBR.out⟩
   ·have HNS:Hid (¬ zBF r l):=fun h =>hA ⟨by have:=h.2.1;rw [HL.out] at this;exact this,h.2.2⟩
    have END:Hid (∀ b:Bool,b=true→zAX (¬ zBF r l) (.returned (.bool b))):=fun b h =>h▸zAq HNS.out
    by_cases g1:i≤60
    ·by_cases g2:r.target.length≤300
     ·have g3:300<r.tag.length:=by omega
      clear hA
      go_wp2
      go_ret
      exact ⟨END.out _ (by first | rfl | (simp;omega)),HBR.out⟩
     ·clear hA
      go_wp2
      go_ret
      exact ⟨END.out _ (by first | rfl | (simp;omega)),HBR.out⟩
    ·clear hA
     go_wp2
     go_ret
     exact ⟨END.out _ (by first | rfl | (simp;omega)),HBR.out⟩
theorem zFa:∀ {ws:List (List UInt8)} {b:UInt8},b ∈ zAU ws→b=32 ∨ ∃ x ∈ ws,b ∈ x
 | [],b,h =>by simp [zDq] at h
 | [a],b,h =>.inr ⟨a,by simp,by rwa [zBL] at h⟩
 | a :: c :: ws,b,h =>by
  rw [zAm a (c :: ws) (by simp),List.mem_append,List.mem_cons] at h
  rcases h with h | h | h
  ·exact .inr ⟨a,by simp,h⟩
  ·exact .inl h
  ·rcases zFa h with h | ⟨x,hx,hb⟩
   ·exact .inl h
   ·exact .inr ⟨x,by simp [hx],hb⟩
theorem zCh (h:Nat):∀ (k:Nat) {b:UInt8},b ∈ hexl h k→b≠10
 | 0,b,hb =>by simp [hexl] at hb
 | k+1,b,hb =>by
  rw [hexl,List.mem_cons] at hb
  rcases hb with rfl | hb
  ·have:∀ m:Fin 16,dig m.val≠10:=by decide
   exact this ⟨h / 16 ^ k % 16,Nat.mod_lt _ (by omega)⟩
  ·exact zCh h k hb
theorem zFA (z:Nat):∀ b ∈ Lib.decDigits z,b≠10:=by
 have hd:∀ m:Fin 10,UInt8.ofNat (48+m.val)≠10:=by decide
 induction z using Nat.strongRecOn with
 | _ z ih =>
  intro b hb
  by_cases h:z<10
  ·rw [zAY h] at hb
   obtain rfl:=List.mem_singleton.1 hb
   exact hd ⟨z,h⟩
  ·rw [zBZ h,List.mem_append] at hb
   rcases hb with hb | hb
   ·exact ih (z / 10) (by omega) b hb
   ·exact ih (z % 10) (by omega) b hb
theorem zEU (t g:List UInt8) (zu zo zm:Nat) (l:List Dp):∀ b ∈ zAU (zAu t zu zo zm g l),b≠10:=fun b hb =>by
 have he:∀ {s:List UInt8},b ∈ eput s→b≠10:=fun h e =>by
  have:=(zGE h).1
  rw [e] at this
  exact absurd this (by decide)
 rcases zFa hb with rfl | ⟨x,hx,hb⟩
 ·decide
 ·rcases List.mem_append.1 hx with hx | hx
  ·simp only [zAi,List.mem_cons,List.not_mem_nil,or_false] at hx
   rcases hx with rfl | rfl | rfl | rfl | rfl
   ·exact he hb
   ·exact zCh _ _ hb
   ·exact zCh _ _ hb
   ·exact zFA _ b hb
   ·exact he hb
  ·obtain ⟨d,_,hx⟩:=List.mem_flatMap.1 hx
   simp only [zAe,List.mem_cons,List.not_mem_nil,or_false] at hx
   rcases hx with rfl | rfl
   ·exact he hb
   ·unfold zBE at hb
    rcases List.mem_append.1 hb with hb | hb
    ·exact zCh _ _ hb
    ·split at hb
     ·obtain rfl:=List.mem_singleton.1 hb;decide
     ·cases hb
theorem zGB (k u o m:Int) (t g:List UInt8) (A:Option Addr) (n c:Nat) (l:List Dp) (hn:n≤5000) (hfit:Fits ⟨k,t,u,o,m,g⟩ l) (hno:¬ (k=1∧MayP 3 ⟨k,t,u,o,m,g⟩ l)) (w:World) (h:zAE w w.heap.size 3 A n (dps l)) :
  Calls Tryz.prog 17 #[.agg #[.int .i64 k,.string (tx t),.int .u64 u,.slice A n c,.int .u64 o,.int .u64 m,.string (tx g)]] w fun e w' =>e=.returned (.tuple #[.string ⟨#[]⟩,.int .i64 1])∧Below w.heap.size w w':=by
 have H0:=yh (zAI w (.cells #[.int .i64 k,.string (tx t),.int .u64 u,.slice A n c,.int .u64 o,.int .u64 m,.string (tx g)] 37))
 have HB0:=yh ((Below.refl w.heap.size w).alloc (Nat.le_refl _) (.cells #[.int .i64 k,.string (tx t),.int .u64 u,.slice A n c,.int .u64 o,.int .u64 m,.string (tx g)] 37))
 have H1:=yh h
 have HMAY:Hid (k=1→∀ W,Below w.heap.size w W→Calls Tryz.prog 39 #[.int .i64 3,.agg #[.int .i64 k,.string (tx t),.int .u64 u,.slice A n c,.int .u64 o,.int .u64 m,.string (tx g)]] W fun e w' =>e=.returned (.bool false)∧Below W.heap.size W w'):=fun hk W hW =>
  (zHW 3 ⟨k,t,u,o,m,g⟩ A n c l (by omega) hfit W ((H1.out.below hW).more hW.size)).mono fun e w' ⟨ht,hb⟩ =>⟨ht.no (fun hm =>hno ⟨hk,hm⟩),hb⟩
 have q0:=zAA (i:=0) H0.out rfl
 have q1:=zAA (i:=1) H0.out rfl
 have q2:=zAA (i:=2) H0.out rfl
 have q3:=zAA (i:=3) H0.out rfl
 have q4:=zAA (i:=4) H0.out rfl
 have q5:=zAA (i:=5) H0.out rfl
 have q6:=zAA (i:=6) H0.out rfl
 clear h hfit hno hn
 generalize tx t=st at *
 generalize tx g=sg at *
 by_cases hk:k=1
 ·subst hk
  have HM:=yh (HMAY.out rfl)
  clear HMAY
  go_enter Tryz.func17,Tryz.ntmps17
  go_wp2_with fail
  refine (HM.out _ HB0.out).mono ?_
  rintro e w1 ⟨rfl,b1⟩
  have hb1:=HB0.out.trans (b1.mono HB0.out.size)
  clear b1
  go_wp2
  go_ret2
  exact ⟨rfl,hb1⟩
 ·have hd:(k == 1)=false:=by rw [beq_eq_false_iff_ne];exact hk
  have hd2:(k != 1)=true:=by rw [bne_iff_ne];exact hk
  clear HMAY
  go_enter Tryz.func17,Tryz.ntmps17
  go_wp2
  go_ret2
  exact ⟨rfl,HB0.out⟩
theorem zGh (k u o m:Int) (t g:List UInt8) (A:Option Addr) (n c:Nat) (l:List Dp) (hn:n≤5000) (hfit:Fits ⟨k,t,u,o,m,g⟩ l) (hno:¬ (k=1∧MayP 3 ⟨k,t,u,o,m,g⟩ l)) (w:World) (h:zAE w w.heap.size 3 A n (dps l)) :
  Calls Tryz.prog 38 #[.agg #[.int .i64 k,.string (tx t),.int .u64 u,.slice A n c,.int .u64 o,.int .u64 m,.string (tx g)]] w fun e w' =>e=.returned (.tuple #[.string ⟨#[]⟩,.int .i64 1])∧Below w.heap.size w w':=by
 have H0:=yh (zAI w (.cells #[.int .i64 k,.string (tx t),.int .u64 u,.slice A n c,.int .u64 o,.int .u64 m,.string (tx g)] 37))
 have HB0:=yh ((Below.refl w.heap.size w).alloc (Nat.le_refl _) (.cells #[.int .i64 k,.string (tx t),.int .u64 u,.slice A n c,.int .u64 o,.int .u64 m,.string (tx g)] 37))
 have H1:=yh h
 have HMAY:Hid (k=1→∀ W,Below w.heap.size w W→Calls Tryz.prog 63 #[.int .i64 3,.agg #[.int .i64 k,.string (tx t),.int .u64 u,.slice A n c,.int .u64 o,.int .u64 m,.string (tx g)]] W fun e w' =>e=.returned (.bool false)∧Below W.heap.size W w'):=fun hk W hW =>
  (zFm 3 ⟨k,t,u,o,m,g⟩ A n c l (by omega) hfit W ((H1.out.below hW).more hW.size)).mono fun e w' ⟨ht,hb⟩ =>⟨ht.no (fun hm =>hno ⟨hk,hm⟩),hb⟩
 have q0:=zAA (i:=0) H0.out rfl
 have q1:=zAA (i:=1) H0.out rfl
 have q2:=zAA (i:=2) H0.out rfl
 have q3:=zAA (i:=3) H0.out rfl
 have q4:=zAA (i:=4) H0.out rfl
 have q5:=zAA (i:=5) H0.out rfl
 have q6:=zAA (i:=6) H0.out rfl
 clear h hfit hno hn
 generalize tx t=st at *
 generalize tx g=sg at *
 by_cases hk:k=1
 ·subst hk
  have HM:=yh (HMAY.out rfl)
  clear HMAY
  go_enter Tryz.func38,Tryz.ntmps38
  go_wp2_with fail
  refine (HM.out _ HB0.out).mono ?_
  rintro e w1 ⟨rfl,b1⟩
  have hb1:=HB0.out.trans (b1.mono HB0.out.size)
  clear b1
  go_wp2
  go_ret2
  exact ⟨rfl,hb1⟩
 ·have hd:(k == 1)=false:=by rw [beq_eq_false_iff_ne];exact hk
  have hd2:(k != 1)=true:=by rw [bne_iff_ne];exact hk
  clear HMAY
  go_enter Tryz.func38,Tryz.ntmps38
  go_wp2
  go_ret2
  exact ⟨rfl,HB0.out⟩
theorem zEX {a b:List UInt8} (h:a<b):¬ b<a:=fun h2 =>by
 have h3:a≤b:=List.le_of_lt h
 exact h3 h2
theorem zEq (a:List UInt8):¬ a<a:=fun h =>zEX h h
theorem zDY {a b:List UInt8} (h:a<b):a≠b:=fun e =>zEq a (by rw [← e] at h;exact h)
theorem zIm (a b:List UInt8):a<b∨a=b∨b<a:=by
 by_cases h1:a<b
 ·exact .inl h1
 ·by_cases h2:b<a
  ·exact .inr (.inr h2)
  ·exact .inr (.inl (List.le_antisymm (fun h =>h2 h) (fun h =>h1 h)))
theorem zGW {a b c:List UInt8} (h:a<b) (k:b<c):a<c:=List.lt_trans h k
section
variable {α β:Type} (k:α→Int) (t:α→List UInt8)
def rput (x:α):Bool→List α→List α
 | laid,[] =>if laid then [] else [x]
 | laid,s :: S =>(if laid=false∧t x<t s then [x] else [])++((if t s≠t x then [s] else [])++rput x (laid || decide (t x<t s)) S)
def put1 (S:List α) (x:α):List α:=if k x=1 then rput t x false S else if k x=2 then rput t x true S else S
def fo (xs:List α):List α:=xs.foldl (put1 k t) []
def Up (S:List α):Prop:=S.Pairwise fun a b =>t a<t b
def look (S:List α) (u:List UInt8):Option α:=S.find? fun s =>t s == u
variable {k t}
theorem zBi {x y:α}:∀ {S:List α} {laid:Bool},y ∈ rput t x laid S ↔ (laid=false∧y=x)∨(y ∈ S∧t y≠t x)
 | [],laid =>by cases laid <;> simp [rput]
 | s :: S,laid =>by
  unfold rput
  rw [List.mem_append,List.mem_append,zBi (S:=S)]
  by_cases h2:t s=t x
  ·have h1:¬ t x<t s:=by rw [h2];exact zEq _
   rw [if_neg (fun h =>h1 h.2),if_neg (fun h =>h h2),decide_eq_false h1,Bool.or_false]
   constructor
   ·rintro (h | h | h | h)
    ·cases h
    ·cases h
    ·exact .inl h
    ·exact .inr ⟨List.mem_cons_of_mem _ h.1,h.2⟩
   ·rintro (h | ⟨h,h3⟩)
    ·exact .inr (.inr (.inl h))
    ·rcases List.mem_cons.1 h with rfl | h
     ·exact absurd h2 h3
     ·exact .inr (.inr (.inr ⟨h,h3⟩))
  ·rw [if_pos h2]
   have hs:y ∈ [s] ↔ y=s:=List.mem_singleton
   constructor
   ·rintro (h | h | h | h)
    ·by_cases hc:laid=false∧t x<t s
     ·rw [if_pos hc] at h
      exact .inl ⟨hc.1,List.mem_singleton.1 h⟩
     ·rw [if_neg hc] at h
      cases h
    ·rw [hs] at h
     subst h
     exact .inr ⟨List.mem_cons_self,h2⟩
    ·exact .inl ⟨by have:=h.1;rw [Bool.or_eq_false_iff] at this;exact this.1,h.2⟩
    ·exact .inr ⟨List.mem_cons_of_mem _ h.1,h.2⟩
   ·rintro (h | ⟨h,h3⟩)
    ·by_cases h1:t x<t s
     ·rw [if_pos ⟨h.1,h1⟩]
      exact .inl (List.mem_singleton.2 h.2)
     ·exact .inr (.inr (.inl ⟨by rw [h.1,decide_eq_false h1];rfl,h.2⟩))
    ·rcases List.mem_cons.1 h with rfl | h
     ·exact .inr (.inl (hs.2 rfl))
     ·exact .inr (.inr (.inr ⟨h,h3⟩))
theorem zDH {x:α}:∀ {S:List α} {laid:Bool},Up t S→(laid=true→True)→Up t (rput t x laid S)
 | [],laid,_,_ =>by cases laid <;> simp [rput,Up]
 | s :: S,laid,h,_ =>by
  have h0:=List.pairwise_cons.1 h
  unfold rput
  by_cases h1:t x<t s
  ·have h2:t s≠t x:=fun e =>zDY h1 e.symm
   have hs:Up t (s :: rput t x true S):=List.pairwise_cons.2 ⟨fun y hy =>by
    rcases zBi.1 hy with ⟨h,_⟩ | ⟨h,_⟩
    ·cases h
    ·exact h0.1 y h,zDH h0.2 (fun _ =>trivial)⟩
   cases laid
   ·simp [h1,h2]
    refine List.pairwise_cons.2 ⟨fun y hy =>?_,hs⟩
    rcases List.mem_cons.1 hy with rfl | hy
    ·exact h1
    ·exact zGW h1 ((List.pairwise_cons.1 hs).1 y hy)
   ·simpa [h2] using hs
  ·by_cases h2:t s=t x
   ·rw [if_neg (fun h =>h1 h.2),if_neg (fun h =>h h2)]
    exact zDH h0.2 (fun _ =>trivial)
   ·have h3:t s<t x:=by
     rcases zIm (t s) (t x) with h | h | h
     ·exact h
     ·exact absurd h h2
     ·exact absurd h h1
    rw [if_neg (fun h =>h1 h.2),if_pos h2]
    refine List.pairwise_cons.2 ⟨fun y hy =>?_,zDH h0.2 (fun _ =>trivial)⟩
    rcases zBi.1 hy with ⟨_,rfl⟩ | ⟨h,_⟩
    ·exact h3
    ·exact h0.1 y h
theorem zGd {S:List α} {x y:α} (h:y ∈ put1 k t S x):y=x∧k x=1∨y ∈ S:=by
 unfold put1 at h
 split at h
 ·rcases zBi.1 h with ⟨_,h⟩ | ⟨h,_⟩
  ·exact .inl ⟨h,by assumption⟩
  ·exact .inr h
 ·split at h
  ·rcases zBi.1 h with ⟨h,_⟩ | ⟨h,_⟩
   ·cases h
   ·exact .inr h
  ·exact .inr h
theorem zFW:∀ (xs S:List α) {y:α},y ∈ xs.foldl (put1 k t) S→(y ∈ xs∧k y=1)∨y ∈ S
 | [],_,_,h =>.inr h
 | x :: xs,S,y,h =>by
  rcases zFW xs _ h with h | h
  ·exact .inl ⟨List.mem_cons_of_mem _ h.1,h.2⟩
  ·rcases zGd h with ⟨rfl,h2⟩ | h
   ·exact .inl ⟨List.mem_cons_self,h2⟩
   ·exact .inr h
theorem zGF {xs:List α} {y:α} (h:y ∈ fo k t xs):y ∈ xs∧k y=1:=by
 rcases zFW xs [] h with h | h
 ·exact h
 ·cases h
theorem zEd {x:α}:∀ {S:List α} {laid:Bool},(rput t x laid S).length≤S.length+(if laid then 0 else 1)
 | [],laid =>by cases laid <;> simp [rput]
 | s :: S,laid =>by
  unfold rput
  have ih:=zEd (x:=x) (S:=S) (laid:=laid || decide (t x<t s))
  rw [List.length_append,List.length_append,List.length_cons]
  have h1:(if t s≠t x then [s] else []).length≤1:=by split <;> simp
  generalize (if t s≠t x then [s] else []).length=p at *
  generalize (rput t x (laid || decide (t x<t s)) S).length=q at *
  cases laid with
  | true =>
   simp only [Bool.true_or,if_true] at ih
   rw [if_neg (fun h =>by cases h.1)]
   simp only [List.length_nil,if_true]
   omega
  | false =>
   by_cases hc:t x<t s
   ·simp only [decide_eq_true hc,Bool.or_true,if_true] at ih
    rw [if_pos ⟨rfl,hc⟩]
    simp only [List.length_singleton,Bool.false_eq_true,if_false]
    omega
   ·simp only [decide_eq_false hc,Bool.or_false,Bool.false_eq_true,if_false] at ih
    rw [if_neg (fun h =>hc h.2)]
    simp only [List.length_nil,Bool.false_eq_true,if_false]
    omega
theorem zJs (S:List α) (x:α):(put1 k t S x).length≤S.length+1:=by
 unfold put1
 split
 ·have:=zEd (t:=t) (x:=x) (S:=S) (laid:=false)
  simpa using this
 ·split
  ·have:=zEd (t:=t) (x:=x) (S:=S) (laid:=true)
   simp at this
   omega
  ·omega
theorem zFV:∀ (xs S:List α),(xs.foldl (put1 k t) S).length≤S.length+xs.length
 | [],S =>by simp
 | x :: xs,S =>by
  have h1:=zFV xs (put1 k t S x)
  have h2:=zJs (k:=k) (t:=t) S x
  rw [List.foldl_cons,List.length_cons]
  omega
theorem zIY (xs:List α):(fo k t xs).length≤xs.length:=by
 have:=zFV (k:=k) (t:=t) xs []
 simpa [fo] using this
theorem zLb {S:List α} (h:Up t S) {a b:α} (ha:a ∈ S) (hb:b ∈ S) (e:t a=t b):a=b:=by
 induction S with
 | nil =>cases ha
 | cons s S ih =>
  have h0:=List.pairwise_cons.1 h
  rcases List.mem_cons.1 ha with ha2 | ha2
  ·rcases List.mem_cons.1 hb with hb2 | hb2
   ·rw [ha2,hb2]
   ·exact absurd e (by rw [ha2];exact zDY (h0.1 b hb2))
  ·rcases List.mem_cons.1 hb with hb2 | hb2
   ·exact absurd e.symm (by rw [hb2];exact zDY (h0.1 a ha2))
   ·exact ih h0.2 ha2 hb2
theorem zDt {S:List α} {u:List UInt8} {y:α} (h:look t S u=some y):y ∈ S∧t y=u :=
 ⟨List.mem_of_find?_eq_some h,by have:=List.find?_some h;simpa using this⟩
theorem zHV {S:List α} (h:Up t S) {y:α} (hy:y ∈ S):look t S (t y)=some y:=by
 cases e:look t S (t y) with
 | none =>
  have:=List.find?_eq_none.1 e y hy
  simp at this
 | some z =>
  obtain ⟨h1,h2⟩:=zDt e
  rw [zLb h h1 hy h2]
theorem zFf {S:List α} {u:List UInt8}:look t S u=none ↔ ∀ y ∈ S,t y≠u:=by
 unfold look
 rw [List.find?_eq_none]
 simp
theorem zGS {S:List α} (h:Up t S) {u:List UInt8} {y:α}:look t S u=some y ↔ y ∈ S∧t y=u :=
 ⟨zDt,fun ⟨h1,h2⟩ =>h2▸zHV h h1⟩
theorem zJp {S:List α} (h:Up t S) (x:α) (u:List UInt8):look t (rput t x false S) u=if u=t x then some x else look t S u:=by
 have hu:=zDH (x:=x) (laid:=false) h (fun _ =>trivial)
 by_cases e:u=t x
 ·subst e
  rw [if_pos rfl]
  exact (zGS hu).2 ⟨zBi.2 (.inl ⟨rfl,rfl⟩),rfl⟩
 ·rw [if_neg e]
  cases e2:look t S u with
  | none =>
   refine zFf.2 fun y hy e3 =>?_
   rcases zBi.1 hy with ⟨_,rfl⟩ | ⟨h1,_⟩
   ·exact e e3.symm
   ·exact zFf.1 e2 y h1 e3
  | some y =>
   obtain ⟨h1,h2⟩:=zDt e2
   exact (zGS hu).2 ⟨zBi.2 (.inr ⟨h1,by rw [h2];exact e⟩),h2⟩
section
variable {k':β→Int} {t':β→List UInt8} (f:α→β) (hk:∀ x,k' (f x)=k x) (ht:∀ x,t' (f x)=t x)
include hk ht
omit hk in
end
theorem zLs {S:List α} (h:Up t S) {i:Nat} {y:α} (hy:S[i]? = some y):look t S (t y)=some y:=zHV h (List.mem_of_getElem? hy)
end
structure Rw where
 r:Rc
 A:Option Addr
 n:Nat
 c:Nat
 l:List Dp
def Rw.cells (x:Rw):List Value:=[.int .i64 x.r.kind,.string (tx x.r.target),.int .u64 x.r.rule,.slice x.A x.n x.c,.int .u64 x.r.out,.int .u64 x.r.time,.string (tx x.r.tag)]
def rws (xs:List Rw):List Value:=xs.flatMap Rw.cells
def Rw.say (x:Rw):Rc×List Dp:=(x.r,x.l)
theorem zBg (x:Rw):x.cells.length=7:=rfl
theorem zDc (x:Rw) (xs:List Rw):rws (x :: xs)=x.cells++rws xs:=rfl
theorem zHc (xs ys:List Rw):rws (xs++ys)=rws xs++rws ys:=List.flatMap_append
theorem zEG:∀ xs:List Rw,(rws xs).length=xs.length * 7
 | [] =>rfl
 | x :: xs =>by rw [zDc,List.length_append,zEG xs,zBg,List.length_cons];omega
theorem zJC:∀ (xs:List Rw) (i:Nat) (x:Rw),xs[i]? = some x→∀ k u,x.cells[k]? = some u→(rws xs)[i * 7+k]? = some u
 | [],i,x,h =>by simp at h
 | a :: xs,0,x,h =>fun k u hu =>by
  obtain rfl:a=x:=by simpa using h
  have hk:k<7:=(List.getElem?_eq_some_iff.1 hu).1
  rw [zDc,List.getElem?_append_left (by rw [zBg];omega),Nat.zero_mul,Nat.zero_add]
  exact hu
 | a :: xs,i+1,x,h =>fun k u hu =>by
  rw [zDc,List.getElem?_append_right (by rw [zBg];omega),zBg,show (i+1) * 7+k - 7=i * 7+k by omega]
  exact zJC xs i x (by simpa using h) k u hu
theorem zGi:∀ (xs:List Rw) (j:Nat) (u:Value),(rws xs)[j]? = some u→∃ x,xs[j / 7]? = some x∧x.cells[j % 7]? = some u
 | [],j,u,h =>by simp [rws] at h
 | a :: xs,j,u,h =>by
  rw [zDc] at h
  rcases Nat.lt_or_ge j 7 with hlt | hge
  ·rw [List.getElem?_append_left (by rw [zBg];exact hlt)] at h
   exact ⟨a,by rw [show j / 7=0 by omega];rfl,by rw [show j % 7=j by omega];exact h⟩
  ·rw [List.getElem?_append_right (by rw [zBg];exact hge),zBg] at h
   obtain ⟨x,h1,h2⟩:=zGi xs (j - 7) u h
   exact ⟨x,by rw [show j / 7=(j - 7) / 7+1 by omega];simpa using h1,by rw [show j % 7=(j - 7) % 7 by omega];exact h2⟩
theorem zBQ (xs:List Rw):∀ u ∈ rws xs,u.oneCell'=true:=by
 intro u hu
 obtain ⟨x,_,hx⟩:=List.mem_flatMap.1 hu
 simp only [Rw.cells,List.mem_cons,List.not_mem_nil,or_false] at hx
 rcases hx with rfl | rfl | rfl | rfl | rfl | rfl | rfl <;> rfl
theorem zCI (a:Addr) (m k:Nat):a.add (m+(k+1))=⟨(a.add m).block,(a.add m).off+(k+1),none⟩:=by
 unfold Addr.add
 by_cases h:m=0
 ·subst h;simp
 ·simp [h,Nat.add_assoc]
theorem zAn {W:World} {B:Nat} {A:Option Addr} {n:Nat} {xs:List Rw} (h:zAE W B 7 A n (rws xs)) (i:Nat) (x:Rw) (hx:xs[i]? = some x) :
  ∃ ad:Addr,A=some ad∧ad.block<B∧W.cell? (ad.add (i * 7))=some (.int .i64 x.r.kind)∧W.cell? ⟨(ad.add (i * 7)).block,(ad.add (i * 7)).off+1,none⟩=some (.string (tx x.r.target))∧W.cell? ⟨(ad.add (i * 7)).block,(ad.add (i * 7)).off+2,none⟩=some (.int .u64 x.r.rule)∧W.cell? ⟨(ad.add (i * 7)).block,(ad.add (i * 7)).off+3,none⟩=some (.slice x.A x.n x.c)∧W.cell? ⟨(ad.add (i * 7)).block,(ad.add (i * 7)).off+4,none⟩=some (.int .u64 x.r.out)∧W.cell? ⟨(ad.add (i * 7)).block,(ad.add (i * 7)).off+5,none⟩=some (.int .u64 x.r.time)∧W.cell? ⟨(ad.add (i * 7)).block,(ad.add (i * 7)).off+6,none⟩=some (.string (tx x.r.tag)):=by
 have hn:0<n:=by
  have h1:=h.1
  rw [zEG] at h1
  have:=(List.getElem?_eq_some_iff.1 hx).1
  omega
 obtain ⟨ad,rfl,hb,hc⟩:=h.2 hn
 have hat:=fun k u hu =>hc _ _ (zJC xs i x hx k u hu)
 refine ⟨ad,rfl,hb,hat 0 _ rfl,?_,?_,?_,?_,?_,?_⟩
 ·rw [← zCI ad (i * 7) 0];exact hat 1 _ rfl
 ·rw [← zCI ad (i * 7) 1];exact hat 2 _ rfl
 ·rw [← zCI ad (i * 7) 2];exact hat 3 _ rfl
 ·rw [← zCI ad (i * 7) 3];exact hat 4 _ rfl
 ·rw [← zCI ad (i * 7) 4];exact hat 5 _ rfl
 ·rw [← zCI ad (i * 7) 5];exact hat 6 _ rfl
def Recs (w:World) (B:Nat) (A:Option Addr) (n:Nat) (xs:List Rw):Prop :=
 zAE w B 7 A n (rws xs)∧∀ x ∈ xs,zAE w B 3 x.A x.n (dps x.l)∧(x.A=none→x.c=0)
theorem Recs.len {w:World} {B:Nat} {A:Option Addr} {n:Nat} {xs:List Rw} (h:Recs w B A n xs):xs.length=n:=by
 have:=h.1.1
 rw [zEG] at this
 omega
theorem Recs.more {w:World} {B B':Nat} {A:Option Addr} {n:Nat} {xs:List Rw} (h:Recs w B A n xs) (hB:B≤B'):Recs w B' A n xs :=
 ⟨h.1.more hB,fun x hx =>⟨(h.2 x hx).1.more hB,(h.2 x hx).2⟩⟩
theorem Recs.below {w w':World} {B:Nat} {A:Option Addr} {n:Nat} {xs:List Rw} (h:Recs w B A n xs) (hb:Below B w w'):Recs w' B A n xs :=
 ⟨h.1.below hb,fun x hx =>⟨(h.2 x hx).1.below hb,(h.2 x hx).2⟩⟩
theorem Recs.nil (w:World) (B:Nat) (A:Option Addr):Recs w B A 0 []:=⟨⟨by simp [rws],fun h =>absurd h (by omega)⟩,by simp⟩
theorem zIR {w w':World} {base b n c k:Nat} {A:Option Addr} {l:List Dp} {v:Value} {xs:List Value} (hz:Deps w base A n c l) (hv:w.ownsRow b 37 7 v k xs) (hg:w.grownBy w' v.ownBlock):Deps w' base A n c l :=
 ⟨zJq hz.1 (zIt hv hz.1 (by decide)) hg,hz.2⟩
theorem zHj {w w':World} {base n c:Nat} {A:Option Addr} {l:List Dp} (h:Deps w base A n c l) (hb:Below w.heap.size w w'):Deps w' base A n c l:=⟨zAb h.1 hb,h.2⟩
theorem zDP {w:World} {base n c:Nat} {A:Option Addr} {l:List Dp} (h:Deps w base A n c l) (o:Obj):Deps (w.alloc o) base A n c l:=⟨World.ownsRow.alloc h.1 o,h.2⟩
theorem zIS {w:World} {base base' n c:Nat} {A:Option Addr} {l:List Dp} (h:Deps w base A n c l) (hb:base'≤base):Deps w base' A n c l:=⟨zCA h.1 hb,h.2⟩
theorem zBD (w:World) (x:Rw):zAE (w.alloc (.cells #[.int .i64 x.r.kind,.string (tx x.r.target),.int .u64 x.r.rule,.slice x.A x.n x.c,.int .u64 x.r.out,.int .u64 x.r.time,.string (tx x.r.tag)] 37)) (w.heap.size+1) 7 (some ⟨w.heap.size,0,none⟩) 1 (rws [x]):=by
 have hh:=zAI w (.cells #[.int .i64 x.r.kind,.string (tx x.r.target),.int .u64 x.r.rule,.slice x.A x.n x.c,.int .u64 x.r.out,.int .u64 x.r.time,.string (tx x.r.tag)] 37)
 refine ⟨rfl,fun _ =>⟨_,rfl,by show w.heap.size<_;omega,fun j u hu =>?_⟩⟩
 have hj:j<7:=(List.getElem?_eq_some_iff.1 hu).1
 have h2:=zAA (i:=j) hh (by simpa [rws,Rw.cells] using hu)
 rw [show (⟨w.heap.size,0,none⟩:Addr).add j=⟨w.heap.size,j,none⟩ from by unfold Addr.add;split <;> simp_all]
 exact h2
theorem zGg (W:World) (ad:Addr) (P:Rw→Prop):∀ n:Nat,(∀ i,i<n→∃ x:Rw,P x∧∀ k u,x.cells[k]? = some u→W.cell? (ad.add (i * 7+k))=some u) →
  ∃ xs:List Rw,xs.length=n∧(∀ x ∈ xs,P x)∧∀ i x,xs[i]? = some x→∀ k u,x.cells[k]? = some u→W.cell? (ad.add (i * 7+k))=some u
 | 0,_ =>⟨[],rfl,by simp,by simp⟩
 | n+1,h =>by
  obtain ⟨ts,h1,h2,h3⟩:=zGg W ad P n (fun i hi =>h i (by omega))
  obtain ⟨t,g1,g2⟩:=h n (by omega)
  refine ⟨ts++[t],by simp [h1],?_,?_⟩
  ·intro u hu
   rcases List.mem_append.1 hu with hu | hu
   ·exact h2 u hu
   ·have:u=t:=by simpa using hu
    rw [this];exact g1
  ·intro i u hu
   rcases Nat.lt_or_ge i ts.length with hlt | hge
   ·rw [List.getElem?_append_left hlt] at hu
    exact h3 i u hu
   ·rw [List.getElem?_append_right hge] at hu
    have hi:i=n:=by
     rcases Nat.lt_or_ge (i - ts.length) 1 with h4 | h4
     ·omega
     ·rw [List.getElem?_eq_none (by simpa using h4)] at hu;cases hu
    subst hi
    rw [h1,Nat.sub_self] at hu
    have:t=u:=by simpa using hu
    rw [← this];exact g2
def Rw.val (x:Rw):Value:=rcv x.r x.A x.n x.c
def Rw.t (x:Rw):List UInt8:=x.r.target
def Rw.k (x:Rw):Int:=x.r.kind
def zCS (D:DataW Value) (S:List Rw):Prop:=Up Rw.t S∧∀ u z,D.atKey (.string u) z=match look Rw.t S u with | some x =>.held x.val | none =>z
theorem zCS.start:zCS (.map []) []:=⟨List.Pairwise.nil,fun _ _ =>rfl⟩
theorem zCS.has {D:DataW Value} {S:List Rw} (h:zCS D S) (u:List UInt8):Maps.has D (.string u)=(look Rw.t S u).isSome:=by
 have h1:=h.2 u
 cases e:look Rw.t S u with
 | none =>simp only [e] at h1;exact Maps.has_false_of_atKey h1
 | some x =>simp only [e] at h1;exact Maps.has_true_of_atKey h1
theorem zCS.put {D:DataW Value} {S:List Rw} (h:zCS D S) (hD:Maps.IsMap D) (x:Rw):zCS (D.put (.string x.t) (.held x.val)) (rput Rw.t x false S):=by
 refine ⟨zDH h.1 (fun _ =>trivial),fun u z =>?_⟩
 rw [zJp h.1]
 by_cases e:u=x.t
 ·subst e
  rw [if_pos rfl]
  exact Maps.atKey_put_same hD (show WideAt.IsKeyLit (.string x.t) from trivial) _ _
 ·rw [if_neg e,Maps.atKey_put_other (fun e2 =>e (by injection e2))]
  exact h.2 u z
theorem zCS.at {D:DataW Value} {S:List Rw} (h:zCS D S) {i:Nat} {x:Rw} (hx:S[i]? = some x) (z:DataW Value):D.atKey (.string x.t) z=.held x.val:=by
 rw [h.2,zLs h.1 hx]
theorem zBB {B:Nat} {w w':World} (h:Below B w w') (q:Nat):Below B w (w'.drewN q):=⟨h.os,h.tape,h.output,h.size,h.block⟩
end Go.Proofs.YtgoklhoaedceaaaGreatDoor
