/- Texts of one proof. -/
import Derived.Test.YtoclafdidjpndaaDoorMx29
set_option maxRecDepth 100000
set_option maxHeartbeats 8000000
namespace Go.Proofs.YtoclafdidjpndaaDoor
open Go.RowKit
def zCB (v:Nat) (xs:List Rw) (m:Nat) (W:World) (e:Ending) (w':World):Prop :=
 (∃ A3 E3 c3 d3 zs,e=.returned (.tuple #[.agg #[.int .i64 (v:Int),.slice A3 m c3,.slice E3 m d3,.int .i64 (eo (v:Int) xs m:Int)],.int .i64 0])∧zs.map Rw.say=(xs.take m).map Rw.say∧(∀ z ∈ zs,z.n≤1000000)∧Recs w' w'.heap.size A3 m zs∧w'.ownsRow W.heap.size 3 1 (.slice E3 m d3) m ((List.range m).map fun i =>inv (eo (v:Int) xs (i+1))))∧Below W.heap.size W w'
theorem zEn (v:Nat) (xs:List Rw) (hm:zAo (v:Int) xs) (hf:∀ x ∈ xs,Fits x.r x.l) (hl60:∀ x ∈ xs,x.l.length≤1000000) (h30:xs.length≤30) (m j:Nat) (hmn:m≤xs.length) (hj:(zAE (v:Int) [] (xs.take m)).length≤j) (hj2:m<xs.length→j<(zAE (v:Int) [] (xs.take (m+1))).length)
  (bs:List UInt8) (K:Nat) (hvg:vg bs=(v,0)) (hfr:frun (K+1) 8 bs=told 8 ((zAE (v:Int) [] xs).take j)) (A1:Option Addr) (c1:Nat) (hc1:K≤c1) (hK:K≤1073741824) (W:World) (hl:Laid W) (hr:zAD W W.heap.size 1 A1 K (bs.map bv)) :
  Calls Tryd.prog 8 #[.slice A1 K c1] W (zCB v xs m W):=by
 obtain ⟨f1,f2,f3,f4⟩:=zCT hm h30
 have hpl:((zAE (v:Int) [] xs).take j).length≤1000:=by rw [List.length_take];omega
 obtain ⟨ys,hys⟩:=zJr (v:Int) ((zAE (v:Int) [] xs).take j) hpl (fun s hs =>by have:=(f4 s (List.mem_of_mem_take hs)).2;omega)
 obtain ⟨r1,r2,r3,r4⟩:=zLD hm hf h30 j m hmn hj hj2 hys
 have r5:=zKs hmn hj r1 r3
 have r6:=zLb hmn hj r1 r4
 obtain ⟨e9,he9,hst⟩:=hys.stop
 refine (zMW A1 K c1 bs hc1 hK v hvg (told 8 ((zAE (v:Int) [] xs).take j)) hfr.symm (by rw [zKS];exact hpl) ((zAE (v:Int) [] xs).take j) (zGy _ 8).symm ys (by omega) (fun i x hx =>⟨(hys.chn i x hx).lt,(hys.chn i x hx).le,(hys.chn i x hx).up⟩) e9 (by omega) hst W hl hr).mono ?_
 rintro e w1 ⟨⟨A3,E3,c3,d3,zs,rfl,hri⟩,hb1⟩
 obtain ⟨q1,_⟩:=hri.read rfl
 have q2:=hri.ends
 have hsay:zs.map Rw.say=(xs.take m).map Rw.say:=by rw [hri.say,r2]
 have q3:=zNR hri (fun x hx =>by
  have h2:sayR x ∈ (xs.take m).map Rw.say:=by rw [← r2];exact List.mem_map_of_mem hx
  obtain ⟨z,hz,e⟩:=List.mem_map.1 h2
  have h4:z.l=x.2.1:=congrArg Prod.snd e
  rw [← h4]
  exact hl60 z (List.mem_of_mem_take hz))
 rw [r6] at q2
 rw [r1] at q1 q2 ⊢
 rw [r5]
 exact ⟨⟨A3,E3,c3,d3,zs,rfl,hsay,q3,q1,q2⟩,hb1⟩
theorem zMs {v:Nat} (h:1≤v∧v≤3) (xs:List Rw) (k:Nat) (hk:8≤k):vg ((zAq v (v:Int) xs).take k)=(v,0):=by
 unfold zAq
 rw [List.take_append,zAz,List.take_of_length_le (by rw [zAz];exact hk)]
 exact zIP v h _
theorem zLZ {bs:List UInt8} (h:bs.length<8):vg bs=(0,2):=by rw [vg,if_pos h]
theorem zGb (v:Nat) (xs:List Rw):(zAq v (v:Int) xs).length=eo (v:Int) xs xs.length:=by
 unfold zAq eo
 rw [List.length_append,zAz,List.take_length]
theorem zDd {w:World} {B:Nat} {A:Option Addr} {n k:Nat} {xs:List Rw} (h:Recs w B A n xs) (hk:k≤n):Recs w B A k (xs.take k):=by
 have hl:=h.len
 refine ⟨⟨by rw [zDI,List.length_take];congr 1;omega,fun h0 =>?_⟩,fun x hx =>h.2 x (List.mem_of_mem_take hx)⟩
 obtain ⟨ad,rfl,hb,hc⟩:=h.1.2 (by omega)
 refine ⟨ad,rfl,hb,fun j u hu =>hc j u ?_⟩
 have e:rws xs=rws (xs.take k)++rws (xs.drop k):=by rw [← zHr,List.take_append_drop]
 rw [e,List.getElem?_append_left (List.getElem?_eq_some_iff.1 hu).1]
 exact hu
theorem zBq {W v:World} {b i:Nat} (hk:∀ j:Nat,j<W.heap.size→v.heap[j]? = W.heap[j]?) (hb:b<W.heap.size):v.cell? ⟨b,i,none⟩=W.cell? ⟨b,i,none⟩:=by
 unfold World.cell?
 rw [hk _ hb]
end Go.Proofs.YtoclafdidjpndaaDoor
