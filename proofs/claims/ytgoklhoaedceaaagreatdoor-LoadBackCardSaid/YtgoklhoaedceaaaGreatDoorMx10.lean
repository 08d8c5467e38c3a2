/- Texts of one proof. -/
import Derived.BigQuiet
import Derived.Deep.QuietTactic
import Derived.Test.YtgoklhoaedceaaaGreatDoorMx9
set_option maxRecDepth 100000
set_option maxHeartbeats 8000000
namespace Go.Proofs.YtgoklhoaedceaaaGreatDoor
open Go.RowKit
theorem zAl.below {w w':World} (h:zAl w) (hb:Below w.heap.size w w'):zAl w':=by
 unfold zAl Lib.TabIs World.var? at *
 cases hg:Tryz.prog.globalNamed "internal/strconv.uint64pow10" with
 | none =>simp [hg] at h
 | some g =>
  simp only [hg,Option.bind_some] at h ⊢
  have hlt:g<w.heap.size:=by
   rcases Nat.lt_or_ge g w.heap.size with h' | h'
   ·exact h'
   ·rw [Array.getElem?_eq_none h'] at h;simp at h
  rw [hb.block g hlt]
  exact h
def zAe (d:Dp):List (List UInt8):=[eput d.name,zBE d]
def zAi (t:List UInt8) (zu zo zm:Nat) (g:List UInt8):List (List UInt8):=[eput t,hexl zu 16,hexl zo 16,Lib.decDigits zm,eput g]
def zAu (t:List UInt8) (zu zo zm:Nat) (g:List UInt8) (l:List Dp):List (List UInt8):=zAi t zu zo zm g++l.flatMap zAe
theorem zCr:∀ l:List Dp,(l.flatMap zAe).length=2 * l.length
 | [] =>rfl
 | d :: l =>by rw [List.flatMap_cons,List.length_append,zCr l];simp [zAe];omega
theorem zEi {l:List Dp} {i:Nat} {d:Dp} (h:l[i]? = some d):(l.take (i+1)).flatMap zAe=(l.take i).flatMap zAe++zAe d:=by
 rw [List.take_add_one,h,List.flatMap_append];simp
theorem zFY (d:Dp):(zBE d).length≤17:=by unfold zBE;rw [List.length_append,zAr];split <;> simp
theorem zEz {z:Nat} (h:z<18446744073709551616):(Lib.decDigits z).length≤30:=by
 by_cases h1:1≤z
 ·have h3:=Lib.numDigits_eq z h1 h
  rw [Lib.decDigits_length]
  split at h3 <;> omega
 ·rw [zAY (by omega)];simp
theorem zDW {t g:List UInt8} {zu zo zm:Nat} {l:List Dp} (hm:zm<18446744073709551616) (ht:t.length≤300) (hg:g.length≤300) (hl:∀ d ∈ l,d.name.length≤300):∀ x ∈ zAu t zu zo zm g l,x.length≤2000:=fun x hx =>by
 have p1:=zBX t
 have p2:=zBX g
 rcases List.mem_append.1 hx with hx | hx
 ·simp only [zAi,List.mem_cons,List.not_mem_nil,or_false] at hx
  rcases hx with rfl | rfl | rfl | rfl | rfl
  ·omega
  ·rw [zAr];omega
  ·rw [zAr];omega
  ·have:=zEz hm;omega
  ·omega
 ·obtain ⟨d,hd,hx⟩:=List.mem_flatMap.1 hx
  simp only [zAe,List.mem_cons,List.not_mem_nil,or_false] at hx
  have p3:=zBX d.name
  have p4:=hl d hd
  have p5:=zFY d
  rcases hx with rfl | rfl <;> omega
theorem zEN (W:World) (e:TypeId) (ts:List (List UInt8)):zAE (W.alloc (.cells (ts.map tsv).toArray e)) (W.heap.size+1) 1 (some ⟨W.heap.size,0,none⟩) ts.length (ts.map tsv) :=
 ⟨by simp,fun _ =>⟨_,rfl,by simp,fun j u hu =>by
  rw [show (⟨W.heap.size,0,none⟩:Addr).add j=⟨W.heap.size,j,none⟩ from by unfold Addr.add;split <;> simp_all]
  simp only [World.cell?,World.alloc,Array.getElem?_push_size]
  simpa using hu⟩⟩
def zKM (w:World) (B:Nat) (o:Obj) (g:Nat) (hd:List (List UInt8)) (l:List Dp) (idx:Value) (wr:World):Prop :=
 ∃ i:Nat,i≤l.length∧idx=.int .i64 (i:Int)∧Gx wr B g (hd++(l.take i).flatMap zAe)∧Below w.heap.size w wr∧wr.heap[w.heap.size]? = some o
theorem zJZ (zu zo zm:Nat) (t g:List UInt8) (A:Option Addr) (n c:Nat) (l:List Dp) (hu:zu<18446744073709551616) (ho:zo<18446744073709551616) (hm:zm<18446744073709551616) (hds:∀ d ∈ l,0≤d.hash∧d.hash<18446744073709551616)
  (hmay:MayP 3 ⟨1,t,(zu:Int),(zo:Int),(zm:Int),g⟩ l) (hfit:Fits ⟨1,t,(zu:Int),(zo:Int),(zm:Int),g⟩ l) (hsm:zBF ⟨1,t,(zu:Int),(zo:Int),(zm:Int),g⟩ l) (w:World) (hp:zAl w) (h:zAE w w.heap.size 3 A n (dps l)) :
  Calls Tryz.prog 17 #[.agg #[.int .i64 1,.string (tx t),.int .u64 (zu:Int),.slice A n c,.int .u64 (zo:Int),.int .u64 (zm:Int),.string (tx g)]] w fun e w' =>e=.returned (.tuple #[.string (tx (zAU (zAu t zu zo zm g l))),.int .i64 0])∧Below w.heap.size w w':=by
 have HL:Hid (l.length=n):=by have:=h.1;rw [zAd] at this;show _=_;omega
 obtain ⟨hs1,hs2,hs3,hs4⟩:=hsm
 simp only at hs3 hs4
 have hn60:n≤60:=by rw [← HL.out];exact hs2
 have H1:=yh h
 have HS1:=yh hs1
 have HDS:=yh hds
 have HP:=yh hp
 have H0:=yh (zAI w (.cells #[.int .i64 1,.string (tx t),.int .u64 (zu:Int),.slice A n c,.int .u64 (zo:Int),.int .u64 (zm:Int),.string (tx g)] 37))
 have HB0:=yh ((Below.refl w.heap.size w).alloc (Nat.le_refl _) (.cells #[.int .i64 1,.string (tx t),.int .u64 (zu:Int),.slice A n c,.int .u64 (zo:Int),.int .u64 (zm:Int),.string (tx g)] 37))
 have HMAY:Hid (∀ W,Below w.heap.size w W→Calls Tryz.prog 39 #[.int .i64 3,.agg #[.int .i64 1,.string (tx t),.int .u64 (zu:Int),.slice A n c,.int .u64 (zo:Int),.int .u64 (zm:Int),.string (tx g)]] W fun e w' =>e=.returned (.bool true)∧Below W.heap.size W w'):=fun W hW =>
  (zHW 3 ⟨1,t,(zu:Int),(zo:Int),(zm:Int),g⟩ A n c l (by omega) hfit W ((H1.out.below hW).more hW.size)).mono fun e w' ⟨ht,hb⟩ =>⟨ht.yes hmay,hb⟩
 have HPT:=yh (fun W =>zDQ t (by omega) W)
 have HPG:=yh (fun W =>zDQ g (by omega) W)
 have hxs:∀ z:Nat,z<18446744073709551616→∀ W,Calls Tryz.prog 31 #[.int .u64 (z:Int)] W fun e w' =>e=.returned (.string (tx (hexl z 16)))∧Below W.heap.size W w':=fun z hz W =>by
  have h:=zFD (BitVec.ofNat 64 z) W
  rw [zCi (show z<top by unfold top;omega),BitVec.toNat_ofNat,Nat.mod_eq_of_lt (show z<2 ^ 64 by omega)] at h
  exact h
 have HXU:=yh (hxs zu hu)
 have HXO:=yh (hxs zo ho)
 have HFM:=yh (fun W h =>zKi zm hm W h)
 have HWS:Hid (zAi t zu zo zm g=[eput t,hexl zu 16,hexl zo 16,Lib.decDigits zm,eput g]):=by show _=_;rfl
 have HRW:=yh (fun W =>zEN W 9 [eput t,hexl zu 16,hexl zo 16,Lib.decDigits zm,eput g])
 have HLL:=yh (zDW (zu:=zu) (zo:=zo) hm hs3 hs4 hs1)
 have HLW:Hid (zAu t zu zo zm g l=zAi t zu zo zm g++l.flatMap zAe):=by show _=_;rfl
 obtain ⟨W5,hW5⟩:∃ W5,W5=[eput t,hexl zu 16,hexl zo 16,Lib.decDigits zm,eput g]:=⟨_,rfl⟩
 have hW5l:W5.length=5:=by rw [hW5];rfl
 have HW5L:=yh hW5l
 have HW5:Hid (W5.map tsv=[.string (tx (eput t)),.string (tx (hexl zu 16)),.string (tx (hexl zo 16)),.string (tx (Lib.decDigits zm)),.string (tx (eput g))]):=by show _=_;rw [hW5];rfl
 rw [← hW5] at HWS HRW
 generalize tx (eput t)=s1 at *
 generalize tx (hexl zu 16)=s2 at *
 generalize tx (hexl zo 16)=s3 at *
 generalize tx (Lib.decDigits zm)=s4 at *
 generalize tx (eput g)=s5 at *
 generalize zAu t zu zo zm g l=lws at *
 generalize zAi t zu zo zm g=hws at *
 generalize tx t=st at *
 generalize tx g=sg at *
 obtain ⟨jl,hjl0⟩:∃ jl,jl=tx (zAU lws):=⟨_,rfl⟩
 rw [← hjl0]
 have HJL:=yh hjl0
 clear hjl0
 have q0:=zAA (i:=0) H0.out rfl
 have q1:=zAA (i:=1) H0.out rfl
 have q2:=zAA (i:=2) H0.out rfl
 have q3:=zAA (i:=3) H0.out rfl
 have q4:=zAA (i:=4) H0.out rfl
 have q5:=zAA (i:=5) H0.out rfl
 have q6:=zAA (i:=6) H0.out rfl
 clear h hp hds hs1 hs2 hs3 hs4 hmay hfit hW5 hW5l hxs
 go_enter Tryz.func17,Tryz.ntmps17
 go_wp2_with fail
 refine (HMAY.out _ HB0.out).mono ?_
 rintro e w1 ⟨rfl,b1⟩
 have hr1:=(b1.block w.heap.size (Array.getElem?_eq_some_iff.1 H0.out).1).trans H0.out
 have HR1:=yh hr1
 have HB1:=yh (HB0.out.trans (b1.mono HB0.out.size))
 have HZ1:Hid (w.heap.size<w1.heap.size):=(Array.getElem?_eq_some_iff.1 hr1).1
 have HG4:Hid (Gx (w1.alloc (.cells #[.slice none 0 0] 83)) w1.heap.size w1.heap.size []):=⟨Nat.le_refl _,_,zAI w1 _,World.ownsRow_nil _ _ _ _⟩
 have HB4:=yh (HB1.out.alloc HB1.out.size (.cells #[.slice none 0 0] 83))
 have hr4:=(Below.heap_alloc w1 (.cells #[.slice none 0 0] 83) w.heap.size HZ1.out).trans hr1
 have HR4:=yh hr4
 clear b1 hr1 hr4 q0 q1 q2 q3 q4 q5 q6
 go_wp2_with fail
 obtain ⟨W4,hW4⟩:∃ W4,W4=w1.alloc (.cells #[.slice none 0 0] 83):=⟨_,rfl⟩
 have hG4:Gx W4.drew w1.heap.size w1.heap.size []:=by rw [hW4];exact HG4.out
 have hB4:Below w.heap.size w W4.drew:=by rw [hW4];exact HB4.out.drew
 have hr4:W4.drew.heap[w.heap.size]? = some (.cells #[.int .i64 1,.string st,.int .u64 (zu:Int),.slice A n c,.int .u64 (zo:Int),.int .u64 (zm:Int),.string sg] 37 (0,0)):=by rw [hW4];exact HR4.out
 rw [← hW4]
 have HG5:=yh hG4
 have HB5:=yh hB4
 have HR5:=yh hr4
 clear hG4 hB4 hr4 hW4
 refine wp_region_held (S:=fun W:World =>W.heap[w.heap.size]? = some (.cells #[.int .i64 1,.string st,.int .u64 (zu:Int),.slice A n c,.int .u64 (zo:Int),.int .u64 (zm:Int),.string sg] 37 (0,0))) (by kernel_rfl) ?_
 refine zAB 0 (.pointer (some ⟨w.heap.size,1,none⟩)) rfl (by kernel_rfl) (by kernel_rfl) (by kernel_rfl) (fun _ _ _ h =>h) (by kernel_rfl) HR5.out (fun _ _ =>by kernel_rfl) ?_
 refine zAB 1 (.string st) rfl (by kernel_rfl) (by kernel_rfl) (by kernel_rfl) (fun _ _ _ h =>h) (by kernel_rfl) HR5.out (by intro W hW;have z:=zAA (i:=1) hW rfl;go_simp) ?_
 refine zAB 3 (.pointer (some ⟨w.heap.size,2,none⟩)) rfl (by kernel_rfl) (by kernel_rfl) (by kernel_rfl) (fun _ _ _ h =>h) (by kernel_rfl) HR5.out (fun _ _ =>by kernel_rfl) ?_
 refine zAB 4 (.int .u64 (zu:Int)) rfl (by kernel_rfl) (by kernel_rfl) (by kernel_rfl) (fun _ _ _ h =>h) (by kernel_rfl) HR5.out (by intro W hW;have z:=zAA (i:=2) hW rfl;go_simp) ?_
 refine zAB 6 (.pointer (some ⟨w.heap.size,4,none⟩)) rfl (by kernel_rfl) (by kernel_rfl) (by kernel_rfl) (fun _ _ _ h =>h) (by kernel_rfl) HR5.out (fun _ _ =>by kernel_rfl) ?_
 refine zAB 7 (.int .u64 (zo:Int)) rfl (by kernel_rfl) (by kernel_rfl) (by kernel_rfl) (fun _ _ _ h =>h) (by kernel_rfl) HR5.out (by intro W hW;have z:=zAA (i:=4) hW rfl;go_simp) ?_
 refine zAB 9 (.pointer (some ⟨w.heap.size,5,none⟩)) rfl (by kernel_rfl) (by kernel_rfl) (by kernel_rfl) (fun _ _ _ h =>h) (by kernel_rfl) HR5.out (fun _ _ =>by kernel_rfl) ?_
 refine zAB 10 (.int .u64 (zm:Int)) rfl (by kernel_rfl) (by kernel_rfl) (by kernel_rfl) (fun _ _ _ h =>h) (by kernel_rfl) HR5.out (by intro W hW;have z:=zAA (i:=5) hW rfl;go_simp) ?_
 refine zAB 12 (.pointer (some ⟨w.heap.size,6,none⟩)) rfl (by kernel_rfl) (by kernel_rfl) (by kernel_rfl) (fun _ _ _ h =>h) (by kernel_rfl) HR5.out (fun _ _ =>by kernel_rfl) ?_
 refine zAB 13 (.string sg) rfl (by kernel_rfl) (by kernel_rfl) (by kernel_rfl) (fun _ _ _ h =>h) (by kernel_rfl) HR5.out (by intro W hW;have z:=zAA (i:=6) hW rfl;go_simp) ?_
 refine zAJ 2 rfl (by kernel_rfl) (by kernel_rfl) (fun K hK =>?_)
 go_simp
 refine (HPT.out _).mono ?_
 rintro e x6 ⟨rfl,b6⟩
 have HB6:=yh (HB5.out.trans (b6.mono HB5.out.size))
 have HG6:=yh (HG5.out.below b6)
 have hR6:=(b6.block w.heap.size (Array.getElem?_eq_some_iff.1 HR5.out).1).trans HR5.out
 have HR6:=yh hR6
 clear b6 hR6
 refine hK _ _ HR6.out ?_
 clear hK K
 refine zAJ 5 rfl (by kernel_rfl) (by kernel_rfl) (fun K hK =>?_)
 go_simp
 refine (HXU.out _).mono ?_
 rintro e x7 ⟨rfl,b7⟩
 have HB7:=yh (HB6.out.trans (b7.mono HB6.out.size))
 have HG7:=yh (HG6.out.below b7)
 have hR7:=(b7.block w.heap.size (Array.getElem?_eq_some_iff.1 HR6.out).1).trans HR6.out
 have HR7:=yh hR7
 clear b7 hR7
 refine hK _ _ HR7.out ?_
 clear hK K
 refine zAJ 8 rfl (by kernel_rfl) (by kernel_rfl) (fun K hK =>?_)
 go_simp
 refine (HXO.out _).mono ?_
 rintro e x8 ⟨rfl,b8⟩
 have HB8:=yh (HB7.out.trans (b8.mono HB7.out.size))
 have HG8:=yh (HG7.out.below b8)
 have hR8:=(b8.block w.heap.size (Array.getElem?_eq_some_iff.1 HR7.out).1).trans HR7.out
 have HR8:=yh hR8
 clear b8 hR8
 refine hK _ _ HR8.out ?_
 clear hK K
 refine zAJ 11 rfl (by kernel_rfl) (by kernel_rfl) (fun K hK =>?_)
 go_simp
 refine (HFM.out _ (HP.out.below HB8.out)).mono ?_
 rintro e x9 ⟨rfl,b9⟩
 have HB9:=yh (HB8.out.trans (b9.mono HB8.out.size))
 have HG9:=yh (HG8.out.below b9)
 have hR9:=(b9.block w.heap.size (Array.getElem?_eq_some_iff.1 HR8.out).1).trans HR8.out
 have HR9:=yh hR9
 clear b9 hR9
 refine hK _ _ HR9.out ?_
 clear hK K
 refine zAJ 14 rfl (by kernel_rfl) (by kernel_rfl) (fun K hK =>?_)
 go_simp
 refine (HPG.out _).mono ?_
 rintro e x10 ⟨rfl,b10⟩
 have HB10:=yh (HB9.out.trans (b10.mono HB9.out.size))
 have HG10:=yh (HG9.out.below b10)
 have hR10:=(b10.block w.heap.size (Array.getElem?_eq_some_iff.1 HR9.out).1).trans HR9.out
 have HR10:=yh hR10
 clear b10 hR10
 refine hK _ _ HR10.out ?_
 clear hK K
 refine zAJ 15 rfl (by kernel_rfl) (by kernel_rfl) (fun K hK =>?_)
 go_simp
 have hR:=(Below.heap_alloc x10 (.cells #[.string s1,.string s2,.string s3,.string s4,.string s5] 9) w.heap.size (Array.getElem?_eq_some_iff.1 HR10.out).1).trans HR10.out
 have HR11:=yh hR
 clear hR
 refine hK _ _ HR11.out ?_
 clear hK K
 have hrw:=HRW.out x10
 rw [HW5L.out,HW5.out] at hrw
 have hrw2:zAE (x10.alloc (.cells #[.string s1,.string s2,.string s3,.string s4,.string s5] 9)) (x10.alloc (.cells #[.string s1,.string s2,.string s3,.string s4,.string s5] 9)).heap.size 1 (some ⟨x10.heap.size,0,none⟩) 5 (W5.map tsv):=by rw [World.size_alloc,HW5.out];exact hrw
 have HRW2:=yh hrw2
 have HG11:=yh (HG10.out.below ((Below.refl x10.heap.size x10).alloc (Nat.le_refl _) (.cells #[.string s1,.string s2,.string s3,.string s4,.string s5] 9)))
 have HB11:=yh (HB10.out.alloc HB10.out.size (.cells #[.string s1,.string s2,.string s3,.string s4,.string s5] 9))
 clear hrw hrw2
 refine zAJ 16 rfl (by kernel_rfl) (by kernel_rfl) (fun K hK =>?_)
 go_simp
 refine (zGo w1.heap.size w1.heap.size [] W5 _ 5 5 (by omega) (by simp) _ HG11.out (by simp) HRW2.out).mono ?_
 rintro e x12 ⟨rfl,hg12,hb12,_⟩
 have hR12:=(hb12.block w.heap.size HZ1.out).trans HR11.out
 have HR12:=yh hR12
 have HG12:=yh hg12
 have HB12:=yh (HB11.out.trans (hb12.mono (Nat.le_of_lt HZ1.out)))
 clear hR12 hg12 hb12
 refine hK _ _ HR12.out ?_
 clear hK K
 refine wpAnyH_done (by kernel_rfl) ?_ _
 go_simp
 have q3:=zAA (i:=3) HR12.out rfl
 have HI12:Hid (zKM w w1.heap.size (.cells #[.int .i64 1,.string st,.int .u64 (zu:Int),.slice A n c,.int .u64 (zo:Int),.int .u64 (zm:Int),.string sg] 37 (0,0)) w1.heap.size hws l (.int .i64 0) x12):=⟨0,Nat.zero_le _,rfl,by rw [HWS.out];simpa using HG12.out,HB12.out,HR12.out⟩
 clear HG12 HB12 HR12
 go_wp2
 clear q3
 go_loopw [35] (fun idx wr =>zKM w w1.heap.size (.cells #[.int .i64 1,.string st,.int .u64 (zu:Int),.slice A n c,.int .u64 (zo:Int),.int .u64 (zm:Int),.string sg] 37 (0,0)) w1.heap.size hws l idx wr) (fun idx _ =>n - (intOf idx).toNat)
 case atStart =>exact HI12.out
 case round =>
  obtain ⟨i,hi,rfl,hgx,hb,hrec⟩:=hrel
  rw [HL.out] at hi
  have HGX:=yh hgx
  have HBR:=yh hb
  have HRC:=yh hrec
  clear hgx hb hrec
  by_cases hlt:i<n
  ·obtain ⟨x,hx⟩:∃ x,l[i]? = some x:=⟨_,List.getElem?_eq_getElem (by rw [HL.out];exact hlt)⟩
   obtain ⟨ad,rfl,_,hcx⟩:=(H1.out.below HBR.out).2 (by omega)
   obtain ⟨y0,y1,y2⟩:=zAt l i x hx
   have k0:=hcx _ _ y0
   have k1:=hcx _ _ y1
   have k2:=hcx _ _ y2
   rw [zBO] at k1
   rw [zBP] at k2
   have hxl:=HS1.out x (List.mem_of_getElem? hx)
   have hxd:=HDS.out x (List.mem_of_getElem? hx)
   have HSN:Hid ((l.take (i+1)).flatMap zAe=(l.take i).flatMap zAe++zAe x):=zEi hx
   have HLN:Hid ((hws++(l.take i).flatMap zAe).length≤1000):=by
    show _≤_
    rw [HWS.out,List.length_append,HW5L.out,zCr,List.length_take,HL.out]
    omega
   obtain ⟨xn,xh,xo⟩:=x
   simp only at k0 k1 k2 hxl hxd
   have HPN:=yh (fun W =>zDQ xn (by omega) W)
   have HHS:=yh (fun W =>zIU xn xh xo hxd.1 hxd.2 W)
   have HDW:Hid (([eput xn,zBE ⟨xn,xh,xo⟩]:List (List UInt8))=zAe ⟨xn,xh,xo⟩):=by show _=_;rfl
   have HRW3:=yh (fun W =>zEN W 9 [eput xn,zBE ⟨xn,xh,xo⟩])
   obtain ⟨V2,hV2⟩:∃ V2,V2=[eput xn,zBE ⟨xn,xh,xo⟩]:=⟨_,rfl⟩
   have HV2:Hid (V2.map tsv=[.string (tx (eput xn)),.string (tx (zBE ⟨xn,xh,xo⟩))]):=by show _=_;rw [hV2];rfl
   have HV2L:Hid (V2.length=2):=by show _=_;rw [hV2];rfl
   rw [← hV2] at HRW3 HDW
   unfold rsv at k0
   generalize tx (eput xn)=p1 at *
   generalize tx (zBE ⟨xn,xh,xo⟩)=p2 at *
   generalize tx xn=sn at *
   have hi0:(0:Int)≤(i:Int):=by omega
   have hi1:(i:Int)<(n:Int):=by omega
   have HBD:=yh (HBR.out.alloc HBR.out.size (.cells #[.string sn,.int .u64 xh,.bool xo] 73))
   have HDN:=yh (zAI wr (.cells #[.string sn,.int .u64 xh,.bool xo] 73))
   have HRD:=yh ((Below.heap_alloc wr (.cells #[.string sn,.int .u64 xh,.bool xo] 73) w.heap.size (Array.getElem?_eq_some_iff.1 HRC.out).1).trans HRC.out)
   have HGD:=yh (HGX.out.below ((Below.refl wr.heap.size wr).alloc (Nat.le_refl _) (.cells #[.string sn,.int .u64 xh,.bool xo] 73)))
   have HNE:Hid (wr.heap.size≠w1.heap.size):=by
    obtain ⟨_,v,h1,_⟩:=HGX.out
    have:=(Array.getElem?_eq_some_iff.1 h1).1
    show _≠_
    omega
   have HZR:Hid (w.heap.size≠w1.heap.size):=by have:=HZ1.out;show _≠_;omega
   clear hcx y0 y1 y2 hx hxl hxd hV2
   go_wp2_with fail
   obtain ⟨X0,hX0⟩:∃ X0,X0=wr.alloc (.cells #[.string sn,.int .u64 xh,.bool xo] 73):=⟨_,rfl⟩
   rw [← hX0] at HBD HDN HRD HGD
   rw [← hX0]
   have HB20:Hid (Below w.heap.size w X0.drew):=HBD.out.drew
   have HD20:Hid (X0.drew.heap[wr.heap.size]? = some (.cells #[.string sn,.int .u64 xh,.bool xo] 73 (0,0))):=HDN.out
   have HR20:Hid (X0.drew.heap[w.heap.size]? = some (.cells #[.int .i64 1,.string st,.int .u64 (zu:Int),.slice (some ad) n c,.int .u64 (zo:Int),.int .u64 (zm:Int),.string sg] 37 (0,0))):=HRD.out
   have HG20:Hid (Gx X0.drew w1.heap.size w1.heap.size (hws++(l.take i).flatMap zAe)):=HGD.out
   clear hX0 HBD HDN HRD HGD k0 k1 k2
   refine wp_region_held (S:=fun W:World =>W.heap[wr.heap.size]? = some (.cells #[.string sn,.int .u64 xh,.bool xo] 73 (0,0))) (by kernel_rfl) ?_
   refine zAB 0 (.pointer (some ⟨wr.heap.size,0,none⟩)) rfl (by kernel_rfl) (by kernel_rfl) (by kernel_rfl) (fun _ _ _ h =>h) (by kernel_rfl) HD20.out (fun _ _ =>by kernel_rfl) ?_
   refine zAB 1 (.string sn) rfl (by kernel_rfl) (by kernel_rfl) (by kernel_rfl) (fun _ _ _ h =>h) (by kernel_rfl) HD20.out (by intro W hW;have z0:=zAA (i:=0) hW rfl;have z1:=zAA (i:=1) hW rfl;have z2:=zAA (i:=2) hW rfl;go_simp) ?_
   refine zAB 3 (.agg #[.string sn,.int .u64 xh,.bool xo]) rfl (by kernel_rfl) (by kernel_rfl) (by kernel_rfl) (fun _ _ _ h =>h) (by kernel_rfl) HD20.out (by intro W hW;have z0:=zAA (i:=0) hW rfl;have z1:=zAA (i:=1) hW rfl;have z2:=zAA (i:=2) hW rfl;go_simp) ?_
   refine zAJ 2 rfl (by kernel_rfl) (by kernel_rfl) (fun K hK =>?_)
   go_simp
   refine (HPN.out _).mono ?_
   rintro e x21 ⟨rfl,b21⟩
   have HB21:=yh (HB20.out.trans (b21.mono HB20.out.size))
   have HG21:=yh (HG20.out.below b21)
   have HR21:=yh ((b21.block w.heap.size (Array.getElem?_eq_some_iff.1 HR20.out).1).trans HR20.out)
   have HD21:=yh ((b21.block wr.heap.size (Array.getElem?_eq_some_iff.1 HD20.out).1).trans HD20.out)
   clear b21
   refine hK _ _ HD21.out ?_
   clear hK K
   refine zAJ 4 rfl (by kernel_rfl) (by kernel_rfl) (fun K hK =>?_)
   go_simp
   refine (HHS.out _).mono ?_
   rintro e x22 ⟨rfl,b22⟩
   have HB22:=yh (HB21.out.trans (b22.mono HB21.out.size))
   have HG22:=yh (HG21.out.below b22)
   have HR22:=yh ((b22.block w.heap.size (Array.getElem?_eq_some_iff.1 HR21.out).1).trans HR21.out)
   have HD22:=yh ((b22.block wr.heap.size (Array.getElem?_eq_some_iff.1 HD21.out).1).trans HD21.out)
   clear b22
   refine hK _ _ HD22.out ?_
   clear hK K
   refine zAJ 5 rfl (by kernel_rfl) (by kernel_rfl) (fun K hK =>?_)
   go_simp
   have HR23:=yh ((Below.heap_alloc x22 (.cells #[.string p1,.string p2] 9) w.heap.size (Array.getElem?_eq_some_iff.1 HR22.out).1).trans HR22.out)
   have HD23:=yh ((Below.heap_alloc x22 (.cells #[.string p1,.string p2] 9) wr.heap.size (Array.getElem?_eq_some_iff.1 HD22.out).1).trans HD22.out)
   refine hK _ _ HD23.out ?_
   clear hK K
   have hrw:=HRW3.out x22
   rw [HV2L.out,HV2.out] at hrw
   have hrw2:zAE (x22.alloc (.cells #[.string p1,.string p2] 9)) (x22.alloc (.cells #[.string p1,.string p2] 9)).heap.size 1 (some ⟨x22.heap.size,0,none⟩) 2 (V2.map tsv):=by rw [World.size_alloc,HV2.out];exact hrw
   have HRW4:=yh hrw2
   have HG23:=yh (HG22.out.below ((Below.refl x22.heap.size x22).alloc (Nat.le_refl _) (.cells #[.string p1,.string p2] 9)))
   have HB23:=yh (HB22.out.alloc HB22.out.size (.cells #[.string p1,.string p2] 9))
   clear hrw hrw2
   refine zAJ 6 rfl (by kernel_rfl) (by kernel_rfl) (fun K hK =>?_)
   go_simp
   refine (zGo w1.heap.size w1.heap.size _ V2 _ 2 2 (by omega) HLN.out _ HG23.out (by simp) HRW4.out).mono ?_
   rintro e x24 ⟨rfl,hg24,hb24,hk24⟩
   have HR24:=yh (hk24 _ _ _ _ HR23.out (by decide) HZR.out)
   have HD24:=yh (hk24 _ _ _ _ HD23.out (by decide) HNE.out)
   have HG24:=yh hg24
   have HB24:=yh (HB23.out.trans (hb24.mono (Nat.le_of_lt HZ1.out)))
   clear hk24 hg24 hb24
   refine hK _ _ HD24.out ?_
   clear hK K
   refine wpAnyH_done (by kernel_rfl) ?_ _
   go_simp
   go_wp2
   exact ⟨⟨i+1,by rw [HL.out];omega,by go_num,by rw [HSN.out,← HDW.out,← List.append_assoc];exact HG24.out,HB24.out,HR24.out⟩,by simp [intOf];omega⟩
  ·obtain rfl:i=n:=by omega
   have htk:l.take i=l:=List.take_of_length_le (by rw [HL.out];exact Nat.le_refl _)
   rw [htk] at HGX
   rw [← HLW.out] at HGX
   have hll:lws.length≤125:=by
    rw [HLW.out,List.length_append,HWS.out,HW5L.out,zCr,HL.out]
    omega
   have hjl:=zDU lws HLL.out
   obtain ⟨h0,v,h1,h2⟩:=HGX.out
   obtain ⟨A3,c3,rfl,hA3⟩:=zAL h2
   have z0:=zAA (i:=0) h1 rfl
   have hj:=zHk A3 lws.length c3 lws (zKq h2) (by omega) (by omega) wr (zAE.of_own h2)
   rw [← HJL.out] at hj
   have HJ:=yh hj
   clear hj
   generalize lws.length=nl at *
   clear h1 h2 htk
   go_wp2_with fail
   refine HJ.out.mono ?_
   rintro e x30 ⟨rfl,b30⟩
   have hb30:=HBR.out.trans (b30.mono HBR.out.size)
   clear b30
   go_wp2
   go_ret2
   exact ⟨rfl,hb30⟩
theorem zDf (l:List UInt8) (i:Nat) (x:UInt8) (h:l[i]? = some x) (hp:i<(tx l).size):((tx l)[i]'hp).toNat=x.toNat:=by
 obtain ⟨h1,h2⟩:=List.getElem?_eq_some_iff.1 h
 rw [← h2]
 rfl
theorem zAv (l:List UInt8) (a b:Nat):(tx l).extract a b=tx ((l.take b).drop a):=by
 apply ByteArray.ext
 simp [tx,ByteArray.data_extract]
 rw [List.drop_take]
theorem zJJ (n:Nat) (b:UInt8) (hn:b.toNat=n) (h1:33≤n) (h2:n≤126) (h3:n≠92) (w:World) :
  Calls Tryz.prog 62 #[.int .u8 (n:Int),.bool false] w fun e w' =>e=.returned (.string (tx [b]))∧Below w.heap.size w w':=by
 have k3:((n:Int) == 92)=false:=by simp;omega
 have k4:((n:Int) != 92)=true:=by simp;omega
 have hcv:(convert 59 9 (.slice (some ⟨w.heap.size,0,none⟩) 1 1)).run Tryz.prog (w.alloc (.cells #[.int .u8 (n:Int)] 5))=.ok (.string (tx [b])) (w.alloc (.cells #[.int .u8 (n:Int)] 5)):=by
  have h:=zDv w 5 b
  have e:bv b=.int .u8 (n:Int):=by unfold bv;rw [hn]
  rw [e] at h
  exact zBK Tryz.underlying59 Tryz.underlying5 Tryz.underlying9 h
 clear hn
 go_enter Tryz.func62,Tryz.ntmps62
 go_wp2
 go_ret
 exact ⟨rfl,(Below.refl _ _).alloc (Nat.le_refl _) _⟩
theorem zIE (n:Nat) (all:Bool) (hn8:n<256) (h:all=true∨n<33∨126<n∨n=92) (w:World) :
  Calls Tryz.prog 62 #[.int .u8 (n:Int),.bool all] w fun e w' =>e=.returned (.string (tx [92,dig (n / 16),dig (n % 16)]))∧Below w.heap.size w w':=by
 have H:∀ (Q:Exit→Act→World→Prop) (a:Act),True:=fun _ _ =>trivial
 clear H
 have hrd:Hid (∀ W:World,zAE (W.alloc (.cells #[.int .u8 92,.int .u8 ((dig (n / 16)).toNat:Int),.int .u8 ((dig (n % 16)).toNat:Int)] 5)) (W.heap.size+1) 1 (some ⟨W.heap.size,0,none⟩) 3 ([92,dig (n / 16),dig (n % 16)].map bv)):=fun W =>zDA W 5 92 (dig (n / 16)) (dig (n % 16))
 have hx:all=true∨(all=false∧n<33)∨(all=false∧33≤n∧126<n)∨(all=false∧n=92):=by
  cases all
  ·rcases h with h | h | h | h
   ·cases h
   ·exact .inr (.inl ⟨rfl,h⟩)
   ·exact .inr (.inr (.inl ⟨rfl,by omega,h⟩))
   ·exact .inr (.inr (.inr ⟨rfl,h⟩))
  ·exact .inl rfl
 clear h
 rcases hx with rfl | ⟨rfl,h⟩ | ⟨rfl,h,h5⟩ | ⟨rfl,rfl⟩
 ·go_enter Tryz.func62,Tryz.ntmps62
  go_wp2
  refine wp_region_held (S:=fun _ =>True) (by kernel_rfl) ?_
  refine zAB 0 (.string { data:=#[48,49,50,51,52,53,54,55,56,57,97,98,99,100,101,102] }) rfl (by kernel_rfl) (by kernel_rfl) (by kernel_rfl) (fun _ _ _ h =>h) (by kernel_rfl) trivial (fun _ _ =>by kernel_rfl) ?_
  refine zAB 1 (.int .u8 (n:Int)) rfl (by kernel_rfl) (by kernel_rfl) (by kernel_rfl) (fun _ _ _ h =>h) (by kernel_rfl) trivial (fun _ _ =>by kernel_rfl) ?_
  refine zAB 2 (.int .u8 ((n / 16:Nat):Int)) rfl (by kernel_rfl) (by kernel_rfl) (by kernel_rfl) (fun _ _ _ h =>h) (by kernel_rfl) trivial (by intro v hv;go_simp;exact wraps_u8 _ (by omega) (by omega)) ?_
  refine zAB 3 (.int .u8 ((dig (n / 16)).toNat:Int)) rfl (by kernel_rfl) (by kernel_rfl) (by kernel_rfl) (fun _ _ _ h =>h) (by kernel_rfl) trivial (by intro v hv;go_simp;exact zBa _ _ (by omega) (by omega) _ _ _) ?_
  refine zAB 4 (.string { data:=#[48,49,50,51,52,53,54,55,56,57,97,98,99,100,101,102] }) rfl (by kernel_rfl) (by kernel_rfl) (by kernel_rfl) (fun _ _ _ h =>h) (by kernel_rfl) trivial (fun _ _ =>by kernel_rfl) ?_
  refine zAB 5 (.int .u8 (n:Int)) rfl (by kernel_rfl) (by kernel_rfl) (by kernel_rfl) (fun _ _ _ h =>h) (by kernel_rfl) trivial (fun _ _ =>by kernel_rfl) ?_
  refine zAB 6 (.int .u8 ((n % 16:Nat):Int)) rfl (by kernel_rfl) (by kernel_rfl) (by kernel_rfl) (fun _ _ _ h =>h) (by kernel_rfl) trivial (by intro v hv;go_simp;exact Int.tmod_eq_emod_of_nonneg (by omega)) ?_
  refine zAB 7 (.int .u8 ((dig (n % 16)).toNat:Int)) rfl (by kernel_rfl) (by kernel_rfl) (by kernel_rfl) (fun _ _ _ h =>h) (by kernel_rfl) trivial (by intro v hv;go_simp;exact zBa _ _ (by omega) (by omega) _ _ _) ?_
  refine zAJ 8 rfl (by kernel_rfl) (by kernel_rfl) (fun K hK =>?_)
  go_simp
  refine hK _ _ trivial ?_
  clear hK K
  refine zAJ 9 rfl (by kernel_rfl) (by kernel_rfl) (fun K hK =>?_)
  have hcv:(convert 59 9 (.slice (some ⟨w.heap.size,0,none⟩) 3 3)).run Tryz.prog (w.alloc (.cells #[.int .u8 92,.int .u8 ((dig (n / 16)).toNat:Int),.int .u8 ((dig (n % 16)).toNat:Int)] 5)).drew=.ok (.string (tx [92,dig (n / 16),dig (n % 16)])) (w.alloc (.cells #[.int .u8 92,.int .u8 ((dig (n / 16)).toNat:Int),.int .u8 ((dig (n % 16)).toNat:Int)] 5)).drew:=zBK (P:=Tryz.prog) (src:=59) (dst:=9) (c:=3) Tryz.underlying59 Tryz.underlying5 Tryz.underlying9 (hrd.out w).drew
  go_simp
  refine hK _ _ trivial ?_
  clear hK K
  refine zAB 10 (.string (tx [92,dig (n / 16),dig (n % 16)])) rfl (by kernel_rfl) (by kernel_rfl) (by kernel_rfl) (fun _ _ _ h =>h) (by kernel_rfl) trivial (fun _ _ =>by kernel_rfl) ?_
  refine wpAnyH_done (by kernel_rfl) ?_ _
  go_simp
  go_wp2
  go_ret
  exact ⟨rfl,((Below.refl _ w).alloc (Nat.le_refl _) _).drew⟩
 ·go_enter Tryz.func62,Tryz.ntmps62
  go_wp2
  refine wp_region_held (S:=fun _ =>True) (by kernel_rfl) ?_
  refine zAB 0 (.string { data:=#[48,49,50,51,52,53,54,55,56,57,97,98,99,100,101,102] }) rfl (by kernel_rfl) (by kernel_rfl) (by kernel_rfl) (fun _ _ _ h =>h) (by kernel_rfl) trivial (fun _ _ =>by kernel_rfl) ?_
  refine zAB 1 (.int .u8 (n:Int)) rfl (by kernel_rfl) (by kernel_rfl) (by kernel_rfl) (fun _ _ _ h =>h) (by kernel_rfl) trivial (fun _ _ =>by kernel_rfl) ?_
  refine zAB 2 (.int .u8 ((n / 16:Nat):Int)) rfl (by kernel_rfl) (by kernel_rfl) (by kernel_rfl) (fun _ _ _ h =>h) (by kernel_rfl) trivial (by intro v hv;go_simp;exact wraps_u8 _ (by omega) (by omega)) ?_
  refine zAB 3 (.int .u8 ((dig (n / 16)).toNat:Int)) rfl (by kernel_rfl) (by kernel_rfl) (by kernel_rfl) (fun _ _ _ h =>h) (by kernel_rfl) trivial (by intro v hv;go_simp;exact zBa _ _ (by omega) (by omega) _ _ _) ?_
  refine zAB 4 (.string { data:=#[48,49,50,51,52,53,54,55,56,57,97,98,99,100,101,102] }) rfl (by kernel_rfl) (by kernel_rfl) (by kernel_rfl) (fun _ _ _ h =>h) (by kernel_rfl) trivial (fun _ _ =>by kernel_rfl) ?_
  refine zAB 5 (.int .u8 (n:Int)) rfl (by kernel_rfl) (by kernel_rfl) (by kernel_rfl) (fun _ _ _ h =>h) (by kernel_rfl) trivial (fun _ _ =>by kernel_rfl) ?_
  refine zAB 6 (.int .u8 ((n % 16:Nat):Int)) rfl (by kernel_rfl) (by kernel_rfl) (by kernel_rfl) (fun _ _ _ h =>h) (by kernel_rfl) trivial (by intro v hv;go_simp;exact Int.tmod_eq_emod_of_nonneg (by omega)) ?_
  refine zAB 7 (.int .u8 ((dig (n % 16)).toNat:Int)) rfl (by kernel_rfl) (by kernel_rfl) (by kernel_rfl) (fun _ _ _ h =>h) (by kernel_rfl) trivial (by intro v hv;go_simp;exact zBa _ _ (by omega) (by omega) _ _ _) ?_
  refine zAJ 8 rfl (by kernel_rfl) (by kernel_rfl) (fun K hK =>?_)
  go_simp
  refine hK _ _ trivial ?_
  clear hK K
  refine zAJ 9 rfl (by kernel_rfl) (by kernel_rfl) (fun K hK =>?_)
  have hcv:(convert 59 9 (.slice (some ⟨w.heap.size,0,none⟩) 3 3)).run Tryz.prog (w.alloc (.cells #[.int .u8 92,.int .u8 ((dig (n / 16)).toNat:Int),.int .u8 ((dig (n % 16)).toNat:Int)] 5)).drew=.ok (.string (tx [92,dig (n / 16),dig (n % 16)])) (w.alloc (.cells #[.int .u8 92,.int .u8 ((dig (n / 16)).toNat:Int),.int .u8 ((dig (n % 16)).toNat:Int)] 5)).drew:=zBK (P:=Tryz.prog) (src:=59) (dst:=9) (c:=3) Tryz.underlying59 Tryz.underlying5 Tryz.underlying9 (hrd.out w).drew
  go_simp
  refine hK _ _ trivial ?_
  clear hK K
  refine zAB 10 (.string (tx [92,dig (n / 16),dig (n % 16)])) rfl (by kernel_rfl) (by kernel_rfl) (by kernel_rfl) (fun _ _ _ h =>h) (by kernel_rfl) trivial (fun _ _ =>by kernel_rfl) ?_
  refine wpAnyH_done (by kernel_rfl) ?_ _
  go_simp
  go_wp2
  go_ret
  exact ⟨rfl,((Below.refl _ w).alloc (Nat.le_refl _) _).drew⟩
 ·go_enter Tryz.func62,Tryz.ntmps62
  go_wp2
  refine wp_region_held (S:=fun _ =>True) (by kernel_rfl) ?_
  refine zAB 0 (.string { data:=#[48,49,50,51,52,53,54,55,56,57,97,98,99,100,101,102] }) rfl (by kernel_rfl) (by kernel_rfl) (by kernel_rfl) (fun _ _ _ h =>h) (by kernel_rfl) trivial (fun _ _ =>by kernel_rfl) ?_
  refine zAB 1 (.int .u8 (n:Int)) rfl (by kernel_rfl) (by kernel_rfl) (by kernel_rfl) (fun _ _ _ h =>h) (by kernel_rfl) trivial (fun _ _ =>by kernel_rfl) ?_
  refine zAB 2 (.int .u8 ((n / 16:Nat):Int)) rfl (by kernel_rfl) (by kernel_rfl) (by kernel_rfl) (fun _ _ _ h =>h) (by kernel_rfl) trivial (by intro v hv;go_simp;exact wraps_u8 _ (by omega) (by omega)) ?_
  refine zAB 3 (.int .u8 ((dig (n / 16)).toNat:Int)) rfl (by kernel_rfl) (by kernel_rfl) (by kernel_rfl) (fun _ _ _ h =>h) (by kernel_rfl) trivial (by intro v hv;go_simp;exact zBa _ _ (by omega) (by omega) _ _ _) ?_
  refine zAB 4 (.string { data:=#[48,49,50,51,52,53,54,55,56,57,97,98,99,100,101,102] }) rfl (by kernel_rfl) (by kernel_rfl) (by kernel_rfl) (fun _ _ _ h =>h) (by kernel_rfl) trivial (fun _ _ =>by kernel_rfl) ?_
  refine zAB 5 (.int .u8 (n:Int)) rfl (by kernel_rfl) (by kernel_rfl) (by kernel_rfl) (fun _ _ _ h =>h) (by kernel_rfl) trivial (fun _ _ =>by kernel_rfl) ?_
  refine zAB 6 (.int .u8 ((n % 16:Nat):Int)) rfl (by kernel_rfl) (by kernel_rfl) (by kernel_rfl) (fun _ _ _ h =>h) (by kernel_rfl) trivial (by intro v hv;go_simp;exact Int.tmod_eq_emod_of_nonneg (by omega)) ?_
  refine zAB 7 (.int .u8 ((dig (n % 16)).toNat:Int)) rfl (by kernel_rfl) (by kernel_rfl) (by kernel_rfl) (fun _ _ _ h =>h) (by kernel_rfl) trivial (by intro v hv;go_simp;exact zBa _ _ (by omega) (by omega) _ _ _) ?_
  refine zAJ 8 rfl (by kernel_rfl) (by kernel_rfl) (fun K hK =>?_)
  go_simp
  refine hK _ _ trivial ?_
  clear hK K
  refine zAJ 9 rfl (by kernel_rfl) (by kernel_rfl) (fun K hK =>?_)
  have hcv:(convert 59 9 (.slice (some ⟨w.heap.size,0,none⟩) 3 3)).run Tryz.prog (w.alloc (.cells #[.int .u8 92,.int .u8 ((dig (n / 16)).toNat:Int),.int .u8 ((dig (n % 16)).toNat:Int)] 5)).drew=.ok (.string (tx [92,dig (n / 16),dig (n % 16)])) (w.alloc (.cells #[.int .u8 92,.int .u8 ((dig (n / 16)).toNat:Int),.int .u8 ((dig (n % 16)).toNat:Int)] 5)).drew:=zBK (P:=Tryz.prog) (src:=59) (dst:=9) (c:=3) Tryz.underlying59 Tryz.underlying5 Tryz.underlying9 (hrd.out w).drew
  go_simp
  refine hK _ _ trivial ?_
  clear hK K
  refine zAB 10 (.string (tx [92,dig (n / 16),dig (n % 16)])) rfl (by kernel_rfl) (by kernel_rfl) (by kernel_rfl) (fun _ _ _ h =>h) (by kernel_rfl) trivial (fun _ _ =>by kernel_rfl) ?_
  refine wpAnyH_done (by kernel_rfl) ?_ _
  go_simp
  go_wp2
  go_ret
  exact ⟨rfl,((Below.refl _ w).alloc (Nat.le_refl _) _).drew⟩
 ·go_enter Tryz.func62,Tryz.ntmps62
  go_wp2
  refine wp_region_held (S:=fun _ =>True) (by kernel_rfl) ?_
  refine zAB 0 (.string { data:=#[48,49,50,51,52,53,54,55,56,57,97,98,99,100,101,102] }) rfl (by kernel_rfl) (by kernel_rfl) (by kernel_rfl) (fun _ _ _ h =>h) (by kernel_rfl) trivial (fun _ _ =>by kernel_rfl) ?_
  refine zAB 1 (.int .u8 92) rfl (by kernel_rfl) (by kernel_rfl) (by kernel_rfl) (fun _ _ _ h =>h) (by kernel_rfl) trivial (fun _ _ =>by kernel_rfl) ?_
  refine zAB 2 (.int .u8 5) rfl (by kernel_rfl) (by kernel_rfl) (by kernel_rfl) (fun _ _ _ h =>h) (by kernel_rfl) trivial (fun _ _ =>by kernel_rfl) ?_
  refine zAB 3 (.int .u8 53) rfl (by kernel_rfl) (by kernel_rfl) (by kernel_rfl) (fun _ _ _ h =>h) (by kernel_rfl) trivial (fun _ _ =>by kernel_rfl) ?_
  refine zAB 4 (.string { data:=#[48,49,50,51,52,53,54,55,56,57,97,98,99,100,101,102] }) rfl (by kernel_rfl) (by kernel_rfl) (by kernel_rfl) (fun _ _ _ h =>h) (by kernel_rfl) trivial (fun _ _ =>by kernel_rfl) ?_
  refine zAB 5 (.int .u8 92) rfl (by kernel_rfl) (by kernel_rfl) (by kernel_rfl) (fun _ _ _ h =>h) (by kernel_rfl) trivial (fun _ _ =>by kernel_rfl) ?_
  refine zAB 6 (.int .u8 12) rfl (by kernel_rfl) (by kernel_rfl) (by kernel_rfl) (fun _ _ _ h =>h) (by kernel_rfl) trivial (fun _ _ =>by kernel_rfl) ?_
  refine zAB 7 (.int .u8 99) rfl (by kernel_rfl) (by kernel_rfl) (by kernel_rfl) (fun _ _ _ h =>h) (by kernel_rfl) trivial (fun _ _ =>by kernel_rfl) ?_
  refine zAJ 8 rfl (by kernel_rfl) (by kernel_rfl) (fun K hK =>?_)
  go_simp
  refine hK _ _ trivial ?_
  clear hK K
  refine zAJ 9 rfl (by kernel_rfl) (by kernel_rfl) (fun K hK =>?_)
  have hcv:(convert 59 9 (.slice (some ⟨w.heap.size,0,none⟩) 3 3)).run Tryz.prog (w.alloc (.cells #[.int .u8 92,.int .u8 53,.int .u8 99] 5)).drew=.ok (.string (tx [92,dig (92 / 16),dig (92 % 16)])) (w.alloc (.cells #[.int .u8 92,.int .u8 53,.int .u8 99] 5)).drew:=zBK (P:=Tryz.prog) (src:=59) (dst:=9) (c:=3) Tryz.underlying59 Tryz.underlying5 Tryz.underlying9 (hrd.out w).drew
  go_simp
  refine hK _ _ trivial ?_
  clear hK K
  refine zAB 10 (.string (tx [92,dig (92 / 16),dig (92 % 16)])) rfl (by kernel_rfl) (by kernel_rfl) (by kernel_rfl) (fun _ _ _ h =>h) (by kernel_rfl) trivial (fun _ _ =>by kernel_rfl) ?_
  refine wpAnyH_done (by kernel_rfl) ?_ _
  go_simp
  go_wp2
  go_ret
  exact ⟨rfl,((Below.refl _ w).alloc (Nat.le_refl _) _).drew⟩
theorem zGj (b:UInt8) (all:Bool) (w:World) :
  Calls Tryz.prog 62 #[.int .u8 (b.toNat:Int),.bool all] w fun e w' =>e=.returned (.string (tx (sgn all b)))∧Below w.heap.size w w':=by
 have h8:=b.toNat_lt
 by_cases h:all=false∧okb b=true
 ·obtain ⟨rfl,hok⟩:=h
  rw [zCB hok]
  have:=of_decide_eq_true hok
  exact zJJ _ b rfl this.1 this.2.1 this.2.2 w
 ·rw [zBk h]
  refine zIE _ all (by omega) ?_ w
  cases all
  ·have h2:¬ okb b=true:=fun h3 =>h ⟨rfl,h3⟩
   have h4:¬ (33≤b.toNat∧b.toNat≤126∧b.toNat≠92):=fun h5 =>h2 (decide_eq_true h5)
   omega
  ·exact .inl rfl
end Go.Proofs.YtgoklhoaedceaaaGreatDoor
