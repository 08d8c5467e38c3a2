/- Texts of one proof. -/
import Derived.Test.YtekchkfjgofnkaaGreatDoorMy45
set_option maxRecDepth 100000
set_option maxHeartbeats 8000000
namespace Go.Proofs.YtekchkfjgofnkaaGreatDoor
open Go.RowKit
theorem JT.down {w W:World} {base p b m:Nat} {T:Nat→Prop} {σ:FsSt} (h:JT w base p b T (fun y =>y=σ) m W) :
  Calls Tryz.prog 25 #[.pointer (some ⟨p,0,none⟩)] W fun e w' =>e=.returned (.bool σ.down)∧W=w':=by
 obtain ⟨N,F,h1,_⟩:=h.at_
 exact zOk p b σ.down σ.f σ.g W h1.1
structure OpnS (w:World) (base p b m:Nat) (T:Nat→Prop) (v:Nat) (xs:List Rw) (k:Nat) (W:World) (ps:Nat) (T':Nat→Prop) (τ:FsSt) (X:Sx) (w':World):Prop where
 at_:StAt w base p b ps T' τ (m+12) X w'
 jz:Jz (zAS v (v:Int) (xs.take k)) τ
 sub:∀ j,T j→T' j
 sup:∀ j,T' j→T j∨W.heap.size≤j
 ps0:W.heap.size≤ps
 past:Past T W w'
 ov:X.ov=false
 v_:X.v=v
 n_:X.n=k
 say:X.zs.map Rw.say=(xs.take k).map Rw.say
 es:X.es=zDq (v:Int) xs k
 G:X.G=eo (v:Int) xs k
 few:∀ z ∈ X.zs,z.n≤1000000
 size:W.heap.size≤w'.heap.size
theorem zOA {w W:World} {base p b m:Nat} {T:Nat→Prop} {σ:FsSt} (h:JT w base p b T (fun y =>y=σ) m W) (hq:zBb σ) (hs:SzS 40000000 σ) (hm:m≤900) (hl:∀ W',Below base w W'→Laid W') (v:Nat) (hv:1≤v∧v≤3)
  (v0:Nat) (hv0:1≤v0∧v0≤3) (xs:List Rw) (hmay:zAe (v0:Int) xs) (hf:∀ x ∈ xs,Fits x.r x.l) (hfew:xs.length≤1000) (q:Nat) (h8:8≤q) (hqn:q≤(zAS v0 (v0:Int) xs).length)
  (hC:∀ τ,RdyS v σ τ→τ.fl [108,111,103]=some ⟨(zAS v0 (v0:Int) xs).take q,q⟩) :
  ∃ k,k≤xs.length∧(∀ i,i≤xs.length→(eo (v0:Int) xs i≤q ↔ i≤k)) ∧
  Calls Tryz.prog 8 #[.pointer (some ⟨p,0,none⟩),.int .i64 (v:Int)] W fun e w' =>∃ (ps:Nat) (T':Nat→Prop) (τ:FsSt) (X:Sx),e=.returned (.tuple #[.pointer (some ⟨ps,0,none⟩),.int .i64 0])∧OpnS w base p b m T v0 xs k W ps T' τ X w':=by
 have hl60:∀ x ∈ xs,x.l.length≤1000000:=fun x hx =>by have:=(zBZ (hmay x hx).1).2.2.1;omega
 have hlen:((zAS v0 (v0:Int) xs).take q).length=q:=by rw [List.length_take];omega
 obtain ⟨k,k1,k2,k3⟩:=zKz v0 hv0 xs hmay hf hl60 hfew q h8 hqn
 refine ⟨k,k1,k2,?_⟩
 have hle:eo (v0:Int) xs k≤q:=(k2 k k1).2 (Nat.le_refl _)
 have HRD:=yh (zMK h hq hs hm hl v hv)
 have HDN:=yh h.down
 rw [hq.1] at HDN
 have HOP:=yh (fun (τ:FsSt) (hr:RdyS v σ τ) (W1:World) (hj:JT w base p b T (fun y =>y=τ) (m+10) W1) =>by
  have hbig:=zEY hmay hfew
  have hjz:JT w base p b T (Jz ((zAS v0 (v0:Int) xs).take q)) (m+10) W1:=hj.imp (fun σ' e =>by subst e;exact ⟨by rw [hlen];exact hC _ hr,hr.q,hr.sz⟩)
  exact zLs v0 k _ q xs _ hlen (by omega) hle rfl (by rw [List.take_take,Nat.min_eq_left hle,zOp v0 xs k]) hjz (by omega) (yh fun W' hb A1 c1 hc hr =>k3 A1 c1 W' hc (hl W' (hj.under.1.trans (hb.mono hj.under.2))) hr))
 have HH:=yh h
 have g1:(1:Int)≤(v:Int):=by omega
 have g3:(v:Int)≤3:=by omega
 have HK1:=yh k1
 clear h hq hs hl hmay hf hC k2 k3 hle hlen hl60 k1 h8 hqn
 go_enter Tryz.func8,Tryz.ntmps8
 go_wp2_with fail
 refine HDN.out.mono ?_
 rintro e w1 ⟨rfl,hw⟩
 obtain rfl:=hw
 go_wp2_with fail
 refine HRD.out.mono ?_
 rintro e w2 ⟨rfl,τ,hrd,hj2,hp2,hs2⟩
 have HO2:=yh (HOP.out τ hrd w2 hj2)
 have HP2:=yh hp2
 have HS2:=yh hs2
 clear hrd hj2 hp2 hs2 HOP HRD
 go_wp2_with fail
 refine HO2.out.mono ?_
 rintro e w3 ⟨⟨A3,E3,c3,d3,zs,rfl,hsay,hzn,hro,T3,t1,t2,t3,hj3⟩,hp3,hs3⟩
 obtain ⟨G,hG⟩:∃ G,G=eo (v0:Int) xs k:=⟨_,rfl⟩
 rw [← hG]
 have hb4:=(Below.refl w3.heap.size w3).alloc (Nat.le_refl _) (.cells #[.int .i64 (v0:Int),.slice A3 k c3,.slice E3 k d3,.int .i64 (G:Int)] 48)
 have z4:(w3.alloc (.cells #[.int .i64 (v0:Int),.slice A3 k c3,.slice E3 k d3,.int .i64 (G:Int)] 48)).heap.size=w3.heap.size+1:=by simp
 have e4:=zAE w3 (.cells #[.int .i64 (v0:Int),.slice A3 k c3,.slice E3 k d3,.int .i64 (G:Int)] 48)
 have hb5:=hb4.alloc hb4.size (.cells #[.bool false,.pointer (some ⟨p,0,none⟩),.int .i64 (v0:Int),.slice A3 k c3,.slice E3 k d3,.int .i64 (G:Int)] 50)
 have e5:=zAE (w3.alloc (.cells #[.int .i64 (v0:Int),.slice A3 k c3,.slice E3 k d3,.int .i64 (G:Int)] 48)) (.cells #[.bool false,.pointer (some ⟨p,0,none⟩),.int .i64 (v0:Int),.slice A3 k c3,.slice E3 k d3,.int .i64 (G:Int)] 50)
 rw [z4] at e5
 have q0:=zAA (i:=0) e4 rfl
 have q1:=zAA (i:=1) e4 rfl
 have q2:=zAA (i:=2) e4 rfl
 have q3:=zAA (i:=3) e4 rfl
 have HFIN:Hid (∃ (T':Nat→Prop) (τ':FsSt),OpnS w base p b m T v0 xs k W (w3.heap.size+1) T' τ' ⟨false,v0,A3,k,c3,E3,d3,G,zs,zDq (v0:Int) xs k⟩ ((w3.alloc (.cells #[.int .i64 (v0:Int),.slice A3 k c3,.slice E3 k d3,.int .i64 (G:Int)] 48)).alloc (.cells #[.bool false,.pointer (some ⟨p,0,none⟩),.int .i64 (v0:Int),.slice A3 k c3,.slice E3 k d3,.int .i64 (G:Int)] 50))):=by
  obtain ⟨τ3,hjz,hj4⟩:=hj3.pick
  have hw:=hj4.wide hb5
  have hltw:W.heap.size≤w3.heap.size:=Nat.le_trans HS2.out hs3
  refine ⟨_,τ3,⟨hw,e5,.inr ⟨by omega,by have:=zAJ e5;omega⟩,by have:=hj4.under.2;omega,⟨w2.heap.size,Nat.le_trans HH.out.under.2 HS2.out,hro.below hb5⟩,t3.wide (fun _ h =>.inl h),(hro.apt (.inr (by omega)))⟩,hjz,fun j hj =>.inl (t1 j hj),fun j hj =>?_,by omega,fun j hj =>(hb5.block j (by have:=HP2.out.lt hj (HH.out.lt j hj);omega)).trans ((hp3 j hj).trans (HP2.out j hj)),rfl,rfl,rfl,hsay,rfl,hG,hzn,by have:=hb5.size;omega⟩
  rcases hj with hj | hj
  ·rcases t2 j hj with h | h
   ·exact .inl h
   ·exact .inr (Nat.le_trans HS2.out h)
  ·exact .inr (by omega)
 clear hb4 z4 e4 hb5 e5 hsay hzn hro t1 t2 t3 hj3 hp3 hs3 hG
 go_wp2
 go_ret2
 obtain ⟨T',τ',hop⟩:=HFIN.out
 exact ⟨w3.heap.size+1,T',τ',_,rfl,hop⟩
theorem zQr {xs ys:List Rw} (h:xs.map Rw.say=ys.map Rw.say):(fo Rw.k Rw.t xs).map Rw.say=(fo Rw.k Rw.t ys).map Rw.say:=by
 have e:∀ l:List Rw,(fo Rw.k Rw.t l).map Rw.say=fo (fun s:Rc×List Dp =>s.1.kind) (fun s:Rc×List Dp =>s.1.target) (l.map Rw.say):=fun l =>zSA (k:=Rw.k) (t:=Rw.t) (k':=fun s:Rc×List Dp =>s.1.kind) (t':=fun s:Rc×List Dp =>s.1.target) Rw.say (fun _ =>rfl) (fun _ =>rfl) l
 rw [e,e,h]
theorem zJa (ver:Int):∀ (zs ys:List Rw) (tl:List (List UInt8)),zs.map Rw.say=ys.map Rw.say→zAH ver tl zs=zAH ver tl ys
 | [],[],_,_ =>rfl
 | [],_ :: _,_,h =>by simp at h
 | _ :: _,[],_,h =>by simp at h
 | z :: zs,y :: ys,tl,h =>by
  rw [List.map_cons,List.map_cons,List.cons.injEq] at h
  have h1:z.r=y.r:=congrArg Prod.fst h.1
  have h2:z.l=y.l:=congrArg Prod.snd h.1
  show payL ver tl z.r z.l++zAH ver (tabT ver tl z.r z.l) zs=payL ver tl y.r y.l++zAH ver (tabT ver tl y.r y.l) ys
  rw [h1,h2,zJa ver zs ys _ h.2]
theorem zIL {v:Nat} {zs ys:List Rw} (h:zs.map Rw.say=ys.map Rw.say):zAS v (v:Int) zs=zAS v (v:Int) ys:=by unfold zAS;rw [zJa _ _ _ _ h]
theorem zGM {zs ys:List Rw} (h:zs.map Rw.say=ys.map Rw.say) {z:Rw} (hz:z ∈ zs):∃ y ∈ ys,y.r=z.r∧y.l=z.l:=by
 have h2:Rw.say z ∈ ys.map Rw.say:=by rw [← h];exact List.mem_map_of_mem hz
 obtain ⟨y,hy,e⟩:=List.mem_map.1 h2
 exact ⟨y,hy,congrArg Prod.fst e,congrArg Prod.snd e⟩
theorem zPV {v:Int} {zs ys:List Rw} (h:zs.map Rw.say=ys.map Rw.say) (hm:zAe v ys):zAe v zs:=fun z hz =>by
 obtain ⟨y,hy,e1,e2⟩:=zGM h hz
 rw [← e1,← e2]
 exact hm y hy
section
variable {w W w':World} {base p b ps m:Nat} {T:Nat→Prop} {σ τ:FsSt} {X:Sx}
theorem StAt.dlen (h:StAt w base p b ps T σ m X W):∀ z ∈ X.zs,z.l.length=z.n:=fun z hz =>by
 obtain ⟨lo,_,hr⟩:=h.rows
 have:=(hr.deps z hz).1
 rw [zAn] at this
 omega
theorem StAt.inv (h:StAt w base p b ps T σ m X W) {ys:List Rw} (hs:X.zs.map Rw.say=ys.map Rw.say) (hv:1≤X.v∧X.v≤3) (hm:zAe (X.v:Int) ys) (hf:∀ y ∈ ys,Fits y.r y.l) (hn:X.n≤900) (hone:∀ u ∈ X.es,u.oneCell'=true) (hg:X.G=(zAS X.v (X.v:Int) ys).length) (hz:SzS 40000000 σ) (ha:zAN σ.f) (hb:zAN σ.g):StI X σ:=by
 refine ⟨hv,fun z hzm =>?_,zPV hs hm,hn,hone,by rw [hg,zIL hs],hz,ha,hb⟩
 obtain ⟨y,hy,e1,e2⟩:=zGM hs hzm
 have h1:=hm y hy
 rw [e1,e2] at h1
 have h2:=hf y hy
 rw [e1,e2] at h2
 exact ⟨h2,h1.2,by rw [← h.dlen z hzm];have:=(zBZ h1.1).2.2.1;omega⟩
theorem zOm {v:Int} {xs:List Rw} {k:Nat}:∀ u ∈ zDq v xs k,u.oneCell'=true:=fun u hu =>by
 obtain ⟨i,_,rfl⟩:=List.mem_map.1 hu
 rfl
theorem zCz {σ:FsSt} (h:zBb σ):zAN σ.f∧zAN σ.g:=⟨fun e =>(by rw [h.2.1] at e;cases e),fun e =>(by rw [h.2.2] at e;cases e)⟩
theorem OpnS.inv {v:Nat} {xs:List Rw} {k:Nat} {T':Nat→Prop} (h:OpnS w base p b m T v xs k W ps T' τ X w') (hv:1≤v∧v≤3) (hm:zAe (v:Int) xs) (hf:∀ x ∈ xs,Fits x.r x.l) (hk:k≤xs.length) (h9:k≤900):StI X τ:=by
 have hq:=zCz h.jz.q
 have hvv:=h.v_
 refine h.at_.inv h.say (by rw [hvv];exact hv) (by rw [hvv];exact hm.take k) (fun y hy =>hf y (List.mem_of_mem_take hy)) (by rw [h.n_];exact h9) (by rw [h.es];exact zOm) ?_ h.jz.sz hq.1 hq.2
 rw [h.G,hvv]
 have h1:=zEJ v (xs.take k)
 rw [h1]
 have h2:(xs.take k).length=k:=by rw [List.length_take];omega
 rw [h2]
 unfold eo
 rw [List.take_take,Nat.min_self]
theorem zIA {C D:List UInt8} {s:Nat} {z:Int} (hs:SzS 40000000 σ) (hf:zAN σ.f) (hg:zAN σ.g) (hd:σ.down=false) (hlog:σ.fl [108,111,103]=some ⟨C,s⟩) (hCD:C.length+D.length≤40000000) (ho:Outs σ ⟨0,[108,111,103],[],D,0,[]⟩ τ z) :
    zAN τ.f∧zAN τ.g∧Aq σ τ∧SzS 40000000 τ∧(∀ u,u≠[108,111,103]→τ.fl u=σ.fl u) ∧
    ((z=0∧τ.down=false∧τ.fl [108,111,103]=some ⟨C++D,s⟩)∨(z=8∧τ.down=false∧τ.fl [108,111,103]=some ⟨C,s⟩∧τ.f.1=false∧σ.f.1=true) ∨
     (z=7∧τ.down=true∧(τ.fl [108,111,103]=some ⟨C,s⟩∨τ.fl [108,111,103]=some ⟨C++D,s⟩)∧σ.g.1=true)):=by
  have hle:s≤C.length:=(hs _ _ hlog).2.1
  have hnw:zBW σ ⟨0,[108,111,103],[],D,0,[]⟩=zAb σ.fl [108,111,103] (some ⟨C++D,s⟩):=by simp [zBW,zAi,hlog]
  obtain ⟨h1,h2,h3,h4⟩:=zCp hf hg (by simp [refC,hd]) ho
  have hput:τ.fl=zAb σ.fl [108,111,103] (some ⟨C++D,s⟩)→SzS 40000000 τ∧(∀ u,u≠[108,111,103]→τ.fl u=σ.fl u)∧τ.fl [108,111,103]=some ⟨C++D,s⟩:=fun e =>
    ⟨zDL hs e (fun y h =>by obtain rfl:=Option.some.inj h;exact ⟨by simp;omega,by simp;omega,by simp⟩),fun u hu =>by rw [e,zBj hu],by rw [e,zDn]⟩
  rcases h4 with ⟨a,e,d⟩ | ⟨a,e,d,f,g⟩ | ⟨a,d,e,g⟩
  · obtain ⟨g1,g2,g3⟩:=hput (by rw [e,hnw])
    exact ⟨h1,h2,h3,g1,g2,.inl ⟨a,d,g3⟩⟩
  · exact ⟨h1,h2,h3,zBp hs e,fun u _ =>by rw [e],.inr (.inl ⟨a,d,by rw [e];exact hlog,f,g⟩)⟩
  · rcases e with e | ⟨_,e⟩
    · exact ⟨h1,h2,h3,zBp hs e,fun u _ =>by rw [e],.inr (.inr ⟨a,d,.inl (by rw [e];exact hlog),g⟩)⟩
    · obtain ⟨g1,g2,g3⟩:=hput (by rw [e,hnw])
      exact ⟨h1,h2,h3,g1,g2,.inr (.inr ⟨a,d,.inr g3,g⟩)⟩
theorem zPy {C:List UInt8} {s:Nat} {z:Int} (hs:SzS 40000000 σ) (hf:zAN σ.f) (hg:zAN σ.g) (hd:σ.down=false) (hlog:σ.fl [108,111,103]=some ⟨C,s⟩) (ho:Outs σ ⟨2,[108,111,103],[],[],0,[]⟩ τ z) :
    zAN τ.f∧zAN τ.g∧Aq σ τ∧SzS 40000000 τ∧(∀ u,u≠[108,111,103]→τ.fl u=σ.fl u) ∧
    ((z=0∧τ.down=false∧τ.fl [108,111,103]=some ⟨C,C.length⟩)∨(z=8∧τ.down=false∧τ.fl [108,111,103]=some ⟨C,s⟩∧τ.f.1=false∧σ.f.1=true) ∨
     (z=7∧τ.down=true∧τ.fl [108,111,103]=some ⟨C,s⟩∧σ.g.1=true)):=by
  have hle:C.length≤40000000:=(hs _ _ hlog).1
  have hnw:zBW σ ⟨2,[108,111,103],[],[],0,[]⟩=zAb σ.fl [108,111,103] (some ⟨C,C.length⟩):=by simp [zBW,zAi,hlog]
  obtain ⟨h1,h2,h3,h4⟩:=zCp hf hg (by simp [refC,hd,hlog]) ho
  rcases h4 with ⟨a,e,d⟩ | ⟨a,e,d,f,g⟩ | ⟨a,d,e,g⟩
  · have e2:τ.fl=zAb σ.fl [108,111,103] (some ⟨C,C.length⟩):=by rw [e,hnw]
    exact ⟨h1,h2,h3,zDL hs e2 (fun y h =>by obtain rfl:=Option.some.inj h;exact ⟨hle,Nat.le_refl _,by simp⟩),fun u hu =>by rw [e2,zBj hu],.inl ⟨a,d,by rw [e2,zDn]⟩⟩
  · exact ⟨h1,h2,h3,zBp hs e,fun u _ =>by rw [e],.inr (.inl ⟨a,d,by rw [e];exact hlog,f,g⟩)⟩
  · rcases e with e | ⟨k0,_⟩
    · exact ⟨h1,h2,h3,zBp hs e,fun u _ =>by rw [e],.inr (.inr ⟨a,d,by rw [e];exact hlog,g⟩)⟩
    · exact absurd k0 (by simp)
theorem StI.more (hi:StI X σ) {X':Sx} {W':World} {T':Nat→Prop} {m':Nat} (ha:StAt w base p b ps T' τ m' X' W') {r:Rc} {l:List Dp} (hv:X'.v=X.v) (hn:X'.n=X.n+1) (hn9:X.n+1≤900) (hz:X'.zs.map Rw.say=X.zs.map Rw.say++[(r,l)]) (hes:∀ u ∈ X'.es,u.oneCell'=true) (hG:X'.G=X.G+(frD X r l).length) (hm:MayP (X.v:Int) r l) (hfr:Fits r l) (hnr:Nums r l) (hs:SzS 40000000 τ) (hf:zAN τ.f) (hg:zAN τ.g) :
  StI X' τ∧zAS X'.v (X'.v:Int) X'.zs=zAS X.v (X.v:Int) X.zs++frD X r l:=by
 have hsay:X'.zs.map Rw.say=(X.zs++[(⟨r,none,0,0,l⟩:Rw)]).map Rw.say:=by rw [hz,List.map_append];rfl
 have hfile:=zIK X.v X.zs ⟨r,none,0,0,l⟩
 refine ⟨ha.inv hsay (by rw [hv];exact hi.v13) (by
  rw [hv]
  intro y hy
  rcases List.mem_append.1 hy with hy | hy
  ·exact hi.may y hy
  ·obtain rfl:=List.mem_singleton.1 hy
   exact ⟨hm,hnr⟩) (fun y hy =>by
  rcases List.mem_append.1 hy with hy | hy
  ·exact (hi.ok y hy).1
  ·obtain rfl:=List.mem_singleton.1 hy
   exact hfr) (by rw [hn];exact hn9) hes ?_ hs hf hg,?_⟩
 ·rw [hG,hv,hfile,List.length_append,hi.good]
  rfl
 ·rw [hv,zIL hsay,hfile]
  rfl
end
theorem zNN (W:World):Calls Tryz.prog 7 #[] W fun e w' =>e=.returned (.pointer (some ⟨W.heap.size+1,0,none⟩))∧JT W W.heap.size (W.heap.size+1) W.heap.size (fun k =>k<W.heap.size) (fun y =>y=fs0) 0 w'∧Below W.heap.size W w':=by
 refine (zQM W.heap.size W).mono ?_
 rintro e w1 ⟨rfl,hbx,hfl,hb1⟩
 exact ⟨rfl,⟨fs0,0,fun _ =>none,⟨hbx,hfl⟩,Nat.le_refl _,fun k hk =>⟨zJE (Nat.le_succ _) (Nat.le_refl _) hk,fun h =>by have:=zJE (n0:=W.heap.size) (Nat.le_succ _) (Nat.le_refl _) hk;omega⟩,hb1.size,fun k hk =>Nat.lt_of_lt_of_le hk hb1.size,hb1,rfl⟩,hb1⟩
theorem zJf {w W:World} {base p b m:Nat} {T:Nat→Prop} (h:JT w base p b T (fun y =>y=fs0) m W) (hm:m≤900) (hl:∀ W',Below base w W'→Laid W') (v:Nat) (hv:1≤v∧v≤3) :
  Calls Tryz.prog 8 #[.pointer (some ⟨p,0,none⟩),.int .i64 (v:Int)] W fun e w' =>∃ (ps:Nat) (T':Nat→Prop) (τ:FsSt) (X:Sx),e=.returned (.tuple #[.pointer (some ⟨ps,0,none⟩),.int .i64 0])∧OpnS w base p b m T v [] 0 W ps T' τ X w':=by
 have hlen:(zAS v (v:Int) []).length=8:=by have:=zEJ v [];rw [this];rfl
 obtain ⟨k,k1,_,hc⟩:=zOA h zMy (SzS.nil _) hm hl v hv v hv [] (fun x hx =>by cases hx) (fun x hx =>by cases hx) (by simp) 8 (Nat.le_refl _) (by omega) (fun τ hr =>by rw [List.take_of_length_le (by omega)];have:=hr.new rfl;rw [hlen] at this;exact this)
 obtain rfl:k=0:=by simpa using k1
 exact hc
theorem zSB:fo Rw.k Rw.t [rj0]=[rj0]:=by simp [fo,put1,rput,rj0,Rw.k]
theorem zOr {zs:List Rw} (hz:zs.map Rw.say=[rj0].map Rw.say) {r:Rc} {l:List Dp} {b:Bool} (h:FAns (fo Rw.k Rw.t zs) [97] r l b):b=true∧r=rj0.r:=by
 have h1:=zJN (zQr hz) h
 rw [zSB] at h1
 have h2:zAu [rj0] [97]=some rj0:=by simp [zAu,rj0,Rw.k,Rw.t]
 obtain ⟨h3,h4⟩:=h1
 rw [h2] at h3 h4
 exact ⟨h3,congrArg Prod.fst h4⟩
theorem zJy (W:World) (hl:Laid W):Calls Tryz.prog 6 #[] W fun e w' =>e=.returned (.bool true)∧Below W.heap.size W w':=by
 have HL:=yh (fun (W':World) (hb:Below W.heap.size W W') =>hl.below hb)
 clear hl
 go_enter Tryz.func6,Tryz.ntmps6
 go_wp2_with fail
 refine (zNN W).mono ?_
 rintro e w1 ⟨rfl,hj1,_⟩
 have HOP:=yh (zJf hj1 (by omega) HL.out 2 (by omega))
 clear hj1
 go_wp2_with fail
 refine HOP.out.mono ?_
 rintro e w2 ⟨ps,T2,τ2,X,rfl,hop⟩
 have HO:=yh hop
 have hinv:=hop.inv (by omega) (fun x hx =>by cases hx) (fun x hx =>by cases hx) (Nat.le_refl _) (by omega)
 have HI:=yh hinv
 have HPT:=yh (zGt hop.at_ hinv (by omega) (HL.out w2 hop.at_.jt.under.1) rj0.r none 0 0 [] zJp zGo (by omega) (fun _ =>rfl) (fun W' _ _ =>zAD.none_))
 clear hop hinv HOP
 unfold rj0 at HPT
 go_wp2_with fail
 refine HPT.out.mono ?_
 rintro e w3 ⟨z,rfl,hps⟩
 have hX0:X.zs=[]:=by have:=HO.out.say;simpa using this
 have hmay:MayP (X.v:Int) rj0.r rj0.l:=by rw [HO.out.v_];exact zRY
 have hdone:zCQ W W.heap.size (W.heap.size+1) W.heap.size ps (0+12) T2 τ2 X (frD X rj0.r []) rj0 w2 z w3:=by
  rcases hps with ⟨h,_⟩ | ⟨_,h,_⟩ | ⟨_,_,_,h⟩
  ·rw [HO.out.ov] at h;cases h
  ·exact absurd ⟨rfl,hmay⟩ h
  ·exact h
 obtain ⟨_,τ3,hout,hcase⟩:=hdone
 have hq:=zDI HO.out.jz.q (by simp [refC,HO.out.jz.q.1]) hout
 obtain ⟨rfl,hfl,hq3⟩:=hq
 rcases hcase with ⟨_,T3,A',E',c',d',zs',_,_,hsay,hst⟩ | ⟨h,_⟩
 ·have hask:=zCz hq3
  have hlog:τ2.fl [108,111,103]=some ⟨zAS 2 (2:Int) [],(zAS 2 (2:Int) []).length⟩:=HO.out.jz.log
  have hlen:=zGH HI.out HO.out.at_.len hmay zGo
  have hG:(zAS 2 (2:Int) []).length=X.G:=by rw [HI.out.good,hX0,HO.out.v_];rfl
  have hput:=zIA HO.out.jz.sz (zCz HO.out.jz.q).1 (zCz HO.out.jz.q).2 HO.out.jz.q.1 hlog (D:=frD X rj0.r []) (by rw [hG];have:X.G+(frD X rj0.r []).length≤39178008:=hlen;omega) hout
  have hmore:=HI.out.more (r:=rj0.r) (l:=[]) hst rfl rfl (by have:=HO.out.n_;omega) (by rw [hsay,List.map_append];rfl) (by
   intro u hu
   rcases List.mem_append.1 hu with hu | hu
   ·exact HI.out.one u hu
   ·obtain rfl:=List.mem_singleton.1 hu;rfl) rfl hmay zJp zGo hput.2.2.2.1 hask.1 hask.2
  have HST:=yh hst
  have HSY:Hid (zs'.map Rw.say=[rj0].map Rw.say):=by show _=_;rw [hsay,hX0];rfl
  have HFD:=yh (zIi hst (by show X.n+1≤1000;have:=HO.out.n_;omega) (fun x hx =>⟨(hmore.1.ok x hx).1.1,(hmore.1.ok x hx).2.2⟩) [97])
  have HV:Hid (X.v=2):=HO.out.v_
  clear hask hlog hlen hG hput hmore hst hsay hout hfl hq3 hps hX0 hmay HPT
  unfold rsv at HFD
  go_wp2_with fail
  refine HFD.out.mono ?_
  rintro e w4 ⟨r,A4,n4,c4,l4,bb,hans,rfl,hn4,hr4,hb4⟩
  obtain ⟨rfl,hr⟩:=zOr HSY.out hans
  have hb5:=hb4.alloc hb4.size (.cells #[.int .i64 r.kind,.string (tx r.target),.int .u64 r.rule,.slice A4 n4 c4,.int .u64 r.out,.int .u64 r.time,.string (tx r.tag)] 41)
  have hn5:=zAE w4 (.cells #[.int .i64 r.kind,.string (tx r.target),.int .u64 r.rule,.slice A4 n4 c4,.int .u64 r.out,.int .u64 r.time,.string (tx r.tag)] 41)
  have hout7:r.out=7:=by rw [hr];rfl
  have q4:=zAA (i:=4) hn5 rfl
  have HS5:=yh (HST.out.below hb5)
  have HVR:=yh (zEO ps (W.heap.size+1) _ _ HS5.out.box)
  clear hb4 hb5 hn5 hans hn4 hr4 hr
  rw [hout7] at q4
  unfold rcv rsv
  rw [hout7] at HVR HS5 ⊢
  rw [HV.out] at HVR
  go_wp2_with fail
  refine HVR.out.mono ?_
  rintro e w5 ⟨rfl,hw⟩
  obtain rfl:=hw
  have HB5:=yh HS5.out.jt.under.1
  clear q4
  go_wp2
  go_ret
  exact ⟨rfl,HB5.out⟩
 ·exact absurd rfl h
structure Oq where
 k:Int
 x:Rw
 nm:List UInt8
 A:Option Addr
 n:Nat
 c:Nat
 xs:List Rw
 v:Int
 m:Int
def Oq.cells (o:Oq):List Value:=[.int .i64 o.k,.int .i64 o.x.r.kind,.string (tx o.x.r.target),.int .u64 o.x.r.rule,.slice o.x.A o.x.n o.x.c,.int .u64 o.x.r.out,.int .u64 o.x.r.time,.string (tx o.x.r.tag),.string (tx o.nm),.slice o.A o.n o.c,.int .i64 o.v,.int .i64 o.m]
def oqs (os:List Oq):List Value:=os.flatMap Oq.cells
theorem zDv (x:Oq):x.cells.length=12:=rfl
theorem zGi (x:Oq) (xs:List Oq):oqs (x :: xs)=x.cells++oqs xs:=rfl
theorem zHx:∀ xs:List Oq,(oqs xs).length=xs.length * 12
 | [] =>rfl
 | x :: xs =>by rw [zGi,List.length_append,zHx xs,zDv,List.length_cons];omega
theorem zNc:∀ (xs:List Oq) (i:Nat) (x:Oq),xs[i]? = some x→∀ k u,x.cells[k]? = some u→(oqs xs)[i * 12+k]? = some u
 | [],i,x,h =>by simp at h
 | a :: xs,0,x,h =>fun k u hu =>by
  obtain rfl:a=x:=by simpa using h
  have hk:k<12:=(List.getElem?_eq_some_iff.1 hu).1
  rw [zGi,List.getElem?_append_left (by rw [zDv];omega),Nat.zero_mul,Nat.zero_add]
  exact hu
 | a :: xs,i+1,x,h =>fun k u hu =>by
  rw [zGi,List.getElem?_append_right (by rw [zDv];omega),zDv,show (i+1) * 12+k - 12=i * 12+k by omega]
  exact zNc xs i x (by simpa using h) k u hu
theorem zBa (a:Addr) (m k:Nat):a.add (m+(k+1))=⟨(a.add m).block,(a.add m).off+(k+1),none⟩:=by
 unfold Addr.add
 by_cases h:m=0
 ·subst h;simp
 ·simp [h,Nat.add_assoc]
theorem zNb {W:World} {B:Nat} {A:Option Addr} {n:Nat} {xs:List Oq} (h:zAD W B 12 A n (oqs xs)) (i:Nat) (o:Oq) (hx:xs[i]? = some o) :
  ∃ ad:Addr,A=some ad∧ad.block<B∧W.cell? (ad.add (i * 12))=some (.int .i64 o.k)∧W.cell? ⟨(ad.add (i * 12)).block,(ad.add (i * 12)).off+1,none⟩=some (.int .i64 o.x.r.kind)∧W.cell? ⟨(ad.add (i * 12)).block,(ad.add (i * 12)).off+2,none⟩=some (.string (tx o.x.r.target))∧W.cell? ⟨(ad.add (i * 12)).block,(ad.add (i * 12)).off+3,none⟩=some (.int .u64 o.x.r.rule)∧W.cell? ⟨(ad.add (i * 12)).block,(ad.add (i * 12)).off+4,none⟩=some (.slice o.x.A o.x.n o.x.c)∧W.cell? ⟨(ad.add (i * 12)).block,(ad.add (i * 12)).off+5,none⟩=some (.int .u64 o.x.r.out)∧W.cell? ⟨(ad.add (i * 12)).block,(ad.add (i * 12)).off+6,none⟩=some (.int .u64 o.x.r.time)∧W.cell? ⟨(ad.add (i * 12)).block,(ad.add (i * 12)).off+7,none⟩=some (.string (tx o.x.r.tag))∧W.cell? ⟨(ad.add (i * 12)).block,(ad.add (i * 12)).off+8,none⟩=some (.string (tx o.nm))∧W.cell? ⟨(ad.add (i * 12)).block,(ad.add (i * 12)).off+9,none⟩=some (.slice o.A o.n o.c)∧W.cell? ⟨(ad.add (i * 12)).block,(ad.add (i * 12)).off+10,none⟩=some (.int .i64 o.v)∧W.cell? ⟨(ad.add (i * 12)).block,(ad.add (i * 12)).off+11,none⟩=some (.int .i64 o.m):=by
 have hn:0<n:=by
  have h1:=h.1
  rw [zHx] at h1
  have:=(List.getElem?_eq_some_iff.1 hx).1
  omega
 obtain ⟨ad,rfl,hb,hc⟩:=h.2 hn
 have hat:=fun k u hu =>hc _ _ (zNc xs i o hx k u hu)
 refine ⟨ad,rfl,hb,hat 0 _ rfl,?_,?_,?_,?_,?_,?_,?_,?_,?_,?_,?_⟩
 ·rw [← zBa ad (i * 12) 0];exact hat 1 _ rfl
 ·rw [← zBa ad (i * 12) 1];exact hat 2 _ rfl
 ·rw [← zBa ad (i * 12) 2];exact hat 3 _ rfl
 ·rw [← zBa ad (i * 12) 3];exact hat 4 _ rfl
 ·rw [← zBa ad (i * 12) 4];exact hat 5 _ rfl
 ·rw [← zBa ad (i * 12) 5];exact hat 6 _ rfl
 ·rw [← zBa ad (i * 12) 6];exact hat 7 _ rfl
 ·rw [← zBa ad (i * 12) 7];exact hat 8 _ rfl
 ·rw [← zBa ad (i * 12) 8];exact hat 9 _ rfl
 ·rw [← zBa ad (i * 12) 9];exact hat 10 _ rfl
 ·rw [← zBa ad (i * 12) 10];exact hat 11 _ rfl
structure OIn (w:World) (B:Nat) (o:Oq):Prop where
 fits:Fits o.x.r o.x.l
 nums:Nums o.x.r o.x.l
 xn:o.x.n≤maxLen
 xA:o.x.A=none→o.x.c=0
 rd:zAD w B 3 o.x.A o.x.n (dps o.x.l)
 nm:o.nm.length≤maxLen
 n_:o.n≤maxLen
 A_:o.A=none→o.c=0
 nc:o.n≤o.c
 ok:∀ x ∈ o.xs,(Fits x.r x.l∧x.n≤maxLen)∧Nums x.r x.l
 rs:Recs w B o.A o.n o.xs
theorem OIn.below {w w':World} {B:Nat} {o:Oq} (h:OIn w B o) (hb:Below B w w'):OIn w' B o:=⟨h.fits,h.nums,h.xn,h.xA,h.rd.below hb,h.nm,h.n_,h.A_,h.nc,h.ok,⟨h.rs.1.below hb,fun x hx =>⟨(h.rs.2 x hx).1.below hb,(h.rs.2 x hx).2⟩⟩⟩
theorem OIn.more {w:World} {B B':Nat} {o:Oq} (h:OIn w B o) (hb:B≤B'):OIn w B' o:=⟨h.fits,h.nums,h.xn,h.xA,h.rd.more hb,h.nm,h.n_,h.A_,h.nc,h.ok,⟨h.rs.1.more hb,fun x hx =>⟨(h.rs.2 x hx).1.more hb,(h.rs.2 x hx).2⟩⟩⟩
def zCP (o:Oq):Prop:=small o.x.r o.x.l∧zCm o.xs∧o.nm.length≤300
theorem zLp (A:Option Addr) (n c:Nat) (os:List Oq) (hn:n≤maxLen) (w:World) (h:zAD w w.heap.size 12 A n (oqs os)) (ho:∀ o ∈ os,OIn w w.heap.size o) :
  Calls Tryz.prog 5 #[.slice A n c] w fun e w' =>zAz (¬ ((∀ o ∈ os,zCP o)∧os.length≤40)) e∧Below w.heap.size w w':=by
 have HLEN:Hid (os.length=n):=by have h1:=h.1;rw [zHx] at h1;show _=_;omega
 have HR:=yh h
 have HO:=yh ho
 unfold maxLen at hn
 clear h ho
 go_enter Tryz.func5,Tryz.ntmps5
 go_wp2
 go_loopw [7] (fun v7 wr =>∃ i:Nat,i≤n∧v7=.int .i64 (i:Int)∧(∀ o ∈ os.take i,zCP o)∧Below w.heap.size w wr) (fun v7 _ =>n - (intOf v7).toNat)
 case atStart =>exact ⟨0,Nat.zero_le _,rfl,by simp,Below.refl _ _⟩
 case round =>
  obtain ⟨i,hi,rfl,hsm,hb⟩:=hrel
  have HSM:=yh hsm
  have HB:=yh hb
  clear hsm hb
  by_cases hlt:i<n
  ·obtain ⟨o,hx⟩:∃ o,os[i]? = some o:=⟨_,List.getElem?_eq_getElem (by have:=HLEN.out;omega)⟩
   have hin:=HO.out o (List.mem_of_getElem? hx)
   obtain ⟨ad,rfl,_,k0,k1,k2,k3,k4,k5,k6,k7,k8,k9,k10,k11⟩:=zNb (HR.out.below HB.out) i o hx
   have HTK:Hid (zCP o→∀ y ∈ os.take (i+1),zCP y):=fun hs y hy =>by
    rw [List.take_add_one,hx,List.mem_append] at hy
    rcases hy with hy | hy
    ·exact HSM.out y hy
    ·obtain rfl:y=o:=by simpa using hy
     exact hs
   have HNO:Hid (¬ zCP o→¬ ((∀ o ∈ os,zCP o)∧os.length≤40)):=fun hs hh =>hs (hh.1 o (List.mem_of_getElem? hx))
   obtain ⟨kk,⟨⟨k,t,u,oo,m,g⟩,A4,n4,c4,l4⟩,nm,A5,n5,c5,xs5,ver,mm⟩:=o
   have hin1:=hin.fits
   have hin2:=hin.xn
   have hin3:=hin.rd
   have hin4:=hin.n_
   have hin5:=hin.ok
   have hin6:=hin.rs
   unfold zCP at HTK HNO
   simp only at k0 k1 k2 k3 k4 k5 k6 k7 k8 k9 k10 k11 hin1 hin2 hin3 hin4 hin5 hin6 HTK HNO
   have hal:=HB.out.alloc HB.out.size (.cells #[.int .i64 kk,.int .i64 k,.string (tx t),.int .u64 u,.slice A4 n4 c4,.int .u64 oo,.int .u64 m,.string (tx g),.string (tx nm),.slice A5 n5 c5,.int .i64 ver,.int .i64 mm] 43)
   have hnew:=zAE wr (.cells #[.int .i64 kk,.int .i64 k,.string (tx t),.int .u64 u,.slice A4 n4 c4,.int .u64 oo,.int .u64 m,.string (tx g),.string (tx nm),.slice A5 n5 c5,.int .i64 ver,.int .i64 mm] 43)
   have q0:=zAA (i:=0) hnew rfl
   have q1:=zAA (i:=1) hnew rfl
   have q2:=zAA (i:=2) hnew rfl
   have q3:=zAA (i:=3) hnew rfl
   have q4:=zAA (i:=4) hnew rfl
   have q5:=zAA (i:=5) hnew rfl
   have q6:=zAA (i:=6) hnew rfl
   have q7:=zAA (i:=7) hnew rfl
   have q8:=zAA (i:=8) hnew rfl
   have q9:=zAA (i:=9) hnew rfl
   have q10:=zAA (i:=10) hnew rfl
   have q11:=zAA (i:=11) hnew rfl
   have HG8:=yh (zFD ⟨k,t,u,oo,m,g⟩ A4 n4 c4 l4 (wr.alloc (.cells #[.int .i64 kk,.int .i64 k,.string (tx t),.int .u64 u,.slice A4 n4 c4,.int .u64 oo,.int .u64 m,.string (tx g),.string (tx nm),.slice A5 n5 c5,.int .i64 ver,.int .i64 mm] 43)) hin2 hin1.2.2 hin1.1 hin1.2.1 ((hin3.below hal).more hal.size))
   have HAL:=yh hal
   have HE:=yh hnew
   have HG10:=yh (fun (v:World) (hb:Below w.heap.size w v) =>zHO A5 n5 c5 xs5 hin4 (fun x hx =>(hin5 x hx).1) v (⟨(hin6.1.below hb).more hb.size,fun x hx =>⟨((hin6.2 x hx).1.below hb).more hb.size,(hin6.2 x hx).2⟩⟩))
   have hi0:(0:Int)≤(i:Int):=by omega
   have hi1:(i:Int)<(n:Int):=by omega
   have hsz:(tx nm).size=nm.length:=zDb nm
   unfold rcv rsv at HG8
   clear hx hin hal hnew hin1 hin2 hin3 hin4 hin5 hin6
   go_wp2_with fail
   refine HG8.out.mono ?_
   rintro e w3 ⟨ht,hb3⟩
   have HB3:=yh (HAL.out.trans (hb3.mono HAL.out.size))
   have hx3:=(hb3.block wr.heap.size (zAJ HE.out)).trans HE.out
   have HX3:=yh hx3
   have r9:=zAA (i:=9) hx3 rfl
   clear hb3 hx3 k0 k1 k2 k3 k4 k5 k6 k7 k8 k9 k10 k11 q0 q1 q2 q3 q4 q5 q6 q7 q8 q9 q10 q11
   by_cases h1:small ⟨k,t,u,oo,m,g⟩ l4
   ·obtain rfl:=ht.no (fun h =>h h1)
    have H1:=yh h1
    clear ht h1
    go_wp2_with fail
    refine (HG10.out _ HB3.out).mono ?_
    rintro e w4 ⟨ht,hb4⟩
    have HB4:=yh (HB3.out.trans (hb4.mono HB3.out.size))
    have hx4:=(hb4.block wr.heap.size (zAJ HX3.out)).trans HX3.out
    have s8:=zAA (i:=8) hx4 rfl
    clear hb4 hx4 r9
    by_cases h2:zCm xs5
    ·obtain rfl:=ht.no (fun h =>h h2)
     have H2:=yh h2
     clear ht h2
     by_cases h3:nm.length≤300
     ·have h3d:((tx nm).size:Int)≤300:=by rw [hsz];omega
      have H3:=yh h3
      clear h3
      go_wp2
      exact ⟨⟨i+1,by omega,by go_num,HTK.out ⟨H1.out,H2.out,H3.out⟩,HB4.out⟩,by simp [intOf];omega⟩
     ·have h3d:(300:Int)<((tx nm).size:Int):=by rw [hsz];omega
      have H3:Hid (¬ nm.length≤300):=h3
      clear h3
      go_wp2
      go_ret
      exact ⟨zBY (HNO.out (fun h =>H3.out h.2.2)),HB4.out⟩
    ·obtain rfl:=ht.yes h2
     have H2:Hid (¬ zCm xs5):=h2
     clear ht h2
     go_wp2
     go_ret
     exact ⟨zBY (HNO.out (fun h =>H2.out h.2.1)),HB4.out⟩
   ·obtain rfl:=ht.yes h1
    have H1:Hid (¬ small ⟨k,t,u,oo,m,g⟩ l4):=h1
    clear ht h1
    go_wp2
    go_ret
    exact ⟨zBY (HNO.out (fun h =>H1.out h.1)),HB3.out⟩
  ·obtain rfl:i=n:=by omega
   have HALL:Hid (∀ o ∈ os,zCP o):=by
    have h1:=HSM.out
    rw [List.take_of_length_le (by have:=HLEN.out;omega)] at h1
    exact h1
   by_cases h40:i≤40
   ·have h3d:(i:Int)≤40:=by omega
    go_wp2
    go_ret
    exact ⟨by first | exact zAl (fun h =>h ⟨HALL.out,by have:=HLEN.out;omega⟩) | (refine (show ∀ {b:Bool},b=false→zAz (¬ ((∀ o ∈ os,zCP o)∧os.length≤40)) (.returned (.bool b)) from fun h =>h▸zAl (fun h =>h ⟨HALL.out,by have:=HLEN.out;omega⟩)) ?_;simp;omega),HB.out⟩
   ·have h3d:(40:Int)<(i:Int):=by omega
    have END:Hid (∀ b:Bool,b=true→zAz (¬ ((∀ o ∈ os,zCP o)∧os.length≤40)) (.returned (.bool b))):=fun b h =>h▸zBY (fun h =>h40 (by have h1:=HLEN.out;have h2:=h.2;omega))
    go_wp2
    go_ret
    exact ⟨END.out _ (by first | rfl | (simp;omega)),HB.out⟩
end Go.Proofs.YtekchkfjgofnkaaGreatDoor
