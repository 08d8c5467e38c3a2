/- Texts of one proof. -/
import Derived.Deep.Slices
import Derived.Deep.Strs
import Derived.Test.YtfbgmehicmpdiaaGreatDoorMx19
set_option maxRecDepth 100000
set_option maxHeartbeats 8000000
namespace Go.Proofs.YtfbgmehicmpdiaaGreatDoor
def zAI (ver:Int):List (List UInt8)→List Rw→List (List UInt8)
 | _,[] =>[]
 | tl,x :: xs =>payL ver tl x.r x.l++zAI ver (tabT ver tl x.r x.l) xs
def zAW (ver:Int) (tl:List (List UInt8)) (xs:List Rw):List (List UInt8):=xs.foldl (fun t x =>tabT ver t x.r x.l) tl
theorem zEH (ver:Int) (tl:List (List UInt8)) (xs:List Rw) (x:Rw):zAW ver tl (xs++[x])=tabT ver (zAW ver tl xs) x.r x.l:=by
 unfold zAW
 rw [List.foldl_append]
 rfl
theorem zCd (ver:Int):∀ (tl:List (List UInt8)) (xs ys:List Rw),zAI ver tl (xs++ys)=zAI ver tl xs++zAI ver (zAW ver tl xs) ys
 | tl,[],ys =>rfl
 | tl,x :: xs,ys =>by
  show payL ver tl x.r x.l++zAI ver _ (xs++ys)=(payL ver tl x.r x.l++zAI ver _ xs)++_
  rw [zCd ver _ xs ys,List.append_assoc]
  rfl
theorem zDQ (ver:Int) (tl:List (List UInt8)) (xs:List Rw) (x:Rw):zAI ver tl (xs++[x])=zAI ver tl xs++payL ver (zAW ver tl xs) x.r x.l:=by
 rw [zCd]
 show _++(payL ver _ x.r x.l++[])=_
 rw [List.append_nil]
theorem zHk {ver:Int} {tl:List (List UInt8)} {xs:List Rw} {i:Nat} {x:Rw} (h:xs[i]? = some x):zAI ver tl xs=zAI ver tl (xs.take i)++(payL ver (zAW ver tl (xs.take i)) x.r x.l++zAI ver (zAW ver tl (xs.take (i+1))) (xs.drop (i+1))):=by
 obtain ⟨hlt,hx⟩:=List.getElem?_eq_some_iff.1 h
 have h1:xs=xs.take (i+1)++xs.drop (i+1):=(List.take_append_drop _ _).symm
 have h2:xs.take (i+1)=xs.take i++[x]:=by rw [List.take_add_one,h];rfl
 have h3:zAI ver tl xs=zAI ver tl (xs.take (i+1))++zAI ver (zAW ver tl (xs.take (i+1))) (xs.drop (i+1)):=by
  rw [← zCd,← h1]
 rw [h3]
 conv =>lhs;lhs;rw [h2,zDQ]
 rw [List.append_assoc]
theorem zEG {ver:Int} {tl:List (List UInt8)} {xs:List Rw} {i:Nat} {x:Rw} (h:xs[i]? = some x):(zAI ver tl (xs.take (i+1))).length=(zAI ver tl (xs.take i)).length+(payL ver (zAW ver tl (xs.take i)) x.r x.l).length∧zAW ver tl (xs.take (i+1))=tabT ver (zAW ver tl (xs.take i)) x.r x.l:=by
 have h2:xs.take (i+1)=xs.take i++[x]:=by rw [List.take_add_one,h];rfl
 rw [h2,zDQ,zEH,List.length_append]
 exact ⟨rfl,rfl⟩
theorem zEt {ver:Int}:∀ (xs:List Rw) (tl:List (List UInt8)),(∀ x ∈ xs,MayP ver x.r x.l)→(zAW ver tl xs).length≤tl.length+18 * xs.length
 | [],tl,_ =>by unfold zAW;simp
 | x :: xs,tl,h =>by
  have h1:=zEt xs (tabT ver tl x.r x.l) (fun y hy =>h y (by simp [hy]))
  have h2:=zCm (tl:=tl) (h x (by simp))
  show (zAW ver (tabT ver tl x.r x.l) xs).length≤_
  rw [List.length_cons]
  omega
theorem zEl {ver:Int}:∀ (xs:List Rw) (tl:List (List UInt8)),(∀ x ∈ xs,MayP ver x.r x.l)→(zAI ver tl xs).length≤19 * xs.length
 | [],tl,_ =>by simp [zAI]
 | x :: xs,tl,h =>by
  have h1:=zEl xs (tabT ver tl x.r x.l) (fun y hy =>h y (by simp [hy]))
  have h2:=zCl (tl:=tl) (h x (by simp))
  show (payL ver tl x.r x.l++zAI ver _ xs).length≤_
  rw [List.length_append,List.length_cons]
  omega
open Go.RowKit
open Classical in
noncomputable def zDc (ver:Int) (xs:List Rw):List Rw:=xs.filter (fun x =>decide (MayP ver x.r x.l))
structure FS (w0 w:World) (S U:Nat→Prop) (bt bu N:Nat) (tl:List (List UInt8)) (va:Value) (ps:List (List UInt8)) (vs:List Value) (vb:Value) (gs:List Rw):Prop where
 below:Below w0.heap.size w0 w
 ht:Tab w S bt N tl
 hu:Tab w U bu 0 []
 lt:∀ k,S k∨U k→k<w.heap.size∧w0.heap.size≤k
 dis:∀ k,S k→¬ U k
 rows:zBR w w0.heap.size (fun k =>S k∨U k) va ps vs
 good:w.ownsRow w0.heap.size 46 7 vb gs.length (rws gs)
 gok:∀ g,vb.ownBlock=some g→¬ (S g∨U g)
section
variable {w0 w w':World} {S S' U:Nat→Prop} {bt bu N N':Nat} {tl tl':List (List UInt8)} {va:Value} {ps:List (List UInt8)} {vs:List Value} {vb:Value} {gs:List Rw}
theorem FS.new (h:FS w0 w S U bt bu N tl va ps vs vb gs) (hb:Below w.heap.size w w'):FS w0 w' S U bt bu N tl va ps vs vb gs where
 below:=h.below.trans (hb.mono h.below.size)
 ht:=h.ht.keep fun k _ hk =>hb.block k hk
 hu:=h.hu.keep fun k _ hk =>hb.block k hk
 lt:=fun k hk =>⟨Nat.lt_of_lt_of_le (h.lt k hk).1 hb.size,(h.lt k hk).2⟩
 dis:=h.dis
 rows:=h.rows.below hb
 good:=zAK h.good hb
 gok:=h.gok
theorem FS.put (h:FS w0 w S U bt bu N tl va ps vs vb gs) (ht':Tab w' S' bt N' tl') (hs':∀ k,S' k→k<w'.heap.size∧(S k∨w.heap.size≤k)) (htu:Turn S w w'):FS w0 w' S' U bt bu N' tl' va ps vs vb gs where
 below:=h.below.trans (htu.below (fun k hk =>(h.lt k (.inl hk)).2) h.below.size)
 ht:=ht'
 hu:=h.hu.turn htu fun k h1 _ h2 =>h.dis k h2 h1
 lt:=fun k hk =>by
  rcases hk with hk | hk
  ·refine ⟨(hs' k hk).1,?_⟩
   rcases (hs' k hk).2 with h1 | h1
   ·exact (h.lt k (.inl h1)).2
   ·have:=h.below.size;omega
  ·exact ⟨Nat.lt_of_lt_of_le (h.lt k (.inr hk)).1 htu.2.2.2.1,(h.lt k (.inr hk)).2⟩
 dis:=fun k h1 h2 =>by
  rcases (hs' k h1).2 with h3 | h3
  ·exact h.dis k h3 h2
  ·have:=(h.lt k (.inr h2)).1;omega
 rows:=by
  refine (h.rows.set (S2:=fun k =>S k∨S' k∨U k) (fun k hk h1 =>?_)).turn htu (fun k _ h1 =>.inl h1) |>.set (fun k _ h1 =>.inr h1)
  rcases h1 with h1 | h1 | h1
  ·exact .inl h1
  ·rcases (hs' k h1).2 with h2 | h2
   ·exact .inl h2
   ·omega
  ·exact .inr h1
 good:=zAP h.good fun g hg =>htu.2.2.2.2 g (zAO h.good g hg) fun h1 =>h.gok g hg (.inl h1)
 gok:=fun g hg h1 =>by
  rcases h1 with h1 | h1
  ·rcases (hs' g h1).2 with h2 | h2
   ·exact h.gok g hg (.inl h2)
   ·have:=zAO h.good g hg;omega
  ·exact h.gok g hg (.inr h1)
theorem zMT {base b:Nat} {vq v':Value} {qs:List (List UInt8)} {us:List Value} (hb:base≤b) (h:zBR w base S va ps vs) (hq:zBR w b S vq qs us)
  (ho:w'.ownsRow base 31 1 v' (ps.length+qs.length) (vs++us)) (hg:w.grownBy w' va.ownBlock) (hv:v'.ownBlock=va.ownBlock∨v'.ownBlock=some w.heap.size) (hn:¬ S w.heap.size):zBR w' base S v' (ps++qs) (vs++us):=by
 obtain ⟨h1,h2,h3,h4⟩:=h
 obtain ⟨k1,k2,k3,k4⟩:=hq
 refine ⟨by rw [List.length_append];exact ho,fun g hg' =>?_,by simp [h3,k3],fun i p hp =>?_⟩
 ·rcases hv with e | e
  ·exact h2 g (e▸hg')
  ·rw [e] at hg'
   obtain rfl:w.heap.size=g:=by simpa using hg'
   exact hn
 ·rcases Nat.lt_or_ge i ps.length with hlt | hge
  ·rw [List.getElem?_append_left hlt] at hp
   obtain ⟨u,h5,h6,h7⟩:=h4 i p hp
   exact ⟨u,by rw [List.getElem?_append_left (by rw [h3];exact hlt)];exact h5,zBS h6 (zBQ h1 h6 (by decide)) hg,h7⟩
  ·rw [List.getElem?_append_right hge] at hp
   obtain ⟨u,h5,h6,h7⟩:=k4 _ p hp
   exact ⟨u,by rw [List.getElem?_append_right (by rw [h3];exact hge),h3];exact h5,zAV (zBS h6 (zBQ h1 h6 (by decide)) hg) hb,h7⟩
theorem zHt {b M:Nat} {l:List (List UInt8)} {T:Nat→Prop} {row:Option Nat} (h:Tab w T b M l) (hg:w.grownBy w' row) (hn:∀ g,row=some g→¬ T g):Tab w' T b M l :=
 h.keep fun k hk hlt =>hg.block k hlt (fun e =>hn k e.symm hk)
theorem FS.all {b:Nat} {vq v':Value} {qs:List (List UInt8)} {us:List Value} (h:FS w0 w S U bt bu N tl va ps vs vb gs) (hb:w0.heap.size≤b) (hq:zBR w b (fun k =>S k∨U k) vq qs us)
  (ho:w'.ownsRow w0.heap.size 31 1 v' (ps.length+qs.length) (vs++us)) (hg:w.grownBy w' va.ownBlock) (hv:v'.ownBlock=va.ownBlock∨v'.ownBlock=some w.heap.size):FS w0 w' S U bt bu N tl v' (ps++qs) (vs++us) vb gs where
 below:=h.below.grown hg h.below.size (zAG h.rows.1)
 ht:=zHt h.ht hg fun g e h1 =>h.rows.2.1 g e (.inl h1)
 hu:=zHt h.hu hg fun g e h1 =>h.rows.2.1 g e (.inr h1)
 lt:=fun k hk =>⟨Nat.lt_of_lt_of_le (h.lt k hk).1 hg.size,(h.lt k hk).2⟩
 dis:=h.dis
 rows:=zMT hb h.rows hq ho hg hv (fun h1 =>by have:=(h.lt _ h1).1;omega)
 good:=zBS h.good (zBQ h.rows.1 h.good (by decide)) hg
 gok:=h.gok
end
theorem FS.next {w0 w:World} {S U:Nat→Prop} {bt bu:Nat} {ver:Int} {xs:List Rw} {x:Rw} {i:Nat} {va:Value} {vs:List Value} {vb:Value} (hg:zDc ver (xs.take (i+1))=zDc ver (xs.take i)++[x])
  (h:FS w0 w S U bt bu (18 * i+18) (tabT ver (zAW ver [] (zDc ver (xs.take i))) x.r x.l) va (zAI ver [] (zDc ver (xs.take i))++payL ver (zAW ver [] (zDc ver (xs.take i))) x.r x.l) vs vb (zDc ver (xs.take i)++[x])) :
  FS w0 w S U bt bu (18 * (i+1)) (zAW ver [] (zDc ver (xs.take (i+1)))) va (zAI ver [] (zDc ver (xs.take (i+1)))) vs vb (zDc ver (xs.take (i+1))):=by
 rw [hg,zEH,zDQ]
 exact h
structure SS (w0 w:World) (S U:Nat→Prop) (bt bu N M:Nat) (tl ul:List (List UInt8)) (A:Option Addr) (na ca:Nat) (ps:List (List UInt8)) (vb:Value) (gs:List Rw) (B:Nat):Prop where
 below:Below w0.heap.size w0 w
 ht:Tab w S bt N tl
 hu:Tab w U bu M ul
 lt:∀ k,S k∨U k→k<w.heap.size∧w0.heap.size≤k
 dis:∀ k,S k→¬ U k
 all:PlsT w B U A na ca ps
 hB:B≤w.heap.size
 good:w.ownsRow w0.heap.size 46 7 vb gs.length (rws gs)
 gok:∀ g,vb.ownBlock=some g→¬ U g
section
variable {w0 w w':World} {S U U':Nat→Prop} {bt bu N M M':Nat} {tl ul ul':List (List UInt8)} {A:Option Addr} {na ca B:Nat} {ps:List (List UInt8)} {vb:Value} {gs:List Rw}
theorem SS.new (h:SS w0 w S U bt bu N M tl ul A na ca ps vb gs B) (hb:Below w.heap.size w w'):SS w0 w' S U bt bu N M tl ul A na ca ps vb gs B where
 below:=h.below.trans (hb.mono h.below.size)
 ht:=h.ht.keep fun k _ hk =>hb.block k hk
 hu:=h.hu.keep fun k _ hk =>hb.block k hk
 lt:=fun k hk =>⟨Nat.lt_of_lt_of_le (h.lt k hk).1 hb.size,(h.lt k hk).2⟩
 dis:=h.dis
 all:=h.all.turn (Turn.of_below hb) h.hB
 hB:=Nat.le_trans h.hB hb.size
 good:=zAK h.good hb
 gok:=h.gok
end
theorem zDu {w:World} {base n c size:Nat} {e:TypeId} {A:Option Addr} {xs:List Value} (h:w.ownsRow base e size (.slice A n c) n xs):n≤c:=by
 rcases h.2 with ⟨h5,h6⟩ | ⟨g,cap,cur,h5,_,_,h6,_⟩
 ·injection h5 with _ h7 h8;omega
 ·injection h5 with _ h7 h8;omega
theorem PlsT.of_rows {w:World} {base:Nat} {S U:Nat→Prop} {A:Option Addr} {c:Nat} {ps:List (List UInt8)} {vs:List Value} (h:zBR w base (fun k =>S k∨U k) (.slice A ps.length c) ps vs):PlsT w w.heap.size U A ps.length c ps:=by
 obtain ⟨h1,h2,h3,h4⟩:=h
 refine ⟨zDu h1,rfl,vs,zAE.of_own h1,fun ad e _ h5 =>?_,fun i p hp =>?_⟩
 ·subst e
  exact h2 ad.block rfl (.inr h5)
 ·obtain ⟨v,h5,h6,h7⟩:=h4 i p hp
  obtain ⟨A',c',rfl,_⟩:=zAM h6
  refine ⟨A',c',h5,zDu h6,zAE.of_own h6,fun ad e _ h8 =>?_⟩
  subst e
  exact h7 ad.block rfl (.inr h8)
def zGv (ver:Int):Int:=if 1≤ver∧ver≤3 then 1 else 11
theorem zJq (bt:Nat) (ver:Int) (r:Rc) (A:Option Addr) (n c:Nat) (l:List Dp) (hm:¬ MayP ver r l) (hn:n≤1000) (hfit:Fits r l) (w:World) (hr:zAE w w.heap.size 3 A n (dps l)) :
  Calls Tryz.prog 57 #[.int .i64 ver,.pointer (some ⟨bt,0,none⟩),.agg #[.int .i64 r.kind,.string (tx r.target),.int .u64 r.rule,.slice A n c,.int .u64 r.out,.int .u64 r.time,.string (tx r.tag)]] w fun e w' =>e=.returned (.tuple #[.slice none 0 0,.int .i64 (zGv ver)])∧Below w.heap.size w w':=by
 unfold zGv
 by_cases hv:1≤ver∧ver≤3
 ·rw [if_pos hv]
  refine zPT ver hv bt n c r A w (yh fun W hb =>?_)
  refine (zJm ver r A n c l hn hfit W ((hr.below hb).more hb.size)).mono fun e w' ⟨⟨q,h1,h2⟩,h3⟩ =>⟨?_,h3⟩
  cases q with
  | false =>exact h2
  | true =>exact absurd (h1.1 rfl) hm
 ·rw [if_neg hv]
  exact zPV ver hv (some ⟨bt,0,none⟩) n c r A w
def tblA (tl:List (List UInt8)) (qs:List (List UInt8)) (j:Nat):List (List UInt8):=((qs.take j).map List.tail).foldl tput tl
theorem zIt (tl qs:List (List UInt8)) (j:Nat):(tblA tl qs j).length≤tl.length+j:=by
 unfold tblA
 have h1:=zBd ((qs.take j).map List.tail) tl
 rw [List.length_map,List.length_take] at h1
 omega
theorem zHv:∀ (qs:List (List UInt8)) (j:Nat),j<zAi qs→∃ t,qs[j]? = some (0 :: t)
 | [],j,h =>by simp [zAi] at h
 | p :: qs,j,h =>by
  unfold zAi at h
  by_cases hp:zBi p=true
  ·rw [if_pos hp] at h
   cases j with
   | zero =>
    match p,hp with
    | [],hp =>simp [zBi] at hp
    | x :: p,hp =>
     have hx:x=0:=by simpa [zBi] using hp
     exact ⟨p,by rw [hx];rfl⟩
   | succ j =>
    obtain ⟨t,ht⟩:=zHv qs j (by omega)
    exact ⟨t,by simpa using ht⟩
  ·rw [if_neg hp] at h;omega
theorem zGo:∀ (qs:List (List UInt8)) (p:List UInt8),qs[zAi qs]? = some p→zBi p=false
 | [],p,h =>by simp at h
 | q :: qs,p,h =>by
  unfold zAi at h
  by_cases hq:zBi q=true
  ·rw [if_pos hq] at h
   exact zGo qs p (by simpa using h)
  ·rw [if_neg hq] at h
   have:q=p:=by simpa using h
   rw [← this];simpa using hq
end Go.Proofs.YtfbgmehicmpdiaaGreatDoor
