/- Texts of one proof. -/
import Derived.Laws.Externs
import Derived.Test.YtekchkfjgofnkaaGreatDoorMy31
set_option maxRecDepth 100000
set_option maxHeartbeats 8000000
namespace Go.Proofs.YtekchkfjgofnkaaGreatDoor
open Go.RowKit Go.Maps Go.ChangeMaps Go.WideMaps Go.Sort
theorem zAJ {W:World} {a:Nat} {o:Obj} (h:W.heap[a]? = some o):a<W.heap.size:=(Array.getElem?_eq_some_iff.1 h).1
def fval (A:Option Addr) (n c s:Nat):Value:=.agg #[.slice A n c,.int .i64 (s:Int)]
def zAZ (w:World) (base b N:Nat) (fl:List UInt8→Option Fl) (f:List UInt8→Option Value):Prop :=
 TMap w b N f∧(∀ u,fl u=none→f u=none) ∧
 (∀ u x,fl u=some x→∃ A c,f u=some (fval A x.body.length c x.safe)∧(A=none→c=0)∧w.ownsRow base 5 1 (.slice A x.body.length c) x.body.length (x.body.map bv)) ∧
 ∀ u u' A n c s A' n' c' s',u≠u'→f u=some (fval A n c s)→f u'=some (fval A' n' c' s')→zDd (.slice A n c) (.slice A' n' c')
def zAU (p b:Nat) (f:List UInt8→Option Value) (k:Nat):Prop:=k=p∨k=b ∨ ∃ u A n c s,f u=some (fval A n c s)∧Value.ownBlock (.slice A n c)=some k
theorem zES {w:World} {base n size:Nat} {e:TypeId} {v:Value} {xs:List Value} {b:Nat} {es:Array MapEntry} {ck:Nat} (h:w.ownsRow base e size v n xs) (hb:w.heap[b]? = some (.map es ck)):v.ownBlock≠some b:=by
 rcases h.2 with ⟨rfl,_⟩ | ⟨g,cap,cur,rfl,_,hg,_⟩
 ·simp [Value.ownBlock]
 ·intro e2
  simp only [Value.ownBlock,Option.some.injEq] at e2
  subst e2
  rw [hb] at hg
  cases hg
theorem TMap.heap {w:World} {b N:Nat} {f:List UInt8→Option Value} (h:TMap w b N f):∃ es ck,w.heap[b]? = some (.map es ck):=by
 obtain ⟨D,⟨es,ck,hb,_⟩,_⟩:=h
 exact ⟨es,ck,hb⟩
theorem zAZ.kept {w w':World} {base b N:Nat} {fl:List UInt8→Option Fl} {f:List UInt8→Option Value} {row:Option Nat} (h:zAZ w base b N fl f) (hg:w.grownBy w' row) (hb:some b≠row) (hr:∀ u A n c s,f u=some (fval A n c s)→Value.ownBlock (.slice A n c)=none∨Value.ownBlock (.slice A n c)≠row):zAZ w' base b N fl f:=by
 obtain ⟨h1,h2,h3,h4⟩:=h
 refine ⟨h1.kept hg hb,h2,fun u x hx =>?_,h4⟩
 obtain ⟨A,c,e,hA,ho⟩:=h3 u x hx
 exact ⟨A,c,e,hA,ho.kept hg (hr u A _ c _ e)⟩
theorem zAZ.below {w w':World} {base b N:Nat} {fl:List UInt8→Option Fl} {f:List UInt8→Option Value} (h:zAZ w base b N fl f) (hb:Below w.heap.size w w'):zAZ w' base b N fl f:=by
 obtain ⟨h1,h2,h3,h4⟩:=h
 refine ⟨h1.below hb,h2,fun u x hx =>?_,h4⟩
 obtain ⟨A,c,e,hA,ho⟩:=h3 u x hx
 exact ⟨A,c,e,hA,zAK ho hb⟩
theorem zAZ.turn {w w':World} {base b p N:Nat} {fl:List UInt8→Option Fl} {f:List UInt8→Option Value} (h:zAZ w base b N fl f) (hb:∀ k,zAU p b f k→w'.heap[k]? = w.heap[k]?):zAZ w' base b N fl f:=by
 obtain ⟨h1,h2,h3,h4⟩:=h
 refine ⟨h1.at_heap (hb b (.inr (.inl rfl))),h2,fun u x hx =>?_,h4⟩
 obtain ⟨A,c,e,hA,ho⟩:=h3 u x hx
 exact ⟨A,c,e,hA,zAR ho (fun g hg =>hb g (.inr (.inr ⟨u,A,_,c,_,e,hg⟩)))⟩
def zAb (fl:List UInt8→Option Fl) (s:List UInt8) (x:Option Fl):List UInt8→Option Fl:=fun u =>if u=s then x else fl u
theorem zFg {w w1 w2:World} {base b N:Nat} {fl:List UInt8→Option Fl} {f:List UInt8→Option Value} {s:List UInt8} {x:Fl} {A:Option Addr} {c:Nat} (h:zAZ w base b N fl f)
  (hk:∀ u y A' c',u≠s→fl u=some y→f u=some (fval A' y.body.length c' y.safe)→w.ownsRow base 5 1 (.slice A' y.body.length c') y.body.length (y.body.map bv)→w1.ownsRow base 5 1 (.slice A' y.body.length c') y.body.length (y.body.map bv))
  (hA:A=none→c=0) (ho:w1.ownsRow base 5 1 (.slice A x.body.length c) x.body.length (x.body.map bv))
  (ha:∀ u A' n' c' s',u≠s→f u=some (fval A' n' c' s')→zDd (.slice A x.body.length c) (.slice A' n' c'))
  (hb1:∃ es ck,w1.heap[b]? = some (.map es ck)) (hm:TMap w2 b (N+1) (fput f s (fval A x.body.length c x.safe))) (hg:w1.grownBy w2 (some b)):zAZ w2 base b (N+1) (zAb fl s (some x)) (fput f s (fval A x.body.length c x.safe)):=by
 obtain ⟨h1,h2,h3,h4⟩:=h
 obtain ⟨es,ck,hbk⟩:=hb1
 refine ⟨hm,fun u hu =>?_,fun u y hy =>?_,fun u u' A1 n1 c1 s1 A2 n2 c2 s2 hne e1 e2 =>?_⟩
 ·unfold zAb at hu
  unfold fput
  by_cases e:u=s
  ·rw [if_pos e] at hu;cases hu
  ·rw [if_neg e] at hu ⊢;exact h2 u hu
 ·unfold zAb at hy
  unfold fput
  by_cases e:u=s
  ·rw [if_pos e] at hy ⊢
   obtain rfl:=Option.some.inj hy
   exact ⟨A,c,rfl,hA,ho.kept hg (.inr (zES ho hbk))⟩
  ·rw [if_neg e] at hy ⊢
   obtain ⟨A',c',e',hA',ho'⟩:=h3 u y hy
   have h5:=hk u y A' c' e hy e' ho'
   exact ⟨A',c',e',hA',h5.kept hg (.inr (zES h5 hbk))⟩
 ·unfold fput at e1 e2
  by_cases k1:u=s
  ·rw [if_pos k1] at e1
   rw [if_neg (fun k2 =>hne (k1.trans k2.symm))] at e2
   have e3:=Option.some.inj e1
   unfold fval at e3
   simp only [Value.agg.injEq,Array.mk.injEq,List.cons.injEq,and_true] at e3
   rw [← e3.1]
   exact ha u' A2 n2 c2 s2 (fun k2 =>hne (k1.trans k2.symm)) e2
  ·rw [if_neg k1] at e1
   by_cases k2:u'=s
   ·rw [if_pos k2] at e2
    have e3:=Option.some.inj e2
    unfold fval at e3
    simp only [Value.agg.injEq,Array.mk.injEq,List.cons.injEq,and_true] at e3
    rw [← e3.1]
    exact (ha u A1 n1 c1 s1 k1 e1).symm
   ·rw [if_neg k2] at e2
    exact h4 u u' A1 n1 c1 s1 A2 n2 c2 s2 hne e1 e2
theorem zGF {p b k:Nat} {f:List UInt8→Option Value} {s:List UInt8} {A:Option Addr} {n c q:Nat} (h:zAU p b (fput f s (fval A n c q)) k):zAU p b f k∨Value.ownBlock (.slice A n c)=some k:=by
 rcases h with h | h | ⟨u,A',n',c',s',e,hk⟩
 ·exact .inl (.inl h)
 ·exact .inl (.inr (.inl h))
 ·unfold fput at e
  by_cases k1:u=s
  ·rw [if_pos k1] at e
   have e3:=Option.some.inj e
   unfold fval at e3
   simp only [Value.agg.injEq,Array.mk.injEq,List.cons.injEq,and_true] at e3
   rw [← e3.1] at hk
   exact .inr hk
  ·rw [if_neg k1] at e
   exact .inl (.inr (.inr ⟨u,A',n',c',s',e,hk⟩))
theorem zGc {w:World} {base b N:Nat} {fl:List UInt8→Option Fl} {f:List UInt8→Option Value} (h:zAZ w base b N fl f) {u:List UInt8} {A:Option Addr} {n c s:Nat} (e:f u=some (fval A n c s)):∀ g,Value.ownBlock (.slice A n c)=some g→g<w.heap.size:=fun g hg =>by
 obtain ⟨_,h2,h3,_⟩:=h
 cases e2:fl u with
 | none =>rw [h2 u e2] at e;cases e
 | some x =>
  obtain ⟨A',c',e',_,ho⟩:=h3 u x e2
  rw [e'] at e
  have e3:=Option.some.inj e
  unfold fval at e3
  simp only [Value.agg.injEq,Array.mk.injEq,List.cons.injEq,and_true] at e3
  rw [← e3.1] at hg
  exact zAP ho g hg
theorem zGT {o:Oper} {a:Act} {w:World} {K:Act→World→Prop} {Q:Exit→Act→World→Prop} (m x v:Operand) (t:TypeId) (hop:o.op=Op.mapUpdate t m x v) (e:TypeId) (ht:Tryz.prog.underlying t=some (.map 9 e)) (b N:Nat) (f:List UInt8→Option Value) (hm:a.eval m=.map (some b)) (h:TMap w b N f) (hn:N<maxLen)
  (s:List UInt8) (val:Value) (hx:a.eval x=.string (tx s)) (hv:a.eval v=val) (hs:s.length≤maxLen)
  (hK:∀ w',TMap w' b (N+1) (fput f s val)→w.grownBy w' (some b)→K (a.put o.dst undef) w'):o.wp Tryz.prog a w K Q:=by
 obtain ⟨D,h1,h2⟩:=h
 obtain ⟨w',hrun,r1,r2⟩:=h1.update xkey ht hn (zHi hs) (val:=val) (d:=.held val) (ps:=[]) rfl
 unfold Oper.wp
 simp [execOp,hop,hm,hx,hv,hrun,Result.andThen]
 exact hK w' ⟨_,r1,h2.put h1.isMap s val⟩ r2
theorem zLZ:(Tryz.prog.info? 5).map (fun i =>(i.zero,i.size,i.bytes))=some (some (.int .u8 0),1,1):=by kernel_rfl
theorem zGy (A:Option Addr) (n c:Nat) (ts:List UInt8) (hn:n≤1073741824) (hA:A=none→c=0) (w:World) (hr:zAD w w.heap.size 1 A n (ts.map bv)) :
  Calls Tryz.prog 41 #[.slice A n c] w fun e w' =>∃ v,e=.returned v∧w'.ownsRow w.heap.size 5 1 v n (ts.map bv)∧Below w.heap.size w w':=by
 obtain ⟨i0,hi,hz0,hz1,hz2⟩:=info_parts zLZ
 have hone:∀ u ∈ ts.map bv,u.oneCell'=true:=fun u hu =>by
  obtain ⟨t,_,rfl⟩:=List.mem_map.1 hu
  rfl
 have hlen:=hr.1
 obtain ⟨xs,hx⟩:∃ xs,xs=ts.map bv:=⟨_,rfl⟩
 rw [← hx] at hr hone hlen ⊢
 clear hx
 cases A with
 | none =>
  obtain rfl:=hA rfl
  have hn0:n=0:=by
   rcases Nat.eq_zero_or_pos n with h0 | h0
   ·exact h0
   ·obtain ⟨_,e,_⟩:=hr.2 h0
    cases e
  subst hn0
  obtain rfl:xs=[]:=List.eq_nil_of_length_eq_zero (by simpa using hlen)
  have he:∀ w:World,(binOp .eql 59 (.slice none 0 0) (.slice none 0 0)).run Tryz.prog w=.ok (.bool true) w:=fun _ =>rfl
  clear hr hlen hone hA
  go_enter Tryz.func41,Tryz.ntmps41
  go_wp2
  go_ret
  exact ⟨_,rfl,World.ownsRow_nil _ _ _ _,Below.refl _ _⟩
 | some ad =>
  have he:∀ w:World,(binOp .eql 59 (.slice (some ad) n c) (.slice none 0 0)).run Tryz.prog w=.ok (.bool false) w:=fun _ =>rfl
  have hal:=hr.alloc (Nat.le_refl _) (.cells #[] 5)
  clear hlen hr
  go_enter Tryz.func41,Tryz.ntmps41
  go_wp2_with (at_builtin;refine zBT _ rfl (.tmp 5) (.tmp 6) 59 rfl w.heap.size 5 i0 (.int .u8 0) 1 Tryz.underlying59 hi hz0 hz1 hz2 rfl (.slice (some ⟨w.heap.size,0,none⟩) 0 0) 0 [] rfl (zId _ _) (some ad) n c w.heap.size _ rfl (fun e =>by cases e) hal hone (by unfold maxLen;omega) (by omega) (by simp) ?_;intro v3 w3 ho3 hg3)
  go_ret
  exact ⟨_,rfl,by simpa using ho3,((Below.refl _ w).alloc (Nat.le_refl _) _).grown hg3 (by simp) (fun k hk =>by simp [Value.ownBlock] at hk;omega)⟩
theorem zMo (A:Option Addr) (n c s k:Nat) (xs:List UInt8) (hn:n≤1073741824) (hnc:n≤c) (hcm:c≤maxLen) (hA:A=none→c=0) (hk:k≤n) (w:World) (hr:zAD w w.heap.size 1 A n (xs.map bv)) :
  Calls Tryz.prog 33 #[fval A n c s,.int .i64 (k:Int)] w fun e w' =>∃ A' c',e=.returned (fval A' k c' (min s k))∧(A'=none→c'=0)∧w'.ownsRow w.heap.size 5 1 (.slice A' k c') k ((xs.take k).map bv)∧Below w.heap.size w w':=by
 have z1:(w.alloc (.cells #[.slice A n c,.int .i64 (s:Int)] 85)).heap.size=w.heap.size+1:=by simp
 have h1:=zAE w (.cells #[.slice A n c,.int .i64 (s:Int)] 85)
 have h2:=zAE (w.alloc (.cells #[.slice A n c,.int .i64 (s:Int)] 85)) (.cells #[.slice none 0 0,.int .i64 0] 85)
 rw [z1] at h2
 have e1:=(Below.heap_alloc (w.alloc (.cells #[.slice A n c,.int .i64 (s:Int)] 85)) (.cells #[.slice none 0 0,.int .i64 0] 85) w.heap.size (by rw [z1];omega)).trans h1
 have HB1:Hid (Below w.heap.size w ((w.alloc (.cells #[.slice A n c,.int .i64 (s:Int)] 85)).alloc (.cells #[.slice none 0 0,.int .i64 0] 85))):=((Below.refl _ _).alloc (Nat.le_refl _) _).alloc (by rw [z1];omega) _
 obtain ⟨w1,hw1⟩:∃ x,x=(w.alloc (.cells #[.slice A n c,.int .i64 (s:Int)] 85)).alloc (.cells #[.slice none 0 0,.int .i64 0] 85):=⟨_,rfl⟩
 have HW1:=yh hw1
 rw [← hw1] at h2 e1 HB1
 have HOB:=yh h2
 have HOL:Hid (w.heap.size+1<w1.heap.size):=zAJ h2
 have HSZ:Hid (w.heap.size≤w1.heap.size):=HB1.out.size
 have hl1:=zAJ e1
 have HC0:Hid (∀ v:World,(∀ j:Nat,j<w1.heap.size→j≠w.heap.size+1→v.heap[j]? = w1.heap[j]?)→v.cell? ⟨w.heap.size,0,none⟩=some (.slice A n c)):=fun v hv =>zAA (i:=0) ((hv w.heap.size hl1 (by omega)).trans e1) rfl
 have HC1:Hid (∀ v:World,(∀ j:Nat,j<w1.heap.size→j≠w.heap.size+1→v.heap[j]? = w1.heap[j]?)→v.cell? ⟨w.heap.size,1,none⟩=some (.int .i64 (s:Int))):=fun v hv =>zAA (i:=1) ((hv w.heap.size hl1 (by omega)).trans e1) rfl
 have hk0:(0:Int)≤(k:Int):=by omega
 have hkc:(k:Int)≤(c:Int):=by omega
 have HSL:Hid (∀ W:World,(Instr.sliceAt 59 (.slice A n c) none (some (.int .i64 (k:Int))) none).run Tryz.prog W=.ok (.slice A k c) W):=fun W =>by
  cases A with
  | none =>
   have hc0:=hA rfl
   have hk2:k=0:=by omega
   subst hc0
   subst hk2
   rfl
  | some ad =>go_simp
 have HA0:=yh hA
 have HRD:Hid (∀ v:World,Below w1.heap.size w1 v→zAD v v.heap.size 1 A k ((xs.take k).map bv)):=fun v hv =>by
  have h3:=(hr.below HB1.out).below (hv.mono HSZ.out)
  have h4:zAD v w.heap.size 1 A k ((xs.take k).map bv):=by
   refine ⟨by rw [List.length_map,List.length_take];have:=h3.1;simp at this;omega,fun h0 =>?_⟩
   obtain ⟨ad,ea,hb,hc⟩:=h3.2 (by omega)
   refine ⟨ad,ea,hb,fun j u hu =>hc j u ?_⟩
   rw [List.map_take,List.getElem?_take] at hu
   split at hu
   ·exact hu
   ·cases hu
  exact h4.more (by have:=HSZ.out;have:=hv.size;omega)
 clear hw1 h1 h2 e1 z1 hl1 hr
 unfold fval
 go_enter Tryz.func33,Tryz.ntmps33
 go_wp2
 refine wp_region_held (S:=fun v =>∀ j:Nat,j<w1.heap.size→j≠w.heap.size+1→v.heap[j]? = w1.heap[j]?) (by kernel_rfl) (show wpAnyH _ _ _ _ _ _ _ _ (((w.alloc (.cells #[.slice A n c,.int .i64 (s:Int)] 85)).alloc (.cells #[.slice none 0 0,.int .i64 0] 85)).drew) from ?_)
 rw [← HW1.out]
 have ONLY:Hid (∀ j:Nat,j<w1.heap.size→j≠w.heap.size+1→w1.drew.heap[j]? = w1.heap[j]?):=fun _ _ _ =>rfl
 have HD:Hid (Below w1.heap.size w1 w1.drew):=(Below.refl _ w1).drew
 obtain ⟨w2,hw2⟩:∃ x,x=w1.drew:=⟨_,rfl⟩
 rw [← hw2] at ONLY HD ⊢
 clear hw2
 refine zAB 0 (.pointer (some ⟨w.heap.size,0,none⟩)) rfl (by kernel_rfl) (by kernel_rfl) (by kernel_rfl) (fun _ _ _ h =>h) (by kernel_rfl) ONLY.out (by intro v hv;go_simp) ?_
 refine zAB 1 (.slice A n c) rfl (by kernel_rfl) (by kernel_rfl) (by kernel_rfl) (fun _ _ _ h =>h) (by kernel_rfl) ONLY.out (by intro v hv;have z0:=HC0.out v hv;go_simp) ?_
 refine zAB 2 (.int .i64 (k:Int)) rfl (by kernel_rfl) (by kernel_rfl) (by kernel_rfl) (fun _ _ _ h =>h) (by kernel_rfl) ONLY.out (fun _ _ =>by kernel_rfl) ?_
 refine zAB 3 (.slice A k c) rfl (by kernel_rfl) (by kernel_rfl) (by kernel_rfl) (fun _ _ _ h =>h) (by kernel_rfl) ONLY.out (by intro v _;have z0:=HSL.out v;go_simp) ?_
 refine zAB 5 (.pointer (some ⟨w.heap.size,1,none⟩)) rfl (by kernel_rfl) (by kernel_rfl) (by kernel_rfl) (fun _ _ _ h =>h) (by kernel_rfl) ONLY.out (by intro v hv;go_simp) ?_
 refine zAB 6 (.int .i64 (s:Int)) rfl (by kernel_rfl) (by kernel_rfl) (by kernel_rfl) (fun _ _ _ h =>h) (by kernel_rfl) ONLY.out (by intro v hv;have z0:=HC1.out v hv;go_simp) ?_
 refine zAB 7 (.int .i64 (k:Int)) rfl (by kernel_rfl) (by kernel_rfl) (by kernel_rfl) (fun _ _ _ h =>h) (by kernel_rfl) ONLY.out (fun _ _ =>by kernel_rfl) ?_
 refine zAB 8 (.int .i64 (min (s:Int) (k:Int))) rfl (by kernel_rfl) (by kernel_rfl) (by kernel_rfl) (fun _ _ _ h =>h) (by kernel_rfl) ONLY.out (by intro v hv;go_simp;split <;> omega) ?_
 refine zAO 4 rfl (by kernel_rfl) (by kernel_rfl) (fun K hK =>?_)
 go_simp
 refine (zGy A k c (xs.take k) (by omega) HA0.out w2 (HRD.out w2 HD.out)).mono ?_
 rintro e w3 ⟨v3,rfl,ho3,hb3⟩
 obtain ⟨A3,c3,rfl,hA3⟩:=zAL ho3
 have ONLY3:Hid (∀ j:Nat,j<w1.heap.size→j≠w.heap.size+1→w3.heap[j]? = w1.heap[j]?):=fun j h1 h2 =>(hb3.block j (Nat.lt_of_lt_of_le h1 HD.out.size)).trans (ONLY.out j h1 h2)
 have HB3:=yh (HD.out.trans (hb3.mono HD.out.size))
 have HO3:=yh (zAT ho3 HD.out.size)
 have hnew3:=(HB3.out.block _ HOL.out).trans HOB.out
 have fz0:=zAC (i:=0) hnew3
 have fz1:=zAC (i:=1) hnew3
 have k0:=zAA (i:=0) hnew3 rfl
 have k1:=zAA (i:=1) hnew3 rfl
 have HS1:=yh (zAo hnew3 (i:=0) (.slice A3 k c3))
 have HS2:=yh (zAo HS1.out.1 (i:=1) (.int .i64 (min (s:Int) (k:Int))))
 clear ho3 hb3 hnew3
 refine hK _ _ ONLY3.out ?_
 clear hK K
 refine zAB 9 (.agg #[.slice A3 k c3,.int .i64 (min (s:Int) (k:Int))]) rfl (by kernel_rfl) (by kernel_rfl) (by kernel_rfl) (fun _ _ _ h =>h) (by kernel_rfl) ONLY3.out (by intro v hv;go_simp) ?_
 refine zAO 10 rfl (by kernel_rfl) (by kernel_rfl) (fun K hK =>?_)
 go_simp
 refine hK _ _ ?_ ?_
 ·intro j h1 h2
  exact (HS2.out.2.block j (Nat.lt_of_lt_of_le h1 (Nat.le_trans HB3.out.size HS1.out.2.size)) (fun e =>h2 (Option.some.inj e))).trans ((HS1.out.2.block j (Nat.lt_of_lt_of_le h1 HB3.out.size) (fun e =>h2 (Option.some.inj e))).trans (ONLY3.out j h1 h2))
 clear hK K
 refine wpAnyH_done (by kernel_rfl) ?_ _
 go_simp
 go_wp2
 have r0:=zAA (i:=0) HS2.out.1 rfl
 have r1:=zAA (i:=1) HS2.out.1 rfl
 refine bodyPost_ret (v:=.agg #[.slice A3 k c3,.int .i64 (min (s:Int) (k:Int))]) (by simp [results,Tryz.results33,go_sem,r0,r1]) rfl ?_
 have hmin:(min (s:Int) (k:Int))=((min s k:Nat):Int):=by omega
 refine ⟨A3,c3,by rw [hmin],hA3,?_,?_⟩
 ·have h1:=HO3.out.kept HS1.out.2 (.inr (fun e =>by have:=zAG HO3.out _ e;have:=HOL.out;omega))
  have h2:=h1.kept HS2.out.2 (.inr (fun e =>by have:=zAG HO3.out _ e;have:=HOL.out;omega))
  exact zAT h2 HSZ.out
 ·exact ((HB1.out.trans (HB3.out.mono HB1.out.size)).grown HS1.out.2 (by have:=HB1.out.size;have:=HB3.out.size;omega) (fun j hj =>by cases hj;omega)).grown HS2.out.2 (by have:=HB1.out.size;have:=HB3.out.size;have:=HS1.out.2.size;omega) (fun j hj =>by cases hj;omega)
def zAi (fl:List UInt8→Option Fl) (s:List UInt8):Fl:=(fl s).getD ⟨[],0⟩
theorem zMn {w:World} {base b N:Nat} {fl:List UInt8→Option Fl} {f:List UInt8→Option Value} (h:zAZ w base b N fl f) (p:Nat) (s:List UInt8) :
  ∃ A c,(f s).getD (.agg #[.slice none 0 0,.int .i64 0])=fval A (zAi fl s).body.length c (zAi fl s).safe∧(A=none→c=0)∧w.ownsRow base 5 1 (.slice A (zAi fl s).body.length c) (zAi fl s).body.length ((zAi fl s).body.map bv) ∧
   (∀ u A' n' c' s',u≠s→f u=some (fval A' n' c' s')→zDd (.slice A (zAi fl s).body.length c) (.slice A' n' c'))∧∀ k,Value.ownBlock (.slice A (zAi fl s).body.length c)=some k→zAU p b f k:=by
 obtain ⟨h1,h2,h3,h4⟩:=h
 unfold zAi
 cases e:fl s with
 | none =>
  have e2:=h2 s e
  rw [e2]
  exact ⟨none,0,rfl,fun _ =>rfl,World.ownsRow_nil _ _ _ _,fun u A' n' c' s' _ _ g h =>(by cases h),fun k h =>(by cases h)⟩
 | some x =>
  obtain ⟨A,c,e2,hA,ho⟩:=h3 s x e
  rw [e2]
  exact ⟨A,c,rfl,hA,ho,fun u A' n' c' s' hne h =>h4 s u A _ c _ A' n' c' s' (Ne.symm hne) e2 h,fun k hk =>.inr (.inr ⟨s,A,_,c,_,e2,hk⟩)⟩
theorem zLa:(Tryz.prog.info? 5).map (fun i =>(i.zero,i.size,i.bytes))=some (some (.int .u8 0),1,1):=by kernel_rfl
theorem zMa (p b N base bf bn bb B:Nat) (d:Bool) (fa ga:Bool×Int) (fl:List UInt8→Option Fl) (F:List UInt8→Option Value) (s:List UInt8) (hs:s.length≤maxLen) (Ab:Option Addr) (nb cb:Nat) (body:List UInt8) (hAb:Ab=none→cb=0) (hN:N<1000000) (hbl:nb≤50000000) (hxl:(zAi fl s).body.length≤1000000000) (W:World) (hbase:base≤W.heap.size)
  (hx:zAM W p b d fa ga) (hf:zAZ W base b N fl F) (h1:W.heap[bf]? = some (.cells #[.pointer (some ⟨p,0,none⟩)] 27)) (h2:W.heap[bn]? = some (.cells #[.string (tx s)] 9)) (h3:W.heap[bb]? = some (.cells #[.slice Ab nb cb] 59)) (hB:B≤W.heap.size) (hr:zAD W B 1 Ab nb (body.map bv)) :
  Calls Tryz.prog 96 #[.pointer (some ⟨bf,0,none⟩),.pointer (some ⟨bn,0,none⟩),.pointer (some ⟨bb,0,none⟩)] W fun e w' =>e=.returned (.tuple #[]) ∧
   ∃ F',zAZ w' base b (N+1) (zAb fl s (some ⟨(zAi fl s).body++body,(zAi fl s).safe⟩)) F'∧zAM w' p b d fa ga∧Turn (zAU p b F) W w'∧∀ k,zAU p b F' k→zAU p b F k∨W.heap.size≤k:=by
 obtain ⟨ii,i0,z0,z1,z2⟩:=info_parts zLa
 obtain ⟨A0,c0,hv0,hA0,ho0,hap0,hbk0⟩:=zMn hf p s
 obtain ⟨n0,hn0⟩:∃ n,n=(zAi fl s).body.length:=⟨_,rfl⟩
 obtain ⟨s0,hs0⟩:∃ n,n=(zAi fl s).safe:=⟨_,rfl⟩
 have hbn:body.length=nb:=by have:=hr.1;simpa using this
 rw [← hn0] at hv0 ho0 hap0 hbk0 hxl
 rw [← hs0] at hv0
 have HX:=yh hx
 have HF:=yh hf
 have HBL:=yh hbn
 have HN0:=yh hn0
 have HS0:=yh hs0
 have HO0:=yh ho0
 have HAP0:=yh hap0
 have HBK0:=yh hbk0
 have HR:=yh hr
 have HBB:=yh hB
 have HBASE:=yh hbase
 have H1:=yh h1
 have H2:=yh h2
 have H3:=yh h3
 have hl1:bf<W.heap.size:=(Array.getElem?_eq_some_iff.1 h1).1
 have hl2:bn<W.heap.size:=(Array.getElem?_eq_some_iff.1 h2).1
 have hl3:bb<W.heap.size:=(Array.getElem?_eq_some_iff.1 h3).1
 have HCF:Hid (∀ v,Below W.heap.size W v→v.cell? ⟨bf,0,none⟩=some (.pointer (some ⟨p,0,none⟩))):=fun v hv =>zAA (i:=0) ((hv.block bf hl1).trans h1) rfl
 have HCN:Hid (∀ v,Below W.heap.size W v→v.cell? ⟨bn,0,none⟩=some (.string (tx s))):=fun v hv =>zAA (i:=0) ((hv.block bn hl2).trans h2) rfl
 have HCM:Hid (∀ v,Below W.heap.size W v→v.cell? ⟨p,0,none⟩=some (.map (some b))):=fun v hv =>zAA (i:=0) (hx.below hv) rfl
 have HLK:Hid (∀ v,Below W.heap.size W v→(Instr.lookup 69 (.map (some b)) (.string (tx s)) false).run Tryz.prog v=.ok (fval A0 n0 c0 s0) v):=fun v hv =>by
  have h:=(hf.1.below hv).look hs Tryz.underlying69 (zIw v)
  rw [hv0] at h
  exact h
 have HL:=yh (And.intro hl1 (And.intro hl2 hl3))
 clear hx hf hbn hn0 hs0 ho0 hap0 hbk0 hr hB hbase h1 h2 h3 hv0 hl1 hl2 hl3
 go_enter Tryz.func96,Tryz.ntmps96
 go_wp2
 refine wp_region_held (S:=fun v =>Below W.heap.size W v) (by kernel_rfl) (show wpAnyH _ _ _ _ _ _ _ _ (W.drew) from ?_)
 have HD:Hid (Below W.heap.size W W.drew):=(Below.refl _ W).drew
 have HGD:Hid (W.grownBy W.drew none):=⟨rfl,rfl,rfl,Nat.le_refl _,fun _ _ _ =>rfl⟩
 obtain ⟨W0,hW0⟩:∃ x,x=W.drew:=⟨_,rfl⟩
 rw [← hW0] at HD HGD ⊢
 clear hW0
 refine zAB 0 (.pointer (some ⟨p,0,none⟩)) rfl (by kernel_rfl) (by kernel_rfl) (by kernel_rfl) (fun _ _ _ h =>h) (by kernel_rfl) HD.out (by intro v hv;have z0:=HCF.out v hv;go_simp) ?_
 refine zAB 1 (.pointer (some ⟨p,0,none⟩)) rfl (by kernel_rfl) (by kernel_rfl) (by kernel_rfl) (fun _ _ _ h =>h) (by kernel_rfl) HD.out (by intro v hv;go_simp) ?_
 refine zAB 2 (.pointer (some ⟨p,0,none⟩)) rfl (by kernel_rfl) (by kernel_rfl) (by kernel_rfl) (fun _ _ _ h =>h) (by kernel_rfl) HD.out (by intro v hv;go_simp) ?_
 refine zAB 3 (.map (some b)) rfl (by kernel_rfl) (by kernel_rfl) (by kernel_rfl) (fun _ _ _ h =>h) (by kernel_rfl) HD.out (by intro v hv;have z0:=HCM.out v hv;go_simp) ?_
 refine zAB 4 (.string (tx s)) rfl (by kernel_rfl) (by kernel_rfl) (by kernel_rfl) (fun _ _ _ h =>h) (by kernel_rfl) HD.out (by intro v hv;have z0:=HCN.out v hv;go_simp) ?_
 refine zAB 5 (fval A0 n0 c0 s0) rfl (by kernel_rfl) (by kernel_rfl) (by kernel_rfl) (fun _ _ _ h =>h) (by kernel_rfl) HD.out (by intro v hv;have z0:=HLK.out v hv;unfold fval at z0 ⊢;go_simp) ?_
 unfold fval
 refine zAO 6 rfl (by kernel_rfl) (by kernel_rfl) (fun K hK =>?_)
 go_simp
 have HAL:Hid (Below W.heap.size W (W0.alloc (.cells #[.slice none 0 0,.int .i64 0] 85))):=HD.out.alloc HD.out.size _
 refine hK _ _ HAL.out ?_
 clear hK K
 refine zAO 7 rfl (by kernel_rfl) (by kernel_rfl) (fun K hK =>?_)
 go_simp
 refine hK _ _ (HD.out.alloc HD.out.size _) ?_
 clear hK K
 refine wpAnyH_done (by kernel_rfl) ?_ _
 go_simp
 have HB1:Hid (Below W.heap.size W (W0.alloc (.cells #[.slice A0 n0 c0,.int .i64 (s0:Int)] 85))):=HD.out.alloc HD.out.size _
 have HOB:=yh (zAE W0 (.cells #[.slice A0 n0 c0,.int .i64 (s0:Int)] 85))
 have HOW:Hid (W.heap.size≤W0.heap.size):=HD.out.size
 obtain ⟨ob,hob⟩:∃ ob,ob=W0.heap.size:=⟨_,rfl⟩
 rw [← hob] at HOB HOW ⊢
 generalize (W0.alloc (.cells #[.slice A0 n0 c0,.int .i64 (s0:Int)] 85))=w1 at HB1 HOB ⊢
 have HO1:=yh (zAK HO0.out HB1.out)
 have HR1:=yh (HR.out.below (HB1.out.mono HBB.out))
 have m0:=zAA (i:=0) HOB.out rfl
 have mb:=zAA (i:=0) ((HB1.out.block bb HL.out.2.2).trans H3.out) rfl
 have HSZ:Hid (base≤w1.heap.size):=Nat.le_trans HBASE.out HB1.out.size
 clear hob HD HGD
 go_wp2_with (at_builtin;refine zCe _ rfl (.tmp 11) (.tmp 12) 59 rfl base 5 ii _ 1 1 Tryz.underlying59 i0 z0 z1 z2 rfl (by decide) (.slice A0 n0 c0) n0 _ rfl HO1.out Ab nb cb B (body.map bv) rfl hAb HR1.out (by intro u hu;obtain ⟨y,_,rfl⟩:=List.mem_map.1 hu;rfl) (by unfold maxLen;omega) (by omega) HSZ.out ?_;intro v2 w2 ho2 hg2 ht2;obtain ⟨A2,c2,rfl,hA2⟩:=zAL ho2;have HO2:=yh ho2;have HG2:=yh hg2;have HT2:=yh ht2;have HOB2:=yh ((hg2.block ob (Array.getElem?_eq_some_iff.1 HOB.out).1 (fun e =>zAa HO1.out HOB.out (by decide) e.symm)).trans HOB.out);have fz2:=zAC (i:=0) HOB2.out;have k2:=zAA (i:=0) HOB2.out rfl;clear ho2 hg2 ht2)
 have HS3:=yh (zAo HOB2.out (i:=0) (.slice A2 (n0+nb) c2))
 generalize (w2.setCell ⟨ob,0,none⟩ (.slice A2 (n0+nb) c2))=w3 at HS3 ⊢
 have HK:Hid (∀ (j:Nat) (cs:Array Value) (T:TypeId),W.heap[j]? = some (.cells cs T (0,0))→5≠T→w3.heap[j]? = W.heap[j]?):=fun j cs T hj hT =>by
  have hlt:j<W.heap.size:=(Array.getElem?_eq_some_iff.1 hj).1
  have h1:=(HB1.out.block j hlt).trans hj
  have h2:=HG2.out.block j (Nat.lt_of_lt_of_le hlt HB1.out.size) (fun e =>zAa HO1.out h1 hT e.symm)
  have h3:=HS3.out.2.block j (Nat.lt_of_lt_of_le hlt (Nat.le_trans HB1.out.size HG2.out.size)) (fun e =>by have:=Option.some.inj e;have:=HOW.out;omega)
  exact h3.trans (h2.trans (HB1.out.block j hlt))
 have HSW:Hid (W.heap.size≤w3.heap.size):=Nat.le_trans HB1.out.size (Nat.le_trans HG2.out.size HS3.out.2.size)
 obtain ⟨es0,ck0,hmb⟩:=HF.out.1.heap
 have hblt:b<W.heap.size:=(Array.getElem?_eq_some_iff.1 hmb).1
 have hm1:w1.heap[b]? = some (.map es0 ck0):=(HB1.out.block b hblt).trans hmb
 have hm2:w2.heap[b]? = some (.map es0 ck0):=(HG2.out.block b (Nat.lt_of_lt_of_le hblt HB1.out.size) (fun e =>zES HO1.out hm1 e.symm)).trans hm1
 have hbo:b≠ob:=by have:=HOW.out;omega
 have hm3:w3.heap[b]? = some (.map es0 ck0):=(HS3.out.2.block b (Nat.lt_of_lt_of_le hblt (Nat.le_trans HB1.out.size HG2.out.size)) (fun e =>hbo (Option.some.inj e))).trans hm2
 have HM3:Hid (TMap w3 b N F):=HF.out.1.at_heap (hm3.trans hmb.symm)
 have HMB3:Hid (∃ es ck,w3.heap[b]? = some (.map es ck)):=⟨_,_,hm3⟩
 have hne:∀ (j:Nat) (cs:Array Value) (T:TypeId),W.heap[j]? = some (.cells cs T (0,0))→j≠b:=fun j cs T hj e =>by rw [e,hmb] at hj;cases hj
 have HNE:=yh hne
 have HC3:Hid (∀ (j:Nat) (cs:Array Value) (T:TypeId),W.heap[j]? = some (.cells cs T (0,0))→5≠T→∀ v:World,(∀ i:Nat,i<w3.heap.size→i≠b→v.heap[i]? = w3.heap[i]?)→v.heap[j]? = some (.cells cs T (0,0))):=fun j cs T hj hT v hv =>by
  have hlt:j<W.heap.size:=(Array.getElem?_eq_some_iff.1 hj).1
  exact ((hv j (Nat.lt_of_lt_of_le hlt HSW.out) (hne j cs T hj)).trans (HK.out j cs T hj hT)).trans hj
 have HC3F:Hid (∀ v:World,(∀ i:Nat,i<w3.heap.size→i≠b→v.heap[i]? = w3.heap[i]?)→v.cell? ⟨bf,0,none⟩=some (.pointer (some ⟨p,0,none⟩))):=fun v hv =>zAA (i:=0) (HC3.out bf _ _ H1.out (by decide) v hv) rfl
 have HC3N:Hid (∀ v:World,(∀ i:Nat,i<w3.heap.size→i≠b→v.heap[i]? = w3.heap[i]?)→v.cell? ⟨bn,0,none⟩=some (.string (tx s))):=fun v hv =>zAA (i:=0) (HC3.out bn _ _ H2.out (by decide) v hv) rfl
 have HC3M:Hid (∀ v:World,(∀ i:Nat,i<w3.heap.size→i≠b→v.heap[i]? = w3.heap[i]?)→v.cell? ⟨p,0,none⟩=some (.map (some b))):=fun v hv =>zAA (i:=0) (HC3.out p _ _ HX.out (by decide) v hv) rfl
 have hol3:ob<w3.heap.size:=(Array.getElem?_eq_some_iff.1 HS3.out.1).1
 have HC3O:Hid (∀ v:World,(∀ i:Nat,i<w3.heap.size→i≠b→v.heap[i]? = w3.heap[i]?)→v.cell? ⟨ob,0,none⟩=some (.slice A2 (n0+nb) c2)):=fun v hv =>zAA (i:=0) ((hv ob hol3 (Ne.symm hbo)).trans HS3.out.1) rfl
 have HC3P:Hid (∀ v:World,(∀ i:Nat,i<w3.heap.size→i≠b→v.heap[i]? = w3.heap[i]?)→v.cell? ⟨ob,1,none⟩=some (.int .i64 (s0:Int))):=fun v hv =>zAA (i:=1) ((hv ob hol3 (Ne.symm hbo)).trans HS3.out.1) rfl
 have HPN:Hid (p≠b):=hne p _ _ HX.out
 clear hmb hblt hm1 hm2 hm3 hbo hne hol3 m0 mb fz2 k2
 go_wp2
 refine wp_region_held (S:=fun v =>∀ j:Nat,j<w3.heap.size→j≠b→v.heap[j]? = w3.heap[j]?) (by kernel_rfl) (show wpAnyH _ _ _ _ _ _ _ _ (w3.drew) from ?_)
 have ONLY:Hid (∀ j:Nat,j<w3.heap.size→j≠b→w3.drew.heap[j]? = w3.heap[j]?):=fun _ _ _ =>rfl
 have HGD3:Hid (w3.grownBy w3.drew none):=⟨rfl,rfl,rfl,Nat.le_refl _,fun _ _ _ =>rfl⟩
 have HM3D:Hid (TMap w3.drew b N F):=HM3.out.at_heap rfl
 obtain ⟨w5,hw5⟩:∃ x,x=w3.drew:=⟨_,rfl⟩
 rw [← hw5] at ONLY HGD3 HM3D ⊢
 clear hw5
 refine zAB 0 (.pointer (some ⟨p,0,none⟩)) rfl (by kernel_rfl) (by kernel_rfl) (by kernel_rfl) (fun _ _ _ h =>h) (by kernel_rfl) (ONLY.out) (by intro v hv;have z0:=HC3F.out v hv;go_simp) ?_
 refine zAB 1 (.pointer (some ⟨p,0,none⟩)) rfl (by kernel_rfl) (by kernel_rfl) (by kernel_rfl) (fun _ _ _ h =>h) (by kernel_rfl) (ONLY.out) (by intro v hv;go_simp) ?_
 refine zAB 2 (.pointer (some ⟨p,0,none⟩)) rfl (by kernel_rfl) (by kernel_rfl) (by kernel_rfl) (fun _ _ _ h =>h) (by kernel_rfl) (ONLY.out) (by intro v hv;go_simp) ?_
 refine zAB 3 (.map (some b)) rfl (by kernel_rfl) (by kernel_rfl) (by kernel_rfl) (fun _ _ _ h =>h) (by kernel_rfl) (ONLY.out) (by intro v hv;have z0:=HC3M.out v hv;go_simp) ?_
 refine zAB 4 (.string (tx s)) rfl (by kernel_rfl) (by kernel_rfl) (by kernel_rfl) (fun _ _ _ h =>h) (by kernel_rfl) (ONLY.out) (by intro v hv;have z0:=HC3N.out v hv;go_simp) ?_
 refine zAB 5 (fval A2 (n0+nb) c2 s0) rfl (by kernel_rfl) (by kernel_rfl) (by kernel_rfl) (fun _ _ _ h =>h) (by kernel_rfl) (ONLY.out) (by intro v hv;have z0:=HC3O.out v hv;have z1:=HC3P.out v hv;unfold fval;go_simp) ?_
 refine zAO 6 rfl (by kernel_rfl) (by kernel_rfl) (fun K hK =>?_)
 refine zGT _ _ _ 69 rfl 85 Tryz.underlying69 b N F rfl HM3D.out (by unfold maxLen;omega) s (fval A2 (n0+nb) c2 s0) rfl rfl hs ?_
 intro w6 hm6 hg6
 have HM6:=yh hm6
 have HG6:=yh (zBH HGD3.out hg6)
 refine hK _ _ (fun j hlt hj =>(hg6.block j (Nat.lt_of_lt_of_le hlt HGD3.out.size) (fun e =>hj (Option.some.inj e))).trans (ONLY.out j hlt hj)) ?_
 clear hK K hm6 hg6
 refine wpAnyH_done (by kernel_rfl) ?_ _
 go_simp
 go_wp2
 go_end0
 have hlen:((zAi fl s).body++body).length=n0+nb:=by rw [List.length_append,← HN0.out,HBL.out]
 have e0:fval A2 (n0+nb) c2 s0=fval A2 ((zAi fl s).body++body).length c2 (zAi fl s).safe:=by rw [hlen,HS0.out]
 have hA2k:∀ k,Value.ownBlock (.slice A2 (n0+nb) c2)=some k→zAU p b F k∨W.heap.size≤k:=fun k hk =>by
  rcases HT2.out with h | h
  ·exact .inl (HBK0.out k (by rw [← h];exact hk))
  ·rw [h] at hk
   have:=Option.some.inj hk
   have:=HB1.out.size
   exact .inr (by omega)
 refine ⟨rfl,fput F s (fval A2 (n0+nb) c2 s0),?_,?_,?_,fun k hk =>?_⟩
 ·have ho3:=HO2.out.kept HS3.out.2 (.inr (zAa HO2.out HOB2.out (by decide)))
  have hap:∀ u A' n' c' s',u≠s→F u=some (fval A' n' c' s')→zDd (.slice A2 (n0+nb) c2) (.slice A' n' c'):=fun u A' n' c' s' hne hu g h1 h2 =>by
   rcases HT2.out with h | h
   ·exact HAP0.out u A' n' c' s' hne hu g (by rw [← h];exact h1) h2
   ·rw [h] at h1
    have:=Option.some.inj h1
    have:=zGc HF.out hu g h2
    have:=HB1.out.size
    omega
  rw [e0]
  refine zFg (w1:=w3) (x:=⟨(zAi fl s).body++body,(zAi fl s).safe⟩) HF.out (fun u y A' c' hne _ hu ho =>?_) hA2 ?_ ?_ HMB3.out (by rw [← e0];exact HM6.out) HG6.out
  ·have h1:=zAK ho HB1.out
   have h2:=zBL h1 (HAP0.out u A' _ c' _ hne hu) HG2.out
   exact h2.kept HS3.out.2 (.inr (fun e =>by have:=zAP ho _ e;have:=HOW.out;omega))
  ·show w3.ownsRow base 5 1 (.slice A2 ((zAi fl s).body++body).length c2) ((zAi fl s).body++body).length (((zAi fl s).body++body).map bv)
   rw [hlen,List.map_append]
   exact ho3
  ·show ∀ u A' n' c' s',u≠s→F u=some (fval A' n' c' s')→zDd (.slice A2 ((zAi fl s).body++body).length c2) (.slice A' n' c')
   rw [hlen]
   exact hap
 ·exact (HG6.out.block p (Nat.lt_of_lt_of_le HX.out.lt HSW.out) (fun e =>HPN.out (Option.some.inj e))).trans ((HK.out p _ _ HX.out (by decide)).trans HX.out)
 ·exact (((Turn.of_below HB1.out).grown HG2.out (fun i hi _ =>HBK0.out i hi)).grown HS3.out.2 (fun i hi hlt =>by have:=Option.some.inj hi;have:=HOW.out;omega)).grown HG6.out (fun i hi _ =>.inr (.inl (Option.some.inj hi).symm))
 ·rcases zGF hk with h | h
  ·exact .inl h
  ·exact hA2k k h
end Go.Proofs.YtekchkfjgofnkaaGreatDoor
