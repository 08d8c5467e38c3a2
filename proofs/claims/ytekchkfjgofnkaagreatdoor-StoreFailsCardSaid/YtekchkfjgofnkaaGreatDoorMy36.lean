/- Texts of one proof. -/
import Derived.ChangeMaps5
import Derived.SliceStrings
import Derived.Test.YtekchkfjgofnkaaGreatDoorShi
import Derived.Test.YtekchkfjgofnkaaGreatDoorMy35
set_option maxRecDepth 100000
set_option maxHeartbeats 8000000
namespace Go.Proofs.YtekchkfjgofnkaaGreatDoor
theorem zPS {a b:List UInt8} (h:a<b):¬ b<a:=fun h2 =>by
 have h3:a≤b:=List.le_of_lt h
 exact h3 h2
theorem zNT (a:List UInt8):¬ a<a:=fun h =>zPS h h
theorem zIv {a b:List UInt8} (h:a<b):a≠b:=fun e =>zNT a (by rw [← e] at h;exact h)
theorem zNU (a b:List UInt8):a<b∨a=b∨b<a:=by
 by_cases h1:a<b
 ·exact .inl h1
 ·by_cases h2:b<a
  ·exact .inr (.inr h2)
  ·exact .inr (.inl (List.le_antisymm (fun h =>h2 h) (fun h =>h1 h)))
theorem zPT {a b c:List UInt8} (h:a<b) (k:b<c):a<c:=List.lt_trans h k
section
variable {α β:Type} (k:α→Int) (t:α→List UInt8)
def rput (x:α):Bool→List α→List α
 | laid,[] =>if laid then [] else [x]
 | laid,s :: S =>(if laid=false∧t x<t s then [x] else [])++((if t s≠t x then [s] else [])++rput x (laid || decide (t x<t s)) S)
def put1 (S:List α) (x:α):List α:=if k x=1 then rput t x false S else if k x=2 then rput t x true S else S
def fo (xs:List α):List α:=xs.foldl (put1 k t) []
def Up (S:List α):Prop:=S.Pairwise fun a b =>t a<t b
def look (S:List α) (u:List UInt8):Option α:=S.find? fun s =>t s == u
variable {k t}
theorem zBo {x y:α}:∀ {S:List α} {laid:Bool},y ∈ rput t x laid S ↔ (laid=false∧y=x)∨(y ∈ S∧t y≠t x)
 | [],laid =>by cases laid <;> simp [rput]
 | s :: S,laid =>by
  unfold rput
  rw [List.mem_append,List.mem_append,zBo (S:=S)]
  by_cases h2:t s=t x
  ·have h1:¬ t x<t s:=by rw [h2];exact zNT _
   rw [if_neg (fun h =>h1 h.2),if_neg (fun h =>h h2),decide_eq_false h1,Bool.or_false]
   constructor
   ·rintro (h | h | h | h)
    ·cases h
    ·cases h
    ·exact .inl h
    ·exact .inr ⟨List.mem_cons_of_mem _ h.1,h.2⟩
   ·rintro (h | ⟨h,h3⟩)
    ·exact .inr (.inr (.inl h))
    ·rcases List.mem_cons.1 h with rfl | h
     ·exact absurd h2 h3
     ·exact .inr (.inr (.inr ⟨h,h3⟩))
  ·rw [if_pos h2]
   have hs:y ∈ [s] ↔ y=s:=List.mem_singleton
   constructor
   ·rintro (h | h | h | h)
    ·by_cases hc:laid=false∧t x<t s
     ·rw [if_pos hc] at h
      exact .inl ⟨hc.1,List.mem_singleton.1 h⟩
     ·rw [if_neg hc] at h
      cases h
    ·rw [hs] at h
     subst h
     exact .inr ⟨List.mem_cons_self,h2⟩
    ·exact .inl ⟨by have:=h.1;rw [Bool.or_eq_false_iff] at this;exact this.1,h.2⟩
    ·exact .inr ⟨List.mem_cons_of_mem _ h.1,h.2⟩
   ·rintro (h | ⟨h,h3⟩)
    ·by_cases h1:t x<t s
     ·rw [if_pos ⟨h.1,h1⟩]
      exact .inl (List.mem_singleton.2 h.2)
     ·exact .inr (.inr (.inl ⟨by rw [h.1,decide_eq_false h1];rfl,h.2⟩))
    ·rcases List.mem_cons.1 h with rfl | h
     ·exact .inr (.inl (hs.2 rfl))
     ·exact .inr (.inr (.inr ⟨h,h3⟩))
theorem zDY {x:α}:∀ {S:List α} {laid:Bool},Up t S→(laid=true→True)→Up t (rput t x laid S)
 | [],laid,_,_ =>by cases laid <;> simp [rput,Up]
 | s :: S,laid,h,_ =>by
  have h0:=List.pairwise_cons.1 h
  unfold rput
  by_cases h1:t x<t s
  ·have h2:t s≠t x:=fun e =>zIv h1 e.symm
   have hs:Up t (s :: rput t x true S):=List.pairwise_cons.2 ⟨fun y hy =>by
    rcases zBo.1 hy with ⟨h,_⟩ | ⟨h,_⟩
    ·cases h
    ·exact h0.1 y h,zDY h0.2 (fun _ =>trivial)⟩
   cases laid
   ·simp [h1,h2]
    refine List.pairwise_cons.2 ⟨fun y hy =>?_,hs⟩
    rcases List.mem_cons.1 hy with rfl | hy
    ·exact h1
    ·exact zPT h1 ((List.pairwise_cons.1 hs).1 y hy)
   ·simpa [h2] using hs
  ·by_cases h2:t s=t x
   ·rw [if_neg (fun h =>h1 h.2),if_neg (fun h =>h h2)]
    exact zDY h0.2 (fun _ =>trivial)
   ·have h3:t s<t x:=by
     rcases zNU (t s) (t x) with h | h | h
     ·exact h
     ·exact absurd h h2
     ·exact absurd h h1
    rw [if_neg (fun h =>h1 h.2),if_pos h2]
    refine List.pairwise_cons.2 ⟨fun y hy =>?_,zDY h0.2 (fun _ =>trivial)⟩
    rcases zBo.1 hy with ⟨_,rfl⟩ | ⟨h,_⟩
    ·exact h3
    ·exact h0.1 y h
theorem zPf {S:List α} {x y:α} (h:y ∈ put1 k t S x):y=x∧k x=1∨y ∈ S:=by
 unfold put1 at h
 split at h
 ·rcases zBo.1 h with ⟨_,h⟩ | ⟨h,_⟩
  ·exact .inl ⟨h,by assumption⟩
  ·exact .inr h
 ·split at h
  ·rcases zBo.1 h with ⟨h,_⟩ | ⟨h,_⟩
   ·cases h
   ·exact .inr h
  ·exact .inr h
theorem zIP:∀ (xs S:List α) {y:α},y ∈ xs.foldl (put1 k t) S→(y ∈ xs∧k y=1)∨y ∈ S
 | [],_,_,h =>.inr h
 | x :: xs,S,y,h =>by
  rcases zIP xs _ h with h | h
  ·exact .inl ⟨List.mem_cons_of_mem _ h.1,h.2⟩
  ·rcases zPf h with ⟨rfl,h2⟩ | h
   ·exact .inl ⟨List.mem_cons_self,h2⟩
   ·exact .inr h
theorem zJP {xs:List α} {y:α} (h:y ∈ fo k t xs):y ∈ xs∧k y=1:=by
 rcases zIP xs [] h with h | h
 ·exact h
 ·cases h
theorem zGp {x:α}:∀ {S:List α} {laid:Bool},(rput t x laid S).length≤S.length+(if laid then 0 else 1)
 | [],laid =>by cases laid <;> simp [rput]
 | s :: S,laid =>by
  unfold rput
  have ih:=zGp (x:=x) (S:=S) (laid:=laid || decide (t x<t s))
  rw [List.length_append,List.length_append,List.length_cons]
  have h1:(if t s≠t x then [s] else []).length≤1:=by split <;> simp
  generalize (if t s≠t x then [s] else []).length=p at *
  generalize (rput t x (laid || decide (t x<t s)) S).length=q at *
  cases laid with
  | true =>
   simp only [Bool.true_or,if_true] at ih
   rw [if_neg (fun h =>by cases h.1)]
   simp only [List.length_nil,if_true]
   omega
  | false =>
   by_cases hc:t x<t s
   ·simp only [decide_eq_true hc,Bool.or_true,if_true] at ih
    rw [if_pos ⟨rfl,hc⟩]
    simp only [List.length_singleton,Bool.false_eq_true,if_false]
    omega
   ·simp only [decide_eq_false hc,Bool.or_false,Bool.false_eq_true,if_false] at ih
    rw [if_neg (fun h =>hc h.2)]
    simp only [List.length_nil,Bool.false_eq_true,if_false]
    omega
theorem zPd (S:List α) (x:α):(put1 k t S x).length≤S.length+1:=by
 unfold put1
 split
 ·have:=zGp (t:=t) (x:=x) (S:=S) (laid:=false)
  simpa using this
 ·split
  ·have:=zGp (t:=t) (x:=x) (S:=S) (laid:=true)
   simp at this
   omega
  ·omega
theorem zIO:∀ (xs S:List α),(xs.foldl (put1 k t) S).length≤S.length+xs.length
 | [],S =>by simp
 | x :: xs,S =>by
  have h1:=zIO xs (put1 k t S x)
  have h2:=zPd (k:=k) (t:=t) S x
  rw [List.foldl_cons,List.length_cons]
  omega
theorem zJO (xs:List α):(fo k t xs).length≤xs.length:=by
 have:=zIO (k:=k) (t:=t) xs []
 simpa [fo] using this
theorem zSa {S:List α} (h:Up t S) {a b:α} (ha:a ∈ S) (hb:b ∈ S) (e:t a=t b):a=b:=by
 induction S with
 | nil =>cases ha
 | cons s S ih =>
  have h0:=List.pairwise_cons.1 h
  rcases List.mem_cons.1 ha with ha2 | ha2
  ·rcases List.mem_cons.1 hb with hb2 | hb2
   ·rw [ha2,hb2]
   ·exact absurd e (by rw [ha2];exact zIv (h0.1 b hb2))
  ·rcases List.mem_cons.1 hb with hb2 | hb2
   ·exact absurd e.symm (by rw [hb2];exact zIv (h0.1 a ha2))
   ·exact ih h0.2 ha2 hb2
theorem zCy {S:List α} {u:List UInt8} {y:α} (h:look t S u=some y):y ∈ S∧t y=u :=
 ⟨List.mem_of_find?_eq_some h,by have:=List.find?_some h;simpa using this⟩
theorem zHs {S:List α} (h:Up t S) {y:α} (hy:y ∈ S):look t S (t y)=some y:=by
 cases e:look t S (t y) with
 | none =>
  have:=List.find?_eq_none.1 e y hy
  simp at this
 | some z =>
  obtain ⟨h1,h2⟩:=zCy e
  rw [zSa h h1 hy h2]
theorem zDm {S:List α} {u:List UInt8}:look t S u=none ↔ ∀ y ∈ S,t y≠u:=by
 unfold look
 rw [List.find?_eq_none]
 simp
theorem zGg {S:List α} (h:Up t S) {u:List UInt8} {y:α}:look t S u=some y ↔ y ∈ S∧t y=u :=
 ⟨zCy,fun ⟨h1,h2⟩ =>h2▸zHs h h1⟩
theorem zPR {S:List α} (h:Up t S) (x:α) (u:List UInt8):look t (rput t x false S) u=if u=t x then some x else look t S u:=by
 have hu:=zDY (x:=x) (laid:=false) h (fun _ =>trivial)
 by_cases e:u=t x
 ·subst e
  rw [if_pos rfl]
  exact (zGg hu).2 ⟨zBo.2 (.inl ⟨rfl,rfl⟩),rfl⟩
 ·rw [if_neg e]
  cases e2:look t S u with
  | none =>
   refine zDm.2 fun y hy e3 =>?_
   rcases zBo.1 hy with ⟨_,rfl⟩ | ⟨h1,_⟩
   ·exact e e3.symm
   ·exact zDm.1 e2 y h1 e3
  | some y =>
   obtain ⟨h1,h2⟩:=zCy e2
   exact (zGg hu).2 ⟨zBo.2 (.inr ⟨h1,by rw [h2];exact e⟩),h2⟩
theorem zPQ {S:List α} (h:Up t S) (x:α) (u:List UInt8):look t (rput t x true S) u=if u=t x then none else look t S u:=by
 have hu:=zDY (x:=x) (laid:=true) h (fun _ =>trivial)
 by_cases e:u=t x
 ·subst e
  rw [if_pos rfl]
  refine zDm.2 fun y hy e3 =>?_
  rcases zBo.1 hy with ⟨h1,_⟩ | ⟨_,h1⟩
  ·cases h1
  ·exact h1 e3
 ·rw [if_neg e]
  cases e2:look t S u with
  | none =>
   refine zDm.2 fun y hy e3 =>?_
   rcases zBo.1 hy with ⟨h1,_⟩ | ⟨h1,_⟩
   ·cases h1
   ·exact zDm.1 e2 y h1 e3
  | some y =>
   obtain ⟨h1,h2⟩:=zCy e2
   exact (zGg hu).2 ⟨zBo.2 (.inr ⟨h1,by rw [h2];exact e⟩),h2⟩
section
variable {k':β→Int} {t':β→List UInt8} (f:α→β) (hk:∀ x,k' (f x)=k x) (ht:∀ x,t' (f x)=t x)
include hk ht
omit hk in
theorem zGq (x:α):∀ (S:List α) (laid:Bool),(rput t x laid S).map f=rput t' (f x) laid (S.map f)
 | [],laid =>by cases laid <;> rfl
 | s :: S,laid =>by
  rw [List.map_cons]
  unfold rput
  rw [List.map_append,List.map_append,zGq x S,ht,ht]
  congr 1
  ·split <;> rfl
  ·congr 1
   split <;> rfl
theorem zPe (S:List α) (x:α):(put1 k t S x).map f=put1 k' t' (S.map f) (f x):=by
 unfold put1
 rw [hk]
 split
 ·exact zGq f ht x S false
 ·split
  ·exact zGq f ht x S true
  ·rfl
theorem zHH:∀ (xs S:List α),(xs.foldl (put1 k t) S).map f=(xs.map f).foldl (put1 k' t') (S.map f)
 | [],_ =>rfl
 | x :: xs,S =>by
  rw [List.foldl_cons,zHH xs,List.map_cons,List.foldl_cons,zPe f hk ht]
theorem zSA (xs:List α):(fo k t xs).map f=fo k' t' (xs.map f):=zHH f hk ht xs []
end
theorem zRf {S:List α} (h:Up t S) {ss:List (List UInt8)} (hn:ss.Nodup) (hm:∀ u,u ∈ ss ↔ (look t S u).isSome=true):ss.mergeSort (fun x y =>decide (x≤y))=S.map t:=by
 have hs:(S.map t).Pairwise (fun a b =>a<b):=List.pairwise_map.2 h
 have hp:ss.Perm (S.map t):=by
  refine (List.perm_ext_iff_of_nodup hn (hs.imp fun hab =>zIv hab)).2 fun u =>?_
  rw [hm u,List.mem_map]
  constructor
  ·intro h1
   obtain ⟨y,hy⟩:=Option.isSome_iff_exists.1 h1
   exact ⟨y,(zCy hy).1,(zCy hy).2⟩
  ·rintro ⟨y,hy,rfl⟩
   rw [zHs h hy]
   rfl
 have tr:∀ a b c:List UInt8,leB a b=true→leB b c=true→leB a c=true:=fun a b c h1 h2 =>by simp only [leB,decide_eq_true_eq] at *;exact List.le_trans h1 h2
 have to:∀ a b:List UInt8,(leB a b || leB b a)=true:=fun a b =>by simp only [leB,Bool.or_eq_true,decide_eq_true_eq];exact List.le_total a b
 refine List.Perm.eq_of_pairwise (le:=fun a b =>leB a b=true) (fun a b _ _ h1 h2 =>?_) (List.pairwise_mergeSort tr to ss) (hs.imp fun hab =>by simp only [leB,decide_eq_true_eq];exact List.le_of_lt hab) ((List.mergeSort_perm ss leB).trans hp)
 simp only [leB,decide_eq_true_eq] at h1 h2
 exact List.le_antisymm h1 h2
theorem zSz {S:List α} (h:Up t S) {i:Nat} {y:α} (hy:S[i]? = some y):look t S (t y)=some y:=zHs h (List.mem_of_getElem? hy)
end
open Go.RowKit Go.Maps Go.ChangeMaps Go.WideMaps Go.Sort Go.Shelf
set_option maxRecDepth 100000
theorem zMz (m:Nat):AnyZ.SortsIn Tryz.prog Tryz.iterSorted_ren Fence.wide m :=
  ⟨fun blk off cap ss W hH hblk hsz =>callsIn_wide.2 (AnyM.slices_Sort_string Tryz.iterSort blk off cap ss W hH hblk hsz),
   fun p cap W =>callsIn_wide.2 (AnyM.slices_Sort_string_none Tryz.iterSort p cap W)⟩
theorem zMp (mb:Option Nat) (W:World):Calls Tryz.prog 56 #[.map mb] W fun e w' =>e=.returned (.func (.func 84) #[] #[.pointer (some ⟨W.heap.size,0,none⟩)])∧w'=W.alloc (.cells #[.map mb] 69) :=
 callsIn_wide.1 (AnyZ.keys_in Tryz.iterKeys Fence.wide 5 trivial rfl mb W)
theorem zKQ (b nn:Nat) (D0:DataW Value) (w:World) (hown:w.ownsMap Tryz.prog 9 zFG b nn D0) (hmax:Maps.size D0≤maxLen) (hbytes:Maps.size D0 * 16≤140737488355328) :
  Calls Tryz.prog 55 #[.func (.func 84) #[] #[.pointer (some ⟨w.heap.size,0,none⟩)]] (w.alloc (.cells #[.map (some b)] 69)) fun e w' =>∃ (v:Value) (ss:List (List UInt8)),e=.returned v∧ss.Perm (strKeys D0) ∧
   w'.ownsRow (w.alloc (.cells #[.map (some b)] 69)).heap.size 9 1 v ss.length ((ss.mergeSort (fun x y =>decide (x≤y))).map encStr)∧(v=.slice none 0 0 ↔ ss=[])∧Below (w.alloc (.cells #[.map (some b)] 69)).heap.size (w.alloc (.cells #[.map (some b)] 69)) w':=by
 have hbl:=hown.lt
 have hseq:SeqGives Fence.wide 2 Tryz.prog 84 #[.pointer (some ⟨w.heap.size,0,none⟩)] encStr (fun ss =>ss.Perm (strKeys D0)) (Maps.size D0) (w.alloc (.cells #[.map (some b)] 69)) :=
  AnyZ.keys_gives (ρ:=Tryz.iterKeys_ren) { Tryz.iterKeys with } Fence.wide _ trivial rfl (by omega) w.heap.size b nn D0 _ (by simp) (by simp) (by
   obtain ⟨es,clock,hb,Ft,hs,hD⟩:=hown
   exact ⟨es,clock,(Below.heap_alloc _ _ b hbl).trans hb,Ft,hs,hD⟩)
 exact callsIn_wide.1 (AnyZ.sorted_in Tryz.iterSorted Fence.wide 5 trivial trivial trivial trivial rfl (by omega) (zMz _) (enters_of Tryz.func83 (by kernel_rfl) rfl) 84 #[.pointer (some ⟨w.heap.size,0,none⟩)] trivial (enters_of Tryz.func84 (by kernel_rfl) rfl) _ _ hmax hbytes _ hseq)
theorem zPJ {w:World} {b n:Nat} {D:DataW Value} (h:w.ownsMap Tryz.prog 9 zFG b n D):(strKeys D).Nodup∧∀ x,x ∈ strKeys D ↔ Maps.has D (.string x)=true:=by
 obtain ⟨es,hD,hpw,_⟩:=h.entries xkey
 obtain ⟨es',hD',hko⟩:=h.keysOf
 obtain rfl:es=es':=by rw [hD] at hD';simpa using hD'
 subst hD
 have hk:∀ q ∈ es,∃ x,q.1=.string x:=fun q hq =>by
  obtain ⟨v,hv⟩:=hko q hq
  obtain ⟨x,_,hx,_⟩:=Maps.keyOf_str Tryz.underlying9 hv
  exact ⟨x,hx⟩
 constructor
 ·refine List.pairwise_map.2 (hpw.imp_of_mem fun {q r} hq hr hne e =>hne ?_)
  obtain ⟨x,hx⟩:=hk q hq
  obtain ⟨y,hy⟩:=hk r hr
  rw [hx,hy] at e ⊢
  exact congrArg _ e
 ·intro x
  rw [has_eq,List.any_eq_true]
  show x ∈ es.map (fun q =>strOf q.1) ↔ _
  rw [List.mem_map]
  constructor
  ·rintro ⟨q,hq,rfl⟩
   obtain ⟨y,hy⟩:=hk q hq
   exact ⟨q,hq,by rw [hy];simp [Lit.sameKey,strOf]⟩
  ·rintro ⟨q,hq,hs⟩
   obtain ⟨y,hy⟩:=hk q hq
   rw [hy] at hs
   exact ⟨q,hq,by rw [hy];simpa [Lit.sameKey,strOf] using hs⟩
def zGC (fl:List UInt8→Option Fl) (ns:List (List UInt8)):Prop:=ns.Pairwise (fun a b =>a<b)∧∀ u,u ∈ ns ↔ (fl u).isSome=true
theorem zPY {l:List (List UInt8)} (hn:l.Nodup):(l.mergeSort (fun x y =>decide (x≤y))).Pairwise (fun a b =>a<b):=by
 have tr:∀ a b c:List UInt8,decide (a≤b)=true→decide (b≤c)=true→decide (a≤c)=true:=fun a b c h1 h2 =>by simp only [decide_eq_true_eq] at *;exact List.le_trans h1 h2
 have to:∀ a b:List UInt8,(decide (a≤b) || decide (b≤a))=true:=fun a b =>by simp only [Bool.or_eq_true,decide_eq_true_eq];exact List.le_total a b
 have h1:=List.pairwise_mergeSort tr to l
 have h2:(l.mergeSort (fun x y =>decide (x≤y))).Nodup:=(List.mergeSort_perm l _).nodup_iff.2 hn
 refine (h1.and h2).imp fun {a b} h =>?_
 have h3:a≤b:=by simpa using h.1
 rcases zNU a b with h4 | h4 | h4
 ·exact h4
 ·exact absurd h4 h.2
 ·exact absurd (List.le_antisymm h3 (List.le_of_lt h4)) h.2
theorem zHg (p b N base:Nat) (down:Bool) (f g:Bool×Int) (fl:List UInt8→Option Fl) (F:List UInt8→Option Value) (hN:N≤1000000) (w:World) (h:zAM w p b down f g) (hf:zAZ w base b N fl F) :
  Calls Tryz.prog 32 #[.pointer (some ⟨p,0,none⟩)] w fun e w' =>(∃ A c ns,zGC fl ns∧ns.length≤N∧e=.returned (.slice A ns.length c)∧(A=none→c=0)∧w'.ownsRow w.heap.size 9 1 (.slice A ns.length c) ns.length (ns.map tsv))∧Below w.heap.size w w':=by
 have c0:=zAA (i:=0) h rfl
 obtain ⟨⟨D,hown,hmf⟩,hnone,hsome,_⟩:=hf
 have hsz:=hown.size_le
 obtain ⟨hnd,hmem⟩:=zPJ hown
 have HSO:=yh (zKQ b N D w hown (by unfold maxLen;omega) (by omega))
 have HKS:Hid (∀ ss:List (List UInt8),ss.Perm (strKeys D)→zGC fl (ss.mergeSort (fun x y =>decide (x≤y)))):=fun ss hp =>by
  refine ⟨zPY (hp.nodup_iff.2 hnd),fun u =>?_⟩
  rw [List.mem_mergeSort,hp.mem_iff,hmem,hmf.has]
  cases e:fl u with
  | none =>rw [hnone u e];simp
  | some x =>
   obtain ⟨A,c,e2,_⟩:=hsome u x e
   rw [e2]
   rfl
 have HLN:Hid (∀ ss:List (List UInt8),ss.Perm (strKeys D)→ss.length≤N):=fun ss hp =>by
  rw [hp.length_eq]
  refine Nat.le_trans ?_ hsz
  obtain ⟨es,hD⟩:=hown.isMap
  subst hD
  show (es.map _).length≤es.length
  simp
 clear h hown hmf hnone hsome hnd hmem hsz
 go_enter Tryz.func32,Tryz.ntmps32
 go_wp2_with (first
  | (go_at_call 55;refine HSO.out.mono ?_;rintro e w6 ⟨v,ss,rfl,hp,ho6,_,hb6⟩;obtain ⟨A6,c6,rfl,hA6⟩:=zAL ho6;have HO6:=yh ho6;have HA6:=yh hA6;have HP:=yh hp;have HB6:=yh hb6;clear ho6 hA6 hp hb6)
  | (go_at_call 56;refine (zMp _ _).mono ?_;rintro e w5 ⟨rfl,rfl⟩))
 go_ret
 have hl:(ss.mergeSort (fun x y =>decide (x≤y))).length=ss.length:=List.length_mergeSort _
 have hal:Below w.heap.size w (w.alloc (.cells #[.map (some b)] 69)):=(Below.refl _ _).alloc (Nat.le_refl _) _
 refine ⟨⟨A6,c6,_,HKS.out ss HP.out,by rw [hl];exact HLN.out ss HP.out,by rw [hl];rfl,HA6.out,?_⟩,hal.trans (HB6.out.mono (by simp))⟩
 rw [hl]
 exact zAT HO6.out (by simp)
open Go.RowKit Go.Maps Go.ChangeMaps Go.WideMaps Go.Sort
theorem zKL (p b:Nat) (f g:Bool×Int) (s:List UInt8) (Ab:Option Addr) (nb cb:Nat) (w:World) (hx:zAM w p b true f g) :
  Calls Tryz.prog 73 #[.pointer (some ⟨p,0,none⟩),.string (tx s),.slice Ab nb cb] w fun e w' =>e=.returned (.int .i64 7)∧Below w.heap.size w w':=by
 have z0:(w.alloc (.cells #[.pointer (some ⟨p,0,none⟩)] 27)).heap.size=w.heap.size+1:=by simp only [World.size_alloc]
 have z1:((w.alloc (.cells #[.pointer (some ⟨p,0,none⟩)] 27)).alloc (.cells #[.string (tx s)] 9)).heap.size=w.heap.size+2:=by simp only [World.size_alloc,Nat.add_assoc,Nat.reduceAdd]
 have z2:(((w.alloc (.cells #[.pointer (some ⟨p,0,none⟩)] 27)).alloc (.cells #[.string (tx s)] 9)).alloc (.cells #[.slice Ab nb cb] 59)).heap.size=w.heap.size+3:=by simp only [World.size_alloc,Nat.add_assoc,Nat.reduceAdd]
 have HA:Hid (Below w.heap.size w (((w.alloc (.cells #[.pointer (some ⟨p,0,none⟩)] 27)).alloc (.cells #[.string (tx s)] 9)).alloc (.cells #[.slice Ab nb cb] 59))):=(((Below.refl _ _).alloc (by first | exact Nat.le_refl _ | (rw [z0];omega)) _).alloc (by first | exact Nat.le_refl _ | (rw [z0];omega)) _).alloc (by first | exact Nat.le_refl _ | (rw [z1];omega)) _
 have e0:=zAE w (.cells #[.pointer (some ⟨p,0,none⟩)] 27)
 have e0:=(Below.heap_alloc (w.alloc (.cells #[.pointer (some ⟨p,0,none⟩)] 27)) (.cells #[.string (tx s)] 9) _ (by rw [z0];omega)).trans e0
 have e0:=(Below.heap_alloc ((w.alloc (.cells #[.pointer (some ⟨p,0,none⟩)] 27)).alloc (.cells #[.string (tx s)] 9)) (.cells #[.slice Ab nb cb] 59) _ (by rw [z1];omega)).trans e0
 have e1:=zAE (w.alloc (.cells #[.pointer (some ⟨p,0,none⟩)] 27)) (.cells #[.string (tx s)] 9)
 rw [z0] at e1
 have e1:=(Below.heap_alloc ((w.alloc (.cells #[.pointer (some ⟨p,0,none⟩)] 27)).alloc (.cells #[.string (tx s)] 9)) (.cells #[.slice Ab nb cb] 59) _ (by rw [z1];omega)).trans e1
 have e2:=zAE ((w.alloc (.cells #[.pointer (some ⟨p,0,none⟩)] 27)).alloc (.cells #[.string (tx s)] 9)) (.cells #[.slice Ab nb cb] 59)
 rw [z1] at e2
 have hx1:=hx.below HA.out
 have q0:=zAA (i:=0) e0 rfl
 have q1:=zAA (i:=1) hx1 rfl
 clear hx hx1 e0 e1 e2 z0 z1 z2
 go_enter Tryz.func73,Tryz.ntmps73
 go_wp2
 go_ret
 exact ⟨rfl,HA.out⟩
theorem zHA {w:World} {base b p N:Nat} {down:Bool} {f g:Bool×Int} {fl:List UInt8→Option Fl} {F:List UInt8→Option Value} (h:zAZ w base b N fl F) (hx:zAM w p b down f g):∀ k,zAU p b F k→k<w.heap.size:=fun k hk =>by
 rcases hk with rfl | rfl | ⟨u,A,n,c,s,e,hb⟩
 ·exact hx.lt
 ·exact h.1.lt
 ·exact zGc h e k hb
open Go.ChangeShapes Go.WideShapes Go.ChangeAt Go.RowKit Go.Deep
structure Ac where
 kind:Int
 name:List UInt8
 to:List UInt8
 body:List UInt8
 n:Int
 keep:List Int
structure Aw where
 a:Ac
 A:Option Addr
 k:Nat
 c:Nat
 K:Option Addr
 kn:Nat
 kc:Nat
def iv64 (k:Int):Value:=.int .i64 k
def Aw.cells (x:Aw):List Value:=[.int .i64 x.a.kind,.string (tx x.a.name),.string (tx x.a.to),.slice x.A x.k x.c,.int .i64 x.a.n,.slice x.K x.kn x.kc]
def Aw.val (x:Aw):Value:=.agg #[.int .i64 x.a.kind,.string (tx x.a.name),.string (tx x.a.to),.slice x.A x.k x.c,.int .i64 x.a.n,.slice x.K x.kn x.kc]
def aws (xs:List Aw):List Value:=xs.flatMap Aw.cells
theorem zLV (x:Aw):x.cells.length=6:=rfl
theorem zOa (x:Aw) (xs:List Aw):aws (x :: xs)=x.cells++aws xs:=rfl
theorem zKr:∀ xs:List Aw,(aws xs).length=xs.length * 6
 | [] =>rfl
 | x :: xs =>by rw [zOa,List.length_append,zKr xs,zLV,List.length_cons];omega
structure AIn (w:World) (B:Nat) (x:Aw):Prop where
 hname:x.a.name.length≤maxLen
 hto:x.a.to.length≤maxLen
 hn:x.a.n≤9223372036854775807
 hkc:x.k≤x.c
 hcm:x.c≤maxLen
 hA:x.A=none→x.c=0
 hbody:zAD w B 1 x.A x.k (x.a.body.map bv)
 hknc:x.kn≤x.kc
 hkcm:x.kc≤maxLen
 hK:x.K=none→x.kc=0
 hkeep:zAD w B 1 x.K x.kn (x.a.keep.map iv64)
theorem AIn.more {w:World} {B B':Nat} {x:Aw} (h:AIn w B x) (hB:B≤B'):AIn w B' x:=⟨h.hname,h.hto,h.hn,h.hkc,h.hcm,h.hA,h.hbody.more hB,h.hknc,h.hkcm,h.hK,h.hkeep.more hB⟩
theorem AIn.below {w w':World} {B:Nat} {x:Aw} (h:AIn w B x) (hb:Below B w w'):AIn w' B x:=⟨h.hname,h.hto,h.hn,h.hkc,h.hcm,h.hA,h.hbody.below hb,h.hknc,h.hkcm,h.hK,h.hkeep.below hb⟩
def Acts (w:World) (B:Nat) (A:Option Addr) (n:Nat) (xs:List Aw):Prop:=zAD w B 6 A n (aws xs)∧∀ x ∈ xs,AIn w B x
theorem Acts.len {w:World} {B:Nat} {A:Option Addr} {n:Nat} {xs:List Aw} (h:Acts w B A n xs):xs.length=n:=by
 have:=h.1.1
 rw [zKr] at this
 omega
theorem Acts.below {w w':World} {B:Nat} {A:Option Addr} {n:Nat} {xs:List Aw} (h:Acts w B A n xs) (hb:Below B w w'):Acts w' B A n xs :=
 ⟨h.1.below hb,fun x hx =>(h.2 x hx).below hb⟩
theorem Acts.nil (w:World) (B:Nat) (A:Option Addr):Acts w B A 0 []:=⟨⟨by simp [aws],fun h =>absurd h (by omega)⟩,by simp⟩
theorem zKH {H:Type} {enc:TypeId×Value→H} {P:Program} {w:World} {base:Nat} {spare:Nat→Bool} {held:Bool} {t:TypeId} {f0 f1 f2 f3 f4 f5:Field} {fuel:Nat} {cs:List Value} {x:DataW H×List MemPlace} (ht:P.underlying t=some (.struct #[f0,f1,f2,f3,f4,f5])) (h:DataW.trod enc P w base spare held fuel t cs=some x) :
  ∃ y0 y1 y2 y3 y4 y5 n,cs.length=P.cellsOf t∧DataW.trod enc P w base spare held n f0.type ((cs.drop f0.offset).take (P.cellsOf f0.type))=some y0∧DataW.trod enc P w base spare held n f1.type ((cs.drop f1.offset).take (P.cellsOf f1.type))=some y1∧DataW.trod enc P w base spare held n f2.type ((cs.drop f2.offset).take (P.cellsOf f2.type))=some y2∧DataW.trod enc P w base spare held n f3.type ((cs.drop f3.offset).take (P.cellsOf f3.type))=some y3∧DataW.trod enc P w base spare held n f4.type ((cs.drop f4.offset).take (P.cellsOf f4.type))=some y4∧DataW.trod enc P w base spare held n f5.type ((cs.drop f5.offset).take (P.cellsOf f5.type))=some y5:=by
 obtain ⟨xs,n,_,rfl,hl,hlen,hf⟩:=DataW.trod_struct ht h
 match xs,hlen with
 | [y0,y1,y2,y3,y4,y5],_ =>exact ⟨y0,y1,y2,y3,y4,y5,n,hl,by simpa using hf 0 f0 rfl,by simpa using hf 1 f1 rfl,by simpa using hf 2 f2 rfl,by simpa using hf 3 f3 rfl,by simpa using hf 4 f4 rfl,by simpa using hf 5 f5 rfl⟩
open Go.RowKit
set_option maxRecDepth 100000
structure FsSt where
 fl:List UInt8→Option Fl
 down:Bool
 f:Bool×Int
 g:Bool×Int
def FsAt (w:World) (base p b N:Nat) (σ:FsSt) (F:List UInt8→Option Value):Prop:=zAM w p b σ.down σ.f σ.g∧zAZ w base b N σ.fl F
theorem FsAt.below {w w':World} {base p b N:Nat} {σ:FsSt} {F:List UInt8→Option Value} (h:FsAt w base p b N σ F) (hb:Below w.heap.size w w'):FsAt w' base p b N σ F:=⟨h.1.below hb,h.2.below hb⟩
theorem FsAt.past {w w':World} {base p b N:Nat} {S:Nat→Prop} {σ:FsSt} {F:List UInt8→Option Value} (h:FsAt w base p b N σ F) (ht:Turn S w w') (hs:∀ k,zAU p b F k→¬ S k):FsAt w' base p b N σ F:=by
 have hb:∀ k,zAU p b F k→w'.heap[k]? = w.heap[k]?:=fun k hk =>ht.2.2.2.2 k (zHA h.2 h.1 k hk) (hs k hk)
 exact ⟨(hb p (.inl rfl)).trans h.1,h.2.turn hb⟩
def refC (σ:FsSt) (a:Ac):Int :=
 if σ.down=true then 7 else if a.kind=0 then 0 else match σ.fl a.name with | none =>6 | some x =>if a.kind=1∧(a.n<0∨(x.body.length:Int)<a.n) then 1 else 0
def zBW (σ:FsSt) (a:Ac):List UInt8→Option Fl :=
 if a.kind=0 then zAb σ.fl a.name (some ⟨(zAi σ.fl a.name).body++a.body,(zAi σ.fl a.name).safe⟩)
 else if a.kind=1 then zAb σ.fl a.name (some ⟨(zAi σ.fl a.name).body.take a.n.toNat,min (zAi σ.fl a.name).safe a.n.toNat⟩)
 else if a.kind=2 then zAb σ.fl a.name (some ⟨(zAi σ.fl a.name).body,(zAi σ.fl a.name).body.length⟩)
 else if a.kind=3 then zAb (zAb σ.fl a.name none) a.to (some (zAi σ.fl a.name))
 else zAb σ.fl a.name none
def actS (σ:FsSt) (a:Ac):FsSt:=⟨zDE (zAs σ.f σ.g (decide (a.kind=0))) (zBW σ a) σ.fl,zAW σ.g,zAI σ.f,zAI σ.g⟩
theorem zEy {fl:List UInt8→Option Fl} {s:List UInt8} {x:Fl} (h:fl s=some x):zAi fl s=x:=by unfold zAi;rw [h];rfl
theorem zKP {w w':World} {base p b N:Nat} {down:Bool} {f g:Bool×Int} {fl:List UInt8→Option Fl} {F:List UInt8→Option Value} (h:zAZ w base b N fl F) (hx:zAM w p b down f g) (ht:Turn (fun k =>k=p) w w'):zAZ w' base b N fl F :=
 zBP h hx ⟨ht.1,ht.2.1,ht.2.2.1,ht.2.2.2.1,fun k hk hne =>ht.2.2.2.2 k hk (fun e =>hne (by rw [e]))⟩
def DidA (base p b N:Nat) (σ:FsSt) (F:List UInt8→Option Value) (a:Ac) (w:World) (c:Int) (w':World):Prop :=
 ∃ (σ':FsSt) (N':Nat) (F':List UInt8→Option Value),FsAt w' base p b N' σ' F'∧N'≤N+2∧Turn (zAU p b F) w w'∧(∀ k,zAU p b F' k→zAU p b F k∨w.heap.size≤k)∧((refC σ a≠0∧σ'=σ∧c=refC σ a)∨(refC σ a=0∧σ'=actS σ a∧c=zAx σ.f σ.g))
theorem zBw {base p b N:Nat} {σ:FsSt} {F:List UInt8→Option Value} {a:Ac} {w w':World} {c:Int} (h:FsAt w base p b N σ F) (h2:Below w.heap.size w w') (hr:refC σ a=c) (hc:c≠0):DidA base p b N σ F a w c w' :=
 ⟨σ,N,F,h.below h2,by omega,Turn.of_below h2,fun k hk =>.inl hk,.inl ⟨by rw [hr];exact hc,rfl,hr.symm⟩⟩
theorem zEI {base p b N N':Nat} {σ:FsSt} {F F':List UInt8→Option Value} {a:Ac} {w w':World} {fl':List UInt8→Option Fl} (h2:zGB w w' base p b N N' (zAW σ.g) (zAI σ.f) (zAI σ.g) fl' F F')
  (hr:refC σ a=0) (hfl:(actS σ a).fl=fl'):DidA base p b N σ F a w (zAx σ.f σ.g) w' :=
 ⟨actS σ a,N',F',⟨h2.box,by rw [hfl];exact h2.files⟩,h2.room,h2.turn,h2.sub,.inr ⟨hr,rfl,rfl⟩⟩
def zLU (σ:FsSt):Prop:=∀ u y,σ.fl u=some y→y.body.length≤100000000∧y.safe≤y.body.length∧u.length≤maxLen
theorem zKq (p b N base:Nat) (σ:FsSt) (F:List UInt8→Option Value) (hN:N≤100000) (hsz:zLU σ) (hf:zAN σ.f) (hg:zAN σ.g) (w:World) (hbase:base≤w.heap.size) (hx:FsAt w base p b N σ F) (nm:List UInt8) (hnm:nm.length≤maxLen) (B:Nat) (hBw:B≤w.heap.size) (A:Option Addr) (k c:Nat) (body:List UInt8) (hA:A=none→c=0) (hk:k≤50000000) (hr:zAD w B 1 A k (body.map bv)) :
  Calls Tryz.prog 73 #[.pointer (some ⟨p,0,none⟩),.string (tx nm),.slice A k c] w fun e w' =>∃ e0,e=.returned (.int .i64 e0)∧DidA base p b N σ F ⟨0,nm,[],body,0,[]⟩ w e0 w':=by
 have hgl:(zAi σ.fl nm).body.length≤100000000:=by
  unfold zAi
  cases e:σ.fl nm with
  | none =>simp
  | some y =>exact (hsz nm y e).1
 obtain ⟨hx1,hf1⟩:=id hx
 cases hd:σ.down with
 | true =>
  rw [hd] at hx1
  exact (zKL p b σ.f σ.g nm A k c _ hx1).mono fun e w' ⟨he,hb⟩ =>⟨7,he,zBw hx hb (by simp [refC,hd]) (by omega)⟩
 | false =>
  rw [hd] at hx1
  refine (zLW p b N base B σ.f σ.g hf hg σ.fl F nm hnm A k c body hA (by omega) (by omega) (by omega) _ hbase hx1 hf1 hBw hr).mono fun e w' ⟨he,N',F',hact⟩ =>⟨_,he,zEI hact (by simp [refC,hd]) ?_⟩
  simp [actS,zBW]
theorem zOS (p b N base:Nat) (σ:FsSt) (F:List UInt8→Option Value) (hN:N≤100000) (hsz:zLU σ) (hf:zAN σ.f) (hg:zAN σ.g) (w:World) (hbase:base≤w.heap.size) (hx:FsAt w base p b N σ F) (nm:List UInt8) (hnm:nm.length≤maxLen) (z:Int) :
  Calls Tryz.prog 48 #[.pointer (some ⟨p,0,none⟩),.string (tx nm),.int .i64 z] w fun e w' =>∃ e0,e=.returned (.int .i64 e0)∧DidA base p b N σ F ⟨1,nm,[],[],z,[]⟩ w e0 w':=by
 obtain ⟨hx1,hf1⟩:=id hx
 cases hd:σ.down with
 | true =>
  rw [hd] at hx1
  exact (zMT p b σ.f σ.g nm z _ hx1).mono fun e w' ⟨he,hb⟩ =>⟨7,he,zBw hx hb (by simp [refC,hd]) (by omega)⟩
 | false =>
  rw [hd] at hx1
  cases hfx:σ.fl nm with
  | none =>exact (zMU p b N σ.f σ.g nm hnm z F _ hx1 hf1.1 (hf1.2.1 nm hfx)).mono fun e w' ⟨he,hb⟩ =>⟨6,he,zBw hx hb (by simp [refC,hd,hfx]) (by omega)⟩
  | some y =>
   by_cases hzz:z<0∨(y.body.length:Int)<z
   ·obtain ⟨A',c',hF,_⟩:=hf1.2.2.1 nm y hfx
    exact (zOR p b N σ.f σ.g A' y.body.length c' y.safe nm hnm z F _ hx1 hf1.1 hF hzz).mono fun e w' ⟨he,hb⟩ =>⟨1,he,zBw hx hb (by simp [refC,hd,hfx,hzz]) (by omega)⟩
   ·obtain ⟨q,rfl⟩:∃ q:Nat,z=(q:Int):=⟨z.toNat,by omega⟩
    refine (zOQ p b N base σ.f σ.g hf hg σ.fl F nm hnm y hfx q (by omega) (by omega) (Nat.le_trans (hsz nm y hfx).1 (by omega)) _ hbase hx1 hf1).mono fun e w' ⟨he,N',F',hact⟩ =>⟨_,he,zEI hact (by simp only [refC,hd,hfx];rw [if_neg (by simp),if_neg (by simp),if_neg (fun h =>hzz h.2)]) ?_⟩
    simp [actS,zBW,zEy hfx]
theorem zKB (p b N base:Nat) (σ:FsSt) (F:List UInt8→Option Value) (hN:N≤100000) (hf:zAN σ.f) (hg:zAN σ.g) (w:World) (hx:FsAt w base p b N σ F) (nm:List UInt8) (hnm:nm.length≤maxLen) :
  Calls Tryz.prog 52 #[.pointer (some ⟨p,0,none⟩),.string (tx nm)] w fun e w' =>∃ e0,e=.returned (.int .i64 e0)∧DidA base p b N σ F ⟨2,nm,[],[],0,[]⟩ w e0 w':=by
 obtain ⟨hx1,hf1⟩:=id hx
 cases hd:σ.down with
 | true =>
  rw [hd] at hx1
  exact (zOF p b σ.f σ.g nm _ hx1).mono fun e w' ⟨he,hb⟩ =>⟨7,he,zBw hx hb (by simp [refC,hd]) (by omega)⟩
 | false =>
  rw [hd] at hx1
  cases hfx:σ.fl nm with
  | none =>exact (zOG p b N σ.f σ.g nm hnm F (hf1.2.1 nm hfx) _ hx1 hf1.1).mono fun e w' ⟨he,hb⟩ =>⟨6,he,zBw hx hb (by simp [refC,hd,hfx]) (by omega)⟩
  | some y =>
   refine (zPx p b N base σ.f σ.g hf hg σ.fl F nm hnm y hfx (by omega) _ hx1 hf1).mono fun e w' ⟨he,N',F',hact⟩ =>⟨_,he,zEI hact (by simp [refC,hd,hfx]) ?_⟩
   simp [actS,zBW,zEy hfx]
theorem zMG (p b N base:Nat) (σ:FsSt) (F:List UInt8→Option Value) (hN:N≤100000) (hf:zAN σ.f) (hg:zAN σ.g) (w:World) (hx:FsAt w base p b N σ F) (nm:List UInt8) (hnm:nm.length≤maxLen) (to:List UInt8) (hto:to.length≤maxLen) :
  Calls Tryz.prog 76 #[.pointer (some ⟨p,0,none⟩),.string (tx nm),.string (tx to)] w fun e w' =>∃ e0,e=.returned (.int .i64 e0)∧DidA base p b N σ F ⟨3,nm,to,[],0,[]⟩ w e0 w':=by
 obtain ⟨hx1,hf1⟩:=id hx
 cases hd:σ.down with
 | true =>
  rw [hd] at hx1
  exact (zKe p b σ.f σ.g nm to _ hx1).mono fun e w' ⟨he,hb⟩ =>⟨7,he,zBw hx hb (by simp [refC,hd]) (by omega)⟩
 | false =>
  rw [hd] at hx1
  cases hfx:σ.fl nm with
  | none =>exact (zKf p b N σ.f σ.g nm to hnm F (hf1.2.1 nm hfx) _ hx1 hf1.1).mono fun e w' ⟨he,hb⟩ =>⟨6,he,zBw hx hb (by simp [refC,hd,hfx]) (by omega)⟩
  | some y =>
   refine (zMF p b N base σ.f σ.g hf hg σ.fl F nm to hnm hto y hfx (by omega) _ hx1 hf1).mono fun e w' ⟨he,N',F',hact⟩ =>⟨_,he,zEI hact (by simp [refC,hd,hfx]) ?_⟩
   simp [actS,zBW,zEy hfx]
theorem zHX (p b N base:Nat) (σ:FsSt) (F:List UInt8→Option Value) (hf:zAN σ.f) (hg:zAN σ.g) (w:World) (hx:FsAt w base p b N σ F) (nm:List UInt8) (hnm:nm.length≤maxLen) :
  Calls Tryz.prog 45 #[.pointer (some ⟨p,0,none⟩),.string (tx nm)] w fun e w' =>∃ e0,e=.returned (.int .i64 e0)∧DidA base p b N σ F ⟨4,nm,[],[],0,[]⟩ w e0 w':=by
 obtain ⟨hx1,hf1⟩:=id hx
 cases hd:σ.down with
 | true =>
  rw [hd] at hx1
  exact (zKc p b σ.f σ.g nm _ hx1).mono fun e w' ⟨he,hb⟩ =>⟨7,he,zBw hx hb (by simp [refC,hd]) (by omega)⟩
 | false =>
  rw [hd] at hx1
  cases hfx:σ.fl nm with
  | none =>exact (zKd p b N σ.f σ.g nm hnm F (hf1.2.1 nm hfx) _ hx1 hf1.1).mono fun e w' ⟨he,hb⟩ =>⟨6,he,zBw hx hb (by simp [refC,hd,hfx]) (by omega)⟩
  | some y =>
   refine (zME p b N base σ.f σ.g hf hg σ.fl F nm hnm y hfx _ hx1 hf1).mono fun e w' ⟨he,N',F',hact⟩ =>⟨_,he,zEI hact (by simp [refC,hd,hfx]) ?_⟩
   simp [actS,zBW]
def zBb (σ:FsSt):Prop:=σ.down=false∧σ.f.1=false∧σ.g.1=false
def SzS (m:Nat) (σ:FsSt):Prop:=∀ u y,σ.fl u=some y→y.body.length≤m∧y.safe≤y.body.length∧u.length≤1000
theorem SzS.small {m:Nat} {σ:FsSt} (h:SzS m σ) (hm:m≤100000000):zLU σ:=fun u y hu =>⟨Nat.le_trans (h u y hu).1 hm,(h u y hu).2.1,Nat.le_trans (h u y hu).2.2 (by unfold maxLen;omega)⟩
theorem SzS.more {m m':Nat} {σ:FsSt} (h:SzS m σ) (hm:m≤m'):SzS m' σ:=fun u y hu =>⟨Nat.le_trans (h u y hu).1 hm,(h u y hu).2⟩
theorem zDp {a:Bool×Int} (h:a.1=false):zAI a=a∧zAW a=false:=by
 unfold zAI zAW
 rw [h]
 simp
def asK (sd B:List UInt8) (k:Nat) (σ0 σ:FsSt):Prop :=
 match k with
 | 0 =>σ.fl sd=σ0.fl sd
 | 1 =>σ.fl sd=none
 | 2 =>σ.fl sd=some ⟨B,0⟩
 | _ =>σ.fl sd=some ⟨B,B.length⟩
structure StK (sd B:List UInt8) (M k:Nat) (σ0 σ:FsSt):Prop where
 other:∀ u,u≠sd→σ.fl u=σ0.fl u
 at_:asK sd B k σ0 σ
 hf:zAN σ.f
 hg:zAN σ.g
 sz:SzS M σ
 quiet:zBb σ0→zBb σ
theorem StK.start {sd B:List UInt8} {M:Nat} {σ:FsSt} (hf:zAN σ.f) (hg:zAN σ.g) (hs:SzS M σ):StK sd B M 0 σ σ:=⟨fun _ _ =>rfl,rfl,hf,hg,hs,id⟩
theorem StK.none_ {sd B:List UInt8} {M:Nat} {σ0 σ:FsSt} (h:StK sd B M 0 σ0 σ) (hn:σ.fl sd=none):StK sd B M 1 σ0 σ:=⟨h.other,hn,h.hf,h.hg,h.sz,h.quiet⟩
theorem zDL {m:Nat} {σ σ':FsSt} {s:List UInt8} {x:Option Fl} (h:SzS m σ) (e:σ'.fl=zAb σ.fl s x) (hx:∀ y,x=some y→y.body.length≤m∧y.safe≤y.body.length∧s.length≤1000):SzS m σ':=by
 intro u y hu
 rw [e] at hu
 unfold zAb at hu
 by_cases hs:u=s
 ·rw [if_pos hs] at hu;rw [hs];exact hx y hu
 ·rw [if_neg hs] at hu;exact h u y hu
theorem zDn {fl:List UInt8→Option Fl} {s:List UInt8} {x:Option Fl}:zAb fl s x s=x:=by unfold zAb;rw [if_pos rfl]
theorem zBj {fl:List UInt8→Option Fl} {s u:List UInt8} {x:Option Fl} (h:u≠s):zAb fl s x u=fl u:=by unfold zAb;rw [if_neg h]
section
variable {nm sd B:List UInt8} {M:Nat} {σ0 σ σ':FsSt} {c:Int}
end
end Go.Proofs.YtekchkfjgofnkaaGreatDoor
