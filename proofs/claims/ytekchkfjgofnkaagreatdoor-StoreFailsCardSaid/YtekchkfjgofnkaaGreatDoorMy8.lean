/- Texts of one proof. -/
import Derived.Laws.EntriesVeiled
import Derived.Test.YtekchkfjgofnkaaGreatDoorMy7
set_option maxRecDepth 100000
set_option maxHeartbeats 8000000
namespace Go.Proofs.YtekchkfjgofnkaaGreatDoor
open Go.RowKit
def flat (fl:List (Nat×List UInt8)):List UInt8:=fl.flatMap Prod.snd
theorem zMq {fl:List (Nat×List UInt8)} {i:Nat} {x:Nat×List UInt8} (h:fl[i]? = some x):flat (fl.take (i+1))=flat (fl.take i)++x.2:=by
 unfold flat
 rw [List.take_add_one,h,List.flatMap_append];simp
theorem zOs {fl:List (Nat×List UInt8)} (h:∀ x ∈ fl,x.2.length≤1000000):(flat fl).length≤1000000 * fl.length:=by
 unfold flat
 induction fl with
 | nil =>simp
 | cons a fl ih =>
  have h1:=h a (by simp)
  have h2:=ih (fun x hx =>h x (by simp [hx]))
  simp only [List.flatMap_cons,List.length_append,List.length_cons]
  omega
def zSo (S:Nat→Prop) (bw:Nat) (ver:Int) (bt:Nat) (kb:UInt8) (fl:List (Nat×List UInt8)) (w5:World) (idx:Value) (wr:World):Prop :=
 ∃ i:Nat,i≤fl.length∧idx=.int .i64 (i:Int)∧Wr wr S bw ver bt (kb :: flat (fl.take i))∧Turn S w5 wr
theorem zDN (T:Nat→Prop) (bt N n c:Nat) (ver:Int) (tl:List (List UInt8)) (r:Rc) (A:Option Addr) (l:List Dp) (kb:UInt8) (hk:r.kind=(kb.toNat:Int)) (hk2:kb.toNat≤2) (fl:List (Nat×List UInt8)) (hfl:fl.length≤6) (hsz:∀ x ∈ fl,x.2.length≤1000000)
  (hnm:∀ x ∈ fl,x.1=155∨x.1=156∨x.1=157∨x.1=158∨x.1=159∨x.1=160) (w:World) (hT:Tab w T bt N tl) (hr:zAD w w.heap.size 3 A n (dps l))
  (HOF:Hid (∀ W,Calls Tryz.prog 146 #[.agg #[.func (.func 155) #[.pointer (some ⟨w.heap.size+1+1,0,none⟩)] #[],.func (.func 156) #[.pointer (some ⟨w.heap.size+1+1,0,none⟩)] #[],.func (.func 157) #[.pointer (some ⟨w.heap.size+1+1,0,none⟩)] #[],.func (.func 158) #[.pointer (some ⟨w.heap.size+1+1,0,none⟩)] #[],.func (.func 159) #[.pointer (some ⟨w.heap.size+1+1,0,none⟩)] #[],.func (.func 160) #[.pointer (some ⟨w.heap.size+1+1,0,none⟩)] #[]],.int .i64 ver,.int .i64 r.kind] W fun e w' =>∃ v,e=.returned v∧w'.ownsRow (W.heap.size+1) 203 1 v fl.length (fl.map fun x =>.func (.func x.1) #[.pointer (some ⟨w.heap.size+1+1,0,none⟩)] #[])∧Below W.heap.size W w'))
  (HLAY:Hid (∀ x ∈ fl,∀ (S T:Nat→Prop) (B:Nat),Lays x.1 S (w.heap.size+1+1) ver bt w.heap.size (fun W =>Env W S T bt N tl w.heap.size r A n c l B) x.2)) :
  Calls Tryz.prog 133 #[.int .i64 ver,.pointer (some ⟨bt,0,none⟩),.agg #[.int .i64 r.kind,.string (tx r.target),.int .u64 r.rule,.slice A n c,.int .u64 r.out,.int .u64 r.time,.string (tx r.tag)]] w fun e w' =>∃ v,e=.returned v∧w'.ownsRow w.heap.size 5 1 v (kb :: flat fl).length ((kb :: flat fl).map bv)∧Below w.heap.size w w':=by
 have hz1:(w.alloc (.cells #[.int .i64 r.kind,.string (tx r.target),.int .u64 r.rule,.slice A n c,.int .u64 r.out,.int .u64 r.time,.string (tx r.tag)] 41)).heap.size=w.heap.size+1:=by simp
 have hz2:((w.alloc (.cells #[.int .i64 r.kind,.string (tx r.target),.int .u64 r.rule,.slice A n c,.int .u64 r.out,.int .u64 r.time,.string (tx r.tag)] 41)).alloc (.cells #[.int .u8 r.kind] 5)).heap.size=w.heap.size+1+1:=by simp
 have hz3:(((w.alloc (.cells #[.int .i64 r.kind,.string (tx r.target),.int .u64 r.rule,.slice A n c,.int .u64 r.out,.int .u64 r.time,.string (tx r.tag)] 41)).alloc (.cells #[.int .u8 r.kind] 5)).alloc (.cells #[.int .i64 ver,.pointer (some ⟨bt,0,none⟩),.slice (some ⟨w.heap.size+1,0,none⟩) 1 1] 218)).heap.size=w.heap.size+1+1+1:=by simp
 have hz4:((((w.alloc (.cells #[.int .i64 r.kind,.string (tx r.target),.int .u64 r.rule,.slice A n c,.int .u64 r.out,.int .u64 r.time,.string (tx r.tag)] 41)).alloc (.cells #[.int .u8 r.kind] 5)).alloc (.cells #[.int .i64 ver,.pointer (some ⟨bt,0,none⟩),.slice (some ⟨w.heap.size+1,0,none⟩) 1 1] 218)).alloc (.cells #[.func (.func 155) #[.pointer (some ⟨w.heap.size+1+1,0,none⟩)] #[],.func (.func 156) #[.pointer (some ⟨w.heap.size+1+1,0,none⟩)] #[],.func (.func 157) #[.pointer (some ⟨w.heap.size+1+1,0,none⟩)] #[],.func (.func 158) #[.pointer (some ⟨w.heap.size+1+1,0,none⟩)] #[],.func (.func 159) #[.pointer (some ⟨w.heap.size+1+1,0,none⟩)] #[],.func (.func 160) #[.pointer (some ⟨w.heap.size+1+1,0,none⟩)] #[]] 205)).heap.size=w.heap.size+1+1+1+1:=by simp
 have h1:((((w.alloc (.cells #[.int .i64 r.kind,.string (tx r.target),.int .u64 r.rule,.slice A n c,.int .u64 r.out,.int .u64 r.time,.string (tx r.tag)] 41)).alloc (.cells #[.int .u8 r.kind] 5)).alloc (.cells #[.int .i64 ver,.pointer (some ⟨bt,0,none⟩),.slice (some ⟨w.heap.size+1,0,none⟩) 1 1] 218)).alloc (.cells #[.func (.func 155) #[.pointer (some ⟨w.heap.size+1+1,0,none⟩)] #[],.func (.func 156) #[.pointer (some ⟨w.heap.size+1+1,0,none⟩)] #[],.func (.func 157) #[.pointer (some ⟨w.heap.size+1+1,0,none⟩)] #[],.func (.func 158) #[.pointer (some ⟨w.heap.size+1+1,0,none⟩)] #[],.func (.func 159) #[.pointer (some ⟨w.heap.size+1+1,0,none⟩)] #[],.func (.func 160) #[.pointer (some ⟨w.heap.size+1+1,0,none⟩)] #[]] 205)).heap[w.heap.size]? = some (.cells #[.int .i64 r.kind,.string (tx r.target),.int .u64 r.rule,.slice A n c,.int .u64 r.out,.int .u64 r.time,.string (tx r.tag)] 41 (0,0)):=(Below.heap_alloc _ _ _ (by rw [hz3];omega)).trans ((Below.heap_alloc _ _ _ (by rw [hz2];omega)).trans ((Below.heap_alloc _ _ _ (by rw [hz1];omega)).trans (zAE w _)))
 have h2:((((w.alloc (.cells #[.int .i64 r.kind,.string (tx r.target),.int .u64 r.rule,.slice A n c,.int .u64 r.out,.int .u64 r.time,.string (tx r.tag)] 41)).alloc (.cells #[.int .u8 r.kind] 5)).alloc (.cells #[.int .i64 ver,.pointer (some ⟨bt,0,none⟩),.slice (some ⟨w.heap.size+1,0,none⟩) 1 1] 218)).alloc (.cells #[.func (.func 155) #[.pointer (some ⟨w.heap.size+1+1,0,none⟩)] #[],.func (.func 156) #[.pointer (some ⟨w.heap.size+1+1,0,none⟩)] #[],.func (.func 157) #[.pointer (some ⟨w.heap.size+1+1,0,none⟩)] #[],.func (.func 158) #[.pointer (some ⟨w.heap.size+1+1,0,none⟩)] #[],.func (.func 159) #[.pointer (some ⟨w.heap.size+1+1,0,none⟩)] #[],.func (.func 160) #[.pointer (some ⟨w.heap.size+1+1,0,none⟩)] #[]] 205)).heap[w.heap.size+1]? = some (.cells #[.int .u8 r.kind] 5 (0,0)):=(Below.heap_alloc _ _ _ (by rw [hz3];omega)).trans ((Below.heap_alloc _ _ _ (by rw [hz2];omega)).trans (by have h:=zAE (w.alloc (.cells #[.int .i64 r.kind,.string (tx r.target),.int .u64 r.rule,.slice A n c,.int .u64 r.out,.int .u64 r.time,.string (tx r.tag)] 41)) (.cells #[.int .u8 r.kind] 5);rw [hz1] at h;exact h))
 have h3:((((w.alloc (.cells #[.int .i64 r.kind,.string (tx r.target),.int .u64 r.rule,.slice A n c,.int .u64 r.out,.int .u64 r.time,.string (tx r.tag)] 41)).alloc (.cells #[.int .u8 r.kind] 5)).alloc (.cells #[.int .i64 ver,.pointer (some ⟨bt,0,none⟩),.slice (some ⟨w.heap.size+1,0,none⟩) 1 1] 218)).alloc (.cells #[.func (.func 155) #[.pointer (some ⟨w.heap.size+1+1,0,none⟩)] #[],.func (.func 156) #[.pointer (some ⟨w.heap.size+1+1,0,none⟩)] #[],.func (.func 157) #[.pointer (some ⟨w.heap.size+1+1,0,none⟩)] #[],.func (.func 158) #[.pointer (some ⟨w.heap.size+1+1,0,none⟩)] #[],.func (.func 159) #[.pointer (some ⟨w.heap.size+1+1,0,none⟩)] #[],.func (.func 160) #[.pointer (some ⟨w.heap.size+1+1,0,none⟩)] #[]] 205)).heap[w.heap.size+1+1]? = some (.cells #[.int .i64 ver,.pointer (some ⟨bt,0,none⟩),.slice (some ⟨w.heap.size+1,0,none⟩) 1 1] 218 (0,0)):=(Below.heap_alloc _ _ _ (by rw [hz3];omega)).trans (by have h:=zAE ((w.alloc (.cells #[.int .i64 r.kind,.string (tx r.target),.int .u64 r.rule,.slice A n c,.int .u64 r.out,.int .u64 r.time,.string (tx r.tag)] 41)).alloc (.cells #[.int .u8 r.kind] 5)) (.cells #[.int .i64 ver,.pointer (some ⟨bt,0,none⟩),.slice (some ⟨w.heap.size+1,0,none⟩) 1 1] 218);rw [hz2] at h;exact h)
 have h4:((((w.alloc (.cells #[.int .i64 r.kind,.string (tx r.target),.int .u64 r.rule,.slice A n c,.int .u64 r.out,.int .u64 r.time,.string (tx r.tag)] 41)).alloc (.cells #[.int .u8 r.kind] 5)).alloc (.cells #[.int .i64 ver,.pointer (some ⟨bt,0,none⟩),.slice (some ⟨w.heap.size+1,0,none⟩) 1 1] 218)).alloc (.cells #[.func (.func 155) #[.pointer (some ⟨w.heap.size+1+1,0,none⟩)] #[],.func (.func 156) #[.pointer (some ⟨w.heap.size+1+1,0,none⟩)] #[],.func (.func 157) #[.pointer (some ⟨w.heap.size+1+1,0,none⟩)] #[],.func (.func 158) #[.pointer (some ⟨w.heap.size+1+1,0,none⟩)] #[],.func (.func 159) #[.pointer (some ⟨w.heap.size+1+1,0,none⟩)] #[],.func (.func 160) #[.pointer (some ⟨w.heap.size+1+1,0,none⟩)] #[]] 205)).heap[w.heap.size+1+1+1]? = some (.cells #[.func (.func 155) #[.pointer (some ⟨w.heap.size+1+1,0,none⟩)] #[],.func (.func 156) #[.pointer (some ⟨w.heap.size+1+1,0,none⟩)] #[],.func (.func 157) #[.pointer (some ⟨w.heap.size+1+1,0,none⟩)] #[],.func (.func 158) #[.pointer (some ⟨w.heap.size+1+1,0,none⟩)] #[],.func (.func 159) #[.pointer (some ⟨w.heap.size+1+1,0,none⟩)] #[],.func (.func 160) #[.pointer (some ⟨w.heap.size+1+1,0,none⟩)] #[]] 205 (0,0)):=by have h:=zAE (((w.alloc (.cells #[.int .i64 r.kind,.string (tx r.target),.int .u64 r.rule,.slice A n c,.int .u64 r.out,.int .u64 r.time,.string (tx r.tag)] 41)).alloc (.cells #[.int .u8 r.kind] 5)).alloc (.cells #[.int .i64 ver,.pointer (some ⟨bt,0,none⟩),.slice (some ⟨w.heap.size+1,0,none⟩) 1 1] 218)) (.cells #[.func (.func 155) #[.pointer (some ⟨w.heap.size+1+1,0,none⟩)] #[],.func (.func 156) #[.pointer (some ⟨w.heap.size+1+1,0,none⟩)] #[],.func (.func 157) #[.pointer (some ⟨w.heap.size+1+1,0,none⟩)] #[],.func (.func 158) #[.pointer (some ⟨w.heap.size+1+1,0,none⟩)] #[],.func (.func 159) #[.pointer (some ⟨w.heap.size+1+1,0,none⟩)] #[],.func (.func 160) #[.pointer (some ⟨w.heap.size+1+1,0,none⟩)] #[]] 205);rw [hz3] at h;exact h
 have hb4:Below w.heap.size w ((((w.alloc (.cells #[.int .i64 r.kind,.string (tx r.target),.int .u64 r.rule,.slice A n c,.int .u64 r.out,.int .u64 r.time,.string (tx r.tag)] 41)).alloc (.cells #[.int .u8 r.kind] 5)).alloc (.cells #[.int .i64 ver,.pointer (some ⟨bt,0,none⟩),.slice (some ⟨w.heap.size+1,0,none⟩) 1 1] 218)).alloc (.cells #[.func (.func 155) #[.pointer (some ⟨w.heap.size+1+1,0,none⟩)] #[],.func (.func 156) #[.pointer (some ⟨w.heap.size+1+1,0,none⟩)] #[],.func (.func 157) #[.pointer (some ⟨w.heap.size+1+1,0,none⟩)] #[],.func (.func 158) #[.pointer (some ⟨w.heap.size+1+1,0,none⟩)] #[],.func (.func 159) #[.pointer (some ⟨w.heap.size+1+1,0,none⟩)] #[],.func (.func 160) #[.pointer (some ⟨w.heap.size+1+1,0,none⟩)] #[]] 205)):=((((Below.refl _ w).alloc (Nat.le_refl _) (.cells #[.int .i64 r.kind,.string (tx r.target),.int .u64 r.rule,.slice A n c,.int .u64 r.out,.int .u64 r.time,.string (tx r.tag)] 41)).alloc (by rw [hz1];omega) (.cells #[.int .u8 r.kind] 5)).alloc (by rw [hz2];omega) (.cells #[.int .i64 ver,.pointer (some ⟨bt,0,none⟩),.slice (some ⟨w.heap.size+1,0,none⟩) 1 1] 218)).alloc (by rw [hz3];omega) (.cells #[.func (.func 155) #[.pointer (some ⟨w.heap.size+1+1,0,none⟩)] #[],.func (.func 156) #[.pointer (some ⟨w.heap.size+1+1,0,none⟩)] #[],.func (.func 157) #[.pointer (some ⟨w.heap.size+1+1,0,none⟩)] #[],.func (.func 158) #[.pointer (some ⟨w.heap.size+1+1,0,none⟩)] #[],.func (.func 159) #[.pointer (some ⟨w.heap.size+1+1,0,none⟩)] #[],.func (.func 160) #[.pointer (some ⟨w.heap.size+1+1,0,none⟩)] #[]] 205)
 have q0:=zAA (i:=0) h1 rfl
 have p0:=zAA (i:=0) h4 rfl
 have p1:=zAA (i:=1) h4 rfl
 have p2:=zAA (i:=2) h4 rfl
 have p3:=zAA (i:=3) h4 rfl
 have p4:=zAA (i:=4) h4 rfl
 have p5:=zAA (i:=5) h4 rfl
 have hn4:((((w.alloc (.cells #[.int .i64 r.kind,.string (tx r.target),.int .u64 r.rule,.slice A n c,.int .u64 r.out,.int .u64 r.time,.string (tx r.tag)] 41)).alloc (.cells #[.int .u8 r.kind] 5)).alloc (.cells #[.int .i64 ver,.pointer (some ⟨bt,0,none⟩),.slice (some ⟨w.heap.size+1,0,none⟩) 1 1] 218)).alloc (.cells #[.nilFunc,.nilFunc,.nilFunc,.nilFunc,.nilFunc,.nilFunc] 205)).heap[w.heap.size+1+1+1]? = some (.cells #[.nilFunc,.nilFunc,.nilFunc,.nilFunc,.nilFunc,.nilFunc] 205 (0,0)):=by have h:=zAE (((w.alloc (.cells #[.int .i64 r.kind,.string (tx r.target),.int .u64 r.rule,.slice A n c,.int .u64 r.out,.int .u64 r.time,.string (tx r.tag)] 41)).alloc (.cells #[.int .u8 r.kind] 5)).alloc (.cells #[.int .i64 ver,.pointer (some ⟨bt,0,none⟩),.slice (some ⟨w.heap.size+1,0,none⟩) 1 1] 218)) (.cells #[.nilFunc,.nilFunc,.nilFunc,.nilFunc,.nilFunc,.nilFunc] 205);rw [hz3] at h;exact h
 have f0:=zAA (i:=0) hn4 rfl
 have y0:=zAC (i:=0) hn4
 have f1:=zAA (i:=1) hn4 rfl
 have y1:=zAC (i:=1) hn4
 have f2:=zAA (i:=2) hn4 rfl
 have y2:=zAC (i:=2) hn4
 have f3:=zAA (i:=3) hn4 rfl
 have y3:=zAC (i:=3) hn4
 have f4:=zAA (i:=4) hn4 rfl
 have y4:=zAC (i:=4) hn4
 have f5:=zAA (i:=5) hn4 rfl
 have y5:=zAC (i:=5) hn4
 have q00:=zAA (i:=0) (zAE w (.cells #[.int .i64 r.kind,.string (tx r.target),.int .u64 r.rule,.slice A n c,.int .u64 r.out,.int .u64 r.time,.string (tx r.tag)] 41)) rfl
 have H1:=yh h1
 have H2:=yh h2
 have H3:=yh h3
 have HB4:=yh hb4
 have HZ4:=yh hz4
 have HT:=yh hT
 have HR:=yh hr
 have HNM:=yh hnm
 have HSIZ:=yh hsz
 have HK:=yh hk
 have hkr:0≤r.kind∧r.kind≤2:=by omega
 obtain ⟨m,hm⟩:∃ m,m=fl.length:=⟨_,rfl⟩
 have HM:=yh hm
 rw [← hm] at HOF hfl
 clear hz1 hz2 hz3 hz4 h1 h2 h3 h4 hn4 hb4 hT hr hnm hsz hk hk2 hm
 go_enter Tryz.func133,Tryz.ntmps133
 go_wp2_with (go_at_call 146;refine (HOF.out _).mono ?_;rintro e w5 ⟨v5,rfl,ho5,hb5⟩;obtain ⟨A5,c5,rfl,hc5⟩:=zAL ho5;have HO5:=yh ho5;have HB5:=yh hb5;have HRD5:=yh (zAD.of_own ho5);clear ho5 hb5)
 have hz5:Hid (w.heap.size+1+1+1+1≤w5.heap.size):=by have h1:=HB5.out.size;rw [HZ4.out] at h1;exact h1
 obtain ⟨S,hS⟩:∃ S:Nat→Prop,S=fun k =>k=w.heap.size+1∨k=w.heap.size+1+1∨w5.heap.size≤k:=⟨_,rfl⟩
 have hblk:∀ k,k<w.heap.size+1+1+1+1→w5.heap[k]? = ((((w.alloc (.cells #[.int .i64 r.kind,.string (tx r.target),.int .u64 r.rule,.slice A n c,.int .u64 r.out,.int .u64 r.time,.string (tx r.tag)] 41)).alloc (.cells #[.int .u8 r.kind] 5)).alloc (.cells #[.int .i64 ver,.pointer (some ⟨bt,0,none⟩),.slice (some ⟨w.heap.size+1,0,none⟩) 1 1] 218)).alloc (.cells #[.func (.func 155) #[.pointer (some ⟨w.heap.size+1+1,0,none⟩)] #[],.func (.func 156) #[.pointer (some ⟨w.heap.size+1+1,0,none⟩)] #[],.func (.func 157) #[.pointer (some ⟨w.heap.size+1+1,0,none⟩)] #[],.func (.func 158) #[.pointer (some ⟨w.heap.size+1+1,0,none⟩)] #[],.func (.func 159) #[.pointer (some ⟨w.heap.size+1+1,0,none⟩)] #[],.func (.func 160) #[.pointer (some ⟨w.heap.size+1+1,0,none⟩)] #[]] 205)).heap[k]?:=fun k hk =>HB5.out.block k (by rw [HZ4.out];exact hk)
 have HWR5:Hid (Wr w5 S (w.heap.size+1+1) ver bt [kb]):=by
  refine ⟨by rw [hS];exact .inr (.inl rfl),.slice (some ⟨w.heap.size+1,0,none⟩) 1 1,(hblk _ (by omega)).trans H3.out,?_,fun k hk =>?_⟩
  ·refine zBO (cap:=1) (cs:=[bv kb]) (Nat.zero_le _) ((hblk _ (by omega)).trans (H2.out.trans ?_)) (Nat.le_refl _) (by unfold maxLen;omega) rfl rfl
   rw [HK.out]
   rfl
  ·rw [hS]
   left
   simpa [Value.ownBlock] using hk.symm
 have HENV:Hid (Env w5 S (fun k =>T k∧k<w.heap.size) bt N tl w.heap.size r A n c l w.heap.size):={
  tab:=(HT.out.wide (fun k h1 h2 =>⟨h1,h2⟩)).keep (fun k hk _ =>(HB4.out.trans (HB5.out.mono HB4.out.size)).block k hk.2)
  own:=(hblk _ (by omega)).trans H1.out
  deps:=HR.out.below (HB4.out.trans (HB5.out.mono HB4.out.size))
  apart:=fun k hk =>by have:=hz5.out;rw [hS];omega
  ner:=by have:=hz5.out;rw [hS];omega
  up:=fun k hk =>by have:=hz5.out;rw [hS] at hk;omega
  new:=fun k hk =>by rw [hS];exact .inr (.inr hk)
  hB:=by have:=hz5.out;omega }
 have HBLK5:Hid (∀ g,(Value.slice A5 m c5).ownBlock=some g→g<w5.heap.size∧¬ S g):=fun g hg =>⟨zAP HO5.out g hg,by have h1:=zAG HO5.out g hg;have h2:=zAP HO5.out g hg;rw [HZ4.out] at h1;rw [hS];omega⟩
 have HUP:Hid (∀ k,S k→w.heap.size≤k):=HENV.out.up
 clear f0 y0 f1 y1 f2 y2 f3 y3 f4 y4 f5 y5 hS hblk HOF p0 p1 p2 p3 p4 p5 q0 q00
 go_loopw [38] (fun idx wr =>zSo S (w.heap.size+1+1) ver bt kb fl w5 idx wr) (fun idx wr =>m - (intOf idx).toNat)
 case atStart =>exact ⟨0,by omega,rfl,HWR5.out,Turn.refl _ _⟩
 case round =>
  obtain ⟨i,hi,rfl,hwr,htr⟩:=hrel
  rw [← HM.out] at hi
  have HTR:=yh htr
  have HWR:=yh hwr
  by_cases hlt:i<m
  ·obtain ⟨x,hx⟩:∃ x,fl[i]? = some x:=⟨_,List.getElem?_eq_getElem (by rw [← HM.out];exact hlt)⟩
   have hmem:=List.mem_of_getElem? hx
   have hownr:wr.ownsRow ((((((w.alloc (.cells #[.int .i64 r.kind,.string (tx r.target),.int .u64 r.rule,.slice A n c,.int .u64 r.out,.int .u64 r.time,.string (tx r.tag)] 41)).alloc (.cells #[.int .u8 r.kind] 5)).alloc (.cells #[.int .i64 ver,.pointer (some ⟨bt,0,none⟩),.slice (some ⟨w.heap.size+1,0,none⟩) 1 1] 218)).alloc (.cells #[.func (.func 155) #[.pointer (some ⟨w.heap.size+1+1,0,none⟩)] #[],.func (.func 156) #[.pointer (some ⟨w.heap.size+1+1,0,none⟩)] #[],.func (.func 157) #[.pointer (some ⟨w.heap.size+1+1,0,none⟩)] #[],.func (.func 158) #[.pointer (some ⟨w.heap.size+1+1,0,none⟩)] #[],.func (.func 159) #[.pointer (some ⟨w.heap.size+1+1,0,none⟩)] #[],.func (.func 160) #[.pointer (some ⟨w.heap.size+1+1,0,none⟩)] #[]] 205))).heap.size+1) 203 1 (.slice A5 m c5) m (fl.map fun x =>.func (.func x.1) #[.pointer (some ⟨w.heap.size+1+1,0,none⟩)] #[]):=zAR HO5.out (fun g hg =>htr.2.2.2.2 g (HBLK5.out g hg).1 (HBLK5.out g hg).2)
   obtain ⟨ad,rfl,_,hcx⟩:=(zAD.of_own hownr).2 (by omega)
   have k0:=hcx i (.func (.func x.1) #[.pointer (some ⟨w.heap.size+1+1,0,none⟩)] #[]) (by rw [List.getElem?_map,hx];rfl)
   have HTAKE:=yh (zMq hx)
   have hlen:=zOs (fl:=fl.take i) (fun y hy =>HSIZ.out y (List.mem_of_mem_take hy))
   have HCALL:=yh (HLAY.out x hmem S (fun k =>T k∧k<w.heap.size) w.heap.size wr _ (HENV.out.turn htr) (by simp only [List.length_cons];have h1:(fl.take i).length≤6:=(by rw [List.length_take];omega);omega) hwr)
   have hnum:=HNM.out x hmem
   have hi0:(0:Int)≤(i:Int):=by omega
   have hi1:(i:Int)<(m:Int):=by omega
   obtain ⟨xn,xf⟩:=x
   simp only at k0 HTAKE HCALL hnum
   clear hx hmem hownr hcx hlen hwr htr
   rcases hnum with rfl | rfl | rfl | rfl | rfl | rfl
   ·go_wp2_with (go_at_call 155;refine HCALL.out.mono ?_;rintro e w7 ⟨rfl,hw7,ht7⟩;have HW7:=yh hw7;have HT7:=yh (HTR.out.trans ht7 (fun _ _ h =>h));clear hw7 ht7)
    exact ⟨⟨i+1,by rw [← HM.out];omega,by go_num,by rw [HTAKE.out];simpa using HW7.out,HT7.out⟩,by simp [intOf];omega⟩
   ·go_wp2_with (go_at_call 156;refine HCALL.out.mono ?_;rintro e w7 ⟨rfl,hw7,ht7⟩;have HW7:=yh hw7;have HT7:=yh (HTR.out.trans ht7 (fun _ _ h =>h));clear hw7 ht7)
    exact ⟨⟨i+1,by rw [← HM.out];omega,by go_num,by rw [HTAKE.out];simpa using HW7.out,HT7.out⟩,by simp [intOf];omega⟩
   ·go_wp2_with (go_at_call 157;refine HCALL.out.mono ?_;rintro e w7 ⟨rfl,hw7,ht7⟩;have HW7:=yh hw7;have HT7:=yh (HTR.out.trans ht7 (fun _ _ h =>h));clear hw7 ht7)
    exact ⟨⟨i+1,by rw [← HM.out];omega,by go_num,by rw [HTAKE.out];simpa using HW7.out,HT7.out⟩,by simp [intOf];omega⟩
   ·go_wp2_with (go_at_call 158;refine HCALL.out.mono ?_;rintro e w7 ⟨rfl,hw7,ht7⟩;have HW7:=yh hw7;have HT7:=yh (HTR.out.trans ht7 (fun _ _ h =>h));clear hw7 ht7)
    exact ⟨⟨i+1,by rw [← HM.out];omega,by go_num,by rw [HTAKE.out];simpa using HW7.out,HT7.out⟩,by simp [intOf];omega⟩
   ·go_wp2_with (go_at_call 159;refine HCALL.out.mono ?_;rintro e w7 ⟨rfl,hw7,ht7⟩;have HW7:=yh hw7;have HT7:=yh (HTR.out.trans ht7 (fun _ _ h =>h));clear hw7 ht7)
    exact ⟨⟨i+1,by rw [← HM.out];omega,by go_num,by rw [HTAKE.out];simpa using HW7.out,HT7.out⟩,by simp [intOf];omega⟩
   ·go_wp2_with (go_at_call 160;refine HCALL.out.mono ?_;rintro e w7 ⟨rfl,hw7,ht7⟩;have HW7:=yh hw7;have HT7:=yh (HTR.out.trans ht7 (fun _ _ h =>h));clear hw7 ht7)
    exact ⟨⟨i+1,by rw [← HM.out];omega,by go_num,by rw [HTAKE.out];simpa using HW7.out,HT7.out⟩,by simp [intOf];omega⟩
  ·obtain rfl:i=m:=by omega
   rw [HM.out,List.take_length] at hwr
   obtain ⟨hSb,va,hh,hown,hs⟩:=hwr
   have z2:=zAA (i:=2) hh rfl
   have HOWN:=yh (zJi (base:=w.heap.size) hown (fun k hk =>HUP.out k (hs k hk)))
   have HBW:=yh ((HB4.out.trans (HB5.out.mono HB4.out.size)).trans (htr.below HUP.out (by have:=hz5.out;omega)))
   clear hSb hh hown hs htr
   go_wp2
   go_ret
   exact ⟨_,rfl,HOWN.out,HBW.out⟩
def small (r:Rc) (l:List Dp):Prop:=(∀ d ∈ l,d.name.length≤300)∧l.length≤60∧r.target.length≤300∧r.tag.length≤300
open Go.RowKit Go.Maps Go.ChangeMaps Go.WideMaps
def tnew (ts:List (List UInt8)):List (List UInt8):=ts.foldl tput []
theorem zFx (ts:List (List UInt8)) (s:List UInt8):tnew (ts++[s])=tput (tnew ts) s:=by simp [tnew]
theorem zKF (l:List (List UInt8)) (s:List UInt8):(tput l s).length≤l.length+1:=by
 unfold tput;split <;> simp
theorem zBc:∀ (ts l:List (List UInt8)),(ts.foldl tput l).length≤l.length+ts.length
 | [],l =>by simp
 | s :: ts,l =>by
  have h1:=zBc ts (tput l s)
  have h2:=zKF l s
  simp only [List.foldl_cons,List.length_cons]
  omega
theorem zFT (ts:List (List UInt8)):(tnew ts).length≤ts.length:=by
 have:=zBc ts []
 simpa [tnew] using this
theorem zOH (w:World):Tab (w.alloc (.cells #[.slice none 0 0,.map none] 170)) (fun k =>w.heap.size≤k) w.heap.size 0 []:=by
 refine ⟨none,0,none,?_,Nat.le_refl _,World.ownsRow_nil _ _ _ _,fun g hg =>by simp [Value.ownBlock] at hg,.inl ⟨rfl,rfl⟩,List.nodup_nil,by simp⟩
 show (w.heap.push _)[w.heap.size]? = _
 simp
def zSl (ts:List (List UInt8)) (w:World) (idx:Value) (wr:World):Prop :=
 ∃ i:Nat,i≤ts.length∧idx=.int .i64 (i:Int)∧Tab wr (fun k =>w.heap.size≤k) w.heap.size i (tnew (ts.take i))∧Below w.heap.size w wr
theorem zGD (L:Option Addr) (m d n0:Nat) (ts:List (List UInt8)) (hm:m≤1000000) (hts:∀ s ∈ ts,s.length≤maxLen) (w:World) (hn0:n0≤w.heap.size) (hr:zAD w n0 1 L m (ts.map tsv)) :
  Calls Tryz.prog 94 #[.slice L m d] w fun e w' =>e=.returned (.pointer (some ⟨w.heap.size,0,none⟩))∧Tab w' (fun k =>w.heap.size≤k) w.heap.size m (tnew ts)∧Below w.heap.size w w':=by
 have hml:ts.length=m:=by have:=hr.1;simpa using this
 have HML:=yh hml
 have HTS:=yh hts
 have HR:=yh (hr.more hn0)
 have HT0:=yh (zOH w)
 have HB0:Hid (Below w.heap.size w (w.alloc (.cells #[.slice none 0 0,.map none] 170))):=(Below.refl _ w).alloc (Nat.le_refl _) _
 clear hml hts hr
 go_enter Tryz.func94,Tryz.ntmps94
 go_wp2
 go_loopw [10] (fun idx wr =>zSl ts w idx wr) (fun idx wr =>m - (intOf idx).toNat)
 case atStart =>exact ⟨0,by omega,rfl,HT0.out,HB0.out⟩
 case round =>
  obtain ⟨i,hi,rfl,ht,hb⟩:=hrel
  rw [HML.out] at hi
  by_cases hlt:i<m
  ·obtain ⟨ad,u,rfl,_,hu,hcell⟩:=(HR.out.below hb).at_ hlt
   obtain ⟨s,hs⟩:∃ s,ts[i]? = some s:=⟨_,List.getElem?_eq_getElem (by rw [HML.out];exact hlt)⟩
   obtain rfl:u=tsv s:=by rw [List.getElem?_map,hs] at hu;simpa using hu.symm
   have htk:ts.take (i+1)=ts.take i++[s]:=by rw [List.take_add_one,hs];rfl
   have hln:(tnew (ts.take i)).length≤i:=by have:=zFT (ts.take i);rw [List.length_take] at this;omega
   have hid:=zFb _ w.heap.size i (tnew (ts.take i)) s (HTS.out s (List.mem_of_getElem? hs)) (by omega) (by omega) wr ht
   rw [← zFx,← htk] at hid
   have HID:=yh hid
   have HB:=yh hb
   unfold tsv at hcell HID
   clear hu hs htk hln hid ht hb
   go_wp2_with (go_at_call 107;refine HID.out.mono ?_;rintro e w1 ⟨rfl,ht1,htu1⟩)
   have hsz:=HB.out.size
   exact ⟨⟨i+1,by rw [HML.out];omega,by go_num,ht1.wide (fun k hk _ =>by rcases hk with hk | hk <;> omega),HB.out.trans (htu1.below (fun k hk =>hk) hsz)⟩,by simp [intOf];omega⟩
  ·obtain rfl:i=m:=by omega
   have hall:ts.take i=ts:=List.take_of_length_le (by rw [HML.out];omega)
   rw [hall] at ht
   go_wp2
   go_ret
   exact ⟨rfl,ht,hb⟩
theorem zNo (W:World) (e:TypeId) (ts:List (List UInt8)):zAD (W.alloc (.cells (ts.map tsv).toArray e)) (W.heap.size+1) 1 (some ⟨W.heap.size,0,none⟩) ts.length (ts.map tsv) :=
 ⟨by simp,fun _ =>⟨_,rfl,by simp,fun j u hu =>by
  have h0:Addr.add ⟨W.heap.size,0,none⟩ j=⟨W.heap.size,j,none⟩:=by
   unfold Addr.add
   split
   ·rename_i h;rw [h]
   ·simp
  rw [h0]
  simp only [World.cell?,World.alloc,Array.getElem?_push_size]
  simpa using hu⟩⟩
theorem zKG {l:List (List UInt8)} {s t:List UInt8} (h:t ∈ l∨t=s):t ∈ tput l s:=by
 unfold tput
 split
 ·rename_i hs
  rcases h with h | rfl
  ·exact h
  ·exact hs
 ·rcases h with h | rfl <;> simp [*]
theorem zFw:∀ (ts l:List (List UInt8)) (s:List UInt8),s ∈ l∨s ∈ ts→s ∈ ts.foldl tput l
 | [],l,s,h =>by simpa using h
 | t :: ts,l,s,h =>zFw ts (tput l t) s (by
  rcases h with h | h
  ·exact .inl (zKG (.inl h))
  ·rcases List.mem_cons.1 h with h | h
   ·exact .inl (zKG (.inr h))
   ·exact .inr h)
theorem zCt {ts:List (List UInt8)} {s:List UInt8} (h:s ∈ ts):s ∈ tnew ts:=zFw ts [] s (.inr h)
def names (l:List Dp):List (List UInt8):=l.map Dp.name
def zEU (v:Int) (r:Rc):Prop:=r.time=0∨2≤v
def TagP (v:Int) (r:Rc):Prop:=r.tag=[]∨(3≤v∧r.tag.length≤64)
theorem zQE (v:Int) (r:Rc) (A:Option Addr) (n c:Nat) (w:World) :
  Calls Tryz.prog 57 #[.int .i64 v,rcv r A n c] w fun e w' =>∃ q:Bool,(q=true ↔ zEU v r)∧e=.returned (.bool q)∧Below w.heap.size w w':=by
 obtain ⟨k,t,u,o,m,g⟩:=r
 by_cases h1:m=0
 ·subst h1
  have HB:=yh ((Below.refl w.heap.size w).alloc (Nat.le_refl _) (.cells (zAh ⟨k,t,u,o,0,g⟩ A n c) 41))
  have q5:=zAA (i:=5) (zAE w (.cells (zAh ⟨k,t,u,o,0,g⟩ A n c) 41)) rfl
  unfold zAh at HB q5
  unfold rcv rsv
  have HP:Hid (zEU v ⟨k,t,u,o,0,g⟩):=.inl rfl
  go_enter Tryz.func57,Tryz.ntmps57
  go_wp2
  go_ret
  first | exact ⟨true,by simp [HP.out],rfl,HB.out⟩ | exact .inr ⟨HP.out,rfl,HB.out⟩ | exact .inl ⟨HP.out,rfl,HB.out⟩
 ·have h2:(m == 0)=false:=by rw [beq_eq_false_iff_ne];exact h1
  have HB:=yh ((Below.refl w.heap.size w).alloc (Nat.le_refl _) (.cells (zAh ⟨k,t,u,o,m,g⟩ A n c) 41))
  have q5:=zAA (i:=5) (zAE w (.cells (zAh ⟨k,t,u,o,m,g⟩ A n c) 41)) rfl
  unfold zAh at HB q5
  unfold rcv rsv
  have h4:decide (m=0)=false:=decide_eq_false h1
  by_cases h3:2≤v
  ·have HP:Hid (zEU v ⟨k,t,u,o,m,g⟩):=.inr h3
   have h5:decide (2≤v)=true:=decide_eq_true h3
   clear h1
   go_enter Tryz.func57,Tryz.ntmps57
   go_wp2
   go_ret
   first | exact ⟨true,by simp [HP.out],rfl,HB.out⟩ | exact .inr ⟨HP.out,by first | rfl | simp [h3],HB.out⟩ | exact .inl ⟨HP.out,by first | rfl | simp [h3],HB.out⟩
  ·have HP:Hid (¬ zEU v ⟨k,t,u,o,m,g⟩):=fun h =>by rcases h with h | h;exact h1 h;exact h3 h
   have h5:decide (2≤v)=false:=decide_eq_false h3
   clear h1
   go_enter Tryz.func57,Tryz.ntmps57
   go_wp2
   go_ret
   first | exact ⟨false,by simp [HP.out],rfl,HB.out⟩ | exact .inl ⟨HP.out,by first | rfl | simp [h3],HB.out⟩ | exact .inr ⟨HP.out,by first | rfl | simp [h3],HB.out⟩
theorem zRj (v:Int) (r:Rc) (A:Option Addr) (n c:Nat) (w:World) :
  Calls Tryz.prog 58 #[.int .i64 v,rcv r A n c] w fun e w' =>∃ q:Bool,(q=true ↔ TagP v r)∧e=.returned (.bool q)∧Below w.heap.size w w':=by
 have HB:=yh ((Below.refl w.heap.size w).alloc (Nat.le_refl _) (.cells (zAh r A n c) 41))
 have q6:=zAA (i:=6) (zAE w (.cells (zAh r A n c) 41)) rfl
 obtain ⟨k,t,u,o,m,g⟩:=r
 unfold zAh at HB q6
 unfold rcv rsv
 have hs:=zEQ g
 by_cases h1:g=[]
 ·have HP:Hid (TagP v ⟨k,t,u,o,m,g⟩):=.inl h1
  subst h1
  have he:(tx ([]:List UInt8)).toList=[]:=by simp [tx]
  go_enter Tryz.func58,Tryz.ntmps58
  go_wp2
  go_ret
  first | exact ⟨true,by simp [HP.out],by first | rfl | simp,HB.out⟩ | exact .inr ⟨HP.out,by first | rfl | simp,HB.out⟩ | exact .inl ⟨HP.out,by first | rfl | simp,HB.out⟩
 ·have he:=zGv g h1
  obtain ⟨x,hx⟩:∃ x,x=g.length:=⟨_,rfl⟩
  rw [← hx] at hs
  by_cases h3:3≤v
  ·by_cases h4:x≤64
   ·have HP:Hid (TagP v ⟨k,t,u,o,m,g⟩):=.inr ⟨h3,hx▸h4⟩
    have h5:decide (3≤v)=true:=decide_eq_true h3
    have h6:decide ((x:Int)≤64)=true:=decide_eq_true (by omega)
    clear h1 hx
    go_enter Tryz.func58,Tryz.ntmps58
    go_wp2
    go_ret
    first | exact ⟨true,by simp [HP.out],by first | rfl | simp,HB.out⟩ | exact .inr ⟨HP.out,by first | rfl | simp,HB.out⟩ | exact .inl ⟨HP.out,by first | rfl | simp,HB.out⟩
   ·have HP:Hid (¬ TagP v ⟨k,t,u,o,m,g⟩):=fun h =>by rcases h with h | h;exact h1 h;exact h4 (hx▸h.2)
    have h5:decide (3≤v)=true:=decide_eq_true h3
    have h6:decide ((x:Int)≤64)=false:=decide_eq_false (by omega)
    clear h1 hx
    go_enter Tryz.func58,Tryz.ntmps58
    go_wp2
    go_ret
    first | exact ⟨false,by simp [HP.out],by first | rfl | simp,HB.out⟩ | exact .inl ⟨HP.out,by first | rfl | simp,HB.out⟩ | exact .inr ⟨HP.out,by first | rfl | simp,HB.out⟩
  ·have HP:Hid (¬ TagP v ⟨k,t,u,o,m,g⟩):=fun h =>by rcases h with h | h;exact h1 h;exact h3 h.1
   have h5:decide (3≤v)=false:=decide_eq_false h3
   clear h1 hx
   go_enter Tryz.func58,Tryz.ntmps58
   go_wp2
   go_ret
   first | exact ⟨false,by simp [HP.out],by first | rfl | simp,HB.out⟩ | exact .inl ⟨HP.out,by first | rfl | simp,HB.out⟩ | exact .inr ⟨HP.out,by first | rfl | simp,HB.out⟩
theorem zSW {w:World} {S:Nat→Prop} {b N:Nat} {l:List (List UInt8)} (h:Tab w S b N l):b<w.heap.size:=by
 obtain ⟨L,c,mv,h1,_⟩:=h
 rcases Nat.lt_or_ge b w.heap.size with h2 | h2
 ·exact h2
 ·rw [Array.getElem?_eq_none h2] at h1;cases h1
def zSk (w:World) (b:Nat) (t:List UInt8) (ns:List (List UInt8)) (idx:Value) (wr:World):Prop :=
 ∃ i:Nat,i≤ns.length∧idx=.int .i64 (i:Int)∧Tab wr (fun k =>w.heap.size+2≤k) b (1+i) (tnew (t :: ns.take i))∧Below w.heap.size w wr∧w.heap.size+2<wr.heap.size
theorem zIc (r:Rc) (A:Option Addr) (n c:Nat) (l:List Dp) (hn:n≤5000) (ht:r.target.length≤maxLen) (hl:∀ d ∈ l,d.name.length≤maxLen) (w:World) (h:zAD w w.heap.size 3 A n (dps l)) :
  Calls Tryz.prog 85 #[rcv r A n c] w fun e w' =>∃ b,e=.returned (.pointer (some ⟨b,0,none⟩))∧w.heap.size≤b∧b<w'.heap.size∧Tab w' (fun k =>w.heap.size≤k) b (1+n) (tnew (r.target :: names l))∧Below w.heap.size w w':=by
 have HL:Hid (l.length=n):=by have:=h.1;rw [zAn] at this;show _=_;omega
 have HF:=yh hl
 have H1:=yh h
 have h0:=zAE w (.cells (zAh r A n c) 41)
 have hb0:=(Below.refl w.heap.size w).alloc (Nat.le_refl _) (.cells (zAh r A n c) 41)
 have q1:=zAA (i:=1) h0 rfl
 have HNEW:=yh (zGD (some ⟨w.heap.size+1,0,none⟩) 1 1 (w.heap.size+2) [r.target] (by omega) (by simpa using ht) ((w.alloc (.cells (zAh r A n c) 41)).alloc (.cells #[.string (tx r.target)] 9)) (by simp) (by
  have:=zNo (w.alloc (.cells (zAh r A n c) 41)) 9 [r.target]
  simpa [tsv] using this))
 have HB0:=yh hb0
 have H0:=yh h0
 clear hl h ht h0 hb0
 unfold zAh at *
 unfold rcv rsv
 have hsz:∀ a b:Obj,((w.alloc a).alloc b).heap.size=w.heap.size+2:=fun a b =>by simp
 rw [hsz] at HNEW
 clear hsz
 go_enter Tryz.func85,Tryz.ntmps85
 go_wp2_with (go_at_call 94;refine HNEW.out.mono ?_;rintro e w1 ⟨rfl,ht1,hb1⟩;have q3:=(hb1.cell (p:=⟨w.heap.size,3,none⟩) (show w.heap.size<w.heap.size+2 by omega)).trans ((World.cell?_alloc_lt _ _ _ (by show w.heap.size<_;simp)).trans (zAA (i:=3) H0.out rfl));have HB1:=yh ((HB0.out.alloc (by simp) _).trans (hb1.mono (by omega)));have HT1:=yh ht1;have HSZ:Hid (w.heap.size+2<w1.heap.size):=zSW ht1;clear ht1 hb1)
 go_loopw [13] (fun idx wr =>zSk w (w.heap.size+2) r.target (names l) idx wr) (fun idx wr =>n - (intOf idx).toNat)
 case atStart =>exact ⟨0,by omega,rfl,by rw [List.take_zero];exact HT1.out.wide (fun k hk _ =>by omega),HB1.out,HSZ.out⟩
 case round =>
  obtain ⟨i,hi,rfl,htb,hb,hz⟩:=hrel
  have hnl:(names l).length=n:=by unfold names;rw [List.length_map];exact HL.out
  rw [hnl] at hi
  have HTB:=yh htb
  have HBR:=yh hb
  by_cases hlt:i<n
  ·obtain ⟨x,hx⟩:∃ x,l[i]? = some x:=⟨_,List.getElem?_eq_getElem (by rw [HL.out];exact hlt)⟩
   obtain ⟨ad,rfl,_,hcx⟩:=(H1.out.below hb).2 (by omega)
   obtain ⟨x0,x1,x2⟩:=zCl l i x hx
   have k0:=hcx _ _ x0
   have k1:=hcx _ _ x1
   have k2:=hcx _ _ x2
   rw [zDR] at k1
   rw [zDT] at k2
   have htk:(names l).take (i+1)=(names l).take i++[x.name]:=by rw [List.take_add_one];unfold names;rw [List.getElem?_map,hx];rfl
   have hln:(tnew (r.target :: (names l).take i)).length≤1+i:=by have:=zFT (r.target :: (names l).take i);rw [List.length_cons,List.length_take] at this;omega
   have hid:=zFb _ (w.heap.size+2) (1+i) (tnew (r.target :: (names l).take i)) x.name (HF.out x (List.mem_of_getElem? hx)) (by omega) (by omega) (wr.alloc (.cells #[.string (tx x.name),.int .u64 x.hash,.bool x.order] 95)) (htb.keep (fun k _ hk =>Below.heap_alloc _ _ _ hk))
   rw [← zFx,List.cons_append,← htk] at hid
   have HID:=yh hid
   have hnb:=zAE wr (.cells #[.string (tx x.name),.int .u64 x.hash,.bool x.order] 95)
   have p0:=zAA (i:=0) hnb rfl
   have hbn:=yh (hb.alloc (by omega) (.cells #[.string (tx x.name),.int .u64 x.hash,.bool x.order] 95))
   have hi0:(0:Int)≤(i:Int):=by omega
   have hi1:(i:Int)<(n:Int):=by omega
   obtain ⟨xn,xh,xo⟩:=x
   unfold rsv at k0
   unfold tsv at HID
   simp only at k0 k1 k2 p0 HID hbn
   clear hcx x0 x1 x2 hx htk hln hid htb hb hnb hnl
   go_wp2_with (go_at_call 107;refine HID.out.mono ?_;rintro e w2 ⟨rfl,ht2,htu2⟩)
   have hsz:=hbn.out.size
   exact ⟨⟨i+1,by unfold names;rw [List.length_map,HL.out];omega,by go_num,(ht2.wide (fun k hk _ =>by rcases hk with hk | hk;omega;(have:(wr.alloc (.cells #[.string (tx xn),.int .u64 xh,.bool xo] 95)).heap.size=wr.heap.size+1:=by simp);omega)).more (by omega),hbn.out.trans (htu2.below (fun k hk =>by omega) hsz),by have:=htu2.2.2.2.1;simp at this;omega⟩,by simp [intOf];omega⟩
  ·obtain rfl:i=n:=by omega
   have hall:(names l).take i=names l:=List.take_of_length_le (by omega)
   rw [hall] at HTB
   clear hb htb
   go_wp2
   go_ret
   exact ⟨_,rfl,by omega,by omega,HTB.out.wide (fun k hk _ =>by omega),HBR.out⟩
def zBI (t:List UInt8):Bool:=decide (1≤t.length∧t.length≤64)
theorem zGh (t:List UInt8) (w:World):Calls Tryz.prog 50 #[rsv t] w fun e w' =>e=.returned (.bool (zBI t))∧w=w':=by
 unfold rsv
 have hsz:=zEQ t
 by_cases h0:t=[]
 ·subst h0
  have he:(tx ([]:List UInt8)).toList=[]:=by simp [tx]
  go_enter Tryz.func50,Tryz.ntmps50
  go_wp2
  go_ret
  exact ⟨rfl,rfl⟩
 ·have h1:=zGv t h0
  have hl:1≤t.length:=by
   rcases t with _ | ⟨a,t⟩
   ·exact absurd rfl h0
   ·simp
  obtain ⟨n,hn⟩:∃ n,n=t.length:=⟨_,rfl⟩
  rw [← hn] at hsz hl
  by_cases h2:n≤64
  ·have hi:Hid (zBI t=true):=by show zBI t=true;unfold zBI;rw [← hn];exact decide_eq_true ⟨hl,h2⟩
   clear hn h0
   go_enter Tryz.func50,Tryz.ntmps50
   go_wp2
   go_ret
   exact ⟨by rw [hi.out];first | rfl | (congr 2;simp;omega),rfl⟩
  ·have hi:Hid (zBI t=false):=by show zBI t=false;unfold zBI;rw [← hn];exact decide_eq_false (by omega)
   have h3:decide ((n:Int)≤64)=false:=by rw [decide_eq_false_iff_not];omega
   clear hn h0
   go_enter Tryz.func50,Tryz.ntmps50
   go_wp2
   go_ret
   exact ⟨by rw [hi.out];first | rfl | (congr 2;simp;omega),rfl⟩
end Go.Proofs.YtekchkfjgofnkaaGreatDoor
