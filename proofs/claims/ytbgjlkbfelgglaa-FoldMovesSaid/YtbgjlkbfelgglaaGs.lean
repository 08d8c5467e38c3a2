/- FoldMoves. -/
import Derived.BigQuiet
import Derived.Deep.QuietTactic
import Derived.Test.YtbgjlkbfelgglaaGo
import Derived.Test.YtbgjlkbfelgglaaTb
import Derived.Test.YtbgjlkbfelgglaaTc
import Derived.Test.YtbgjlkbfelgglaaTd0
namespace Go.Proofs.Ytbgjlkbfelgglaa
open Go.RowKit

theorem below_drewN3 {B : Nat} {w w2 : World} (h : Below B w w2) (q : Nat) : Below B w (w2.drewN q) := ⟨h.os, h.tape, h.output, h.size, h.block⟩
def kS (p : Rc × List Dp) : Int := p.1.kind
def tS (p : Rc × List Dp) : List UInt8 := p.1.target
def mvS (v v2 : Int) (p : Rc × List Dp) : Rc × List Dp := (movedR v v2 p.1, p.2)
theorem mv_kind (v v2 : Int) (p : Rc × List Dp) : kS (mvS v v2 p) = kS p := by
  unfold kS mvS movedR
  split <;> rfl
theorem mv_target (v v2 : Int) (p : Rc × List Dp) : tS (mvS v v2 p) = tS p := by
  unfold tS mvS movedR
  split <;> rfl
theorem fo_say (xs : List Rw) : (fo Rw.k Rw.t xs).map Rw.say = fo kS tS (xs.map Rw.say) := fo_map (k := Rw.k) (t := Rw.t) (k' := kS) (t' := tS) Rw.say (fun _ => rfl) (fun _ => rfl) xs
theorem movedS_say (v v2 : Int) (xs : List Rw) : xs.map (movedS v v2) = (xs.map Rw.say).map (mvS v v2) := by
  rw [List.map_map]
  rfl
/-- The fold of what is moved is the fold, moved. -/
theorem fold_moved {v v2 : Int} {xs ys zs bs : List Rw} (ha : ys.map Rw.say = xs.map (movedS v v2)) (hz : zs.map Rw.say = (fo Rw.k Rw.t xs).map Rw.say) (hb : bs.map Rw.say = zs.map (movedS v v2)) : (fo Rw.k Rw.t ys).map Rw.say = bs.map Rw.say := by
  rw [hb, fo_say, ha, movedS_say, movedS_say, hz, fo_say, fo_map (mvS v v2) (mv_kind v v2) (mv_target v v2)]
theorem StateIn.recs {w : World} {base : Nat} {A : Option Addr} {n c : Nat} {zs : List Rw} (h : StateIn w base A n c zs) : Recs w w.heap.size A n zs :=
  ⟨Reads.of_own h.1, fun z hz => ⟨Reads.of_own (h.2.2 z hz).1, (h.2.2 z hz).2⟩⟩
theorem say_mem {xs zs : List Rw} (h : zs.map Rw.say = xs.map Rw.say) {z : Rw} (hz : z ∈ zs) : ∃ x ∈ xs, x.say = z.say := by
  have : z.say ∈ xs.map Rw.say := by rw [← h]; exact List.mem_map_of_mem hz
  obtain ⟨x, hx, e⟩ := List.mem_map.1 this
  exact ⟨x, hx, e⟩
theorem recs_n {w : World} {B : Nat} {A : Option Addr} {n : Nat} {zs : List Rw} (h : Recs w B A n zs) {z : Rw} (hz : z ∈ zs) : z.l.length = z.n := by
  have := (h.2 z hz).1.1
  rw [dps_len] at this
  omega

theorem gall_any (v v2 : Int) (A : Option Addr) (n c : Nat) (xs : List Rw) (h30 : n ≤ 30) (hf : ∀ x ∈ xs, Fits x.r x.l ∧ x.n ≤ 60) (w : World) (h : Recs w w.heap.size A n xs) :
    Calls Try.prog 20 #[.int .i64 v, .int .i64 v2, .slice A n c] w fun e w' => AllPost v v2 xs w e w' := by
  by_cases hw : isWayB v v2 = true
  · exact all_ok v v2 A n c xs hw h30 hf w h
  · exact all_way v v2 A n c xs (by simpa using hw) w
theorem ansAll_ok {v v2 : Int} {xs : List Rw} {R : List (Rc × List Dp)} {E : Int} (h : AnsAll v v2 xs R E) (hw : isWayB v v2 = true) (hm : ∀ x ∈ xs, MayP v x.r x.l) : R = xs.map (movedS v v2) ∧ E = 0 := by
  rcases h with ⟨a, _⟩ | ⟨_, ⟨x, hx, b⟩, _⟩ | ⟨_, _, h1, h2⟩
  · rw [hw] at a; cases a
  · exact absurd (hm x hx) b
  · exact ⟨h1, h2⟩
theorem ansAll_no {v v2 : Int} {xs : List Rw} {R : List (Rc × List Dp)} {E : Int} (h : AnsAll v v2 xs R E) (hn : ¬ (isWayB v v2 = true ∧ ∀ x ∈ xs, MayP v x.r x.l)) : (E != 0) = true := by
  rcases h with ⟨_, _, rfl⟩ | ⟨_, _, _, rfl⟩ | ⟨a, b, _, _⟩
  · rfl
  · rfl
  · exact absurd ⟨a, b⟩ hn

set_option maxRecDepth 100000 in
set_option maxHeartbeats 2000000 in
theorem fmoves_any (A : Option Addr) (n c : Nat) (xs : List Rw) (x y : Nat) (hx : x < 256) (hy : y < 256) (hn : n ≤ maxLen) (hf : ∀ x ∈ xs, Fits x.r x.l ∧ x.n ≤ maxLen) (w : World) (h : Recs w w.heap.size A n xs) :
    Calls Try.prog 6 #[.slice A n c, .agg #[.int .u8 (x : Int), .int .u8 (y : Int)]] w fun e w' => e = .returned (.bool true) ∧ Below w.heap.size w w' := by
  have HFX : Hid (∀ W, Calls Try.prog 9 #[] W fun e w' => e = .returned (.bool true) ∧ Below W.heap.size W w') := ffixed_any
  have rd : ∀ W, Below w.heap.size w W → Recs W W.heap.size A n xs := fun W hb => (h.below hb).more hb.size
  have HG := Lib.hid (fun W hb => greats_any A n c xs hn hf W (rd W hb))
  have HB0 := Lib.hid ((Below.refl w.heap.size w).alloc (Nat.le_refl _) (.cells #[.int .u8 (x : Int), .int .u8 (y : Int)] 41))
  have hbx := one_new w (.cells #[.int .u8 (x : Int), .int .u8 (y : Int)] 41)
  have HBX := Lib.hid hbx
  have q0 := at_cell (i := 0) hbx rfl
  have q1 := at_cell (i := 1) hbx rfl
  by_cases sm : smalls xs
  · have SM := Lib.hid sm
    have hl : xs.length = n := h.len
    have h30 : n ≤ 30 := by rw [← hl]; exact sm.2
    have hnn : ∀ z ∈ xs, z.n ≤ 60 := fun z hz => by
      have e1 := recs_n h hz
      have e2 := (sm.1 z hz).2.1
      omega
    have hf2 : ∀ x ∈ xs, Fits x.r x.l ∧ x.n ≤ 60 := fun x hx => ⟨(hf x hx).1, hnn x hx⟩
    have hlo : (fo Rw.k Rw.t xs).length ≤ 30 := by have := fo_len (k := Rw.k) (t := Rw.t) xs; omega
    have hlt : ∀ x ∈ xs, x.t.length ≤ maxLen ∧ x.n ≤ 1000000 := fun x hx => ⟨(hf x hx).1.1, by have := hnn x hx; omega⟩
    have hfz : ∀ (W : World) (B : Option Addr) (m : Nat) (zs : List Rw), Recs W W.heap.size B m zs → zs.map Rw.say = (fo Rw.k Rw.t xs).map Rw.say → ∀ z ∈ zs, Fits z.r z.l ∧ z.n ≤ 60 := fun W B m zs hr hs z hz => by
      obtain ⟨x, hx, e⟩ := say_mem hs hz
      obtain ⟨e1, e2⟩ := say_eq.1 e
      have h1 := hf2 x (fo_mem hx).1
      rw [e1, e2] at h1
      refine ⟨h1.1, ?_⟩
      have h2 := recs_n hr hz
      have h3 := recs_n h (fo_mem hx).1
      rw [e2] at h3
      omega
    have HA := Lib.hid (fun v v2 W hb => gall_any v v2 A n c xs h30 hf2 W (rd W hb))
    have HO := Lib.hid (fun W hb => fof_any A n c xs (by omega) hlt W (rd W hb))
    have HAZ : Hid (∀ (v v2 : Int) (W : World) (B : Option Addr) (d : Nat) (zs : List Rw), Recs W W.heap.size B (fo Rw.k Rw.t xs).length zs → zs.map Rw.say = (fo Rw.k Rw.t xs).map Rw.say → Calls Try.prog 20 #[.int .i64 v, .int .i64 v2, .slice B (fo Rw.k Rw.t xs).length d] W fun e w' => AllPost v v2 zs W e w') := fun v v2 W B d zs hr hs =>
      gall_any v v2 B _ d zs hlo (hfz W B _ zs hr hs) W hr
    have HOA : Hid (∀ (W : World) (B : Option Addr) (m d : Nat) (ys : List Rw), Recs W W.heap.size B m ys → m ≤ 30 → (∀ z ∈ ys, z.n ≤ 60) → (∀ z ∈ ys, z.t.length ≤ maxLen) → Calls Try.prog 10 #[.slice B m d] W fun e w' => ∃ A' c' zs, e = .returned (.slice A' (fo Rw.k Rw.t ys).length c') ∧ zs.map Rw.say = (fo Rw.k Rw.t ys).map Rw.say ∧ StateIn w' W.heap.size A' (fo Rw.k Rw.t ys).length c' zs ∧ Below W.heap.size W w') := fun W B m d ys hr hm h60 ht =>
      fof_any B m d ys (by omega) (fun x hx => ⟨ht x hx, by have := h60 x hx; omega⟩) W hr
    have HTS : Hid (∀ (v v2 : Int) (ys : List Rw), ys.map Rw.say = xs.map (movedS v v2) → ∀ z ∈ ys, z.t.length ≤ maxLen) := fun v v2 ys e z hz => by
      have h1 : z.say ∈ xs.map (movedS v v2) := by rw [← e]; exact List.mem_map_of_mem hz
      obtain ⟨x, hx, e2⟩ := List.mem_map.1 h1
      have h2 := mv_target v v2 x.say
      have h3 : z.t = x.t := by
        show z.say.1.target = _
        rw [← e2]
        exact h2
      rw [h3]
      exact (hlt x hx).1
    have HMZ : Hid (∀ (v : Int) (zs : List Rw), zs.map Rw.say = (fo Rw.k Rw.t xs).map Rw.say → (∀ x ∈ xs, MayP v x.r x.l) → ∀ z ∈ zs, MayP v z.r z.l) := fun v zs hs hm z hz => by
      obtain ⟨x, hx, e⟩ := say_mem hs hz
      obtain ⟨e1, e2⟩ := say_eq.1 e
      rw [← e1, ← e2]
      exact hm x (fo_mem hx).1
    have HLO := Lib.hid hlo
    generalize hm : (fo Rw.k Rw.t xs).length = m at HAZ HO
    clear h hf rd hn hl h30 hnn hf2 sm hlo hlt hfz hm hbx
    go_enter Try.func6, Try.ntmps6
    go_wp2_with (go_at_call 7; refine (HG.out _ HB0.out).mono ?_; rintro e w2 ⟨he, hb2⟩; obtain rfl := he.no (fun h => h SM.out); have hz2 := (hb2.block w.heap.size (by simp)).trans HBX.out; have a0 := at_cell (i := 0) hz2 rfl; have a1 := at_cell (i := 1) hz2 rfl; have HB2 := Lib.hid (HB0.out.trans (hb2.mono HB0.out.size)); clear hb2 hz2)
    go_quiet (fail)
    have HB3 := Lib.hid (below_drewN3 HB2.out nq)
    generalize World.drewN w2 nq = w3 at *
    generalize (1 + (x : Int) % 3) = v
    generalize (1 + (y : Int) % 3) = v2
    by_cases hok : isWayB v v2 = true ∧ ∀ x ∈ xs, MayP v x.r x.l
    · have HOK := Lib.hid hok
      clear hok
      go_wp2_with (first
        | (go_at_call 11; refine (rall_any A8 A6 _ n6 c8 c6 us bs (by have := fo_len (k := Rw.k) (t := Rw.t) ys; have := HNA.out; have := HLA.out; unfold maxLen; omega) (by have := HNB.out; unfold maxLen; omega) (fun z hz => by have h1 := recs_n HR8.out hz; have h2 := HU60.out z hz; omega) _ HR8.out HR68.out).mono ?_; rintro e w9 ⟨he, hb9⟩; obtain rfl := he.yes (HU.out.trans (fold_moved HYS.out HZS.out HBS.out)); have HB9 := Lib.hid (HB8.out.trans (hb9.mono HB8.out.size)); clear hb9)
        | (go_at_call 10; refine (HOA.out _ A3 n3 c3 ys HR47.out HNA.out HY60.out (HTS.out v v2 ys HYS.out)).mono ?_; rintro e w8 ⟨A8, c8, us, rfl, hu, hst, hb8⟩; have HU := Lib.hid hu; have HR8 := Lib.hid hst.recs; have HR68 := Lib.hid ((HR67.out.below hb8).more hb8.size); have HB8 := Lib.hid (HB7.out.trans (hb8.mono HB7.out.size)); have HU60 : Hid (∀ z ∈ us, z.l.length ≤ 60) := (fun z hz => by obtain ⟨q, hq, e⟩ := say_mem hu hz; have e2 := (say_eq.1 e).2; have h1 := recs_n HR47.out (fo_mem hq).1; have h2 := HY60.out q (fo_mem hq).1; rw [e2] at h1; omega); clear hu hst hb8)
        | (go_at_call 9; refine (HFX.out _).mono ?_; rintro e w7 ⟨rfl, hb7⟩; have HB7 := Lib.hid (HB6.out.trans (hb7.mono HB6.out.size)); have HR47 := Lib.hid ((HR46.out.below hb7).more hb7.size); have HR67 := Lib.hid ((HR6.out.below hb7).more hb7.size); clear hb7)
        | (go_at_call 20; refine (HAZ.out v v2 _ A5 c5 zs HR5.out HZS.out).mono ?_; rintro e w6 ⟨R6, E6, A6, n6, c6, bs, hans6, rfl, hn6, hs6, hz6, hr6, hb6⟩; obtain ⟨rfl, rfl⟩ := ansAll_ok hans6 HOK.out.1 (HMZ.out v zs HZS.out HOK.out.2); have HBS := Lib.hid hs6; have HNB := Lib.hid hn6; have HR6 := Lib.hid hr6; have HR46 := Lib.hid ((HR45.out.below hb6).more hb6.size); have HB6 := Lib.hid (HB5.out.trans (hb6.mono HB5.out.size)); clear hans6 hn6 hs6 hz6 hr6 hb6)
        | (go_at_call 10; refine (HO.out _ HB4.out).mono ?_; rintro e w5 ⟨A5, c5, zs, rfl, hz, hst, hb5⟩; have HZS := Lib.hid hz; have HR5 := Lib.hid hst.recs; have HR45 := Lib.hid ((HR4.out.below hb5).more hb5.size); have HB5 := Lib.hid (HB4.out.trans (hb5.mono HB4.out.size)); clear hz hst hb5)
        | (go_at_call 20; refine (HA.out v v2 _ HB3.out).mono ?_; rintro e w4 ⟨R3, E3, A3, n3, c3, ys, hans3, rfl, hn3, hs3, hz3, hr3, hb4⟩; obtain ⟨rfl, rfl⟩ := ansAll_ok hans3 HOK.out.1 HOK.out.2; have HYS := Lib.hid hs3; have HNA := Lib.hid hn3; have HY60 := Lib.hid hz3; have HLA := Lib.hid hr3.len; have HR4 := Lib.hid hr3; have HB4 := Lib.hid (HB3.out.trans (hb4.mono HB3.out.size)); clear hans3 hn3 hs3 hz3 hr3 hb4))
      go_ret
      exact ⟨rfl, HB9.out⟩
    · have HOK := Lib.hid hok
      clear hok
      go_wp2_with (first
        | (go_at_call 9; refine (HFX.out _).mono ?_; rintro e w7 ⟨rfl, hb7⟩; have HB7 := Lib.hid (HB6.out.trans (hb7.mono HB6.out.size)); clear hb7)
        | (go_at_call 20; refine (HAZ.out v v2 _ A5 c5 zs HR5.out HZS.out).mono ?_; rintro e w6 ⟨R6, E6, A6, n6, c6, bs, hans6, rfl, hn6, hs6, hz6, hr6, hb6⟩; have HB6 := Lib.hid (HB5.out.trans (hb6.mono HB5.out.size)); clear hans6 hn6 hs6 hz6 hr6 hb6)
        | (go_at_call 10; refine (HO.out _ HB4.out).mono ?_; rintro e w5 ⟨A5, c5, zs, rfl, hz, hst, hb5⟩; have HZS := Lib.hid hz; have HR5 := Lib.hid hst.recs; have HB5 := Lib.hid (HB4.out.trans (hb5.mono HB4.out.size)); clear hz hst hb5)
        | (go_at_call 20; refine (HA.out v v2 _ HB3.out).mono ?_; rintro e w4 ⟨R3, E3, A3, n3, c3, ys, hans3, rfl, hn3, hs3, hz3, hr3, hb4⟩; have hE := ansAll_no hans3 HOK.out; have HB4 := Lib.hid (HB3.out.trans (hb4.mono HB3.out.size)); clear hans3 hn3 hs3 hz3 hr3 hb4))
      go_ret
      exact ⟨rfl, HB7.out⟩
  · have SM := Lib.hid sm
    clear h hf rd sm hn hbx
    go_enter Try.func6, Try.ntmps6
    go_wp2_with (first
      | (go_at_call 9; refine (HFX.out _).mono ?_; rintro e w4 ⟨rfl, hb4⟩; have HB4 := Lib.hid (HB2.out.trans (hb4.mono HB2.out.size)); clear hb4)
      | (go_at_call 7; refine (HG.out _ HB0.out).mono ?_; rintro e w2 ⟨he, hb2⟩; obtain rfl := he.yes SM.out; have HB2 := Lib.hid (HB0.out.trans (hb2.mono HB0.out.size)); clear hb2))
    go_ret
    exact ⟨rfl, HB4.out⟩

end Go.Proofs.Ytbgjlkbfelgglaa
