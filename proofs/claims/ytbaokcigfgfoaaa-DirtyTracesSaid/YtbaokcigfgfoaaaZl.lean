/- DirtyTraces. -/
import Derived.Test.YtbaokcigfgfoaaaZi
import Derived.Test.YtbaokcigfgfoaaaXd0
import Derived.Test.YtbaokcigfgfoaaaRe
import Derived.Test.YtbaokcigfgfoaaaRj0
namespace Go.Proofs.Ytbaokcigfgfoaaa
open Go.RowKit

def TrAns (x : Nd) (hs : List Int) (z wh : Int) (r : Rc) (l : List Dp) (E : Int) : Prop :=
  ((x.src = true ∨ hs.length ≠ x.deps.length) ∧ r = ⟨0, [], 0, 0, 0, []⟩ ∧ l = [] ∧ E = 1) ∨ ((x.src = false ∧ hs.length = x.deps.length) ∧ r = ⟨1, x.name, x.rule, z, wh, []⟩ ∧ l = zipD x.deps hs ∧ E = 0)
theorem trans_one {x : Nd} {hs : List Int} {z wh : Int} {r r2 : Rc} {l l2 : List Dp} {E E2 : Int} (h : TrAns x hs z wh r l E) (h2 : TrAns x hs z wh r2 l2 E2) : r = r2 ∧ l = l2 ∧ E = E2 := by
  rcases h with ⟨a, rfl, rfl, rfl⟩ | ⟨a, rfl, rfl, rfl⟩ <;> rcases h2 with ⟨c, rfl, rfl, rfl⟩ | ⟨c, rfl, rfl, rfl⟩
  · exact ⟨rfl, rfl, rfl⟩
  · rcases a with a | a
    · rw [c.1] at a; cases a
    · exact absurd c.2 a
  · rcases c with c | c
    · rw [a.1] at c; cases c
    · exact absurd a.2 c
  · exact ⟨rfl, rfl, rfl⟩
def TrUni (x : Nd) (hs : List Int) (z wh : Int) (w : World) (e : Ending) (w' : World) : Prop :=
  ∃ (r : Rc) (A : Option Addr) (n c : Nat) (l : List Dp) (E : Int), TrAns x hs z wh r l E ∧ e = .returned (.tuple #[rcv r A n c, .int .i64 E]) ∧ (A = none → c = 0) ∧ n ≤ 1000000 ∧ Reads w' w'.heap.size 3 A n (dps l) ∧ Below w.heap.size w w'
theorem TrPost.uni {x : Nd} {hs : List Int} {z wh : Int} {w w' : World} {e : Ending} (hn : x.deps.length ≤ 1000000) (h : TrPost x hs z wh w e w') : TrUni x hs z wh w e w' := by
  rcases h with ⟨h1, h2, h3⟩ | ⟨h1, h2, A, n, c, h3, h4, h5, h6, h7⟩
  · exact ⟨_, none, 0, 0, [], 1, .inl ⟨h1, rfl, rfl, rfl⟩, h2, fun _ => rfl, by omega, Reads.none_, h3⟩
  · exact ⟨_, A, n, c, _, 0, .inr ⟨⟨h1, h2⟩, rfl, rfl, rfl⟩, h3, h4, by omega, h6, h7⟩
theorem dqs_ints (qs : List Q64) : (qs.map (fun q => ((dg q).toNat : Int))).map (Value.int .u64) = qs.map (fun q => qv (dg q)) := by
  rw [List.map_map]
  rfl

set_option maxRecDepth 100000 in
set_option maxHeartbeats 4000000 in
theorem dtraces_any (x : Nw) (H : Option Addr) (m d : Nat) (qs : List Q64) (cq : Q64) (wh : Int) (w : World) (hg : NGood w x) (hm : m ≤ maxLen) (hh : Reads w w.heap.size 1 H m (qs.map qv)) :
    Calls Try.prog 4 #[x.val, .slice H m d, .agg #[qv cq, .int .u64 wh]] w fun e w' => e = .returned (.bool true) ∧ Below w.heap.size w w' := by
  obtain ⟨hfit, hnc, hcm, hac, hx⟩ := hg
  have hxn : x.n ≤ maxLen := by omega
  have HNG := Lib.hid (fun (W : World) (hb : Below w.heap.size w W) => ngreat_any x hfit hxn W (Reads.more (Reads.below hx hb) hb.size))
  have hm63 : (m : Int) ≤ 9223372036854775807 := by unfold maxLen at hm; omega
  by_cases sn : NSm x.d
  · have SN := Lib.hid sn
    by_cases h60 : m ≤ 60
    · have d1 : decide ((m : Int) > 60) = false := decide_eq_false (by omega)
      have hxl : x.d.deps.length = x.n := hx.len
      have hx60 : x.n ≤ 60 := by rw [← hxl]; exact sn.2.1
      have hr2 : ∀ W, Below w.heap.size w W → Reads W W.heap.size 1 H m ((qs.map (fun q => (q.toNat : Int))).map (Value.int .u64)) := fun W hb => by
        rw [List.map_map]
        exact (hh.below hb).more hb.size
      have HTA := Lib.hid (fun (W : World) (hb : Below w.heap.size w W) => (trace_any x H m d (qs.map (fun q => (q.toNat : Int))) cq wh (by omega) (by omega) W (Reads.more (Reads.below hx hb) hb.size) (hr2 W hb)).mono fun e w' h => h.uni (by omega))
      have HRT := Lib.hid (fun (W : World) (hb : Below w.heap.size w W) => (rtrace_any x H m d (qs.map (fun q => (q.toNat : Int))) cq wh (by omega) (by omega) W (Reads.more (Reads.below hx hb) hb.size) (hr2 W hb)).mono fun e w' h => h.uni (by omega))
      have HHA := Lib.hid (fun (W : World) (hb : Below w.heap.size w W) => hashes_any H m d qs (by omega) W ((hh.below hb).more hb.size))
      have HRH := Lib.hid (fun (W : World) (hb : Below w.heap.size w W) => rhashes_any H m d qs (by omega) W ((hh.below hb).more hb.size))
      clear hh hfit hx hr2 hxl hx60 sn hxn hcm hac hm
      obtain ⟨⟨nm, sc, ru, ds⟩, xA, xn, xc⟩ := x
      unfold Nw.val at *
      unfold qv at *
      simp only at *
      generalize (cq.toNat : Int) = cn at *
      have HT0 := Lib.hid (Tri.start w (.cells #[.string (tx nm), .bool sc, .int .u64 ru, .slice xA xn xc] 25) (.cells #[.int .u64 cn, .int .u64 wh] 33))
      have nn0 := at_cell (i := 0) HT0.out.1 rfl
      have nn1 := at_cell (i := 1) HT0.out.1 rfl
      have nn2 := at_cell (i := 2) HT0.out.1 rfl
      have nn3 := at_cell (i := 3) HT0.out.1 rfl
      have pp0 := at_cell (i := 0) HT0.out.2.1 rfl
      have pp1 := at_cell (i := 1) HT0.out.2.1 rfl
      clear hnc
      go_enter Try.func4, Try.ntmps4
      go_wp2_with (first
        | (go_at_call 14; refine (snum_any Ah1 Ah2 m ch1 ch2 _ _ (qs.map (fun q => ((dg q).toNat : Int))) (by omega) _ (Nat.le_refl _) (Nat.le_refl _) HH8.out HG8.out).mono ?_; rintro e w9 ⟨rfl, hb9⟩; have HB9 := Lib.hid (HB8.out.trans (hb9.mono HB8.out.size)); clear hb9)
        | (go_at_call 16; refine (HRH.out _ HB7.out).mono ?_; rintro e w8 ⟨Ah2, ch2, rfl, _, hh2, hb8⟩; have HB8 := Lib.hid (HB7.out.trans (hb8.mono HB7.out.size)); have HH8 := Lib.hid ((HH7.out.below hb8).more hb8.size); have HG8 : Hid (Reads w8 w8.heap.size 1 Ah2 m ((qs.map (fun q => ((dg q).toNat : Int))).map (Value.int .u64))) := (by rw [List.map_map]; exact hh2); clear hb8 hh2)
        | (go_at_call 15; refine (HHA.out _ HB6.out).mono ?_; rintro e w7 ⟨Ah1, ch1, rfl, _, hh1, hb7⟩; have HB7 := Lib.hid (HB6.out.trans (hb7.mono HB6.out.size)); have HH7 : Hid (Reads w7 w7.heap.size 1 Ah1 m ((qs.map (fun q => ((dg q).toNat : Int))).map (Value.int .u64))) := (by rw [List.map_map]; exact hh1); clear hb7 hh1)
        | (go_at_call 13; refine (rsame_any ⟨k, t, u, o, tm, g⟩ ⟨k, t, u, o, tm, g⟩ A1 A2 n1 n2 c1 c2 l1 l1 HN1.out _ HR5.out HY5.out).mono ?_; rintro e w6 ⟨z2, hz2, rfl, hb6⟩; obtain rfl : z2 = true := hz2.2 ⟨rfl, rfl⟩; have HB6 := Lib.hid (HB5.out.trans (hb6.mono HB5.out.size)); clear hb6 hz2)
        | (go_at_call 8; refine (dfixed_any _).mono ?_; rintro e w5 ⟨rfl, hb5⟩; have HB5 := Lib.hid (HT4.out.2.2.1.trans (hb5.mono HT4.out.2.2.1.size)); have HR5 := Lib.hid ((HR4.out.below hb5).more hb5.size); have HY5 := Lib.hid ((HY4.out.below hb5).more hb5.size); have hx5 := (hb5.block w3.heap.size (lt_of_heap HX4.out)).trans HX4.out; have hz5 := (hb5.block w4.heap.size (lt_of_heap HZ4.out)).trans HZ4.out; have a0 := at_cell (i := 0) hx5 rfl; have a1 := at_cell (i := 1) hx5 rfl; have a2 := at_cell (i := 2) hx5 rfl; have a3 := at_cell (i := 3) hx5 rfl; have a4 := at_cell (i := 4) hx5 rfl; have a5 := at_cell (i := 5) hx5 rfl; have a6 := at_cell (i := 6) hx5 rfl; have b0 := at_cell (i := 0) hz5 rfl; have b1 := at_cell (i := 1) hz5 rfl; have b2 := at_cell (i := 2) hz5 rfl; have b3 := at_cell (i := 3) hz5 rfl; have b4 := at_cell (i := 4) hz5 rfl; have b5 := at_cell (i := 5) hz5 rfl; have b6 := at_cell (i := 6) hz5 rfl; clear hb5 hx5 hz5)
        | (go_at_call 12; refine (HRT.out _ HT3.out.2.2.1).mono ?_; rintro e w4 ⟨r2, A2, n2, c2, l2, E2, ha2, rfl, hac2, hn2, hr2, hb4⟩; obtain ⟨rfl, rfl, rfl⟩ := trans_one HA1.out ha2; have ht4 := Tri.below HT3.out hb4; have HT4 := Lib.hid (Tri.alloc ht4 (.cells #[.int .i64 k, .string (tx t), .int .u64 u, .slice A2 n2 c2, .int .u64 o, .int .u64 tm, .string (tx g)] 36)); have HX4 := Lib.hid ((Below.heap_alloc w4 (.cells #[.int .i64 k, .string (tx t), .int .u64 u, .slice A2 n2 c2, .int .u64 o, .int .u64 tm, .string (tx g)] 36) w3.heap.size (Nat.lt_of_lt_of_le (lt_of_heap HX3.out) hb4.size)).trans ((hb4.block w3.heap.size (lt_of_heap HX3.out)).trans HX3.out)); have HZ4 := Lib.hid (one_new w4 (.cells #[.int .i64 k, .string (tx t), .int .u64 u, .slice A2 n2 c2, .int .u64 o, .int .u64 tm, .string (tx g)] 36)); have HR4 := Lib.hid (((((HR3.out.below hb4).more hb4.size)).alloc (Nat.le_refl _) (.cells #[.int .i64 k, .string (tx t), .int .u64 u, .slice A2 n2 c2, .int .u64 o, .int .u64 tm, .string (tx g)] 36)).more (show w4.heap.size ≤ (w4.alloc (.cells #[.int .i64 k, .string (tx t), .int .u64 u, .slice A2 n2 c2, .int .u64 o, .int .u64 tm, .string (tx g)] 36)).heap.size by simp)); have HY4 := Lib.hid ((hr2.alloc (Nat.le_refl _) (.cells #[.int .i64 k, .string (tx t), .int .u64 u, .slice A2 n2 c2, .int .u64 o, .int .u64 tm, .string (tx g)] 36)).more (show w4.heap.size ≤ (w4.alloc (.cells #[.int .i64 k, .string (tx t), .int .u64 u, .slice A2 n2 c2, .int .u64 o, .int .u64 tm, .string (tx g)] 36)).heap.size by simp)); simp only [rcv, rsv]; clear ht4 ha2 hac2 hn2 hr2 hb4)
        | (go_at_call 11; refine (HTA.out _ HT2.out.2.2.1).mono ?_; rintro e w3 ⟨r1, A1, n1, c1, l1, E1, ha1, rfl, hac1, hn1, hr1, hb3⟩; obtain ⟨k, t, u, o, tm, g⟩ := r1; have HA1 := Lib.hid ha1; have HN1 := Lib.hid hn1; have HT3 := Lib.hid (Tri.alloc (Tri.below HT2.out hb3) (.cells #[.int .i64 k, .string (tx t), .int .u64 u, .slice A1 n1 c1, .int .u64 o, .int .u64 tm, .string (tx g)] 36)); have nn0 := at_cell (i := 0) HT3.out.1 rfl; have nn1 := at_cell (i := 1) HT3.out.1 rfl; have nn2 := at_cell (i := 2) HT3.out.1 rfl; have nn3 := at_cell (i := 3) HT3.out.1 rfl; have pp0 := at_cell (i := 0) HT3.out.2.1 rfl; have pp1 := at_cell (i := 1) HT3.out.2.1 rfl; have HX3 := Lib.hid (one_new w3 (.cells #[.int .i64 k, .string (tx t), .int .u64 u, .slice A1 n1 c1, .int .u64 o, .int .u64 tm, .string (tx g)] 36)); have HR3 := Lib.hid ((hr1.alloc (Nat.le_refl _) (.cells #[.int .i64 k, .string (tx t), .int .u64 u, .slice A1 n1 c1, .int .u64 o, .int .u64 tm, .string (tx g)] 36)).more (show w3.heap.size ≤ (w3.alloc (.cells #[.int .i64 k, .string (tx t), .int .u64 u, .slice A1 n1 c1, .int .u64 o, .int .u64 tm, .string (tx g)] 36)).heap.size by simp)); simp only [rcv, rsv]; clear ha1 hac1 hn1 hr1 hb3)
        | (go_at_call 6; refine (HNG.out _ HT0.out.2.2.1).mono ?_; rintro e w2 ⟨he, hb2⟩; obtain rfl := he.no (fun h => h SN.out); have HT2 := Lib.hid (Tri.below HT0.out hb2); have nn0 := at_cell (i := 0) HT2.out.1 rfl; have nn1 := at_cell (i := 1) HT2.out.1 rfl; have nn2 := at_cell (i := 2) HT2.out.1 rfl; have nn3 := at_cell (i := 3) HT2.out.1 rfl; have pp0 := at_cell (i := 0) HT2.out.2.1 rfl; have pp1 := at_cell (i := 1) HT2.out.2.1 rfl; clear hb2))
      go_ret
      exact ⟨rfl, HB9.out⟩
    · have d1 : decide ((m : Int) > 60) = true := decide_eq_true (by omega)
      clear hh hfit hx sn hxn hcm hac hm
      obtain ⟨⟨nm, sc, ru, ds⟩, xA, xn, xc⟩ := x
      unfold Nw.val at *
      unfold qv at *
      simp only at *
      generalize (cq.toNat : Int) = cn at *
      have HT0 := Lib.hid (Tri.start w (.cells #[.string (tx nm), .bool sc, .int .u64 ru, .slice xA xn xc] 25) (.cells #[.int .u64 cn, .int .u64 wh] 33))
      have nn0 := at_cell (i := 0) HT0.out.1 rfl
      have nn1 := at_cell (i := 1) HT0.out.1 rfl
      have nn2 := at_cell (i := 2) HT0.out.1 rfl
      have nn3 := at_cell (i := 3) HT0.out.1 rfl
      have pp0 := at_cell (i := 0) HT0.out.2.1 rfl
      have pp1 := at_cell (i := 1) HT0.out.2.1 rfl
      clear hnc
      go_enter Try.func4, Try.ntmps4
      go_wp2_with (first
        | (go_at_call 8; refine (dfixed_any _).mono ?_; rintro e w4 ⟨rfl, hb4⟩; have HB4 := Lib.hid (HT2.out.2.2.1.trans (hb4.mono HT2.out.2.2.1.size)); clear hb4)
        | (go_at_call 6; refine (HNG.out _ HT0.out.2.2.1).mono ?_; rintro e w2 ⟨he, hb2⟩; obtain rfl := he.no (fun h => h SN.out); have HT2 := Lib.hid (Tri.below HT0.out hb2); have nn0 := at_cell (i := 0) HT2.out.1 rfl; have nn1 := at_cell (i := 1) HT2.out.1 rfl; have nn2 := at_cell (i := 2) HT2.out.1 rfl; have nn3 := at_cell (i := 3) HT2.out.1 rfl; have pp0 := at_cell (i := 0) HT2.out.2.1 rfl; have pp1 := at_cell (i := 1) HT2.out.2.1 rfl; clear hb2))
      go_ret
      exact ⟨rfl, HB4.out⟩
  · have SN := Lib.hid sn
    clear hh hfit hx sn hxn hcm hac hm
    obtain ⟨⟨nm, sc, ru, ds⟩, xA, xn, xc⟩ := x
    unfold Nw.val at *
    unfold qv at *
    simp only at *
    generalize (cq.toNat : Int) = cn at *
    have HT0 := Lib.hid (Tri.start w (.cells #[.string (tx nm), .bool sc, .int .u64 ru, .slice xA xn xc] 25) (.cells #[.int .u64 cn, .int .u64 wh] 33))
    have nn0 := at_cell (i := 0) HT0.out.1 rfl
    have nn1 := at_cell (i := 1) HT0.out.1 rfl
    have nn2 := at_cell (i := 2) HT0.out.1 rfl
    have nn3 := at_cell (i := 3) HT0.out.1 rfl
    have pp0 := at_cell (i := 0) HT0.out.2.1 rfl
    have pp1 := at_cell (i := 1) HT0.out.2.1 rfl
    clear hnc
    go_enter Try.func4, Try.ntmps4
    go_wp2_with (first
      | (go_at_call 8; refine (dfixed_any _).mono ?_; rintro e w4 ⟨rfl, hb4⟩; have HB4 := Lib.hid (HT2.out.2.2.1.trans (hb4.mono HT2.out.2.2.1.size)); clear hb4)
      | (go_at_call 6; refine (HNG.out _ HT0.out.2.2.1).mono ?_; rintro e w2 ⟨he, hb2⟩; obtain rfl := he.yes SN.out; have HT2 := Lib.hid (Tri.below HT0.out hb2); have nn0 := at_cell (i := 0) HT2.out.1 rfl; have nn1 := at_cell (i := 1) HT2.out.1 rfl; have nn2 := at_cell (i := 2) HT2.out.1 rfl; have nn3 := at_cell (i := 3) HT2.out.1 rfl; have pp0 := at_cell (i := 0) HT2.out.2.1 rfl; have pp1 := at_cell (i := 1) HT2.out.2.1 rfl; clear hb2))
    go_ret
    exact ⟨rfl, HB4.out⟩

end Go.Proofs.Ytbaokcigfgfoaaa
