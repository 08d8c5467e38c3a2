/- fold.Same. -/
import Derived.Test.YtbgjlkbfelgglaaGm
import Derived.Test.YtbgjlkbfelgglaaTc
namespace Go.Proofs.Ytbgjlkbfelgglaa
open Go.RowKit

set_option maxRecDepth 100000 in
set_option maxHeartbeats 1000000 in
theorem eqfunc_any (A B : Option Addr) (n m c d : Nat) (xs ys : List Rw) (hn : n ≤ 100000) (hm : m ≤ 100000) (hs : ∀ x ∈ xs, x.n ≤ 1000000) (w : World) (h1 : Recs w w.heap.size A n xs) (h2 : Recs w w.heap.size B m ys) :
    Calls Try.prog 27 #[.slice A n c, .slice B m d, .func (.func 28) #[] #[]] w fun e w' => Tells (xs.map Rw.say = ys.map Rw.say) e ∧ Below w.heap.size w w' := by
  have HL1 : Hid (xs.length = n) := h1.len
  have HL2 : Hid (ys.length = m) := h2.len
  have H1 := Lib.hid h1
  have H2 := Lib.hid h2
  have HS := Lib.hid hs
  clear h1 h2 hs
  by_cases hnm : n = m
  · subst hnm
    have hd1 : ((n : Int) != (n : Int)) = false := by simp
    go_enter Try.func27, Try.ntmps27
    go_wp2
    go_loopw [17] (fun idx wr => ∃ i : Nat, i ≤ n ∧ idx = .int .i64 (i : Int) ∧ (xs.take i).map Rw.say = (ys.take i).map Rw.say ∧ Below w.heap.size w wr) (fun idx wr => n - (intOf idx).toNat)
    case atStart => exact ⟨0, by omega, rfl, by simp, Below.refl _ _⟩
    case round =>
      obtain ⟨i, hi, rfl, htk, hb⟩ := hrel
      have HTK := Lib.hid htk
      have HBR := Lib.hid hb
      clear htk
      by_cases hlt : i < n
      · obtain ⟨x, hx⟩ : ∃ x, xs[i]? = some x := ⟨_, List.getElem?_eq_getElem (by rw [HL1.out]; exact hlt)⟩
        obtain ⟨y, hy⟩ : ∃ y, ys[i]? = some y := ⟨_, List.getElem?_eq_getElem (by rw [HL2.out]; exact hlt)⟩
        have hmx := List.mem_of_getElem? hx
        have hmy := List.mem_of_getElem? hy
        have hnx := HS.out x hmx
        have hrx := (H1.out.2 x hmx).1
        have hry := (H2.out.2 y hmy).1
        have hba := hb.alloc hb.size (.cells #[.int .i64 x.r.kind, .string (tx x.r.target), .int .u64 x.r.rule, .slice x.A x.n x.c, .int .u64 x.r.out, .int .u64 x.r.time, .string (tx x.r.tag)] 26)
        have hbb := hba.alloc hba.size (.cells #[.int .i64 y.r.kind, .string (tx y.r.target), .int .u64 y.r.rule, .slice y.A y.n y.c, .int .u64 y.r.out, .int .u64 y.r.time, .string (tx y.r.tag)] 26)
        obtain ⟨ad, rfl, hab, k0, k1, k2, k3, k4, k5, k6⟩ := recs_cells (H1.out.below hb).1 i x hx
        obtain ⟨ad', rfl, hab', j0, j1, j2, j3, j4, j5, j6⟩ := recs_cells (H2.out.below hba).1 i y hy
        obtain ⟨b0, b1, _⟩ := two_new wr (.cells #[.int .i64 x.r.kind, .string (tx x.r.target), .int .u64 x.r.rule, .slice x.A x.n x.c, .int .u64 x.r.out, .int .u64 x.r.time, .string (tx x.r.tag)] 26) (.cells #[.int .i64 y.r.kind, .string (tx y.r.target), .int .u64 y.r.rule, .slice y.A y.n y.c, .int .u64 y.r.out, .int .u64 y.r.time, .string (tx y.r.tag)] 26)
        have HX : Hid (x.r = y.r ∧ x.l = y.l → (xs.take (i + 1)).map Rw.say = (ys.take (i + 1)).map Rw.say) := fun he => by
          rw [List.take_add_one, List.take_add_one, hx, hy, List.map_append, List.map_append, HTK.out]
          simp [say_eq.2 he]
        have HNO : Hid (¬ (x.r = y.r ∧ x.l = y.l) → ¬ xs.map Rw.say = ys.map Rw.say) := fun he h => he (say_eq.1 (by
          have e := congrArg (fun l : List (Rc × List Dp) => l[i]?) h
          simp only [List.getElem?_map, hx, hy, Option.map_some] at e
          exact Option.some.inj e))
        have HQ := Lib.hid (fun W h1 h2 => same_any x.r y.r x.A y.A x.n y.n x.c y.c x.l y.l hnx W h1 h2)
        unfold rcv rsv at HQ
        have HBB := Lib.hid hbb
        have HRX := Lib.hid hrx
        have HRY := Lib.hid hry
        have k0' := at_cell (i := 0) b0 rfl
        have k1' := at_cell (i := 1) b0 rfl
        have k2' := at_cell (i := 2) b0 rfl
        have k3' := at_cell (i := 3) b0 rfl
        have k4' := at_cell (i := 4) b0 rfl
        have k5' := at_cell (i := 5) b0 rfl
        have k6' := at_cell (i := 6) b0 rfl
        have hi0 : (0 : Int) ≤ (i : Int) := by omega
        have hi1 : (i : Int) < (n : Int) := by omega
        by_cases he : x.r = y.r ∧ x.l = y.l
        · have HE := Lib.hid he
          obtain ⟨⟨k, t, u, o, mm, g⟩, A4, n4, c4, l4⟩ := x
          obtain ⟨⟨kb, tb, ub, ob, mb, gb⟩, B4, m4, d4, l5⟩ := y
          simp only at k0 k1 k2 k3 k4 k5 k6 j0 j1 j2 j3 j4 j5 j6 k0' k1' k2' k3' k4' k5' k6' HQ HBB HRX HRY HE HX
          clear hx hy hmx hmy hnx hrx hry hb hba hbb b0 b1 he
          go_wp2_with (go_at_call 28; refine (HQ.out _ ((HRX.out.below HBB.out).more HBB.out.size) ((HRY.out.below HBB.out).more HBB.out.size)).mono ?_; rintro e w3 ⟨q, hq, rfl, hb3⟩; obtain rfl : q = true := hq.2 HE.out; have HB3 := Lib.hid (HBB.out.trans (hb3.mono HBB.out.size)); clear hb3 hq)
          exact ⟨⟨i + 1, by omega, by go_num, HX.out HE.out, HB3.out⟩, by simp [intOf] <;> omega⟩
        · have HE := Lib.hid he
          obtain ⟨⟨k, t, u, o, mm, g⟩, A4, n4, c4, l4⟩ := x
          obtain ⟨⟨kb, tb, ub, ob, mb, gb⟩, B4, m4, d4, l5⟩ := y
          simp only at k0 k1 k2 k3 k4 k5 k6 j0 j1 j2 j3 j4 j5 j6 k0' k1' k2' k3' k4' k5' k6' HQ HBB HRX HRY HE HNO
          clear hx hy hmx hmy hnx hrx hry hb hba hbb b0 b1 he
          go_wp2_with (go_at_call 28; refine (HQ.out _ ((HRX.out.below HBB.out).more HBB.out.size) ((HRY.out.below HBB.out).more HBB.out.size)).mono ?_; rintro e w3 ⟨q, hq, rfl, hb3⟩; obtain rfl : q = false := (by rw [← Bool.not_eq_true, hq]; exact HE.out); have HB3 := Lib.hid (HBB.out.trans (hb3.mono HBB.out.size)); clear hb3 hq)
          go_ret
          exact ⟨tells_false (HNO.out HE.out), HB3.out⟩
      · obtain rfl : i = n := by omega
        have htk := HTK.out
        rw [List.take_of_length_le (by rw [HL1.out]; omega), List.take_of_length_le (by rw [HL2.out]; omega)] at htk
        have HTK2 := Lib.hid htk
        clear htk hb
        go_wp2
        go_ret
        exact ⟨tells_true HTK2.out, HBR.out⟩
  · have hd1 : ((n : Int) != (m : Int)) = true := by rw [bne_iff_ne]; omega
    have HNE : Hid (¬ xs.map Rw.say = ys.map Rw.say) := fun h => hnm (by have := congrArg List.length h; simpa [HL1.out, HL2.out] using this)
    go_enter Try.func27, Try.ntmps27
    go_wp2
    go_ret
    exact ⟨tells_false HNE.out, Below.refl _ _⟩

set_option maxRecDepth 100000 in
theorem fsame_any (A B : Option Addr) (n m c d : Nat) (xs ys : List Rw) (hn : n ≤ 100000) (hm : m ≤ 100000) (hs : ∀ x ∈ xs, x.n ≤ 1000000) (w : World) (h1 : Recs w w.heap.size A n xs) (h2 : Recs w w.heap.size B m ys) :
    Calls Try.prog 19 #[.slice A n c, .slice B m d] w fun e w' => Tells (xs.map Rw.say = ys.map Rw.say) e ∧ Below w.heap.size w w' := by
  have HQ : Hid (Calls Try.prog 27 #[.slice A n c, .slice B m d, .func (.func 28) #[] #[]] w fun e w' => ∃ q : Bool, e = .returned (.bool q) ∧ Hid (Tells (xs.map Rw.say = ys.map Rw.say) e) ∧ Below w.heap.size w w') :=
    (eqfunc_any A B n m c d xs ys hn hm hs w h1 h2).mono fun e w' ⟨⟨q, h1, h2⟩, h3⟩ => ⟨q, h2, ⟨q, h1, h2⟩, h3⟩
  clear h1 h2 hs
  go_enter Try.func19, Try.ntmps19
  go_wp2_with fail
  refine HQ.out.mono ?_
  rintro e w3 ⟨q, rfl, hq, hb3⟩
  go_wp2
  go_ret
  exact ⟨hq, hb3⟩

end Go.Proofs.Ytbgjlkbfelgglaa
