/- FrameTold: it returns true at any payloads, any place and any bits. -/
import Derived.Test.YtoanmbhnhofoiaaDoorFsa
import Derived.Test.YtoanmbhnhofoiaaDoorFsb
import Derived.Test.YtoanmbhnhofoiaaDoorFsc
import Derived.Test.YtoanmbhnhofoiaaDoorFsd
namespace Go.Proofs.YtoanmbhnhofoiaaDoor
open Go.RowKit Go.Shelf

set_option maxRecDepth 100000 in
set_option maxHeartbeats 400000 in
theorem ftold_no (L : Option Addr) (m d : Nat) (x0 x1 y : Int) (vs : List Value) (ps : List (List UInt8)) (hs : ¬ smalls ps ∨ m = 0) (w : World) (hl : Laid w) (hr : Reads w w.heap.size 1 L m vs) (hp : WRows w w.heap.size vs ps) :
    Calls Tryd.prog 7 #[.slice L m d, .agg #[.int .u16 x0, .int .u16 x1], .int .u32 y] w fun e w' => e = .returned (.bool true) ∧ Below w.heap.size w w' := by
  have HF : Hid (∀ W, Below w.heap.size w W → Calls Tryd.prog 8 #[] W fun e w' => e = .returned (.bool true) ∧ Below W.heap.size W w') := fun W hb => frame_fixed W (hl.below hb)
  have HSM : Hid (∀ W, Below w.heap.size w W → Calls Tryd.prog 20 #[.slice L m d] W fun e w' => ((smalls ps ∧ e = .returned (.bool true)) ∨ (¬ smalls ps ∧ e = .returned (.bool false))) ∧ W = w') := fun W hb =>
    small_any L m d vs ps W ((hr.below hb).more hb.size) ⟨hp.1, fun i v hv => by obtain ⟨bs, h1, A, n, c, h2, h3, h4⟩ := hp.2 i v hv; exact ⟨bs, h1, A, n, c, h2, h3, (h4.below hb).more hb.size⟩⟩
  have HB0 : Hid (Below w.heap.size w (w.alloc (.cells #[.int .u16 x0, .int .u16 x1] 55))) := (Below.refl _ w).alloc (Nat.le_refl _) _
  have HSS := Lib.hid hs
  clear hl hr hp hs
  go_enter Tryd.func7, Tryd.ntmps7
  go_wp2_with fail
  refine (HSM.out _ HB0.out).mono ?_
  rintro e w0 ⟨h | h, rfl⟩
  · obtain ⟨hsm, rfl⟩ := h
    have hm0 : m = 0 := HSS.out.resolve_left (fun h => h hsm)
    subst hm0
    clear hsm
    go_wp2_with fail
    refine (HF.out _ HB0.out).mono ?_
    rintro e w6 ⟨rfl, hb6⟩
    go_wp2
    go_ret
    exact ⟨rfl, HB0.out.trans (hb6.mono (by simp))⟩
  · obtain ⟨-, rfl⟩ := h
    go_wp2_with fail
    refine (HF.out _ HB0.out).mono ?_
    rintro e w6 ⟨rfl, hb6⟩
    go_wp2
    go_ret
    exact ⟨rfl, HB0.out.trans (hb6.mono (by simp))⟩

theorem ftold_any (L : Option Addr) (m d x0 x1 y : Nat) (vs : List Value) (ps : List (List UInt8)) (hx0 : x0 < 65536) (hx1 : x1 < 65536) (hy : y < 4294967296) (w : World) (hl : Laid w) (hr : Reads w w.heap.size 1 L m vs) (hp : WRows w w.heap.size vs ps) :
    Calls Tryd.prog 7 #[.slice L m d, .agg #[.int .u16 (x0 : Int), .int .u16 (x1 : Int)], .int .u32 (y : Int)] w fun e w' => e = .returned (.bool true) ∧ Below w.heap.size w w' := by
  by_cases hs : smalls ps
  · have hml : ps.length = m := by have := hr.1; have := hp.1; omega
    by_cases hm : m = 0
    · exact ftold_no L m d x0 x1 y vs ps (.inr hm) w hl hr hp
    · have hkm : x0 % m < m := Nat.mod_lt _ (by omega)
      obtain ⟨p, hpk⟩ : ∃ p, ps[x0 % m]? = some p := ⟨_, List.getElem?_eq_getElem (by omega)⟩
      by_cases hb : 128 ≤ p.length
      · by_cases hk : 0 < x0 % m
        · exact ftold_a L m d _ _ x0 x1 y vs ps p hs (by omega) hx0 hx1 hy rfl hpk hb hk w rfl hl hr hp
        · exact ftold_b L m d _ _ x0 x1 y vs ps p hs (by omega) hx0 hx1 hy rfl hpk hb (by omega) w rfl hl hr hp
      · by_cases hk : 0 < x0 % m
        · exact ftold_c L m d _ _ x0 x1 y vs ps p hs (by omega) hx0 hx1 hy rfl hpk (by omega) hk w rfl hl hr hp
        · exact ftold_d L m d _ _ x0 x1 y vs ps p hs (by omega) hx0 hx1 hy rfl hpk (by omega) (by omega) w rfl hl hr hp
  · exact ftold_no L m d x0 x1 y vs ps (.inl hs) w hl hr hp

end Go.Proofs.YtoanmbhnhofoiaaDoor
