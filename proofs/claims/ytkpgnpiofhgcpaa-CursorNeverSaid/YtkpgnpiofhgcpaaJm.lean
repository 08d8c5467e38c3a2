/- The walk of CursorNever. -/
import Derived.Test.YtkpgnpiofhgcpaaJl
import Derived.Test.YtkpgnpiofhgcpaaJn
namespace Go.Proofs.Ytkpgnpiofhgcpaa
open Go.RowKit

def NRel (bs : List UInt8) (m b : Nat) (w : World) (last idx : Value) (wr : World) : Prop :=
  ∃ (c : Cu) (i : Nat), i ≤ m ∧ idx = .int .i64 (i : Int) ∧ last = .int .i64 (c.at_ : Int) ∧ Hid (CurIn wr b b c) ∧ Hid (c.bs = bs) ∧ Hid (Below w.heap.size w wr)

set_option maxRecDepth 100000 in
set_option maxHeartbeats 4000000 in
theorem never_short (A L : Option Addr) (n cap m d : Nat) (at_ : Int) (bs : List UInt8) (ts : List Tk) (hn : n ≤ 500) (hm : m ≤ 40) (hfit : ∀ t ∈ ts, t.fits) (w : World) (hr : Reads w w.heap.size 1 A n (bs.map bv)) (hl : Reads w w.heap.size 3 L m (tks ts)) :
    Calls Try.prog 4 #[.slice A n cap, .int .i64 at_, .slice L m d] w fun e w' => e = .returned (.bool true) ∧ Below w.heap.size w w' := by
  have hbl : bs.length = n := by have := hr.1; simpa using this
  have htl : ts.length = m := by have := hl.1; rw [tks_len] at this; omega
  have HNEW := Lib.hid (new_any A n cap at_ bs (by omega) w hr)
  have HBL := Lib.hid hbl
  have HTL := Lib.hid htl
  have HL := Lib.hid hl
  have HFIT := Lib.hid hfit
  have HNB := Lib.hid (Cu.new_bs bs at_)
  clear hbl htl hr hl hfit
  go_enter Try.func4, Try.ntmps4
  go_wp2_with fail
  refine HNEW.out.mono ?_
  rintro e w1 ⟨b, rfl, hbw, hc1, hb1⟩
  have HC1 := Lib.hid hc1
  have HB1 := Lib.hid hb1
  have HBW := Lib.hid hbw
  clear hc1 hb1 hbw
  go_wp2_with fail
  refine Calls.mono (at_any b b _ w1 HC1.out) ?_
  rintro e w2 ⟨rfl, rfl⟩
  go_wp2
  go_loopw [8, 31] (fun last idx wr => NRel bs m b w last idx wr) (fun _ idx _ => m - (intOf idx).toNat)
  case atStart => exact ⟨_, 0, by omega, rfl, rfl, HC1.out, HNB.out, HB1.out⟩
  case round =>
    obtain ⟨c, i, hi, rfl, rfl, HC, HCB, HBR⟩ := hrel
    by_cases hlt : i < m
    · obtain ⟨t, ht⟩ : ∃ t, ts[i]? = some t := ⟨_, List.getElem?_eq_getElem (by rw [HTL.out]; exact hlt)⟩
      obtain ⟨ad, hL, hadb, hcl⟩ := (HL.out.below HBR.out).2 (by omega)
      subst hL
      obtain ⟨t0, t1, t2⟩ := tks_at ts i t ht
      have k0 := hcl _ _ t0
      have k1 := hcl _ _ t1
      have k2 := hcl _ _ t2
      rw [add_one] at k1
      rw [add_two] at k2
      have hf1 := HFIT.out t (List.mem_of_getElem? ht)
      have HF1 := Lib.hid hf1
      have HC3 := Lib.hid (HC.out.below ((Below.refl _ wr).alloc (Nat.le_refl _) (.cells #[.int .i64 t.kind, .int .i64 t.most, .int .i64 t.each] 33)) HC.out.lt)
      have HS3 := Lib.hid ((HBR.out.alloc HBR.out.size (.cells #[.int .i64 t.kind, .int .i64 t.most, .int .i64 t.each] 33)))
      clear t0 t1 t2 hcl HC1 HB1 hf1 ht
      obtain ⟨kd, mo, ea⟩ := t
      dsimp only at *
      by_cases hk0 : kd = 0
      · subst hk0
        by_cases he : c.e = 0
        · have hto := Cu.byte_to HC3.out.ok
          have hcall := byte_any b b c _ HC3.out
          obtain ⟨v9, hv9⟩ : ∃ v9, c.byte.1 = v9 := ⟨_, rfl⟩
          obtain ⟨c9, hc9⟩ : ∃ c9, c.byte.2 = c9 := ⟨_, rfl⟩
          rw [hv9, hc9] at hcall
          rw [hc9] at hto
          have hle := hto.le
          have hub := hto.ok
          have hbs9 := hto.bs
          rw [HCB.out, HBL.out] at hub
          have hbl9 : c9.bs.length = n := by rw [hbs9, HCB.out, HBL.out]
          have HCB9 : Hid (c9.bs = bs) := by rw [hbs9]; exact HCB.out
          have kk : IntKind.i64.wrap ((n : Int) - (c9.at_ : Int)) = ((n - c9.at_ : Nat) : Int) := by rw [IntKind.wrap_i64]; omega
          have HCALL := Lib.hid hcall
          clear hto hcall hv9 hc9 hbs9
          go_wp2_with fail
          refine Calls.mono (err_any b b c _ HC3.out) ?_
          rintro e w2 ⟨rfl, rfl⟩
          go_wp2_with fail
          refine HCALL.out.mono ?_
          rintro e w4 ⟨rfl, hc4, ho4⟩
          have HC4 := Lib.hid hc4
          have HB4 := Lib.hid (HS3.out.trans (ho4.below HBW.out HS3.out.size))
          clear hc4 ho4
          clear HCALL
          go_wp2_with fail
          refine Calls.mono (at_any b b c9 _ HC4.out) ?_
          rintro e w9 ⟨rfl, rfl⟩
          go_wp2_with fail
          refine Calls.mono (at_any b b c9 _ HC4.out) ?_
          rintro e w9 ⟨rfl, rfl⟩
          go_wp2_with fail
          have hlf := left_any b b c9 _ HC4.out
          rw [hbl9] at hlf
          refine Calls.mono hlf ?_
          clear hlf
          rintro e w5 ⟨rfl, hb5⟩
          have HC5 := Lib.hid (HC4.out.below hb5 HC4.out.lt)
          have HB5 := Lib.hid (HB4.out.trans (hb5.mono HB4.out.size))
          clear hb5
          go_wp2_with fail
          refine Calls.mono (at_any b b c9 _ HC5.out) ?_
          rintro e w9 ⟨rfl, rfl⟩
          go_wp2_with fail
          refine Calls.mono (at_any b b c9 _ HC5.out) ?_
          rintro e w9 ⟨rfl, rfl⟩
          go_wp2
          exact ⟨⟨c9, i + 1, by omega, by go_num, rfl, HC5.out, HCB9.out, HB5.out⟩, by simp [intOf]; omega⟩
        · have hz : c.byte = (0, c) := Cu.tk_e he
          have hcall := byte_any b b c _ HC3.out
          rw [hz] at hcall
          have hub : c.at_ ≤ n := by have := HC3.out.ok; unfold Cu.ok at this; rwa [HCB.out, HBL.out] at this
          have hbl9 : c.bs.length = n := by rw [HCB.out, HBL.out]
          have HCB9 := HCB
          have kk : IntKind.i64.wrap ((n : Int) - (c.at_ : Int)) = ((n - c.at_ : Nat) : Int) := by rw [IntKind.wrap_i64]; omega
          have hsz0 : (tx []).size = 0 := rfl
          have HCALL := Lib.hid hcall
          clear hcall hz
          go_wp2_with fail
          refine Calls.mono (err_any b b c _ HC3.out) ?_
          rintro e w2 ⟨rfl, rfl⟩
          go_wp2_with fail
          refine HCALL.out.mono ?_
          rintro e w4 ⟨rfl, hc4, ho4⟩
          have HC4 := Lib.hid hc4
          have HB4 := Lib.hid (HS3.out.trans (ho4.below HBW.out HS3.out.size))
          clear hc4 ho4
          clear HCALL
          go_wp2_with fail
          refine Calls.mono (at_any b b c _ HC4.out) ?_
          rintro e w9 ⟨rfl, rfl⟩
          go_wp2_with fail
          refine Calls.mono (at_any b b c _ HC4.out) ?_
          rintro e w9 ⟨rfl, rfl⟩
          go_wp2_with fail
          have hlf := left_any b b c _ HC4.out
          rw [hbl9] at hlf
          refine Calls.mono hlf ?_
          clear hlf
          rintro e w5 ⟨rfl, hb5⟩
          have HC5 := Lib.hid (HC4.out.below hb5 HC4.out.lt)
          have HB5 := Lib.hid (HB4.out.trans (hb5.mono HB4.out.size))
          clear hb5
          go_wp2_with fail
          refine Calls.mono (at_any b b c _ HC5.out) ?_
          rintro e w9 ⟨rfl, rfl⟩
          go_wp2_with fail
          refine Calls.mono (at_any b b c _ HC5.out) ?_
          rintro e w9 ⟨rfl, rfl⟩
          go_wp2_with fail
          refine Calls.mono (err_any b b c _ HC5.out) ?_
          rintro e w9 ⟨rfl, rfl⟩
          go_wp2_with fail
          refine Calls.mono (at_any b b c _ HC5.out) ?_
          rintro e w9 ⟨rfl, rfl⟩
          go_wp2
          exact ⟨⟨c, i + 1, by omega, by go_num, rfl, HC5.out, HCB9.out, HB5.out⟩, by simp [intOf]; omega⟩
      · by_cases hk1 : kd = 1
        · subst hk1
          clear hk0
          by_cases he : c.e = 0
          · have hto := Cu.num_to HC3.out.ok
            have hcall := number_any b b c _ HC3.out
            obtain ⟨v9, hv9⟩ : ∃ v9, c.num.1 = v9 := ⟨_, rfl⟩
            obtain ⟨c9, hc9⟩ : ∃ c9, c.num.2 = c9 := ⟨_, rfl⟩
            rw [hv9, hc9] at hcall
            rw [hc9] at hto
            have hle := hto.le
            have hub := hto.ok
            have hbs9 := hto.bs
            rw [HCB.out, HBL.out] at hub
            have hbl9 : c9.bs.length = n := by rw [hbs9, HCB.out, HBL.out]
            have HCB9 : Hid (c9.bs = bs) := by rw [hbs9]; exact HCB.out
            have kk : IntKind.i64.wrap ((n : Int) - (c9.at_ : Int)) = ((n - c9.at_ : Nat) : Int) := by rw [IntKind.wrap_i64]; omega
            have HCALL := Lib.hid hcall
            clear hto hcall hv9 hc9 hbs9
            go_wp2_with fail
            refine Calls.mono (err_any b b c _ HC3.out) ?_
            rintro e w2 ⟨rfl, rfl⟩
            go_wp2_with fail
            refine HCALL.out.mono ?_
            rintro e w4 ⟨rfl, hc4, ho4⟩
            have HC4 := Lib.hid hc4
            have HB4 := Lib.hid (HS3.out.trans (ho4.below HBW.out HS3.out.size))
            clear hc4 ho4
            clear HCALL
            go_wp2_with fail
            refine Calls.mono (at_any b b c9 _ HC4.out) ?_
            rintro e w9 ⟨rfl, rfl⟩
            go_wp2_with fail
            refine Calls.mono (at_any b b c9 _ HC4.out) ?_
            rintro e w9 ⟨rfl, rfl⟩
            go_wp2_with fail
            have hlf := left_any b b c9 _ HC4.out
            rw [hbl9] at hlf
            refine Calls.mono hlf ?_
            clear hlf
            rintro e w5 ⟨rfl, hb5⟩
            have HC5 := Lib.hid (HC4.out.below hb5 HC4.out.lt)
            have HB5 := Lib.hid (HB4.out.trans (hb5.mono HB4.out.size))
            clear hb5
            go_wp2_with fail
            refine Calls.mono (at_any b b c9 _ HC5.out) ?_
            rintro e w9 ⟨rfl, rfl⟩
            go_wp2_with fail
            refine Calls.mono (at_any b b c9 _ HC5.out) ?_
            rintro e w9 ⟨rfl, rfl⟩
            go_wp2
            exact ⟨⟨c9, i + 1, by omega, by go_num, rfl, HC5.out, HCB9.out, HB5.out⟩, by simp [intOf]; omega⟩
          · have hz : c.num = (0, c) := Cu.tk_e he
            have hcall := number_any b b c _ HC3.out
            rw [hz] at hcall
            have hub : c.at_ ≤ n := by have := HC3.out.ok; unfold Cu.ok at this; rwa [HCB.out, HBL.out] at this
            have hbl9 : c.bs.length = n := by rw [HCB.out, HBL.out]
            have HCB9 := HCB
            have kk : IntKind.i64.wrap ((n : Int) - (c.at_ : Int)) = ((n - c.at_ : Nat) : Int) := by rw [IntKind.wrap_i64]; omega
            have hsz0 : (tx []).size = 0 := rfl
            have HCALL := Lib.hid hcall
            clear hcall hz
            go_wp2_with fail
            refine Calls.mono (err_any b b c _ HC3.out) ?_
            rintro e w2 ⟨rfl, rfl⟩
            go_wp2_with fail
            refine HCALL.out.mono ?_
            rintro e w4 ⟨rfl, hc4, ho4⟩
            have HC4 := Lib.hid hc4
            have HB4 := Lib.hid (HS3.out.trans (ho4.below HBW.out HS3.out.size))
            clear hc4 ho4
            clear HCALL
            go_wp2_with fail
            refine Calls.mono (at_any b b c _ HC4.out) ?_
            rintro e w9 ⟨rfl, rfl⟩
            go_wp2_with fail
            refine Calls.mono (at_any b b c _ HC4.out) ?_
            rintro e w9 ⟨rfl, rfl⟩
            go_wp2_with fail
            have hlf := left_any b b c _ HC4.out
            rw [hbl9] at hlf
            refine Calls.mono hlf ?_
            clear hlf
            rintro e w5 ⟨rfl, hb5⟩
            have HC5 := Lib.hid (HC4.out.below hb5 HC4.out.lt)
            have HB5 := Lib.hid (HB4.out.trans (hb5.mono HB4.out.size))
            clear hb5
            go_wp2_with fail
            refine Calls.mono (at_any b b c _ HC5.out) ?_
            rintro e w9 ⟨rfl, rfl⟩
            go_wp2_with fail
            refine Calls.mono (at_any b b c _ HC5.out) ?_
            rintro e w9 ⟨rfl, rfl⟩
            go_wp2_with fail
            refine Calls.mono (err_any b b c _ HC5.out) ?_
            rintro e w9 ⟨rfl, rfl⟩
            go_wp2_with fail
            refine Calls.mono (at_any b b c _ HC5.out) ?_
            rintro e w9 ⟨rfl, rfl⟩
            go_wp2
            exact ⟨⟨c, i + 1, by omega, by go_num, rfl, HC5.out, HCB9.out, HB5.out⟩, by simp [intOf]; omega⟩
        · by_cases hk2 : kd = 2
          · subst hk2
            clear hk0 hk1
            by_cases he : c.e = 0
            · have hto := Cu.text_to HC3.out.ok mo
              have hcall := text_any b b c mo HF1.out.1 _ HC3.out
              obtain ⟨v9, hv9⟩ : ∃ v9, (c.text mo).1 = v9 := ⟨_, rfl⟩
              obtain ⟨c9, hc9⟩ : ∃ c9, (c.text mo).2 = c9 := ⟨_, rfl⟩
              rw [hv9, hc9] at hcall
              rw [hc9] at hto
              have hle := hto.le
              have hub := hto.ok
              have hbs9 := hto.bs
              rw [HCB.out, HBL.out] at hub
              have hbl9 : c9.bs.length = n := by rw [hbs9, HCB.out, HBL.out]
              have HCB9 : Hid (c9.bs = bs) := by rw [hbs9]; exact HCB.out
              have kk : IntKind.i64.wrap ((n : Int) - (c9.at_ : Int)) = ((n - c9.at_ : Nat) : Int) := by rw [IntKind.wrap_i64]; omega
              have HCALL := Lib.hid hcall
              clear hto hcall hv9 hc9 hbs9
              go_wp2_with fail
              refine Calls.mono (err_any b b c _ HC3.out) ?_
              rintro e w2 ⟨rfl, rfl⟩
              go_wp2_with fail
              refine HCALL.out.mono ?_
              rintro e w4 ⟨rfl, hc4, ho4⟩
              have HC4 := Lib.hid hc4
              have HB4 := Lib.hid (HS3.out.trans (ho4.below HBW.out HS3.out.size))
              clear hc4 ho4
              clear HCALL
              go_wp2_with fail
              refine Calls.mono (at_any b b c9 _ HC4.out) ?_
              rintro e w9 ⟨rfl, rfl⟩
              go_wp2_with fail
              refine Calls.mono (at_any b b c9 _ HC4.out) ?_
              rintro e w9 ⟨rfl, rfl⟩
              go_wp2_with fail
              have hlf := left_any b b c9 _ HC4.out
              rw [hbl9] at hlf
              refine Calls.mono hlf ?_
              clear hlf
              rintro e w5 ⟨rfl, hb5⟩
              have HC5 := Lib.hid (HC4.out.below hb5 HC4.out.lt)
              have HB5 := Lib.hid (HB4.out.trans (hb5.mono HB4.out.size))
              clear hb5
              go_wp2_with fail
              refine Calls.mono (at_any b b c9 _ HC5.out) ?_
              rintro e w9 ⟨rfl, rfl⟩
              go_wp2_with fail
              refine Calls.mono (at_any b b c9 _ HC5.out) ?_
              rintro e w9 ⟨rfl, rfl⟩
              go_wp2
              exact ⟨⟨c9, i + 1, by omega, by go_num, rfl, HC5.out, HCB9.out, HB5.out⟩, by simp [intOf]; omega⟩
            · have hz : (c.text mo) = ([], c) := Cu.tk_e he
              have hcall := text_any b b c mo HF1.out.1 _ HC3.out
              rw [hz] at hcall
              have hub : c.at_ ≤ n := by have := HC3.out.ok; unfold Cu.ok at this; rwa [HCB.out, HBL.out] at this
              have hbl9 : c.bs.length = n := by rw [HCB.out, HBL.out]
              have HCB9 := HCB
              have kk : IntKind.i64.wrap ((n : Int) - (c.at_ : Int)) = ((n - c.at_ : Nat) : Int) := by rw [IntKind.wrap_i64]; omega
              have hsz0 : (tx []).size = 0 := rfl
              have HCALL := Lib.hid hcall
              clear hcall hz
              go_wp2_with fail
              refine Calls.mono (err_any b b c _ HC3.out) ?_
              rintro e w2 ⟨rfl, rfl⟩
              go_wp2_with fail
              refine HCALL.out.mono ?_
              rintro e w4 ⟨rfl, hc4, ho4⟩
              have HC4 := Lib.hid hc4
              have HB4 := Lib.hid (HS3.out.trans (ho4.below HBW.out HS3.out.size))
              clear hc4 ho4
              clear HCALL
              go_wp2_with fail
              refine Calls.mono (at_any b b c _ HC4.out) ?_
              rintro e w9 ⟨rfl, rfl⟩
              go_wp2_with fail
              refine Calls.mono (at_any b b c _ HC4.out) ?_
              rintro e w9 ⟨rfl, rfl⟩
              go_wp2_with fail
              have hlf := left_any b b c _ HC4.out
              rw [hbl9] at hlf
              refine Calls.mono hlf ?_
              clear hlf
              rintro e w5 ⟨rfl, hb5⟩
              have HC5 := Lib.hid (HC4.out.below hb5 HC4.out.lt)
              have HB5 := Lib.hid (HB4.out.trans (hb5.mono HB4.out.size))
              clear hb5
              go_wp2_with fail
              refine Calls.mono (at_any b b c _ HC5.out) ?_
              rintro e w9 ⟨rfl, rfl⟩
              go_wp2_with fail
              refine Calls.mono (at_any b b c _ HC5.out) ?_
              rintro e w9 ⟨rfl, rfl⟩
              go_wp2_with fail
              refine Calls.mono (err_any b b c _ HC5.out) ?_
              rintro e w9 ⟨rfl, rfl⟩
              go_wp2_with fail
              refine Calls.mono (at_any b b c _ HC5.out) ?_
              rintro e w9 ⟨rfl, rfl⟩
              go_wp2
              exact ⟨⟨c, i + 1, by omega, by go_num, rfl, HC5.out, HCB9.out, HB5.out⟩, by simp [intOf]; omega⟩
          · by_cases hk3 : kd = 3
            · subst hk3
              clear hk0 hk1 hk2
              by_cases he : c.e = 0
              · have hto := Cu.nums_to HC3.out.ok mo
                have hcall := numbers_any b b c mo HF1.out.1 _ HC3.out
                obtain ⟨v9, hv9⟩ : ∃ v9, (c.nums mo).1 = v9 := ⟨_, rfl⟩
                obtain ⟨c9, hc9⟩ : ∃ c9, (c.nums mo).2 = c9 := ⟨_, rfl⟩
                rw [hv9, hc9] at hcall
                rw [hc9] at hto
                have hle := hto.le
                have hub := hto.ok
                have hbs9 := hto.bs
                rw [HCB.out, HBL.out] at hub
                have hbl9 : c9.bs.length = n := by rw [hbs9, HCB.out, HBL.out]
                have HCB9 : Hid (c9.bs = bs) := by rw [hbs9]; exact HCB.out
                have kk : IntKind.i64.wrap ((n : Int) - (c9.at_ : Int)) = ((n - c9.at_ : Nat) : Int) := by rw [IntKind.wrap_i64]; omega
                have HCALL := Lib.hid hcall
                clear hto hcall hv9 hc9 hbs9
                go_wp2_with fail
                refine Calls.mono (err_any b b c _ HC3.out) ?_
                rintro e w2 ⟨rfl, rfl⟩
                go_wp2_with fail
                refine HCALL.out.mono ?_
                rintro e w4 ⟨v, rfl, hv, hc4, ho4⟩
                obtain ⟨A9, q9, rfl, _, _⟩ := own_reads hv
                clear hv
                have HC4 := Lib.hid hc4
                have HB4 := Lib.hid (HS3.out.trans (ho4.below HBW.out HS3.out.size))
                clear hc4 ho4
                clear HCALL
                go_wp2_with fail
                refine Calls.mono (at_any b b c9 _ HC4.out) ?_
                rintro e w9 ⟨rfl, rfl⟩
                go_wp2_with fail
                refine Calls.mono (at_any b b c9 _ HC4.out) ?_
                rintro e w9 ⟨rfl, rfl⟩
                go_wp2_with fail
                have hlf := left_any b b c9 _ HC4.out
                rw [hbl9] at hlf
                refine Calls.mono hlf ?_
                clear hlf
                rintro e w5 ⟨rfl, hb5⟩
                have HC5 := Lib.hid (HC4.out.below hb5 HC4.out.lt)
                have HB5 := Lib.hid (HB4.out.trans (hb5.mono HB4.out.size))
                clear hb5
                go_wp2_with fail
                refine Calls.mono (at_any b b c9 _ HC5.out) ?_
                rintro e w9 ⟨rfl, rfl⟩
                go_wp2_with fail
                refine Calls.mono (at_any b b c9 _ HC5.out) ?_
                rintro e w9 ⟨rfl, rfl⟩
                go_wp2
                exact ⟨⟨c9, i + 1, by omega, by go_num, rfl, HC5.out, HCB9.out, HB5.out⟩, by simp [intOf]; omega⟩
              · have hz : (c.nums mo) = ([], c) := all_e mo he
                have hcall := numbers_any b b c mo HF1.out.1 _ HC3.out
                rw [hz] at hcall
                have hub : c.at_ ≤ n := by have := HC3.out.ok; unfold Cu.ok at this; rwa [HCB.out, HBL.out] at this
                have hbl9 : c.bs.length = n := by rw [HCB.out, HBL.out]
                have HCB9 := HCB
                have kk : IntKind.i64.wrap ((n : Int) - (c.at_ : Int)) = ((n - c.at_ : Nat) : Int) := by rw [IntKind.wrap_i64]; omega
                have hsz0 : (tx []).size = 0 := rfl
                have HCALL := Lib.hid hcall
                clear hcall hz
                go_wp2_with fail
                refine Calls.mono (err_any b b c _ HC3.out) ?_
                rintro e w2 ⟨rfl, rfl⟩
                go_wp2_with fail
                refine HCALL.out.mono ?_
                rintro e w4 ⟨v, rfl, hv, hc4, ho4⟩
                obtain ⟨A9, q9, rfl, _, _⟩ := own_reads hv
                clear hv
                have HC4 := Lib.hid hc4
                have HB4 := Lib.hid (HS3.out.trans (ho4.below HBW.out HS3.out.size))
                clear hc4 ho4
                clear HCALL
                go_wp2_with fail
                refine Calls.mono (at_any b b c _ HC4.out) ?_
                rintro e w9 ⟨rfl, rfl⟩
                go_wp2_with fail
                refine Calls.mono (at_any b b c _ HC4.out) ?_
                rintro e w9 ⟨rfl, rfl⟩
                go_wp2_with fail
                have hlf := left_any b b c _ HC4.out
                rw [hbl9] at hlf
                refine Calls.mono hlf ?_
                clear hlf
                rintro e w5 ⟨rfl, hb5⟩
                have HC5 := Lib.hid (HC4.out.below hb5 HC4.out.lt)
                have HB5 := Lib.hid (HB4.out.trans (hb5.mono HB4.out.size))
                clear hb5
                go_wp2_with fail
                refine Calls.mono (at_any b b c _ HC5.out) ?_
                rintro e w9 ⟨rfl, rfl⟩
                go_wp2_with fail
                refine Calls.mono (at_any b b c _ HC5.out) ?_
                rintro e w9 ⟨rfl, rfl⟩
                go_wp2_with fail
                refine Calls.mono (err_any b b c _ HC5.out) ?_
                rintro e w9 ⟨rfl, rfl⟩
                go_wp2_with fail
                refine Calls.mono (at_any b b c _ HC5.out) ?_
                rintro e w9 ⟨rfl, rfl⟩
                go_wp2
                exact ⟨⟨c, i + 1, by omega, by go_num, rfl, HC5.out, HCB9.out, HB5.out⟩, by simp [intOf]; omega⟩
            · by_cases hk4 : kd = 4
              · subst hk4
                clear hk0 hk1 hk2 hk3
                by_cases he : c.e = 0
                · have hto := Cu.texts_to HC3.out.ok mo ea
                  have hcall := texts_any b b c mo ea HF1.out.1 HF1.out.2 _ HC3.out
                  obtain ⟨v9, hv9⟩ : ∃ v9, (c.texts mo ea).1 = v9 := ⟨_, rfl⟩
                  obtain ⟨c9, hc9⟩ : ∃ c9, (c.texts mo ea).2 = c9 := ⟨_, rfl⟩
                  rw [hv9, hc9] at hcall
                  rw [hc9] at hto
                  have hle := hto.le
                  have hub := hto.ok
                  have hbs9 := hto.bs
                  rw [HCB.out, HBL.out] at hub
                  have hbl9 : c9.bs.length = n := by rw [hbs9, HCB.out, HBL.out]
                  have HCB9 : Hid (c9.bs = bs) := by rw [hbs9]; exact HCB.out
                  have kk : IntKind.i64.wrap ((n : Int) - (c9.at_ : Int)) = ((n - c9.at_ : Nat) : Int) := by rw [IntKind.wrap_i64]; omega
                  have HCALL := Lib.hid hcall
                  clear hto hcall hv9 hc9 hbs9
                  go_wp2_with fail
                  refine Calls.mono (err_any b b c _ HC3.out) ?_
                  rintro e w2 ⟨rfl, rfl⟩
                  go_wp2_with fail
                  refine HCALL.out.mono ?_
                  rintro e w4 ⟨v, rfl, hv, hc4, ho4⟩
                  obtain ⟨A9, q9, rfl, _, _⟩ := own_reads hv
                  clear hv
                  have HC4 := Lib.hid hc4
                  have HB4 := Lib.hid (HS3.out.trans (ho4.below HBW.out HS3.out.size))
                  clear hc4 ho4
                  clear HCALL
                  go_wp2_with fail
                  refine Calls.mono (at_any b b c9 _ HC4.out) ?_
                  rintro e w9 ⟨rfl, rfl⟩
                  go_wp2_with fail
                  refine Calls.mono (at_any b b c9 _ HC4.out) ?_
                  rintro e w9 ⟨rfl, rfl⟩
                  go_wp2_with fail
                  have hlf := left_any b b c9 _ HC4.out
                  rw [hbl9] at hlf
                  refine Calls.mono hlf ?_
                  clear hlf
                  rintro e w5 ⟨rfl, hb5⟩
                  have HC5 := Lib.hid (HC4.out.below hb5 HC4.out.lt)
                  have HB5 := Lib.hid (HB4.out.trans (hb5.mono HB4.out.size))
                  clear hb5
                  go_wp2_with fail
                  refine Calls.mono (at_any b b c9 _ HC5.out) ?_
                  rintro e w9 ⟨rfl, rfl⟩
                  go_wp2_with fail
                  refine Calls.mono (at_any b b c9 _ HC5.out) ?_
                  rintro e w9 ⟨rfl, rfl⟩
                  go_wp2
                  exact ⟨⟨c9, i + 1, by omega, by go_num, rfl, HC5.out, HCB9.out, HB5.out⟩, by simp [intOf]; omega⟩
                · have hz : (c.texts mo ea) = ([], c) := all_e mo he
                  have hcall := texts_any b b c mo ea HF1.out.1 HF1.out.2 _ HC3.out
                  rw [hz] at hcall
                  have hub : c.at_ ≤ n := by have := HC3.out.ok; unfold Cu.ok at this; rwa [HCB.out, HBL.out] at this
                  have hbl9 : c.bs.length = n := by rw [HCB.out, HBL.out]
                  have HCB9 := HCB
                  have kk : IntKind.i64.wrap ((n : Int) - (c.at_ : Int)) = ((n - c.at_ : Nat) : Int) := by rw [IntKind.wrap_i64]; omega
                  have hsz0 : (tx []).size = 0 := rfl
                  have HCALL := Lib.hid hcall
                  clear hcall hz
                  go_wp2_with fail
                  refine Calls.mono (err_any b b c _ HC3.out) ?_
                  rintro e w2 ⟨rfl, rfl⟩
                  go_wp2_with fail
                  refine HCALL.out.mono ?_
                  rintro e w4 ⟨v, rfl, hv, hc4, ho4⟩
                  obtain ⟨A9, q9, rfl, _, _⟩ := own_reads hv
                  clear hv
                  have HC4 := Lib.hid hc4
                  have HB4 := Lib.hid (HS3.out.trans (ho4.below HBW.out HS3.out.size))
                  clear hc4 ho4
                  clear HCALL
                  go_wp2_with fail
                  refine Calls.mono (at_any b b c _ HC4.out) ?_
                  rintro e w9 ⟨rfl, rfl⟩
                  go_wp2_with fail
                  refine Calls.mono (at_any b b c _ HC4.out) ?_
                  rintro e w9 ⟨rfl, rfl⟩
                  go_wp2_with fail
                  have hlf := left_any b b c _ HC4.out
                  rw [hbl9] at hlf
                  refine Calls.mono hlf ?_
                  clear hlf
                  rintro e w5 ⟨rfl, hb5⟩
                  have HC5 := Lib.hid (HC4.out.below hb5 HC4.out.lt)
                  have HB5 := Lib.hid (HB4.out.trans (hb5.mono HB4.out.size))
                  clear hb5
                  go_wp2_with fail
                  refine Calls.mono (at_any b b c _ HC5.out) ?_
                  rintro e w9 ⟨rfl, rfl⟩
                  go_wp2_with fail
                  refine Calls.mono (at_any b b c _ HC5.out) ?_
                  rintro e w9 ⟨rfl, rfl⟩
                  go_wp2_with fail
                  refine Calls.mono (err_any b b c _ HC5.out) ?_
                  rintro e w9 ⟨rfl, rfl⟩
                  go_wp2_with fail
                  refine Calls.mono (at_any b b c _ HC5.out) ?_
                  rintro e w9 ⟨rfl, rfl⟩
                  go_wp2
                  exact ⟨⟨c, i + 1, by omega, by go_num, rfl, HC5.out, HCB9.out, HB5.out⟩, by simp [intOf]; omega⟩
              · have HC4 := HC3
                have HB4 := HS3
                have hub : c.at_ ≤ n := by have := HC3.out.ok; unfold Cu.ok at this; rwa [HCB.out, HBL.out] at this
                have hbl9 : c.bs.length = n := by rw [HCB.out, HBL.out]
                have HCB9 := HCB
                have kk : IntKind.i64.wrap ((n : Int) - (c.at_ : Int)) = ((n - c.at_ : Nat) : Int) := by rw [IntKind.wrap_i64]; omega
                by_cases he : c.e = 0
                · go_wp2_with fail
                  refine Calls.mono (err_any b b c _ HC3.out) ?_
                  rintro e w2 ⟨rfl, rfl⟩
                  go_wp2_with fail
                  refine Calls.mono (at_any b b c _ HC4.out) ?_
                  rintro e w9 ⟨rfl, rfl⟩
                  go_wp2_with fail
                  refine Calls.mono (at_any b b c _ HC4.out) ?_
                  rintro e w9 ⟨rfl, rfl⟩
                  go_wp2_with fail
                  have hlf := left_any b b c _ HC4.out
                  rw [hbl9] at hlf
                  refine Calls.mono hlf ?_
                  clear hlf
                  rintro e w5 ⟨rfl, hb5⟩
                  have HC5 := Lib.hid (HC4.out.below hb5 HC4.out.lt)
                  have HB5 := Lib.hid (HB4.out.trans (hb5.mono HB4.out.size))
                  clear hb5
                  go_wp2_with fail
                  refine Calls.mono (at_any b b c _ HC5.out) ?_
                  rintro e w9 ⟨rfl, rfl⟩
                  go_wp2_with fail
                  refine Calls.mono (at_any b b c _ HC5.out) ?_
                  rintro e w9 ⟨rfl, rfl⟩
                  go_wp2
                  exact ⟨⟨c, i + 1, by omega, by go_num, rfl, HC5.out, HCB9.out, HB5.out⟩, by simp [intOf]; omega⟩
                · go_wp2_with fail
                  refine Calls.mono (err_any b b c _ HC3.out) ?_
                  rintro e w2 ⟨rfl, rfl⟩
                  go_wp2_with fail
                  refine Calls.mono (at_any b b c _ HC4.out) ?_
                  rintro e w9 ⟨rfl, rfl⟩
                  go_wp2_with fail
                  refine Calls.mono (at_any b b c _ HC4.out) ?_
                  rintro e w9 ⟨rfl, rfl⟩
                  go_wp2_with fail
                  have hlf := left_any b b c _ HC4.out
                  rw [hbl9] at hlf
                  refine Calls.mono hlf ?_
                  clear hlf
                  rintro e w5 ⟨rfl, hb5⟩
                  have HC5 := Lib.hid (HC4.out.below hb5 HC4.out.lt)
                  have HB5 := Lib.hid (HB4.out.trans (hb5.mono HB4.out.size))
                  clear hb5
                  go_wp2_with fail
                  refine Calls.mono (at_any b b c _ HC5.out) ?_
                  rintro e w9 ⟨rfl, rfl⟩
                  go_wp2_with fail
                  refine Calls.mono (at_any b b c _ HC5.out) ?_
                  rintro e w9 ⟨rfl, rfl⟩
                  go_wp2_with fail
                  refine Calls.mono (err_any b b c _ HC5.out) ?_
                  rintro e w9 ⟨rfl, rfl⟩
                  go_wp2_with fail
                  refine Calls.mono (at_any b b c _ HC5.out) ?_
                  rintro e w9 ⟨rfl, rfl⟩
                  go_wp2
                  exact ⟨⟨c, i + 1, by omega, by go_num, rfl, HC5.out, HCB9.out, HB5.out⟩, by simp [intOf]; omega⟩
    · obtain rfl : i = m := by omega
      go_wp2_with fail
      refine Calls.mono (fixed_any wr) ?_
      rintro e w9 ⟨rfl, hb9⟩
      go_wp2
      go_ret
      exact ⟨rfl, HBR.out.trans (hb9.mono HBR.out.size)⟩

set_option maxRecDepth 100000 in
set_option maxHeartbeats 400000 in
theorem never_long (A L : Option Addr) (n cap m d : Nat) (v : Value) (h : 500 < n ∨ 40 < m) (w : World) :
    Calls Try.prog 4 #[.slice A n cap, v, .slice L m d] w fun e w' => e = .returned (.bool true) ∧ Below w.heap.size w w' := by
  by_cases h1 : 500 < n
  · clear h
    go_enter Try.func4, Try.ntmps4
    go_wp2_with fail
    refine Calls.mono (fixed_any w) ?_
    rintro e w9 ⟨rfl, hb9⟩
    go_wp2
    go_ret
    exact ⟨rfl, hb9⟩
  · have h2 : 40 < m := by omega
    clear h
    go_enter Try.func4, Try.ntmps4
    go_wp2_with fail
    refine Calls.mono (fixed_any w) ?_
    rintro e w9 ⟨rfl, hb9⟩
    go_wp2
    go_ret
    exact ⟨rfl, hb9⟩

theorem never_any (A L : Option Addr) (n cap m d : Nat) (at_ : Int) (bs : List UInt8) (ts : List Tk) (hfit : ∀ t ∈ ts, t.fits) (w : World) (hr : Reads w w.heap.size 1 A n (bs.map bv)) (hl : Reads w w.heap.size 3 L m (tks ts)) :
    Calls Try.prog 4 #[.slice A n cap, .int .i64 at_, .slice L m d] w fun e w' => e = .returned (.bool true) ∧ Below w.heap.size w w' := by
  by_cases h : 500 < n ∨ 40 < m
  · exact never_long A L n cap m d _ h w
  · exact never_short A L n cap m d at_ bs ts (by omega) (by omega) hfit w hr hl

end Go.Proofs.Ytkpgnpiofhgcpaa
