/- The example; RecordOnward's walk. -/
import Derived.Test.YtigkpcildopmfaaRo
import Derived.Test.YtigkpcildopmfaaH
namespace Go.Proofs.Ytigkpcildopmfaa
open Go.RowKit

theorem fx_may (v : Int) : MayP v ⟨1, [97], 0, 0, 0, [98]⟩ [] ↔ v = 3 := by
  constructor
  · rintro ⟨h1, h2, _, h | h⟩
    · rcases h.2.2.1 with h3 | h3
      · cases h3
      · have := h3.1; omega
    · exact absurd h.1 (by simp)
  · rintro rfl
    exact ⟨by omega, by omega, by decide, .inl ⟨rfl, .inl rfl, .inr ⟨by omega, by simp⟩, by simp, by simp, by simp [names]⟩⟩

set_option maxRecDepth 100000 in
set_option maxHeartbeats 1000000 in
theorem rfixed_any (w : World) : Calls Try.prog 7 #[] w fun e w' => e = .returned (.bool true) ∧ Below w.heap.size w w' := by
  have fit : Fits ⟨1, [97], 0, 0, 0, [98]⟩ [] := ⟨by unfold maxLen; simp, by unfold maxLen; simp, by simp⟩
  have hm : ∀ (v : Int) (W : World), Calls Try.prog 8 #[.int .i64 v, rcv ⟨1, [97], 0, 0, 0, [98]⟩ none 0 0] W fun e w' => Tells (MayP v ⟨1, [97], 0, 0, 0, [98]⟩ []) e ∧ Below W.heap.size W w' := fun v W => may_any v _ none 0 0 [] (by omega) fit W Reads.none_
  have HM3 : Hid (∀ W, Calls Try.prog 8 #[.int .i64 3, .agg #[.int .i64 1, .string ⟨#[97]⟩, .int .u64 0, .slice none 0 0, .int .u64 0, .int .u64 0, .string ⟨#[98]⟩]] W fun e w' => e = .returned (.bool true) ∧ Below W.heap.size W w') := fun W => (hm 3 W).mono fun e w' h => ⟨h.1.yes ((fx_may 3).2 rfl), h.2⟩
  have HM2 : Hid (∀ W, Calls Try.prog 8 #[.int .i64 2, .agg #[.int .i64 1, .string ⟨#[97]⟩, .int .u64 0, .slice none 0 0, .int .u64 0, .int .u64 0, .string ⟨#[98]⟩]] W fun e w' => e = .returned (.bool false) ∧ Below W.heap.size W w') := fun W => (hm 2 W).mono fun e w' h => ⟨h.1.no (fun h => by have := (fx_may 2).1 h; omega), h.2⟩
  have HM1 : Hid (∀ W, Calls Try.prog 8 #[.int .i64 1, .agg #[.int .i64 1, .string ⟨#[97]⟩, .int .u64 0, .slice none 0 0, .int .u64 0, .int .u64 0, .string ⟨#[98]⟩]] W fun e w' => e = .returned (.bool false) ∧ Below W.heap.size W w') := fun W => (hm 1 W).mono fun e w' h => ⟨h.1.no (fun h => by have := (fx_may 1).1 h; omega), h.2⟩
  clear hm fit
  have hz : (w.alloc (.cells #[.int .i64 1, .string ⟨#[97]⟩, .int .u64 0, .slice none 0 0, .int .u64 0, .int .u64 0, .string ⟨#[98]⟩] 25)).heap.size = w.heap.size + 1 := by simp
  have H0 := Lib.hid (one_new w (.cells #[.int .i64 1, .string ⟨#[97]⟩, .int .u64 0, .slice none 0 0, .int .u64 0, .int .u64 0, .string ⟨#[98]⟩] 25))
  have HB0 := Lib.hid ((Below.refl w.heap.size w).alloc (Nat.le_refl _) (.cells #[.int .i64 1, .string ⟨#[97]⟩, .int .u64 0, .slice none 0 0, .int .u64 0, .int .u64 0, .string ⟨#[98]⟩] 25))
  have HZ := Lib.hid hz
  have HCELL : Hid (∀ {i : Nat} {x : Value}, (#[.int .i64 1, .string ⟨#[97]⟩, .int .u64 0, .slice none 0 0, .int .u64 0, .int .u64 0, .string ⟨#[98]⟩] : Array Value)[i]? = some x → ∀ {W : World}, Below (w.heap.size + 1) (w.alloc (.cells #[.int .i64 1, .string ⟨#[97]⟩, .int .u64 0, .slice none 0 0, .int .u64 0, .int .u64 0, .string ⟨#[98]⟩] 25)) W → W.cell? ⟨w.heap.size, i, none⟩ = some x) := fun hi W hb => (hb.cell (p := ⟨w.heap.size, _, none⟩) (show w.heap.size < w.heap.size + 1 by omega)).trans (at_cell H0.out hi)
  clear hz
  go_enter Try.func7, Try.ntmps7
  go_wp2_with (first
    | (go_at_call 8; have hk3 := HB3.out.size; refine (HM1.out _).mono ?_; rintro e w4 ⟨rfl, hb4⟩; have HB4 := Lib.hid (HB3.out.trans (hb4.mono HB3.out.size)); clear hb4)
    | (go_at_call 8; have hk2 := HB2.out.size; refine (HM2.out _).mono ?_; rintro e w3 ⟨rfl, hb3⟩; have HB3 := Lib.hid (HB2.out.trans (hb3.mono HB2.out.size)); have HS3 := Lib.hid (HS2.out.trans (hb3.mono HS2Z.out)); have r30 := HCELL.out (i := 0) rfl HS3.out; have r31 := HCELL.out (i := 1) rfl HS3.out; have r32 := HCELL.out (i := 2) rfl HS3.out; have r33 := HCELL.out (i := 3) rfl HS3.out; have r34 := HCELL.out (i := 4) rfl HS3.out; have r35 := HCELL.out (i := 5) rfl HS3.out; have r36 := HCELL.out (i := 6) rfl HS3.out; clear hb3)
    | (go_at_call 8; refine (HM3.out _).mono ?_; rintro e w2 ⟨rfl, hb2⟩; have HB2 := Lib.hid (HB0.out.trans (hb2.mono HB0.out.size)); have HS2 := Lib.hid (hb2.mono (Nat.le_of_eq HZ.out.symm)); have HS2Z : Hid (w.heap.size + 1 ≤ w2.heap.size) := by { have h1 := hb2.size; rw [HZ.out] at h1; exact h1 }; have r20 := HCELL.out (i := 0) rfl HS2.out; have r21 := HCELL.out (i := 1) rfl HS2.out; have r22 := HCELL.out (i := 2) rfl HS2.out; have r23 := HCELL.out (i := 3) rfl HS2.out; have r24 := HCELL.out (i := 4) rfl HS2.out; have r25 := HCELL.out (i := 5) rfl HS2.out; have r26 := HCELL.out (i := 6) rfl HS2.out; clear hb2))
  go_ret
  exact ⟨rfl, HB4.out⟩

theorem may_mono {v v' : Int} {r : Rc} {l : List Dp} (h : MayP v r l) (h1 : v ≤ v') (h3 : v' ≤ 3) : MayP v' r l := by
  obtain ⟨a, b, c, d⟩ := h
  refine ⟨by omega, h3, c, ?_⟩
  rcases d with ⟨d1, d2, d3, d4⟩ | d
  · refine .inl ⟨d1, ?_, ?_, d4.1, fun x hx => ⟨(d4.2.1 x hx).1, fun ho => by have := (d4.2.1 x hx).2 ho; omega⟩, d4.2.2⟩
    · rcases d2 with h | h
      · exact .inl h
      · exact .inr (by omega)
    · rcases d3 with h | h
      · exact .inl h
      · exact .inr ⟨by omega, h.2⟩
  · exact .inr d
theorem may_gone {v v' : Int} {r : Rc} {l : List Dp} (hk : r.kind = 2) (h : MayP v r l) (h1 : 1 ≤ v') (h3 : v' ≤ 3) : MayP v' r l := by
  obtain ⟨a, b, c, d⟩ := h
  rcases d with ⟨d1, _⟩ | d
  · omega
  · exact ⟨h1, h3, c, .inr d⟩
theorem may_first {r : Rc} {l : List Dp} (hk : r.kind = 1) (h : MayP 2 r l) : MayP 1 ⟨r.kind, r.target, r.rule, r.out, 0, []⟩ l := by
  obtain ⟨a, b, c, d⟩ := h
  rcases d with ⟨d1, d2, d3, d4⟩ | d
  · exact ⟨by omega, by omega, c, .inl ⟨hk, .inl rfl, .inl rfl, d4.1, fun x hx => ⟨(d4.2.1 x hx).1, fun ho => by have := (d4.2.1 x hx).2 ho; omega⟩, d4.2.2⟩⟩
  · omega

end Go.Proofs.Ytigkpcildopmfaa
