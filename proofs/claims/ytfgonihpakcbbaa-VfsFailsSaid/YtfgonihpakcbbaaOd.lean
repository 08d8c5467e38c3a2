/- act, whichever asks there are; found. -/
import Derived.Test.YtfgonihpakcbbaaOc
namespace Go.Proofs.Ytfgonihpakcbbaa
open Go.RowKit Go.Maps Go.Sort

/-- An ask's number lies in its kind. -/
theorem act_any (p b : Nat) (down : Bool) (f g : Bool × Int) (hf : AskIn f) (hg : AskIn g) (late : Bool) (k : FuncId) (hen : Enters Try.prog k) (caps : Array Value) (w : World) (h : FsBox w p b down f g) (R : World → World → Prop)
    (hdo : ∀ d W, FsBox W p b d (askLeft f) (askLeft g) → w.grownBy W (some p) → Calls Try.prog k caps W fun e w' => e = .returned (.tuple #[]) ∧ R W w') :
    Calls Try.prog 29 #[.pointer (some ⟨p, 0, none⟩), .bool late, .func (.func k) #[] caps] w fun e w' => ∃ W, FsBox W p b (down || askNow g) (askLeft f) (askLeft g) ∧ w.grownBy W (some p) ∧ e = .returned (.int .i64 (actCode f g)) ∧ (actRuns f g late = true → R W w') ∧ (actRuns f g late = false → w' = W) := by
  cases c2 : askNow g with
  | true =>
    cases late with
    | true =>
      cases c1 : askNow f with
      | true => exact (act_ttt p b down f g hf hg c1 c2 k hen caps w h R hdo).mono fun e w' ⟨W, h1, h2, h3, h4⟩ => ⟨W, by simpa using h1, h2, by simpa [actCode, c2] using h3, fun _ => h4, by simp [actRuns, c2]⟩
      | false => exact (act_ftt p b down f g hf hg c1 c2 k hen caps w h R hdo).mono fun e w' ⟨W, h1, h2, h3, h4⟩ => ⟨W, by simpa using h1, h2, by simpa [actCode, c2] using h3, fun _ => h4, by simp [actRuns, c2]⟩
    | false =>
      cases c1 : askNow f with
      | true => exact (act_ttf p b down f g hf hg c1 c2 k hen caps w h R hdo).mono fun e w' ⟨W, h1, h2, h3, h4⟩ => ⟨W, by simpa using h1, h2, by simpa [actCode, c2] using h3, by simp [actRuns, c2], fun _ => h4⟩
      | false => exact (act_ftf p b down f g hf hg c1 c2 k hen caps w h R hdo).mono fun e w' ⟨W, h1, h2, h3, h4⟩ => ⟨W, by simpa using h1, h2, by simpa [actCode, c2] using h3, by simp [actRuns, c2], fun _ => h4⟩
  | false =>
    cases late with
    | true =>
      cases c1 : askNow f with
      | true => exact (act_tft p b down f g hf hg c1 c2 k hen caps w h R hdo).mono fun e w' ⟨W, h1, h2, h3, h4⟩ => ⟨W, by simpa using h1, h2, by simpa [actCode, c2, c1] using h3, by simp [actRuns, c2, c1], fun _ => h4⟩
      | false => exact (act_fft p b down f g hf hg c1 c2 k hen caps w h R hdo).mono fun e w' ⟨W, h1, h2, h3, h4⟩ => ⟨W, by simpa using h1, h2, by simpa [actCode, c2, c1] using h3, fun _ => h4, by simp [actRuns, c2, c1]⟩
    | false =>
      cases c1 : askNow f with
      | true => exact (act_tff p b down f g hf hg c1 c2 k hen caps w h R hdo).mono fun e w' ⟨W, h1, h2, h3, h4⟩ => ⟨W, by simpa using h1, h2, by simpa [actCode, c2, c1] using h3, by simp [actRuns, c2, c1], fun _ => h4⟩
      | false => exact (act_fff p b down f g hf hg c1 c2 k hen caps w h R hdo).mono fun e w' ⟨W, h1, h2, h3, h4⟩ => ⟨W, by simpa using h1, h2, by simpa [actCode, c2, c1] using h3, fun _ => h4, by simp [actRuns, c2, c1]⟩
theorem ask_left {a : Bool × Int} (h : AskIn a) : AskIn (askLeft a) := by
  unfold AskIn at *
  unfold askLeft
  by_cases h1 : a.1 = true
  · rw [if_pos h1]
    have := h h1
    by_cases h2 : a.2 = 0
    · rw [if_pos h2]; simp
    · rw [if_neg h2]
      intro _
      simp only
      omega
  · rw [if_neg h1]
    exact h

theorem zeroF (w : World) : (zeroValue 54).run Try.prog w = .ok (.agg #[.slice none 0 0, .int .i64 0]) w := by kernel_rfl
set_option maxRecDepth 100000 in
set_option maxHeartbeats 1000000 in
theorem found_down (p b : Nat) (f g : Bool × Int) (s : List UInt8) (w : World) (h : FsBox w p b true f g) :
    Calls Try.prog 31 #[.pointer (some ⟨p, 0, none⟩), .string (tx s)] w fun e w' => e = .returned (.tuple #[.agg #[.slice none 0 0, .int .i64 0], .int .i64 7]) ∧ Below w.heap.size w w' := by
  have HB := Lib.hid ((Below.refl w.heap.size w).alloc (Nat.le_refl _) (.cells #[.slice none 0 0, .int .i64 0] 54))
  have hx := h.below HB.out
  have p1 := at_cell (i := 1) h rfl
  have q1 := at_cell (i := 1) hx rfl
  have hnew := one_new w (.cells #[.slice none 0 0, .int .i64 0] 54)
  have n0 := at_cell (i := 0) hnew rfl
  have n1 := at_cell (i := 1) hnew rfl
  clear h hx hnew
  go_enter Try.func31, Try.ntmps31
  go_wp2
  refine bodyPost_ret (v := .tuple #[.agg #[.slice none 0 0, .int .i64 0], .int .i64 7]) (by simp [results, Try.results31, go_sem, n0, n1]) rfl ⟨rfl, HB.out⟩
set_option maxRecDepth 100000 in
set_option maxHeartbeats 1000000 in
theorem found_none (p b N : Nat) (f g : Bool × Int) (F : List UInt8 → Option Value) (s : List UInt8) (hs : s.length ≤ maxLen) (hF : F s = none) (w : World) (h : FsBox w p b false f g) (hm : TMap w b N F) :
    Calls Try.prog 31 #[.pointer (some ⟨p, 0, none⟩), .string (tx s)] w fun e w' => e = .returned (.tuple #[.agg #[.slice none 0 0, .int .i64 0], .int .i64 6]) ∧ Below w.heap.size w w' := by
  have HB := Lib.hid ((Below.refl w.heap.size w).alloc (Nat.le_refl _) (.cells #[.slice none 0 0, .int .i64 0] 54))
  have hx := h.below HB.out
  have hm1 := hm.below HB.out
  have q0 := at_cell (i := 0) hx rfl
  have q1 := at_cell (i := 1) hx rfl
  have hlk := hm1.look2 hs Try.underlying46 (zeroF (w.alloc (.cells #[.slice none 0 0, .int .i64 0] 54)))
  rw [hF] at hlk
  simp only [Option.getD_none, Option.isSome_none] at hlk
  clear h hx hm hm1 hF
  go_enter Try.func31, Try.ntmps31
  go_wp2
  refine bodyPost_ret (v := .tuple #[.agg #[.slice none 0 0, .int .i64 0], .int .i64 6]) (by simp [results, Try.results31, go_sem]) rfl ⟨rfl, ((Below.refl _ _).alloc (Nat.le_refl _) _).alloc (by simp) _⟩
set_option maxRecDepth 100000 in
set_option maxHeartbeats 1000000 in
theorem found_some (p b N : Nat) (f g : Bool × Int) (F : List UInt8 → Option Value) (s : List UInt8) (hs : s.length ≤ maxLen) (A : Option Addr) (n c : Nat) (z : Int) (hF : F s = some (.agg #[.slice A n c, .int .i64 z])) (w : World) (h : FsBox w p b false f g) (hm : TMap w b N F) :
    Calls Try.prog 31 #[.pointer (some ⟨p, 0, none⟩), .string (tx s)] w fun e w' => e = .returned (.tuple #[.agg #[.slice A n c, .int .i64 z], .int .i64 0]) ∧ Below w.heap.size w w' := by
  have HB := Lib.hid ((Below.refl w.heap.size w).alloc (Nat.le_refl _) (.cells #[.slice none 0 0, .int .i64 0] 54))
  have hx := h.below HB.out
  have hm1 := hm.below HB.out
  have q0 := at_cell (i := 0) hx rfl
  have q1 := at_cell (i := 1) hx rfl
  have hlk := hm1.look2 hs Try.underlying46 (zeroF (w.alloc (.cells #[.slice none 0 0, .int .i64 0] 54)))
  rw [hF] at hlk
  simp only [Option.getD_some, Option.isSome_some] at hlk
  clear h hx hm hm1 hF
  go_enter Try.func31, Try.ntmps31
  go_wp2
  refine bodyPost_ret (v := .tuple #[.agg #[.slice A n c, .int .i64 z], .int .i64 0]) (by simp [results, Try.results31, go_sem]) rfl ⟨rfl, ((Below.refl _ _).alloc (Nat.le_refl _) _).alloc (by simp) _⟩

end Go.Proofs.Ytfgonihpakcbbaa
