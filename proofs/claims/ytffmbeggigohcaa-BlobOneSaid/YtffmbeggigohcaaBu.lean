/- The walk of BlobOne: it returns true at any two lists of texts. -/
import Derived.Test.YtffmbeggigohcaaBf
import Derived.Test.YtffmbeggigohcaaH2
namespace Go.Proofs.Ytffmbeggigohcaa
open Go.RowKit Go.Shelf

set_option maxRecDepth 100000 in
set_option maxHeartbeats 400000 in
theorem one_long (A L : Option Addr) (n c m d : Nat) (h : 30 < n ∨ 30 < m) (w : World) :
    Calls Try.prog 6 #[.slice A n c, .slice L m d] w fun e w' => e = .returned (.bool true) ∧ Below w.heap.size w w' := by
  by_cases h1 : 30 < n
  · clear h
    go_enter Try.func6, Try.ntmps6
    go_wp2_with (go_at_call 7; refine (fixed_any _).mono ?_; rintro e w3 ⟨rfl, hb3⟩)
    go_ret
    exact ⟨rfl, hb3⟩
  · have h2 : 30 < m := by omega
    clear h
    go_enter Try.func6, Try.ntmps6
    go_wp2_with (go_at_call 7; refine (fixed_any _).mono ?_; rintro e w3 ⟨rfl, hb3⟩)
    go_ret
    exact ⟨rfl, hb3⟩

/-- The two lists are as long, and alike up to a place. -/
def SameUp (b : Bool) (ta tb : List (List UInt8)) (i : Nat) : Prop := (b = true ↔ ta.length = tb.length ∧ ta.take i = tb.take i)

/-- At the head of a round: so many of each have been looked at. -/
def PRel (w : World) (M : Nat) (ta tb : List (List UInt8)) (sm idx : Value) (wr : World) : Prop :=
  ∃ (i : Nat) (b : Bool), i ≤ M ∧ idx = .int .i64 (i : Int) ∧ sm = .bool b ∧ SameUp b ta tb i ∧ (∀ t ∈ ta.take i, t.length ≤ 100) ∧ (∀ t ∈ tb.take i, t.length ≤ 100) ∧ Below w.heap.size w wr

theorem take_one {α : Type} {l : List α} {i : Nat} {x : α} (h : l[i]? = some x) : l.take (i + 1) = l.take i ++ [x] := by
  obtain ⟨hlt, rfl⟩ := List.getElem?_eq_some_iff.1 h
  exact List.take_succ_eq_append_getElem hlt

theorem take_all {l : List (List UInt8)} {i : Nat} {x : List UInt8} (h : l[i]? = some x) (h1 : ∀ t ∈ l.take i, t.length ≤ 100) (h2 : x.length ≤ 100) : ∀ t ∈ l.take (i + 1), t.length ≤ 100 := by
  rw [take_one h]
  intro t ht
  rcases List.mem_append.1 ht with h' | h'
  · exact h1 t h'
  · rw [List.mem_singleton.1 h']; exact h2

theorem take_pre {α : Type} {l m : List α} {i : Nat} (h : l.take (i + 1) = m.take (i + 1)) : l.take i = m.take i := by
  have := congrArg (List.take i) h
  simpa [List.take_take, Nat.min_eq_left (Nat.le_succ i)] using this

set_option maxRecDepth 100000 in
set_option maxHeartbeats 2000000 in
theorem one_short (A L : Option Addr) (na c nb d : Nat) (ta tb : List (List UInt8)) (hna : na ≤ 30) (hnb : nb ≤ 30) (w : World) (hra : Reads w w.heap.size 1 A na (ta.map sv)) (hrb : Reads w w.heap.size 1 L nb (tb.map sv)) :
    Calls Try.prog 6 #[.slice A na c, .slice L nb d] w fun e w' => e = .returned (.bool true) ∧ Below w.heap.size w w' := by
  have HA : Hid (ta.length = na) := by have := hra.1; show _ = _; simpa using this
  have HB : Hid (tb.length = nb) := by have := hrb.1; show _ = _; simpa using this
  have d1 : decide ((30 : Int) < (na : Int)) = false := decide_eq_false (by omega)
  have d2 : decide ((30 : Int) < (nb : Int)) = false := decide_eq_false (by omega)
  obtain ⟨M, hM, hmax⟩ : ∃ M : Nat, (na ≤ M ∧ nb ≤ M ∧ (M = na ∨ M = nb) ∧ M ≤ 30) ∧ (if na < nb then (nb : Int) else (na : Int)) = (M : Int) := by
    by_cases h : na < nb
    · exact ⟨nb, by omega, by rw [if_pos h]⟩
    · exact ⟨na, by omega, by rw [if_neg h]⟩
  obtain ⟨b0, hb0⟩ : ∃ b0, ((na : Int) == (nb : Int)) = b0 := ⟨_, rfl⟩
  have HB0 : Hid (b0 = true ↔ ta.length = tb.length ∧ ta.take 0 = tb.take 0) := by
    show _ ↔ _
    rw [← hb0, HA.out, HB.out]
    simp; omega
  have HM := Lib.hid hM
  clear hM
  go_enter Try.func6, Try.ntmps6
  go_wp2_with fail
  clear hmax hb0
  go_loopw [5, 26] (fun sm idx wr => PRel w M ta tb sm idx wr) (fun sm idx wr => M - (intOf idx).toNat)
  case atStart => exact ⟨0, b0, by omega, rfl, rfl, HB0.out, by simp, by simp, Below.refl _ _⟩
  case round =>
    obtain ⟨i, b, hi, rfl, rfl, hbi0, h100a, h100b, hW⟩ := hrel
    have hbi : (b = true ↔ ta.length = tb.length ∧ ta.take i = tb.take i) := hbi0
    clear hbi0
    have hMo := HM.out
    by_cases hlt : i < M
    · by_cases hia : i < na
      · obtain ⟨ad, u, rfl, hadb, hx, hcA⟩ := hra.at_ hia
        obtain ⟨x, rfl, hxi⟩ := text_at hx
        obtain ⟨kx, hkx⟩ : ∃ kx, kx = x.length := ⟨_, rfl⟩
        have hszx : (tx x).size = kx := by rw [tx_size, hkx]
        obtain ⟨sx, hsx⟩ : ∃ sx, sx = tx x := ⟨_, rfl⟩
        rw [← hsx] at hcA hszx
        have hcellA := (hW.cell (p := ad.add i) (by rw [block_of_add]; exact hadb)).trans hcA
        have dia : decide ((i : Int) < (na : Int)) = true := decide_eq_true (by omega)
        have HXI := Lib.hid hxi
        have HKX := Lib.hid hkx
        have HSX := Lib.hid hsx
        clear hx hxi hkx hsx
        by_cases hib : i < nb
        · obtain ⟨bd, u, rfl, hbdb, hy, hcB⟩ := hrb.at_ hib
          obtain ⟨y, rfl, hyi⟩ := text_at hy
          obtain ⟨ky, hky⟩ : ∃ ky, ky = y.length := ⟨_, rfl⟩
          have hszy : (tx y).size = ky := by rw [tx_size, hky]
          obtain ⟨sy, hsy⟩ : ∃ sy, sy = tx y := ⟨_, rfl⟩
          rw [← hsy] at hcB hszy
          have hcellB := (hW.cell (p := bd.add i) (by rw [block_of_add]; exact hbdb)).trans hcB
          have dib : decide ((i : Int) < (nb : Int)) = true := decide_eq_true (by omega)
          have HYI := Lib.hid hyi
          have HKY := Lib.hid hky
          have HSY := Lib.hid hsy
          clear hy hyi hky hsy
          by_cases hx : 100 < kx
          · clear hbi h100a h100b hMo
            have dkx : decide ((100 : Int) < (kx : Int)) = true := decide_eq_true (by omega)
            go_wp2_with (go_at_call 7; refine (fixed_any _).mono ?_; rintro e w3 ⟨rfl, hb3⟩)
            go_ret
            exact ⟨rfl, hW.trans (hb3.mono hW.size)⟩
          · by_cases hy : 100 < ky
            · have dkx : decide ((100 : Int) < (kx : Int)) = false := decide_eq_false (by omega)
              have dky : decide ((100 : Int) < (ky : Int)) = true := decide_eq_true (by omega)
              clear hbi h100a h100b hMo
              go_wp2_with (go_at_call 7; refine (fixed_any _).mono ?_; rintro e w3 ⟨rfl, hb3⟩)
              go_ret
              exact ⟨rfl, hW.trans (hb3.mono hW.size)⟩
            · have dkx : decide ((100 : Int) < (kx : Int)) = false := decide_eq_false (by omega)
              have hta : Hid (∀ t ∈ ta.take (i + 1), t.length ≤ 100) := take_all HXI.out h100a (by rw [← HKX.out]; omega)
              have dky : decide ((100 : Int) < (ky : Int)) = false := decide_eq_false (by omega)
              have htb : Hid (∀ t ∈ tb.take (i + 1), t.length ≤ 100) := take_all HYI.out h100b (by rw [← HKY.out]; omega)
              clear h100a h100b hMo
              cases b with
              | false =>
                have hnew : SameUp false ta tb (i + 1) := by
                  show (false = true ↔ ta.length = tb.length ∧ ta.take (i + 1) = tb.take (i + 1))
                  constructor
                  · intro h; cases h
                  · rintro ⟨h, h2⟩
                    exact absurd (hbi.2 ⟨h, take_pre h2⟩) (by decide)
                clear hbi
                go_wp2_with fail
                refine wp_region_held (S := fun W => Below w.heap.size w W) (by kernel_rfl) ?_
                try (change wpAnyH _ _ _ _ _ _ _ _ (World.drew _))
                have hS : Below w.heap.size w wr.drew := hW.drew
                refine h_take 0 (.bool false) rfl (by kernel_rfl) (by kernel_rfl) (by kernel_rfl) (fun _ _ _ h => h) (by kernel_rfl) hS (fun _ _ => by kernel_rfl) ?_
                refine h_take 1 (.bool false) rfl (by kernel_rfl) (by kernel_rfl) (by kernel_rfl) (fun _ _ _ h => h) (by kernel_rfl) hS (fun _ _ => by kernel_rfl) ?_
                refine h_skip 2 rfl (by kernel_rfl) (by kernel_rfl) (by kernel_rfl) (fun _ _ _ h => h) (by kernel_rfl) hS ?_
                refine h_skip 3 rfl (by kernel_rfl) (by kernel_rfl) (by kernel_rfl) (fun _ _ _ h => h) (by kernel_rfl) hS ?_
                refine h_skip 4 rfl (by kernel_rfl) (by kernel_rfl) (by kernel_rfl) (fun _ _ _ h => h) (by kernel_rfl) hS ?_
                refine h_skip 5 rfl (by kernel_rfl) (by kernel_rfl) (by kernel_rfl) (fun _ _ _ h => h) (by kernel_rfl) hS ?_
                refine h_skip 6 rfl (by kernel_rfl) (by kernel_rfl) (by kernel_rfl) (fun _ _ _ h => h) (by kernel_rfl) hS ?_
                refine h_skip 7 rfl (by kernel_rfl) (by kernel_rfl) (by kernel_rfl) (fun _ _ _ h => h) (by kernel_rfl) hS ?_
                refine h_skip 8 rfl (by kernel_rfl) (by kernel_rfl) (by kernel_rfl) (fun _ _ _ h => h) (by kernel_rfl) hS ?_
                refine h_skip 9 rfl (by kernel_rfl) (by kernel_rfl) (by kernel_rfl) (fun _ _ _ h => h) (by kernel_rfl) hS ?_
                refine h_skip 10 rfl (by kernel_rfl) (by kernel_rfl) (by kernel_rfl) (fun _ _ _ h => h) (by kernel_rfl) hS ?_
                refine h_take 11 (.bool false) rfl (by kernel_rfl) (by kernel_rfl) (by kernel_rfl) (fun _ _ _ h => h) (by kernel_rfl) hS (fun _ _ => by kernel_rfl) ?_
                refine h_take 12 (.bool false) rfl (by kernel_rfl) (by kernel_rfl) (by kernel_rfl) (fun _ _ _ h => h) (by kernel_rfl) hS (fun _ _ => by kernel_rfl) ?_
                refine wpAnyH_done (by kernel_rfl) ?_ _
                go_simp
                go_wp2_with fail
                exact ⟨⟨i + 1, false, by omega, by go_num, rfl, hnew, hta.out, htb.out, hS⟩, by simp [intOf]; omega⟩
              | true =>
                have hl := (hbi.1 rfl).1
                have ht := (hbi.1 rfl).2
                by_cases hxy : x = y
                · have hnew : SameUp true ta tb (i + 1) := by
                    show (true = true ↔ ta.length = tb.length ∧ ta.take (i + 1) = tb.take (i + 1))
                    refine ⟨fun _ => ⟨hl, ?_⟩, fun _ => rfl⟩
                    rw [take_one HXI.out, take_one HYI.out, ht, hxy]
                  have hse : sy = sx := by rw [HSX.out, HSY.out, hxy]
                  clear hbi hl ht hxy
                  subst hse
                  go_wp2_with fail
                  refine wp_region_held (S := fun W => Below w.heap.size w W) (by kernel_rfl) ?_
                  try (change wpAnyH _ _ _ _ _ _ _ _ (World.drew _))
                  have hS : Below w.heap.size w wr.drew := hW.drew
                  refine h_take 0 (.bool true) rfl (by kernel_rfl) (by kernel_rfl) (by kernel_rfl) (fun _ _ _ h => h) (by kernel_rfl) hS (fun _ _ => by kernel_rfl) ?_
                  refine h_take 1 (.bool true) rfl (by kernel_rfl) (by kernel_rfl) (by kernel_rfl) (fun _ _ _ h => h) (by kernel_rfl) hS (fun _ _ => by kernel_rfl) ?_
                  refine h_take 2 (.slice (some ad) na c) rfl (by kernel_rfl) (by kernel_rfl) (by kernel_rfl) (fun _ _ _ h => h) (by kernel_rfl) hS (fun _ _ => by kernel_rfl) ?_
                  refine h_take 3 (.int .i64 (i : Int)) rfl (by kernel_rfl) (by kernel_rfl) (by kernel_rfl) (fun _ _ _ h => h) (by kernel_rfl) hS (fun _ _ => by kernel_rfl) ?_
                  refine h_take 6 (.slice (some bd) nb d) rfl (by kernel_rfl) (by kernel_rfl) (by kernel_rfl) (fun _ _ _ h => h) (by kernel_rfl) hS (fun _ _ => by kernel_rfl) ?_
                  refine h_take 7 (.int .i64 (i : Int)) rfl (by kernel_rfl) (by kernel_rfl) (by kernel_rfl) (fun _ _ _ h => h) (by kernel_rfl) hS (fun _ _ => by kernel_rfl) ?_
                  refine h_take 4 (.pointer (some (ad.add i))) rfl (by kernel_rfl) (by kernel_rfl) (by kernel_rfl) (fun _ _ _ h => h) (by kernel_rfl) hS (by intro w' hb; go_simp) ?_
                  refine h_take 8 (.pointer (some (bd.add i))) rfl (by kernel_rfl) (by kernel_rfl) (by kernel_rfl) (fun _ _ _ h => h) (by kernel_rfl) hS (by intro w' hb; go_simp) ?_
                  refine h_take 5 (.string sy) rfl (by kernel_rfl) (by kernel_rfl) (by kernel_rfl) (fun _ _ _ h => h) (by kernel_rfl) hS (by intro w' hb; have hcell := (hb.cell (p := ad.add i) (by rw [block_of_add]; exact hadb)).trans hcA; go_simp) ?_
                  refine h_take 9 (.string sy) rfl (by kernel_rfl) (by kernel_rfl) (by kernel_rfl) (fun _ _ _ h => h) (by kernel_rfl) hS (by intro w' hb; have hcell := (hb.cell (p := bd.add i) (by rw [block_of_add]; exact hbdb)).trans hcB; go_simp) ?_
                  refine h_take 10 (.bool true) rfl (by kernel_rfl) (by kernel_rfl) (by kernel_rfl) (fun _ _ _ h => h) (by kernel_rfl) hS (by intro w' hb; go_simp) ?_
                  refine h_take 11 (.bool true) rfl (by kernel_rfl) (by kernel_rfl) (by kernel_rfl) (fun _ _ _ h => h) (by kernel_rfl) hS (fun _ _ => by kernel_rfl) ?_
                  refine h_take 12 (.bool true) rfl (by kernel_rfl) (by kernel_rfl) (by kernel_rfl) (fun _ _ _ h => h) (by kernel_rfl) hS (fun _ _ => by kernel_rfl) ?_
                  refine wpAnyH_done (by kernel_rfl) ?_ _
                  go_simp
                  go_wp2_with fail
                  exact ⟨⟨i + 1, true, by omega, by go_num, rfl, hnew, hta.out, htb.out, hS⟩, by simp [intOf]; omega⟩
                · have hnew : SameUp false ta tb (i + 1) := by
                    show (false = true ↔ ta.length = tb.length ∧ ta.take (i + 1) = tb.take (i + 1))
                    constructor
                    · intro h; cases h
                    · rintro ⟨_, h2⟩
                      rw [take_one HXI.out, take_one HYI.out, ht] at h2
                      exact absurd (by simpa using h2) hxy
                  have hne : (sx.toList == sy.toList) = false := by
                    rw [HSX.out, HSY.out, tx_toList, tx_toList]
                    simpa using hxy
                  clear hbi hl ht hxy
                  go_wp2_with fail
                  refine wp_region_held (S := fun W => Below w.heap.size w W) (by kernel_rfl) ?_
                  try (change wpAnyH _ _ _ _ _ _ _ _ (World.drew _))
                  have hS : Below w.heap.size w wr.drew := hW.drew
                  refine h_take 0 (.bool true) rfl (by kernel_rfl) (by kernel_rfl) (by kernel_rfl) (fun _ _ _ h => h) (by kernel_rfl) hS (fun _ _ => by kernel_rfl) ?_
                  refine h_take 1 (.bool true) rfl (by kernel_rfl) (by kernel_rfl) (by kernel_rfl) (fun _ _ _ h => h) (by kernel_rfl) hS (fun _ _ => by kernel_rfl) ?_
                  refine h_take 2 (.slice (some ad) na c) rfl (by kernel_rfl) (by kernel_rfl) (by kernel_rfl) (fun _ _ _ h => h) (by kernel_rfl) hS (fun _ _ => by kernel_rfl) ?_
                  refine h_take 3 (.int .i64 (i : Int)) rfl (by kernel_rfl) (by kernel_rfl) (by kernel_rfl) (fun _ _ _ h => h) (by kernel_rfl) hS (fun _ _ => by kernel_rfl) ?_
                  refine h_take 6 (.slice (some bd) nb d) rfl (by kernel_rfl) (by kernel_rfl) (by kernel_rfl) (fun _ _ _ h => h) (by kernel_rfl) hS (fun _ _ => by kernel_rfl) ?_
                  refine h_take 7 (.int .i64 (i : Int)) rfl (by kernel_rfl) (by kernel_rfl) (by kernel_rfl) (fun _ _ _ h => h) (by kernel_rfl) hS (fun _ _ => by kernel_rfl) ?_
                  refine h_take 4 (.pointer (some (ad.add i))) rfl (by kernel_rfl) (by kernel_rfl) (by kernel_rfl) (fun _ _ _ h => h) (by kernel_rfl) hS (by intro w' hb; go_simp) ?_
                  refine h_take 8 (.pointer (some (bd.add i))) rfl (by kernel_rfl) (by kernel_rfl) (by kernel_rfl) (fun _ _ _ h => h) (by kernel_rfl) hS (by intro w' hb; go_simp) ?_
                  refine h_take 5 (.string sx) rfl (by kernel_rfl) (by kernel_rfl) (by kernel_rfl) (fun _ _ _ h => h) (by kernel_rfl) hS (by intro w' hb; have hcell := (hb.cell (p := ad.add i) (by rw [block_of_add]; exact hadb)).trans hcA; go_simp) ?_
                  refine h_take 9 (.string sy) rfl (by kernel_rfl) (by kernel_rfl) (by kernel_rfl) (fun _ _ _ h => h) (by kernel_rfl) hS (by intro w' hb; have hcell := (hb.cell (p := bd.add i) (by rw [block_of_add]; exact hbdb)).trans hcB; go_simp) ?_
                  refine h_take 10 (.bool false) rfl (by kernel_rfl) (by kernel_rfl) (by kernel_rfl) (fun _ _ _ h => h) (by kernel_rfl) hS (by intro w' hb; go_simp) ?_
                  refine h_take 11 (.bool false) rfl (by kernel_rfl) (by kernel_rfl) (by kernel_rfl) (fun _ _ _ h => h) (by kernel_rfl) hS (fun _ _ => by kernel_rfl) ?_
                  refine h_take 12 (.bool false) rfl (by kernel_rfl) (by kernel_rfl) (by kernel_rfl) (fun _ _ _ h => h) (by kernel_rfl) hS (fun _ _ => by kernel_rfl) ?_
                  refine wpAnyH_done (by kernel_rfl) ?_ _
                  go_simp
                  go_wp2_with fail
                  exact ⟨⟨i + 1, false, by omega, by go_num, rfl, hnew, hta.out, htb.out, hS⟩, by simp [intOf]; omega⟩
        · have dib : decide ((i : Int) < (nb : Int)) = false := decide_eq_false (by omega)
          have htb : Hid (∀ t ∈ tb.take (i + 1), t.length ≤ 100) := by
            show ∀ t ∈ tb.take (i + 1), t.length ≤ 100
            rw [List.take_of_length_le (by rw [HB.out]; omega)]
            rw [List.take_of_length_le (by rw [HB.out]; omega)] at h100b
            exact h100b
          by_cases hx : 100 < kx
          · clear hbi h100a h100b hMo htb
            have dkx : decide ((100 : Int) < (kx : Int)) = true := decide_eq_true (by omega)
            go_wp2_with (go_at_call 7; refine (fixed_any _).mono ?_; rintro e w3 ⟨rfl, hb3⟩)
            go_ret
            exact ⟨rfl, hW.trans (hb3.mono hW.size)⟩
          · have dkx : decide ((100 : Int) < (kx : Int)) = false := decide_eq_false (by omega)
            have hta : Hid (∀ t ∈ ta.take (i + 1), t.length ≤ 100) := take_all HXI.out h100a (by rw [← HKX.out]; omega)
            clear h100a h100b hMo
            have hbf : b = false := by
              cases b with
              | false => rfl
              | true => have := (hbi.1 rfl).1; rw [HA.out, HB.out] at this; omega
            subst hbf
            have hnew : SameUp false ta tb (i + 1) := by
              show (false = true ↔ ta.length = tb.length ∧ ta.take (i + 1) = tb.take (i + 1))
              constructor
              · intro h; cases h
              · rintro ⟨h, _⟩; rw [HA.out, HB.out] at h; omega
            clear hbi
            go_wp2_with fail
            refine wp_region_held (S := fun W => Below w.heap.size w W) (by kernel_rfl) ?_
            try (change wpAnyH _ _ _ _ _ _ _ _ (World.drew _))
            have hS : Below w.heap.size w wr.drew := hW.drew
            refine h_take 0 (.bool false) rfl (by kernel_rfl) (by kernel_rfl) (by kernel_rfl) (fun _ _ _ h => h) (by kernel_rfl) hS (fun _ _ => by kernel_rfl) ?_
            refine h_take 1 (.bool false) rfl (by kernel_rfl) (by kernel_rfl) (by kernel_rfl) (fun _ _ _ h => h) (by kernel_rfl) hS (fun _ _ => by kernel_rfl) ?_
            refine h_skip 2 rfl (by kernel_rfl) (by kernel_rfl) (by kernel_rfl) (fun _ _ _ h => h) (by kernel_rfl) hS ?_
            refine h_skip 3 rfl (by kernel_rfl) (by kernel_rfl) (by kernel_rfl) (fun _ _ _ h => h) (by kernel_rfl) hS ?_
            refine h_skip 4 rfl (by kernel_rfl) (by kernel_rfl) (by kernel_rfl) (fun _ _ _ h => h) (by kernel_rfl) hS ?_
            refine h_skip 5 rfl (by kernel_rfl) (by kernel_rfl) (by kernel_rfl) (fun _ _ _ h => h) (by kernel_rfl) hS ?_
            refine h_skip 6 rfl (by kernel_rfl) (by kernel_rfl) (by kernel_rfl) (fun _ _ _ h => h) (by kernel_rfl) hS ?_
            refine h_skip 7 rfl (by kernel_rfl) (by kernel_rfl) (by kernel_rfl) (fun _ _ _ h => h) (by kernel_rfl) hS ?_
            refine h_skip 8 rfl (by kernel_rfl) (by kernel_rfl) (by kernel_rfl) (fun _ _ _ h => h) (by kernel_rfl) hS ?_
            refine h_skip 9 rfl (by kernel_rfl) (by kernel_rfl) (by kernel_rfl) (fun _ _ _ h => h) (by kernel_rfl) hS ?_
            refine h_skip 10 rfl (by kernel_rfl) (by kernel_rfl) (by kernel_rfl) (fun _ _ _ h => h) (by kernel_rfl) hS ?_
            refine h_take 11 (.bool false) rfl (by kernel_rfl) (by kernel_rfl) (by kernel_rfl) (fun _ _ _ h => h) (by kernel_rfl) hS (fun _ _ => by kernel_rfl) ?_
            refine h_take 12 (.bool false) rfl (by kernel_rfl) (by kernel_rfl) (by kernel_rfl) (fun _ _ _ h => h) (by kernel_rfl) hS (fun _ _ => by kernel_rfl) ?_
            refine wpAnyH_done (by kernel_rfl) ?_ _
            go_simp
            go_wp2_with fail
            exact ⟨⟨i + 1, false, by omega, by go_num, rfl, hnew, hta.out, htb.out, hS⟩, by simp [intOf]; omega⟩
      · have dia : decide ((i : Int) < (na : Int)) = false := decide_eq_false (by omega)
        have hta : Hid (∀ t ∈ ta.take (i + 1), t.length ≤ 100) := by
          show ∀ t ∈ ta.take (i + 1), t.length ≤ 100
          rw [List.take_of_length_le (by rw [HA.out]; omega)]
          rw [List.take_of_length_le (by rw [HA.out]; omega)] at h100a
          exact h100a
        have hib : i < nb := by omega
        obtain ⟨bd, u, rfl, hbdb, hy, hcB⟩ := hrb.at_ hib
        obtain ⟨y, rfl, hyi⟩ := text_at hy
        obtain ⟨ky, hky⟩ : ∃ ky, ky = y.length := ⟨_, rfl⟩
        have hszy : (tx y).size = ky := by rw [tx_size, hky]
        obtain ⟨sy, hsy⟩ : ∃ sy, sy = tx y := ⟨_, rfl⟩
        rw [← hsy] at hcB hszy
        have hcellB := (hW.cell (p := bd.add i) (by rw [block_of_add]; exact hbdb)).trans hcB
        have dib : decide ((i : Int) < (nb : Int)) = true := decide_eq_true (by omega)
        have HYI := Lib.hid hyi
        have HKY := Lib.hid hky
        have HSY := Lib.hid hsy
        clear hy hyi hky hsy
        by_cases hy : 100 < ky
        · clear hbi h100a h100b hMo hta
          have dky : decide ((100 : Int) < (ky : Int)) = true := decide_eq_true (by omega)
          go_wp2_with (go_at_call 7; refine (fixed_any _).mono ?_; rintro e w3 ⟨rfl, hb3⟩)
          go_ret
          exact ⟨rfl, hW.trans (hb3.mono hW.size)⟩
        · have dky : decide ((100 : Int) < (ky : Int)) = false := decide_eq_false (by omega)
          have htb : Hid (∀ t ∈ tb.take (i + 1), t.length ≤ 100) := take_all HYI.out h100b (by rw [← HKY.out]; omega)
          clear h100a h100b hMo
          have hbf : b = false := by
            cases b with
            | false => rfl
            | true => have := (hbi.1 rfl).1; rw [HA.out, HB.out] at this; omega
          subst hbf
          have hnew : SameUp false ta tb (i + 1) := by
            show (false = true ↔ ta.length = tb.length ∧ ta.take (i + 1) = tb.take (i + 1))
            constructor
            · intro h; cases h
            · rintro ⟨h, _⟩; rw [HA.out, HB.out] at h; omega
          clear hbi
          go_wp2_with fail
          refine wp_region_held (S := fun W => Below w.heap.size w W) (by kernel_rfl) ?_
          try (change wpAnyH _ _ _ _ _ _ _ _ (World.drew _))
          have hS : Below w.heap.size w wr.drew := hW.drew
          refine h_take 0 (.bool false) rfl (by kernel_rfl) (by kernel_rfl) (by kernel_rfl) (fun _ _ _ h => h) (by kernel_rfl) hS (fun _ _ => by kernel_rfl) ?_
          refine h_take 1 (.bool false) rfl (by kernel_rfl) (by kernel_rfl) (by kernel_rfl) (fun _ _ _ h => h) (by kernel_rfl) hS (fun _ _ => by kernel_rfl) ?_
          refine h_skip 2 rfl (by kernel_rfl) (by kernel_rfl) (by kernel_rfl) (fun _ _ _ h => h) (by kernel_rfl) hS ?_
          refine h_skip 3 rfl (by kernel_rfl) (by kernel_rfl) (by kernel_rfl) (fun _ _ _ h => h) (by kernel_rfl) hS ?_
          refine h_skip 4 rfl (by kernel_rfl) (by kernel_rfl) (by kernel_rfl) (fun _ _ _ h => h) (by kernel_rfl) hS ?_
          refine h_skip 5 rfl (by kernel_rfl) (by kernel_rfl) (by kernel_rfl) (fun _ _ _ h => h) (by kernel_rfl) hS ?_
          refine h_skip 6 rfl (by kernel_rfl) (by kernel_rfl) (by kernel_rfl) (fun _ _ _ h => h) (by kernel_rfl) hS ?_
          refine h_skip 7 rfl (by kernel_rfl) (by kernel_rfl) (by kernel_rfl) (fun _ _ _ h => h) (by kernel_rfl) hS ?_
          refine h_skip 8 rfl (by kernel_rfl) (by kernel_rfl) (by kernel_rfl) (fun _ _ _ h => h) (by kernel_rfl) hS ?_
          refine h_skip 9 rfl (by kernel_rfl) (by kernel_rfl) (by kernel_rfl) (fun _ _ _ h => h) (by kernel_rfl) hS ?_
          refine h_skip 10 rfl (by kernel_rfl) (by kernel_rfl) (by kernel_rfl) (fun _ _ _ h => h) (by kernel_rfl) hS ?_
          refine h_take 11 (.bool false) rfl (by kernel_rfl) (by kernel_rfl) (by kernel_rfl) (fun _ _ _ h => h) (by kernel_rfl) hS (fun _ _ => by kernel_rfl) ?_
          refine h_take 12 (.bool false) rfl (by kernel_rfl) (by kernel_rfl) (by kernel_rfl) (fun _ _ _ h => h) (by kernel_rfl) hS (fun _ _ => by kernel_rfl) ?_
          refine wpAnyH_done (by kernel_rfl) ?_ _
          go_simp
          go_wp2_with fail
          exact ⟨⟨i + 1, false, by omega, by go_num, rfl, hnew, hta.out, htb.out, hS⟩, by simp [intOf]; omega⟩
    · obtain rfl : i = M := by omega
      have halla : ta.take i = ta := List.take_of_length_le (by rw [HA.out]; omega)
      have hallb : tb.take i = tb := List.take_of_length_le (by rw [HB.out]; omega)
      rw [halla, hallb] at hbi
      rw [halla] at h100a
      rw [hallb] at h100b
      have hla := blobs_len ta 100 (by unfold top; omega) h100a
      have hlb := blobs_len tb 100 (by unfold top; omega) h100b
      rw [HA.out] at hla
      rw [HB.out] at hlb
      have hpa : Hid (∀ W, Below w.heap.size w W → Calls Try.prog 12 #[.slice none 0 0, .slice A na c] W fun e w' => ∃ v, e = .returned v ∧ w'.ownsRow W.heap.size 5 1 v (blobs ta).length ((blobs ta).map bv) ∧ Below W.heap.size W w') :=
        fun W hb => list_any none A 0 0 na c w.heap.size [] ta (by omega) (by omega) W hb.size Reads.none_ (hra.below hb)
      have hpb : Hid (∀ W, Below w.heap.size w W → Calls Try.prog 12 #[.slice none 0 0, .slice L nb d] W fun e w' => ∃ v, e = .returned v ∧ w'.ownsRow W.heap.size 5 1 v (blobs tb).length ((blobs tb).map bv) ∧ Below W.heap.size W w') :=
        fun W hb => list_any none L 0 0 nb d w.heap.size [] tb (by omega) (by omega) W hb.size Reads.none_ (hrb.below hb)
      have hsame : ((blobs ta == blobs tb) == b) = true := by
        have e1 : blobs ta = blobs tb ↔ b = true := by
          rw [hbi]
          refine ⟨fun h => ?_, fun h => by rw [h.2]⟩
          have h' := blobs_inj ta tb (fun t ht => by have := h100a t ht; unfold top; omega) (fun t ht => by have := h100b t ht; unfold top; omega) h
          exact ⟨by rw [h'], h'⟩
        by_cases h : blobs ta = blobs tb
        · rw [e1.1 h, h]; simp
        · have hbf : b = false := by
            cases b with
            | false => rfl
            | true => exact absurd (e1.2 rfl) h
          rw [hbf]
          have : (blobs ta == blobs tb) = false := by simpa using h
          rw [this]; rfl
      clear hbi h100a h100b hla hlb halla hallb
      have HSAME := Lib.hid hsame
      have HHI := Lib.hid hi
      clear hsame hMo hlt hi
      go_wp2_with fail
      refine wp_region_held (S := fun W => Below w.heap.size w W) (by kernel_rfl) ?_
      refine h_one 0 rfl (by kernel_rfl) (by kernel_rfl) (fun K hK => ?_)
      go_simp
      refine (fixed_any _).mono ?_
      rintro e w3 ⟨rfl, hb3⟩
      have hS3 : Below w.heap.size w w3 := hW.trans ((Below.refl _ wr).drew.trans hb3 |>.mono hW.size)
      refine hK _ _ hS3 ?_
      clear hK K
      refine h_take 1 (.bool true) rfl (by kernel_rfl) (by kernel_rfl) (by kernel_rfl) (fun _ _ _ h => h) (by kernel_rfl) hS3 (fun _ _ => by kernel_rfl) ?_
      refine h_take 2 (.slice A na c) rfl (by kernel_rfl) (by kernel_rfl) (by kernel_rfl) (fun _ _ _ h => h) (by kernel_rfl) hS3 (fun _ _ => by kernel_rfl) ?_
      refine h_take 5 (.slice L nb d) rfl (by kernel_rfl) (by kernel_rfl) (by kernel_rfl) (fun _ _ _ h => h) (by kernel_rfl) hS3 (fun _ _ => by kernel_rfl) ?_
      refine h_take 9 (.bool b) rfl (by kernel_rfl) (by kernel_rfl) (by kernel_rfl) (fun _ _ _ h => h) (by kernel_rfl) hS3 (fun _ _ => by kernel_rfl) ?_
      refine h_one 3 rfl (by kernel_rfl) (by kernel_rfl) (fun K hK => ?_)
      go_simp
      refine (hpa.out _ hS3).mono ?_
      rintro e w4 ⟨v4, rfl, ho4, hb4⟩
      obtain ⟨A4, c4, rfl, _, hr4⟩ := own_reads ho4
      have hS4 : Below w.heap.size w w4 := hS3.trans (hb4.mono hS3.size)
      refine hK _ _ hS4 ?_
      clear hK K
      refine h_less (S' := fun W => Below w4.heap.size w4 W) (fun W hb => hS4.trans (hb.mono hS4.size)) _ _ _ _ ?_
      have hQ4 : Below w4.heap.size w4 w4 := Below.refl _ _
      have HCA : Hid (∀ w', Below w4.heap.size w4 w' → (convert 22 9 (.slice A4 (blobs ta).length c4)).run Try.prog w' = .ok (.string (tx (blobs ta))) w') :=
        fun w' hb => conv_reads Try.underlying22 Try.underlying5 Try.underlying9 (hr4.below hb)
      refine h_take 4 (.string (tx (blobs ta))) rfl (by kernel_rfl) (by kernel_rfl) (by kernel_rfl) (fun _ _ _ h => h) (by kernel_rfl) hQ4 (by intro w' hb; have hcv := HCA.out w' hb; go_simp) ?_
      refine h_one 6 rfl (by kernel_rfl) (by kernel_rfl) (fun K hK => ?_)
      go_simp
      refine (hpb.out _ hS4).mono ?_
      rintro e w5 ⟨v5, rfl, ho5, hb5⟩
      obtain ⟨A5, c5, rfl, _, hr5⟩ := own_reads ho5
      refine hK _ _ hb5 ?_
      clear hK K
      have hS5 : Below w.heap.size w w5 := hS4.trans (hb5.mono hS4.size)
      refine h_less (S' := fun W => Below w5.heap.size w5 W) (fun W hb => hb5.trans (hb.mono hb5.size)) _ _ _ _ ?_
      have hQ5 : Below w5.heap.size w5 w5 := Below.refl _ _
      have HCB : Hid (∀ w', Below w5.heap.size w5 w' → (convert 22 9 (.slice A5 (blobs tb).length c5)).run Try.prog w' = .ok (.string (tx (blobs tb))) w') :=
        fun w' hb => conv_reads Try.underlying22 Try.underlying5 Try.underlying9 (hr5.below hb)
      have htl := tx_toList
      refine h_take 7 (.string (tx (blobs tb))) rfl (by kernel_rfl) (by kernel_rfl) (by kernel_rfl) (fun _ _ _ h => h) (by kernel_rfl) hQ5 (by intro w' hb; have hcv := HCB.out w' hb; go_simp) ?_
      refine h_take 8 (.bool (blobs ta == blobs tb)) rfl (by kernel_rfl) (by kernel_rfl) (by kernel_rfl) (fun _ _ _ h => h) (by kernel_rfl) hQ5 (by intro w' hb; go_simp) ?_
      refine h_take 10 (.bool true) rfl (by kernel_rfl) (by kernel_rfl) (by kernel_rfl) (fun _ _ _ h => h) (by kernel_rfl) hQ5 (by intro w' hb; have hs := HSAME.out; go_simp) ?_
      refine h_take 11 (.bool true) rfl (by kernel_rfl) (by kernel_rfl) (by kernel_rfl) (fun _ _ _ h => h) (by kernel_rfl) hQ5 (fun _ _ => by kernel_rfl) ?_
      refine h_take 12 (.bool true) rfl (by kernel_rfl) (by kernel_rfl) (by kernel_rfl) (fun _ _ _ h => h) (by kernel_rfl) hQ5 (fun _ _ => by kernel_rfl) ?_
      refine wpAnyH_done (by kernel_rfl) ?_ _
      go_simp
      go_wp2
      go_ret
      exact ⟨rfl, hS5⟩

theorem one_any (A L : Option Addr) (n c m d : Nat) (ta tb : List (List UInt8)) (w : World) (hra : Reads w w.heap.size 1 A n (ta.map sv)) (hrb : Reads w w.heap.size 1 L m (tb.map sv)) :
    Calls Try.prog 6 #[.slice A n c, .slice L m d] w fun e w' => e = .returned (.bool true) ∧ Below w.heap.size w w' := by
  by_cases h : 30 < n ∨ 30 < m
  · exact one_long A L n c m d h w
  · exact one_short A L n c m d ta tb (by omega) (by omega) w hra hrb

end Go.Proofs.Ytffmbeggigohcaa
