/- Layer 13: how great acts are; the same names. -/
import Derived.Test.YtfgonihpakcbbaaOv
namespace Go.Proofs.Ytfgonihpakcbbaa
open Go.RowKit

/-- It answers a bool; if it is false, this holds. -/
def TellsNo (P : Prop) (e : Ending) : Prop := ∃ q : Bool, e = .returned (.bool q) ∧ (q = false → P)
theorem TellsNo.yes (P : Prop) : TellsNo P (.returned (.bool true)) := ⟨true, rfl, fun h => by cases h⟩
theorem TellsNo.no {P : Prop} (h : P) : TellsNo P (.returned (.bool false)) := ⟨false, rfl, fun _ => h⟩
theorem tx_szv (s : List UInt8) : (tx s).size = s.length := by simp [tx, ByteArray.size]
/-- Acts that are not too great. -/
def VSm (xs : List Aw) : Prop := xs.length ≤ 80 ∧ ∀ x ∈ xs, ASm x.a

set_option maxRecDepth 100000 in
set_option maxHeartbeats 1000000 in
theorem vgreat_any (A : Option Addr) (n c0 : Nat) (xs : List Aw) (hnc : n ≤ maxLen) (w : World) (h : Acts w w.heap.size A n xs) :
    Calls Try.prog 5 #[.slice A n c0] w fun e w' => TellsNo (VSm xs) e ∧ Below w.heap.size w w' := by
  have HX := Lib.hid h
  have HL := Lib.hid h.len
  unfold maxLen at hnc
  clear h
  go_enter Try.func5, Try.ntmps5
  by_cases hbig : n ≤ 80
  · have dn : decide ((n : Int) > 80) = false := decide_eq_false (by omega)
    go_wp2
    go_loopw [10] (fun idx wr => ∃ i : Nat, i ≤ n ∧ idx = .int .i64 (i : Int) ∧ (∀ x ∈ xs.take i, ASm x.a) ∧ Below w.heap.size w wr) (fun idx _ => n - (intOf idx).toNat)
    case atStart => exact ⟨0, by omega, rfl, by simp, Below.refl _ _⟩
    case round =>
      obtain ⟨i, hi, rfl, hsm, hb⟩ := hrel
      have HSM := Lib.hid hsm
      have HB := Lib.hid hb
      by_cases hlt : i < n
      · obtain ⟨x, hx⟩ : ∃ x, xs[i]? = some x := ⟨_, List.getElem?_eq_getElem (by rw [HL.out]; exact hlt)⟩
        obtain ⟨ad, rfl, hab, e0, e1, e2, e3, e4, e5⟩ := acts_cells (HX.out.below hb).1 i x hx
        have hin := HX.out.2 x (List.mem_of_getElem? hx)
        have HYES : Hid (ASm x.a → ∀ y ∈ xs.take (i + 1), ASm y.a) := fun hle y hy => by
          rw [List.take_add_one, hx, List.mem_append] at hy
          rcases hy with hy | hy
          · exact HSM.out y hy
          · simp at hy; subst hy; exact hle
        have b1 := hin.blen
        have b2 := hin.klen
        have m1 := hin.hname
        have m2 := hin.hto
        have m3 := hin.hkc
        have m4 := hin.hcm
        have m5 := hin.hknc
        have m6 := hin.hkcm
        obtain ⟨⟨kd, nm, to, body, z, keep⟩, xA, k, c, xK, kn, kc⟩ := x
        simp only at e0 e1 e2 e3 e4 e5 b1 b2 m1 m2 m3 m4 m5 m6 HYES
        have hs1 := tx_szv nm
        have hs2 := tx_szv to
        obtain ⟨ln, hln⟩ : ∃ ln, ln = nm.length := ⟨_, rfl⟩
        obtain ⟨lt, hlt2⟩ : ∃ lt, lt = to.length := ⟨_, rfl⟩
        rw [← hln] at hs1 m1
        rw [← hlt2] at hs2 m2
        unfold maxLen at m1 m2 m4 m6
        have HASM : Hid (k ≤ 300 → ln ≤ 100 → lt ≤ 100 → kn ≤ 40 → ASm ⟨kd, nm, to, body, z, keep⟩) := fun q1 q2 q3 q4 => ⟨by show body.length ≤ 300; omega, by show nm.length ≤ 100; omega, by show to.length ≤ 100; omega, by show keep.length ≤ 40; omega⟩
        have hnew := one_new wr (.cells #[.int .i64 kd, .string (tx nm), .string (tx to), .slice xA k c, .int .i64 z, .slice xK kn kc] 30)
        have q0 := at_cell (i := 0) hnew rfl
        have q1 := at_cell (i := 1) hnew rfl
        have q2 := at_cell (i := 2) hnew rfl
        have q3 := at_cell (i := 3) hnew rfl
        have q4 := at_cell (i := 4) hnew rfl
        have q5 := at_cell (i := 5) hnew rfl
        have HB2 := Lib.hid (hb.alloc hb.size (.cells #[.int .i64 kd, .string (tx nm), .string (tx to), .slice xA k c, .int .i64 z, .slice xK kn kc] 30))
        have hi0 : (0 : Int) ≤ (i : Int) := by omega
        have hi1 : (i : Int) < (n : Int) := by omega
        clear hsm hb hx hin b1 b2 hln hlt2 hnew
        by_cases c1 : k ≤ 300
        · by_cases c2 : ln ≤ 100
          · by_cases c3 : lt ≤ 100
            · by_cases c4 : kn ≤ 40
              · have HY := Lib.hid (HYES.out (HASM.out c1 c2 c3 c4))
                have d1 : decide ((k : Int) > 300) = false := decide_eq_false (by omega)
                have d2 : decide ((ln : Int) > 100) = false := decide_eq_false (by omega)
                have d3 : decide ((lt : Int) > 100) = false := decide_eq_false (by omega)
                have d4 : decide ((kn : Int) > 40) = false := decide_eq_false (by omega)
                go_wp2
                exact ⟨⟨i + 1, by omega, by go_num, HY.out, HB2.out⟩, by simp [intOf]; omega⟩
              · skip
                have d1 : decide ((k : Int) > 300) = false := decide_eq_false (by omega)
                have d2 : decide ((ln : Int) > 100) = false := decide_eq_false (by omega)
                have d3 : decide ((lt : Int) > 100) = false := decide_eq_false (by omega)
                have d4 : decide ((kn : Int) > 40) = true := decide_eq_true (by omega)
                go_wp2
                go_ret
                exact ⟨TellsNo.yes _, HB2.out⟩
            · skip
              have d1 : decide ((k : Int) > 300) = false := decide_eq_false (by omega)
              have d2 : decide ((ln : Int) > 100) = false := decide_eq_false (by omega)
              have d3 : decide ((lt : Int) > 100) = true := decide_eq_true (by omega)
              go_wp2
              go_ret
              exact ⟨TellsNo.yes _, HB2.out⟩
          · skip
            have d1 : decide ((k : Int) > 300) = false := decide_eq_false (by omega)
            have d2 : decide ((ln : Int) > 100) = true := decide_eq_true (by omega)
            go_wp2
            go_ret
            exact ⟨TellsNo.yes _, HB2.out⟩
        · skip
          have d1 : decide ((k : Int) > 300) = true := decide_eq_true (by omega)
          go_wp2
          go_ret
          exact ⟨TellsNo.yes _, HB2.out⟩
      · obtain rfl : i = n := by omega
        rw [List.take_of_length_le (by rw [HL.out]; omega)] at HSM
        have HV : Hid (VSm xs) := ⟨by rw [HL.out]; exact hbig, HSM.out⟩
        go_wp2
        go_ret
        exact ⟨TellsNo.no HV.out, HB.out⟩
  · have dn : decide ((n : Int) > 80) = true := decide_eq_true (by omega)
    go_wp2
    go_ret
    exact ⟨TellsNo.yes _, Below.refl _ _⟩

set_option maxRecDepth 100000 in
set_option maxHeartbeats 800000 in
theorem vsame_any (A A' : Option Addr) (n c c' B B' : Nat) (xs : List (List UInt8)) (hn : n ≤ 1073741824) (w : World) (hB : B ≤ w.heap.size) (hB' : B' ≤ w.heap.size) (hr : Reads w B 1 A n (xs.map tsv)) (hr' : Reads w B' 1 A' n (xs.map tsv)) :
    Calls Try.prog 12 #[.slice A n c, .slice A' n c'] w fun e w' => e = .returned (.bool true) ∧ Below w.heap.size w w' := by
  have HR := Lib.hid hr
  have HR' := Lib.hid hr'
  clear hr hr'
  go_enter Try.func12, Try.ntmps12
  go_wp2
  go_loopw [5] (fun idx wr => ∃ i : Nat, i ≤ n ∧ idx = .int .i64 (i : Int) ∧ Below w.heap.size w wr) (fun idx _ => n - (intOf idx).toNat)
  case atStart => exact ⟨0, by omega, rfl, Below.refl _ _⟩
  case round =>
    obtain ⟨i, hi, rfl, hb⟩ := hrel
    by_cases hlt : i < n
    · obtain ⟨ad, u, rfl, _, hx, hcell⟩ := (HR.out.below (hb.mono hB)).at_ hlt
      obtain ⟨ad', u', rfl, _, hx', hcell'⟩ := (HR'.out.below (hb.mono hB')).at_ hlt
      obtain rfl : u = u' := by rw [hx] at hx'; exact Option.some.inj hx'
      obtain ⟨x, rfl⟩ : ∃ x : List UInt8, u = .string (tx x) := by
        rw [List.getElem?_map] at hx
        obtain ⟨x, _, rfl⟩ := Option.map_eq_some_iff.1 hx
        exact ⟨x, rfl⟩
      clear hx hx'
      have HB := Lib.hid hb
      clear hb
      go_wp2
      go_region
      all_goals (try go_wp2)
      all_goals exact ⟨⟨i + 1, by omega, by go_num, HB.out.drew⟩, by simp [intOf]; omega⟩
    · obtain rfl : i = n := by omega
      go_wp2
      go_ret
      exact ⟨rfl, hb⟩

end Go.Proofs.Ytfgonihpakcbbaa
