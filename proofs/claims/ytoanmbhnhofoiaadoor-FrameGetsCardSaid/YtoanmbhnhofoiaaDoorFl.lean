/- The walk of Same of tephralaw06, at the same payloads and ends. -/
import Derived.Test.YtoanmbhnhofoiaaDoorFi
namespace Go.Proofs.YtoanmbhnhofoiaaDoor
open Go.RowKit Go.Shelf

def FSRel (n : Nat) (w : World) (idx : Value) (wr : World) : Prop := ∃ i : Nat, i ≤ n ∧ idx = .int .i64 (i : Int) ∧ Below w.heap.size w wr

set_option maxRecDepth 100000 in
set_option maxHeartbeats 800000 in
theorem fsame_any (La Lx Lb Ly : Option Addr) (n ca cx cb cy n0 : Nat) (xs : List Got) (F : List (List UInt8 × Nat)) (hF : xs.map (·.2) = F) (hnF : F.length = n) (hn : n ≤ 1073741824) (w : World)
    (hm : ∀ x ∈ xs, Mine w n0 x.1 x.2.1) (ha : Reads w w.heap.size 1 La n (xs.map (·.1))) (hx : Reads w w.heap.size 1 Lx n (xs.map fun x => tn x.2)) (hb : Reads w w.heap.size 1 Lb n (F.map tp)) (hy : Reads w w.heap.size 1 Ly n (F.map tn)) :
    Calls Tryd.prog 19 #[.slice La n ca, .slice Lx n cx, .slice Lb n cb, .slice Ly n cy] w fun e w' => e = .returned (.bool true) ∧ Below w.heap.size w w' := by
  have hxn : xs.length = n := by rw [← hnF, ← hF, List.length_map]
  have HA := Lib.hid ha
  have HX := Lib.hid hx
  have HB := Lib.hid hb
  have HY := Lib.hid hy
  have HF := Lib.hid hF
  have HM := Lib.hid hm
  have HXN := Lib.hid hxn
  clear ha hx hb hy hF hnF hm hxn
  go_enter Tryd.func19, Tryd.ntmps19
  go_wp2
  go_loopw [25] (fun idx wr => FSRel n w idx wr) (fun idx _ => n - (intOf idx).toNat)
  case atStart => exact ⟨0, by omega, rfl, Below.refl _ _⟩
  case round =>
    obtain ⟨i, hi, rfl, hbw⟩ := hrel
    by_cases hlt : i < n
    · obtain ⟨ad, u, rfl, _, hu, hcell⟩ := (HA.out.below hbw).at_ hlt
      obtain ⟨ad', u', rfl, _, hu', hcell'⟩ := (HB.out.below hbw).at_ hlt
      obtain ⟨⟨v, p, nx⟩, hx⟩ : ∃ x, xs[i]? = some x := ⟨_, List.getElem?_eq_getElem (by rw [HXN.out]; exact hlt)⟩
      obtain rfl : v = u := by rw [List.getElem?_map, hx] at hu; simpa using hu
      obtain rfl : u' = .string (tx p) := by
        rw [← HF.out, List.getElem?_map, List.getElem?_map, hx] at hu'
        simpa [tp, sv] using hu'.symm
      have hmx : Mine w n0 v p := HM.out _ (List.mem_of_getElem? hx)
      obtain ⟨A3, c3, rfl, -, -, hr3⟩ := hmx.reads
      have hcv : (convert 22 9 (.slice A3 p.length c3)).run Tryd.prog wr = .ok (.string (tx p)) wr := conv_reads Tryd.underlying22 Tryd.underlying5 Tryd.underlying9 (hr3.below hbw)
      have hcv' : (convert 22 9 (.slice A3 p.length c3)).run Tryd.prog wr.drew = .ok (.string (tx p)) wr.drew := conv_reads Tryd.underlying22 Tryd.underlying5 Tryd.underlying9 (hr3.below hbw).drew
      have hself : ((tx p).toList == (tx p).toList) = true := by simp
      clear hu hu' hr3 hx hmx
      have HBW := Lib.hid hbw
      clear hbw
      go_wp2
      go_region
      all_goals (try go_wp2)
      all_goals exact ⟨⟨i + 1, by omega, by go_num, HBW.out.drew⟩, by simp [intOf]; omega⟩
    · obtain rfl : i = n := by omega
      go_wp2
      go_loopw [41] (fun idx wr => FSRel i w idx wr) (fun idx _ => i - (intOf idx).toNat)
      case atStart => exact ⟨0, by omega, rfl, hbw⟩
      case round =>
        obtain ⟨j, hj, rfl, hbw⟩ := hrel
        by_cases hlt : j < i
        · obtain ⟨ad, u, rfl, _, hu, hcell⟩ := (HX.out.below hbw).at_ hlt
          obtain ⟨ad', u', rfl, _, hu', hcell'⟩ := (HY.out.below hbw).at_ hlt
          obtain ⟨⟨v, p, nx⟩, hx⟩ : ∃ x, xs[j]? = some x := ⟨_, List.getElem?_eq_getElem (by rw [HXN.out]; exact hlt)⟩
          obtain rfl : u = .int .i64 (nx : Int) := by rw [List.getElem?_map, hx] at hu; simpa [tn] using hu.symm
          obtain rfl : u' = .int .i64 (nx : Int) := by
            rw [← HF.out, List.getElem?_map, List.getElem?_map, hx] at hu'
            simpa [tn] using hu'.symm
          clear hu hu' hx
          have HBW := Lib.hid hbw
          clear hbw
          go_wp2
          go_region
          all_goals (try go_wp2)
          all_goals exact ⟨⟨j + 1, by omega, by go_num, HBW.out.drew⟩, by simp [intOf]; omega⟩
        · obtain rfl : j = i := by omega
          go_wp2
          go_ret
          exact ⟨rfl, hbw⟩

end Go.Proofs.YtoanmbhnhofoiaaDoor
