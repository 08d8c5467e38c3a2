/- The document's place of a text. -/
import Derived.Test.YtcfmpajdhbcimaaProg
import Derived.Test.YtcfmpajdhbcimaaS
import Derived.Test.YtcfmpajdhbcimaaMw
namespace Go.Proofs.Ytcfmpajdhbcimaa
open Go.RowKit

/-- Where a text stands; -1. -/
def tplace (l : List (List UInt8)) (s : List UInt8) : Int := if s ∈ l then (l.idxOf s : Int) else -1

theorem tplace_at {l : List (List UInt8)} {s t : List UInt8} {i : Nat} (hno : s ∉ l.take i) (hs : l[i]? = some t) (e : t = s) : tplace l s = (i : Int) := by
  subst e
  have hlt : i < l.length := (List.getElem?_eq_some_iff.1 hs).1
  have h1 : l = l.take i ++ l.drop i := (List.take_append_drop i l).symm
  have h2 : l.drop i = t :: l.drop (i + 1) := by
    rw [List.drop_eq_getElem_cons hlt]
    rw [List.getElem?_eq_getElem hlt] at hs
    rw [Option.some.inj hs]
  have hin : t ∈ l := List.mem_of_getElem? hs
  unfold tplace
  rw [if_pos hin]
  have h3 : l.idxOf t = i := by
    conv => lhs; rw [h1, h2]
    rw [List.idxOf_append, if_neg hno, List.length_take, List.idxOf_cons_self]
    omega
  rw [h3]

set_option maxRecDepth 100000 in
set_option maxHeartbeats 400000 in
theorem place_any (L : Option Addr) (n c : Nat) (l : List (List UInt8)) (s : List UInt8) (hn : n ≤ 1073741824) (w : World) (hr : Reads w w.heap.size 1 L n (l.map tsv)) :
    Calls Try.prog 37 #[.slice L n c, tsv s] w fun e w' => e = .returned (.int .i64 (tplace l s)) ∧ w = w' := by
  have hml : l.length = n := by have := hr.1; simpa using this
  have HML := Lib.hid hml
  have HR := Lib.hid hr
  unfold tsv
  clear hml hr
  go_enter Try.func37, Try.ntmps37
  go_wp2
  go_loopw [5] (fun idx wr => ∃ i : Nat, i ≤ n ∧ idx = .int .i64 (i : Int) ∧ s ∉ l.take i ∧ w = wr) (fun idx wr => n - (intOf idx).toNat)
  case atStart => exact ⟨0, by omega, rfl, by simp, rfl⟩
  case round =>
    obtain ⟨i, hi, rfl, hno, rfl⟩ := hrel
    by_cases hlt : i < n
    · obtain ⟨ad, u, rfl, _, hu, hcell⟩ := HR.out.at_ hlt
      obtain ⟨t, hs⟩ : ∃ t, l[i]? = some t := ⟨_, List.getElem?_eq_getElem (by rw [HML.out]; exact hlt)⟩
      obtain rfl : u = tsv t := by rw [List.getElem?_map, hs] at hu; simpa using hu.symm
      unfold tsv at hcell
      by_cases e : t = s
      · have hp := Lib.hid (tplace_at hno hs e)
        subst e
        have hself : ((tx t).toList == (tx t).toList) = true := by simp
        clear hu hs hno
        go_wp2
        go_ret
        rw [hp.out]
        exact ⟨rfl, rfl⟩
      · have hne : ((tx t).toList == (tx s).toList) = false := by
          rw [beq_eq_false_iff_ne]
          intro e2
          exact e (by simpa [tx] using e2)
        have HNO : Hid (s ∉ l.take (i + 1)) := by
          show s ∉ _
          rw [List.take_add_one, hs]
          intro h
          rcases List.mem_append.1 h with h | h
          · exact hno h
          · exact e (show s = t by simpa using h).symm
        clear hu hs hno e
        go_wp2
        exact ⟨⟨i + 1, by omega, by go_num, HNO.out, trivial⟩, by simp [intOf]; omega⟩
    · obtain rfl : i = n := by omega
      have hp : Hid (tplace l s = -1) := by
        show tplace l s = -1
        rw [List.take_of_length_le (by rw [HML.out]; omega)] at hno
        unfold tplace
        rw [if_neg hno]
      clear hno
      go_wp2
      go_ret
      rw [hp.out]
      exact ⟨rfl, rfl⟩

end Go.Proofs.Ytcfmpajdhbcimaa
